package auto_test

import (
	"slices"
	"strconv"
	"testing"

	"ballcock/api"
	"ballcock/auto"
)

// states are so many states with different names, all of them final or none.
func states(count int, final bool) []api.State {
	var l []api.State
	for i := range count {
		l = append(l, api.State{Name: "S" + strconv.Itoa(i), Final: final})
	}
	return l
}

// valid are valid protocols.
func valid() []api.Proto {
	return []api.Proto{
		{States: []api.State{{Final: true}}}, // one state, whose name is empty
		proto("Z!"),
		{Name: "P", States: states(16, true)},
		{States: states(16, true), Moves: []api.Move{}},
		chain(2), chain(15), chain(16), reversed(chain(16)),
		file(), socket(), iter(), mixed(), reversed(file()), reversed(mixed()),
		proto("A Z!", "go 0 ok 1"),
		proto("Z! A", "go 1 ok 0"), // the first state is final
		proto("A Y! B Z!", "go 0 y 1", "go 2 z 3 y 1 x 2"),
		proto("A Y! Z!", "go 0 y 1"),                           // a state that no outcome leads to
		proto("A B Z!", "go 0 ok 2", "back 1 ok 0"),            // nor to B, from which one leads on
		proto("A Z!", "stay 0 ok 0", "go 0 ok 1"),              // back to the same state
		proto("A Z!", "go 0 a 0 b 0 c 0 d 0 e 1"),              // several outcomes to the same state
		proto("A Z!", "go 0 a 1 b 1 c 1"),                      // all of them
		proto("A B Z!", "a 0 ok 1", "b 1 ok 0", "b 0 ok 2"),    // a loop with one way out
		proto("A B Z!", "go 0 ok 2", "go 1 ok 2", "no 0 ok 2"), // one op from two states, two ops from one
		proto("A Z!", "a 0 A 1 Z 0", "A 0 a 1", "ok 0 ok 1", "Z 0 P 1"),
		proto("a A Z! z!", "go 0 ok 2 Ok 2 OK 2", "Go 0 ok 2", "GO 1 ok 3"), // names differ by their case
	}
}

func checkWrong(t *testing.T, p api.Proto, rule, at int) {
	t.Helper()
	if r, i := auto.Wrong(p); r != rule || i != at {
		t.Errorf("Wrong(%s) = %d, %d; want %d, %d", short(p), r, i, rule, at)
	}
	a, err := auto.New(p)
	if rule == 0 && (a == nil || err != api.OK) || rule != 0 && (a != nil || err != api.ErrArg) {
		t.Errorf("New(%s): an automaton is %v, the error %v, where Wrong has to be %d, %d", short(p), a != nil, err, rule, at)
	}
}

func TestP9_1_Valid(t *testing.T) {
	for _, p := range valid() {
		checkWrong(t, p, 0, 0)
	}
}

func TestP9_1_CountOfStates(t *testing.T) {
	for count := range 40 {
		for _, final := range []bool{true, false} {
			p := api.Proto{Name: "P", States: states(count, final)}
			switch {
			case count == 0 || count > api.MaxStates:
				checkWrong(t, p, api.ProtoStates, 0)
			case final:
				checkWrong(t, p, 0, 0)
			default:
				checkWrong(t, p, api.ProtoStuck, 0)
			}
		}
	}
	checkWrong(t, api.Proto{}, 1, 0)
	checkWrong(t, api.Proto{States: []api.State{}, Moves: []api.Move{}}, 1, 0)
	// Whatever else is wrong, also names that are there twice.
	checkWrong(t, proto("", "go 0 ok 0", "go -1"), 1, 0)
	checkWrong(t, api.Proto{States: make([]api.State, 17)}, 1, 0)
	checkWrong(t, api.Proto{States: append(states(16, true), states(1, true)...)}, 1, 0)
	checkWrong(t, api.Proto{States: slices.Repeat(states(1, true), 100_000)}, 1, 0)
}

func TestP9_1_NamesOfStates(t *testing.T) {
	checkWrong(t, proto("A! A!"), 1, 1)
	checkWrong(t, proto("A! B! B! A!"), 1, 2)
	checkWrong(t, proto("A! B! C! A! B!"), 1, 3)
	checkWrong(t, proto("A! A! A! A!"), 1, 1)
	checkWrong(t, proto("A A! Z!", "go 0 ok 2"), 1, 1) // of which one is final
	checkWrong(t, api.Proto{States: []api.State{{Name: "A", Final: true}, {Final: true}, {Final: true}}}, 1, 2)
	for later := range 16 {
		for earlier := range later {
			p := api.Proto{States: states(16, true)}
			p.States[later].Name = p.States[earlier].Name
			checkWrong(t, p, 1, later)
			// A later one is not the first.
			if later < 15 {
				p.States[15].Name = p.States[0].Name
				checkWrong(t, p, 1, later)
			}
		}
	}
}

// TestP9_1_NoState has moves from and outcomes to states that are none, in each place.
func TestP9_1_NoState(t *testing.T) {
	for _, good := range []func() api.Proto{file, socket, iter, mixed, func() api.Proto { return chain(16) }} {
		for at, m := range good().Moves {
			for _, state := range strange(len(good().States)) {
				if 0 <= state && state < len(good().States) {
					continue
				}
				p := good()
				p.Moves[at].From = state
				checkWrong(t, p, 2, at)
				for i := range m.Outs {
					p := good()
					p.Moves[at].Outs[i].To = state
					checkWrong(t, p, 2, at)
					// A later one is not the first.
					p.Moves[len(p.Moves)-1].From = state
					checkWrong(t, p, 2, at)
				}
			}
		}
	}
	checkWrong(t, proto("Z!", "go 1 ok 0"), 2, 0)
	checkWrong(t, proto("Z!", "go -1 ok 0"), 2, 0)
	checkWrong(t, proto("A Z!", "go 0 ok 1", "a 0 ok 2", "b 0 ok -1"), 2, 1)
}

func TestP9_1_NoOutcome(t *testing.T) {
	for at := range mixed().Moves {
		p := mixed()
		p.Moves[at].Outs = nil
		checkWrong(t, p, 2, at)
		p.Moves[at].Outs = []api.Out{}
		checkWrong(t, p, 2, at)
		p.Moves[len(p.Moves)-1].Outs = nil
		checkWrong(t, p, 2, at)
	}
	checkWrong(t, proto("A Z!", "a 0 ok 1", "b 0", "c 7 ok 1"), 2, 1)
	checkWrong(t, proto("A Z!", "a 0 ok 1", "b 7 ok 1", "c 0"), 2, 1)
}

func TestP9_1_SameOpAndFrom(t *testing.T) {
	checkWrong(t, proto("A Z!", "go 0 ok 1", "go 0 ok 1"), 3, 1)
	checkWrong(t, proto("A Z!", "go 0 a 1", "no 0 ok 1", "go 0 b 1"), 3, 2) // with other outcomes
	checkWrong(t, proto("A Z!", "go 0 ok 0", "end 0 ok 1", "end 0 ok 1", "go 0 ok 0"), 3, 2)
	checkWrong(t, proto("A Z!", "go 0 ok 1", "go 0 ok 1", "go 0 ok 1"), 3, 1)
	for later := range mixed().Moves {
		for earlier := range later {
			p := mixed()
			p.Moves[later].Op, p.Moves[later].From = p.Moves[earlier].Op, p.Moves[earlier].From
			checkWrong(t, p, 3, later)
		}
	}
}

func TestP9_1_SameOutcome(t *testing.T) {
	checkWrong(t, proto("A Z!", "go 0 ok 1 ok 1"), 3, 0)
	checkWrong(t, proto("A Z!", "go 0 ok 0 ok 1"), 3, 0) // to different states
	checkWrong(t, proto("A Z!", "go 0 ok 1", "a 0 x 1 y 1 z 1 x 1"), 3, 1)
	checkWrong(t, proto("A Z!", "go 0 ok 1", "a 0 x 1 y 1 z 1 y 0 x 1", "b 0 x 1 x 1"), 3, 1)
	p := proto("A Z!", "go 0 ok 1")
	p.Moves[0].Outs = []api.Out{{To: 1}, {Name: "a", To: 1}, {To: 1}}
	checkWrong(t, p, 3, 0)
	for at := range mixed().Moves {
		p := mixed()
		p.Moves[at].Outs = append(p.Moves[at].Outs, p.Moves[at].Outs[0])
		checkWrong(t, p, 3, at)
	}
	// Of the two ways to violate the rule, either may be the first.
	checkWrong(t, proto("A Z!", "go 0 ok 1", "a 0 x 1 x 1", "go 0 ok 1"), 3, 1)
	checkWrong(t, proto("A Z!", "go 0 ok 1", "go 0 ok 1", "a 0 x 1 x 1"), 3, 1)
	checkWrong(t, proto("A Z!", "go 0 ok 1", "go 0 x 1 x 1"), 3, 1)
	checkWrong(t, proto("A Z!", "go 0 x 1 x 1", "go 0 ok 1"), 3, 0)
}

func TestP9_1_FromFinal(t *testing.T) {
	checkWrong(t, proto("Z!", "go 0 ok 0"), 4, 0)
	checkWrong(t, proto("A Z!", "go 0 ok 1", "back 1 ok 0"), 4, 1)
	checkWrong(t, proto("A Y! Z!", "go 0 ok 1", "a 0 ok 0", "b 2 ok 1", "c 1 ok 0"), 4, 2)
	checkWrong(t, proto("A Z!", "a 0 ok 1", "b 1 ok 1 no 0", "c 1 ok 1"), 4, 1)
	for at, m := range mixed().Moves {
		p := mixed()
		p.States[m.From].Final = true
		first := slices.IndexFunc(p.Moves, func(other api.Move) bool { return other.From == m.From })
		if first < at {
			continue
		}
		checkWrong(t, p, 4, at)
	}
}

func TestP9_1_Stuck(t *testing.T) {
	checkWrong(t, proto("A"), 5, 0) // the example of the chapter
	checkWrong(t, proto("A Z!"), 5, 0)
	checkWrong(t, proto("Z! A"), 5, 1)
	checkWrong(t, proto("A", "go 0 ok 0"), 5, 0)
	checkWrong(t, proto("A Z!", "go 0 ok 0 no 0"), 5, 0)
	checkWrong(t, proto("A B Z!", "go 0 ok 2 no 1"), 5, 1)                            // a way to B, from which there is none
	checkWrong(t, proto("Z! A B C", "a 1 ok 2", "a 2 ok 3", "a 3 ok 1"), 5, 1)        // a loop
	checkWrong(t, proto("A B C D Z!", "a 0 ok 4", "a 1 ok 2", "a 2 ok 1"), 5, 1)      // several ones
	checkWrong(t, proto("A B C D Z!", "a 0 ok 4 no 3", "a 1 ok 4", "a 2 ok 0"), 5, 3) // the last one
	checkWrong(t, proto("A B", "a 0 ok 1", "a 1 ok 0"), 5, 0)                         // no state is final
	// A chain that is cut in one place.
	for cut := range 15 {
		for _, p := range []api.Proto{chain(16), reversed(chain(16))} {
			at := slices.IndexFunc(p.Moves, func(m api.Move) bool { return m.From == cut })
			p.Moves[at].Outs[0].To = cut
			checkWrong(t, p, 5, 0)
			// All but the states behind it have another way out.
			for i := range cut {
				p.Moves = append(p.Moves, api.Move{Op: "end", From: i, Outs: []api.Out{{Name: "ok", To: 15}}})
			}
			checkWrong(t, p, 5, cut)
		}
	}
}

// TestP9_1_SeveralRules breaks each choice of the rules.
func TestP9_1_SeveralRules(t *testing.T) {
	good := func() api.Proto {
		return proto("A B C D Z!", "a 0 ok 4", "b 1 ok 4", "c 2 ok 4", "d 3 ok 4", "e 1 ok 1")
	}
	checkWrong(t, good(), 0, 0)
	breaks := []struct {
		rule, at int
		do       func(p *api.Proto)
	}{
		{1, 3, func(p *api.Proto) { p.States[3].Name = "B" }},
		{2, 4, func(p *api.Proto) { p.Moves[4].Outs[0].To = 5 }},
		{3, 2, func(p *api.Proto) { p.Moves[2].Outs = append(p.Moves[2].Outs, api.Out{Name: "ok", To: 2}) }},
		{4, 5, func(p *api.Proto) { p.Moves = append(p.Moves, move("f 4 ok 0")) }},
		{5, 0, func(p *api.Proto) { p.Moves[0].Outs[0].To = 0 }},
	}
	for choice := 1; choice < 1<<len(breaks); choice++ {
		p, rule, at := good(), 0, 0
		for i, b := range breaks {
			if choice>>i&1 == 0 {
				continue
			}
			b.do(&p)
			if rule == 0 {
				rule, at = b.rule, b.at
			}
		}
		checkWrong(t, p, rule, at)
	}
	// Each rule in several places, the first rule in the last ones.
	checkWrong(t, proto("A B B A", "a 0", "a 0 ok 9", "a 0 x 1 x 1"), 1, 2)
	checkWrong(t, proto("A B Z!", "a 0 x 2 x 2", "a 0 ok 2", "z 2 ok 2", "b 0", "b 0 ok 9"), 2, 3)
	checkWrong(t, proto("A B Z!", "z 2 ok 2", "y 2 ok 2", "b 0 x 0 x 0", "z 2 ok 2"), 3, 2)
	checkWrong(t, proto("A B Z!", "a 0 ok 0", "y 2 ok 2", "z 2 ok 2"), 4, 1)
}

// TestP9_1_Long has protocols with very many moves and outcomes.
func TestP9_1_Long(t *testing.T) {
	const count = 100_000
	moves := proto("A B Z!")
	var outs []api.Out
	for i := range count {
		moves.Moves = append(moves.Moves, api.Move{Op: "go" + strconv.Itoa(i/2), From: i % 2, Outs: []api.Out{{Name: "ok", To: 2 - i%2*2}}})
		outs = append(outs, api.Out{Name: "ok" + strconv.Itoa(i), To: i % 2})
	}
	checkWrong(t, moves, 0, 0)
	moves.Moves[count-1].Op = "go17"
	checkWrong(t, moves, 3, count-1)
	p := api.Proto{States: states(2, false), Moves: []api.Move{{Op: "go", Outs: outs}}}
	p.States[1].Final = true
	checkWrong(t, p, 0, 0)
	a := made(t, p)
	if names := a.Outcomes("go"); len(names) != count || a.Enabled("go") != 1 || a.Step(1, "go", "ok99999") != 2 {
		t.Errorf("%d outcomes", len(names))
	}
	outs[count-1].Name = "ok0"
	checkWrong(t, p, 3, 0)
}
