package auto_test

import (
	"fmt"
	"math/rand"
	"slices"
	"strings"
	"testing"
	"unsafe"

	"ballcock/api"
	"ballcock/auto"
)

// copied is a copy of a protocol that shares no list with it.
func copied(p api.Proto) api.Proto {
	p.States, p.Moves = slices.Clone(p.States), slices.Clone(p.Moves)
	for i := range p.Moves {
		p.Moves[i].Outs = slices.Clone(p.Moves[i].Outs)
	}
	return p
}

// guarded is a copy of a list with spare capacity, and the memory behind it.
func guarded[T any](l []T, behind T) ([]T, []T) {
	memory := append(slices.Clone(l), behind, behind)
	return memory[:len(l)], memory
}

// guardedProto is a copy of a protocol with spare capacity, also of the lists of its moves,
// and a function that tells whether all of that is as it was.
func guardedProto(p api.Proto) (api.Proto, func() bool) {
	states, statesMemory := guarded(p.States, api.State{Name: "behind", Final: true})
	moves, movesMemory := guarded(p.Moves, api.Move{Op: "behind", From: 77, Outs: []api.Out{{Name: "behind", To: 78}}})
	guard := api.Proto{States: statesMemory, Moves: movesMemory}
	for i := range moves {
		var memory []api.Out
		moves[i].Outs, memory = guarded(moves[i].Outs, api.Out{Name: "behind", To: 79})
		guard.Moves = append(guard.Moves, api.Move{Outs: memory})
	}
	before := copied(guard)
	return api.Proto{Name: p.Name, States: states, Moves: moves}, func() bool { return same(guard, before) }
}

// fill overwrites all memory of a list, in its spare capacity too.
func fill[T any](l []T, with T) {
	for i := range l[:cap(l)] {
		l[:cap(l)][i] = with
	}
}

// overwrite changes all memory of a protocol.
func overwrite(p api.Proto) {
	for _, m := range p.Moves[:cap(p.Moves)] {
		fill(m.Outs, api.Out{Name: "over", To: 0})
	}
	fill(p.Moves, api.Move{Op: "over", From: 0, Outs: []api.Out{{Name: "over", To: 0}}})
	fill(p.States, api.State{Name: "over", Final: true})
}

// told is all that an automaton tells of its protocol, as a text.
func told(a *auto.Auto) string {
	p := a.Proto()
	var s strings.Builder
	fmt.Fprintf(&s, "%v %q %b\n", p, a.Ops(), a.Finals())
	for _, name := range []string{"A", "Open", "End", "Live", "Z", "S0", "S15", "over", "behind", ""} {
		at, ok := a.State(name)
		fmt.Fprintln(&s, name, at, ok)
	}
	for _, op := range append(a.Ops(), "over", "behind", "") {
		fmt.Fprintf(&s, "%q %q %b %b\n", op, a.Outcomes(op), a.Enabled(op), a.Keeps(op))
		for state := range 17 {
			fmt.Fprintln(&s, a.Outs(state, op))
			for _, outcome := range append(a.Outcomes(op), "over", "behind", "") {
				fmt.Fprintln(&s, a.Step(1<<state, op, outcome), a.Step(0xffffffff, op, outcome))
			}
		}
	}
	return s.String()
}

// samples are valid protocols, some of them random ones.
func samples() []api.Proto {
	m := maker{rand.New(rand.NewSource(937))}
	l := valid()
	for range 50 {
		l = append(l, m.valid())
	}
	return l
}

// broken are protocols that are not valid, for each rule.
func broken() []api.Proto {
	return []api.Proto{
		{}, proto("A! A!"), {States: states(17, true)}, proto("A Z!", "go 0 ok 1", "no 2 ok 1"), proto("A Z!", "go 0 ok 1 no 2"), proto("A Z!", "go 0"),
		proto("A Z!", "go 0 ok 1", "go 0 ok 1"), proto("A Z!", "go 0 ok 1 ok 1"), proto("A Z!", "go 0 ok 1", "go 1 ok 1"), proto("A B Z!", "go 0 ok 1 no 2"),
	}
}

func TestP9_1_Arguments(t *testing.T) {
	for _, p := range slices.Concat(samples(), broken()) {
		l, same := guardedProto(p)
		auto.Wrong(l)
		if !same() {
			t.Errorf("Wrong(%v) changed its argument", p)
		}
		auto.New(l)
		if !same() {
			t.Errorf("New(%v) changed its argument", p)
		}
	}
}

// TestP9_3_ArgumentNotKept changes all memory of a protocol after New, and an automaton's calls change none of it.
func TestP9_3_ArgumentNotKept(t *testing.T) {
	for _, p := range samples() {
		l, same := guardedProto(p)
		a := made(t, l)
		before := told(a)
		if !same() {
			t.Errorf("a call on the automaton of %v changed the argument of New", p)
		}
		overwrite(l)
		if after := told(a); after != before {
			t.Errorf("New(%v) keeps its argument: %s", p, after)
		}
	}
}

// TestP9_3_NamesNotKept lays the names of a protocol in memory that changes after New.
func TestP9_3_NamesNotKept(t *testing.T) {
	for _, p := range samples() {
		l := copied(p)
		var memory [][]byte
		eachName(&l, func(s *string) {
			if *s != "" {
				bytes := []byte(*s)
				memory = append(memory, bytes)
				*s = unsafe.String(&bytes[0], len(bytes))
			}
		})
		a := made(t, l)
		before := told(a)
		for _, bytes := range memory {
			fill(bytes, '?')
		}
		if after := told(a); after != before {
			t.Errorf("New(%v) keeps a name: %s", p, after)
		}
	}
}

// eachName hands the place of each name of a protocol to a function.
func eachName(p *api.Proto, take func(s *string)) {
	take(&p.Name)
	for i := range p.States {
		take(&p.States[i].Name)
	}
	for i := range p.Moves {
		take(&p.Moves[i].Op)
		for j := range p.Moves[i].Outs {
			take(&p.Moves[i].Outs[j].Name)
		}
	}
}

// TestP9_3_Results overwrites each result, and looks at another result of the same call and at the automaton.
func TestP9_3_Results(t *testing.T) {
	for _, p := range samples() {
		l, same := guardedProto(p)
		a := made(t, l)
		before := told(a)
		check := func(call string, first, second any, over func()) {
			t.Helper()
			kept := fmt.Sprint(first)
			if over(); fmt.Sprint(first) != kept {
				t.Errorf("two results of %s share memory, of %v", call, p)
			}
			if told(a) != before {
				t.Errorf("a result of %s is kept, of %v", call, p)
			}
			if !same() {
				t.Errorf("a result of %s shares memory with the argument of New, of %v", call, p)
			}
		}
		proto := a.Proto()
		check("Proto", a.Proto(), proto, func() { overwrite(proto) })
		ops := a.Ops()
		check("Ops", a.Ops(), ops, func() { fill(ops, "over") })
		for _, op := range a.Ops() {
			names := a.Outcomes(op)
			check("Outcomes", a.Outcomes(op), names, func() { fill(names, "over") })
			for state := range p.States {
				outs := a.Outs(state, op)
				check("Outs", a.Outs(state, op), outs, func() { fill(outs, api.Out{Name: "over", To: 0}) })
			}
		}
	}
}

// TestP9_3_ListsOfAResult overwrites one list of a protocol after the other, in its spare capacity too.
func TestP9_3_ListsOfAResult(t *testing.T) {
	// In this one the moves share their outcomes.
	outs := []api.Out{{Name: "ok", To: 2}, {Name: "no", To: 0}, {Name: "so", To: 1}}
	shared := proto("A B Z!")
	shared.Moves = []api.Move{{Op: "a", From: 0, Outs: outs}, {Op: "a", From: 1, Outs: outs[:2]}, {Op: "b", From: 0, Outs: outs[1:]}, {Op: "b", From: 1, Outs: outs}}
	for _, p := range append(samples(), shared) {
		a := made(t, p)
		q := a.Proto()
		if !same(q, p) {
			t.Errorf("Proto = %v; want %v", q, p)
		}
		for i := range q.Moves {
			fill(q.Moves[i].Outs, api.Out{Name: "over", To: -1})
			if !slices.EqualFunc(q.Moves[i+1:], p.Moves[i+1:], sameMove) {
				t.Fatalf("the move %d of a Proto shares memory with another one: %v", i, p)
			}
		}
		if !same(a.Proto(), p) {
			t.Errorf("Proto = %v, then %v", p, a.Proto())
		}
	}
}

// TestP9_1_NilAndEmpty has the same protocols with nil and with empty lists, and with and without spare capacity.
func TestP9_1_NilAndEmpty(t *testing.T) {
	for _, p := range slices.Concat(samples(), broken()) {
		guarded, _ := guardedProto(p)
		empty := copied(p)
		empty.States, empty.Moves = append([]api.State{}, p.States...), append([]api.Move{}, p.Moves...)
		for i := range empty.Moves {
			empty.Moves[i].Outs = append([]api.Out{}, p.Moves[i].Outs...)
		}
		rule, index := auto.Wrong(p)
		checkWrong(t, guarded, rule, index)
		checkWrong(t, empty, rule, index)
		if rule == 0 && (told(made(t, guarded)) != told(made(t, p)) || told(made(t, empty)) != told(made(t, p))) {
			t.Errorf("%v is another protocol with empty lists or with spare capacity", p)
		}
	}
}

// TestP9_3_SameEachTime shows whether a call, or another automaton, has an effect on what is told.
func TestP9_3_SameEachTime(t *testing.T) {
	var all []*auto.Auto
	var first []string
	for _, p := range samples() {
		a := made(t, p)
		all, first = append(all, a), append(first, told(a))
	}
	for _, p := range broken() {
		auto.New(p)
	}
	for i, a := range slices.Backward(all) {
		if again := told(a); again != first[i] {
			t.Errorf("%s, then %s", first[i], again)
		}
		if other := told(made(t, a.Proto())); other != first[i] {
			t.Errorf("%s, but of the same protocol %s", first[i], other)
		}
	}
}
