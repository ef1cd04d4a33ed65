package auto_test

import (
	"fmt"
	"math"
	"slices"
	"strconv"
	"strings"
	"testing"

	"ballcock/api"
	"ballcock/auto"
)

// proto is a protocol with these states, where ! marks a final one, and moves: "op from outcome to outcome to".
func proto(states string, moves ...string) api.Proto {
	p := api.Proto{Name: "P"}
	for _, name := range strings.Fields(states) {
		name, final := strings.CutSuffix(name, "!")
		p.States = append(p.States, api.State{Name: name, Final: final})
	}
	for _, text := range moves {
		p.Moves = append(p.Moves, move(text))
	}
	return p
}

func move(text string) api.Move {
	words := strings.Fields(text)
	m := api.Move{Op: words[0], From: number(words[1])}
	for i := 2; i < len(words); i += 2 {
		m.Outs = append(m.Outs, api.Out{Name: words[i], To: number(words[i+1])})
	}
	return m
}

func number(s string) int {
	n, err := strconv.Atoi(s)
	if err != nil {
		panic(err)
	}
	return n
}

// file, socket and iter are the protocols of chapter 10.
func file() api.Proto {
	return proto("Open End Shut!", "read 0 some 0 none 1", "write 0 ok 0 over 1", "size 0 ok 0", "size 1 ok 1", "close 0 ok 2", "close 1 ok 2")
}

func socket() api.Proto {
	return proto("Fresh Live Dead Closed!", "connect 0 ok 1 fail 2", "send 1 ok 1 lost 2", "recv 1 some 1 none 1 lost 2",
		"peek 1 some 1 none 1", "close 0 ok 3", "close 1 ok 3", "close 2 ok 3")
}

func iter() api.Proto {
	return proto("Ready Over!", "next 0 item 0 done 1", "stop 0 ok 1", "left 0 ok 0")
}

// chain is a protocol of so many states, each of which leads to the next; the last one is final.
func chain(count int) api.Proto {
	var p api.Proto
	for i := range count {
		p.States = append(p.States, api.State{Name: "S" + strconv.Itoa(i), Final: i == count-1})
		if i < count-1 {
			p.Moves = append(p.Moves, api.Move{Op: "go", From: i, Outs: []api.Out{{Name: "ok", To: i + 1}}})
		}
	}
	return p
}

// reversed has the moves of a protocol in the opposite order.
func reversed(p api.Proto) api.Proto {
	slices.Reverse(p.Moves)
	return p
}

// made is the automaton of a valid protocol.
func made(t *testing.T, p api.Proto) *auto.Auto {
	t.Helper()
	a, err := auto.New(p)
	if a == nil || err != api.OK {
		t.Fatalf("New(%s): an automaton is %v, the error %v", short(p), a != nil, err)
	}
	return a
}

// short is the text of a protocol, or the beginning of it.
func short(p api.Proto) string {
	s := fmt.Sprint(p)
	return s[:min(len(s), 1000)]
}

func sameMove(a, b api.Move) bool {
	return a.Op == b.Op && a.From == b.From && slices.Equal(a.Outs, b.Outs)
}

// same tells whether two protocols are equal; nil and empty lists are.
func same(a, b api.Proto) bool {
	return a.Name == b.Name && slices.Equal(a.States, b.States) && slices.EqualFunc(a.Moves, b.Moves, sameMove)
}

func TestP9_2_Proto(t *testing.T) {
	for _, p := range valid() {
		if q := made(t, p).Proto(); !same(q, p) {
			t.Errorf("Proto = %v; want %v", q, p)
		}
	}
}

func TestP9_2_State(t *testing.T) {
	for _, p := range valid() {
		a := made(t, p)
		for i, s := range p.States {
			if at, ok := a.State(s.Name); at != i || !ok {
				t.Errorf("%v: State(%q) = %d, %v; want %d", p, s.Name, at, ok, i)
			}
		}
	}
	a := made(t, file())
	for _, name := range []string{"", "open", "OPEN", "Ope", "Opened", "Open ", " Open", "Shut!", "End\x00", "P", "read", "some", "ok", "0", "Öpen"} {
		if at, ok := a.State(name); at != 0 || ok {
			t.Errorf("State(%q) = %d, %v", name, at, ok)
		}
	}
}

// strange are numbers that are no states, the first ones of a protocol with so many states.
func strange(count int) []int {
	return []int{-1, count, count + 1, 16, 17, 31, 32, 63, 64, 1 << 32, math.MaxInt, math.MinInt, -2, -16, -32, -64}
}

func TestP9_2_Outs(t *testing.T) {
	for _, c := range []struct {
		p    api.Proto
		outs map[string]string // by an operation and a state
	}{
		{file(), map[string]string{"read 0": "some 0 none 1", "write 0": "ok 0 over 1", "size 0": "ok 0", "size 1": "ok 1", "close 0": "ok 2", "close 1": "ok 2"}},
		{socket(), map[string]string{"connect 0": "ok 1 fail 2", "send 1": "ok 1 lost 2", "recv 1": "some 1 none 1 lost 2", "peek 1": "some 1 none 1", "close 0": "ok 3", "close 1": "ok 3", "close 2": "ok 3"}},
		{reversed(socket()), map[string]string{"connect 0": "ok 1 fail 2", "send 1": "ok 1 lost 2", "recv 1": "some 1 none 1 lost 2", "peek 1": "some 1 none 1", "close 0": "ok 3", "close 1": "ok 3", "close 2": "ok 3"}},
		{iter(), map[string]string{"next 0": "item 0 done 1", "stop 0": "ok 1", "left 0": "ok 0"}},
		{proto("Z!"), nil},
	} {
		a := made(t, c.p)
		for _, op := range append(a.Ops(), "", "rea", "reads", "Read", "some", "ok", "Open", "P") {
			for _, state := range append([]int{0, 1, 2, 3}, strange(len(c.p.States))...) {
				key := fmt.Sprint(op, " ", state)
				want := move("op 0 " + c.outs[key]).Outs
				if outs := a.Outs(state, op); !slices.Equal(outs, want) {
					t.Errorf("%v: Outs(%d, %q) = %v; want %v", c.p, state, op, outs, want)
				}
			}
		}
	}
}

func TestP9_2_OpsAndOutcomes(t *testing.T) {
	for _, c := range []struct {
		p    api.Proto
		want []string // each operation with its outcomes
	}{
		{proto("Z!"), nil},
		{file(), []string{"read some none", "write ok over", "size ok", "close ok"}},
		{reversed(file()), []string{"close ok", "size ok", "write ok over", "read some none"}},
		{socket(), []string{"connect ok fail", "send ok lost", "recv some none lost", "peek some none", "close ok"}},
		{iter(), []string{"next item done", "stop ok", "left ok"}},
		// Neither by name nor by state, and each once though it stands in several moves.
		{proto("A B C Z!", "go 2 z 3", "end 0 y 3", "go 0 b 3 z 1", "go 1 a 3 b 2 c 0 z 1", "end 1 y 3", "and 0 z 3"), []string{"go z b a c", "end y", "and z"}},
		{proto("A B C Z!", "go 1 x 3 y 3", "go 2 y 3 x 3", "go 0 w 3 x 3 v 3 y 3"), []string{"go x y w v"}},
		// The name of an operation, a state or the protocol may be that of an outcome.
		{proto("A P!", "A 0 A 1 P 0", "P 0 P 1 A 0"), []string{"A A P", "P P A"}},
	} {
		a := made(t, c.p)
		var ops []string
		for _, line := range c.want {
			words := strings.Fields(line)
			ops = append(ops, words[0])
			if names := a.Outcomes(words[0]); !slices.Equal(names, words[1:]) {
				t.Errorf("%v: Outcomes(%q) = %q; want %q", c.p, words[0], names, words[1:])
			}
		}
		if got := a.Ops(); !slices.Equal(got, ops) {
			t.Errorf("%v: Ops = %q; want %q", c.p, got, ops)
		}
		for _, op := range []string{"", "g", "gone", "GO", "ok", "some", "z", "Open", "Z", "0"} {
			if names := a.Outcomes(op); len(names) > 0 {
				t.Errorf("%v: Outcomes(%q) = %q", c.p, op, names)
			}
		}
	}
}

func TestP9_2_OddNames(t *testing.T) {
	long := strings.Repeat("x", 1000)
	p := api.Proto{
		Name: "\xff", States: []api.State{{Name: ""}, {Name: " "}, {Name: "\x00", Final: true}, {Name: "Zustände"}, {Name: long}},
		Moves: []api.Move{
			{Op: "", From: 0, Outs: []api.Out{{Name: "", To: 1}}},
			{Op: "\n", From: 1, Outs: []api.Out{{Name: "\xff", To: 2}, {Name: "\xfe", To: 1}}},
			{Op: long, From: 3, Outs: []api.Out{{Name: long + long, To: 2}}},
			{Op: "", From: 4, Outs: []api.Out{{Name: " ", To: 2}, {Name: "", To: 4}}},
		},
	}
	a := made(t, p)
	if !same(a.Proto(), p) || !slices.Equal(a.Ops(), []string{"", "\n", long}) || !slices.Equal(a.Outcomes(""), []string{"", " "}) || !slices.Equal(a.Outcomes("\n"), []string{"\xff", "\xfe"}) {
		t.Errorf("Proto = %v, Ops = %q", a.Proto(), a.Ops())
	}
	if !slices.Equal(a.Outs(0, ""), p.Moves[0].Outs) || !slices.Equal(a.Outs(3, long), p.Moves[2].Outs) || a.Enabled("") != 0b10001 || a.Keeps("") != 0 || a.Step(0b11111, "", "") != 0b10010 || a.Step(0b11111, "\n", "\xfe") != 0b10 {
		t.Error("an odd name has no or other outcomes")
	}
	for _, name := range []string{"", " ", "\x00", "Zustände", long} {
		if _, ok := a.State(name); !ok {
			t.Errorf("State(%q) = false", name)
		}
	}
	for _, name := range []string{"\xff", "  ", "zustände", "Zusta\u0308nde", long[1:], long + "x"} {
		if at, ok := a.State(name); ok {
			t.Errorf("State(%q) = %d", name, at)
		}
	}
}
