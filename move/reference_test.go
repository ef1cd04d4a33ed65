package move_test

import (
	"fmt"
	"math/rand"
	"slices"
	"testing"

	"ballcock/api"
	"ballcock/auto"
	"ballcock/move"
	"ballcock/std"
)

// The tests here hold the package against the chapter, written out with lists of states and without layer 9.

// states are the states of a set.
func states(set uint32) []int {
	var l []int
	for i := range 32 {
		if set>>i&1 == 1 {
			l = append(l, i)
		}
	}
	return l
}

// setOf is the set of a list of states.
func setOf(l []int) uint32 {
	var set uint32
	for _, i := range l {
		set |= 1 << i
	}
	return set
}

// outsOf are the outcomes of an operation in a state; false: it has no such operation.
func outsOf(p api.Proto, state int, op string) ([]api.Out, bool) {
	for _, m := range p.Moves {
		if m.From == state && m.Op == op {
			return m.Outs, true
		}
	}
	return nil, false
}

func wantDo(p api.Proto, kind int, in, s uint32, op, outcome string) uint32 {
	var next []int
	for _, state := range states(s) {
		outs, _ := outsOf(p, state, op)
		for _, o := range outs {
			if o.Name == outcome {
				next = append(next, o.To)
			}
		}
	}
	if word := word(kind); len(next) > 0 && (word == "share" || word == "pure") {
		return in
	}
	return setOf(next)
}

func wantCheck(p api.Proto, kind int, in, s uint32, op string) int {
	var leadsOut, changes bool
	for _, state := range states(s) {
		outs, ok := outsOf(p, state, op)
		if !ok {
			return 10
		}
		for _, o := range outs {
			leadsOut = leadsOut || !slices.Contains(states(in), o.To)
			changes = changes || o.To != state
		}
	}
	forbidden := true
	switch word(kind) {
	case "unique":
		forbidden = false
	case "full", "share":
		forbidden = leadsOut
	case "imm", "pure":
		forbidden = changes
	}
	if forbidden {
		return 11
	}
	return 0
}

func wantLeave(p api.Proto, c api.Contract) uint32 {
	var finals []int
	for i, s := range p.States {
		if s.Final {
			finals = append(finals, i)
		}
	}
	switch word := word(c.Kind); {
	case !c.Handle:
		return setOf(finals)
	case word == "unique" || word == "full":
		return c.To
	}
	return 0xffffffff
}

// holds holds all calls of an operation against the chapter, for a kind and two sets, and counts the diagnostics.
func holds(t *testing.T, a *auto.Auto, p api.Proto, kind int, in, s uint32, op string, outcomes []string, counts map[int]int) {
	t.Helper()
	own := one(kind, in)
	want := wantCheck(p, kind, in, s, op)
	counts[want]++
	if got := move.Check(a, own, s, op); got != want {
		t.Fatalf("%v: Check(%s, %b, %q) = %d; want %d", p, text(own), s, op, got, want)
	}
	for _, outcome := range outcomes {
		if got, want := move.Do(a, own, s, op, outcome), wantDo(p, kind, in, s, op, outcome); got != want {
			t.Fatalf("%v: Do(%s, %b, %q, %q) = %b; want %b", p, text(own), s, op, outcome, got, want)
		}
	}
	for _, handle := range []bool{true, false} {
		c := api.Contract{Handle: handle, Kind: kind, At: ^s, To: s, In: in}
		if got, want := move.Leave(a, c), wantLeave(p, c); got != want {
			t.Fatalf("%v: Leave(%v) = %b; want %b", p, c, got, want)
		}
	}
}

// enough checks that a test has come across each diagnostic often.
func enough(t *testing.T, counts map[int]int) {
	t.Helper()
	for _, want := range []int{0, 10, 11} {
		if counts[want] < 500 {
			t.Errorf("the diagnostics are %v", counts)
		}
	}
}

// TestP17_2_Predefined has each kind, each operation and each two sets of the predefined protocols, and one bit beyond.
func TestP17_2_Predefined(t *testing.T) {
	counts := map[int]int{}
	for _, p := range std.All() {
		a, outcomes := automaton(t, p), []string{"ok", "some", "none", "over", "fail", "lost", "item", "done", ""}
		for s := range uint32(2) << len(p.States) {
			for in := range uint32(2) << len(p.States) {
				for _, op := range append(a.Ops(), "", "leave") {
					for _, kind := range append(slices.Clone(kinds), api.None, 5) {
						holds(t, a, p, kind, in, s, op, outcomes, counts)
					}
				}
			}
		}
	}
	enough(t, counts)
}

// randomProto has up to 16 states, the last one final, and moves of a few operations that are enabled often and keep the state often.
func randomProto(r *rand.Rand) api.Proto {
	p := api.Proto{Name: "R"}
	count := 1 + r.Intn(16)
	for i := range count {
		p.States = append(p.States, api.State{Name: fmt.Sprint("S", i), Final: i == count-1 || r.Intn(6) == 0})
	}
	for i, s := range p.States {
		if s.Final {
			continue
		}
		p.Moves = append(p.Moves, api.Move{Op: "end", From: i, Outs: []api.Out{{Name: "ok", To: count - 1}}})
		for op := range 3 {
			if r.Intn(5) > 0 {
				p.Moves = append(p.Moves, api.Move{Op: fmt.Sprint("op", op), From: i, Outs: randomOuts(r, i, count)})
			}
		}
	}
	r.Shuffle(len(p.Moves), func(i, j int) { p.Moves[i], p.Moves[j] = p.Moves[j], p.Moves[i] })
	return p
}

func randomOuts(r *rand.Rand, from, count int) []api.Out {
	var outs []api.Out
	keeps := r.Intn(2) == 0
	for _, i := range r.Perm(4)[:1+r.Intn(4)] {
		o := api.Out{Name: fmt.Sprint("o", i), To: from}
		if !keeps {
			o.To = r.Intn(count)
		}
		outs = append(outs, o)
	}
	return outs
}

// randomSet has mostly states in which an operation is enabled, and rarely others.
func randomSet(r *rand.Rand, a *auto.Auto, op string) uint32 {
	set := r.Uint32() & a.Enabled(op)
	if r.Intn(2) == 0 {
		set &= r.Uint32()
	}
	if r.Intn(4) == 0 {
		set |= 1 << r.Intn(32)
	}
	return set
}

func TestP17_2_Random(t *testing.T) {
	r := rand.New(rand.NewSource(17))
	counts := map[int]int{}
	for range 3000 {
		p := randomProto(r)
		a := automaton(t, p)
		for _, op := range []string{"end", "op0", "op1", "op2", "op3"} {
			for _, kind := range append(slices.Clone(kinds), 5) {
				s, in := randomSet(r, a, op), r.Uint32()|r.Uint32()|r.Uint32()
				holds(t, a, p, kind, in, s, op, []string{"ok", "o0", "o1", "o2", "o3", "o4"}, counts)
			}
		}
	}
	enough(t, counts)
}

// TestP17_1_Sound: what is known contains the state of the handle behind each outcome of an operation that is allowed, if it did
// before it; for kinds that keep to their sets, what is known before it is within them.
func TestP17_1_Sound(t *testing.T) {
	r := rand.New(rand.NewSource(71))
	steps := 0
	for range 3000 {
		p := randomProto(r)
		a := automaton(t, p)
		for _, op := range a.Ops() {
			for _, kind := range kinds {
				in := r.Uint32() | r.Uint32()
				own, s := one(kind, in), randomSet(r, a, op)
				if kind != api.Unique && kind != api.Imm {
					s &= in
				}
				if move.Check(a, own, s, op) != 0 {
					continue
				}
				for _, state := range states(s) {
					outs, _ := outsOf(p, state, op)
					for _, o := range outs {
						steps++
						if next := move.Do(a, own, s, op, o.Name); next>>o.To&1 == 0 {
							t.Fatalf("%v: Do(%s, %b, %q, %q) = %b, without %d", p, text(own), s, op, o.Name, next, o.To)
						}
					}
				}
			}
		}
	}
	if steps < 10000 {
		t.Errorf("only %d steps", steps)
	}
}
