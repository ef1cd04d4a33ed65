package std_test

import (
	"math"
	"slices"
	"strings"
	"sync"
	"testing"

	"ballcock/api"
	"ballcock/auto"
	"ballcock/std"
)

// first are the automata of the first calls of all, which are made at the same time and ask for one name after the other.
var first = askAtOnce()

func askAtOnce() [12]map[string]*auto.Auto {
	var answers [12]map[string]*auto.Auto
	var all sync.WaitGroup
	for i := range answers {
		all.Go(func() {
			answers[i] = map[string]*auto.Auto{}
			for j := range names {
				name := names[(i+j)%len(names)]
				answers[i][name], _ = std.Auto(name)
			}
		})
	}
	all.Wait()
	return answers
}

// made is the automaton of a name.
func made(t *testing.T, name string) *auto.Auto {
	t.Helper()
	a, ok := std.Auto(name)
	if a == nil || !ok {
		t.Fatalf("Auto(%q): an automaton is %v, %v", name, a != nil, ok)
	}
	return a
}

func TestP10_1_AutoProto(t *testing.T) {
	for i, want := range wanted() {
		if p := made(t, names[i]).Proto(); !same(p, want) || !same(p, found(t, names[i])) {
			t.Errorf("the automaton of %s has the protocol %v; want %v", names[i], p, want)
		}
	}
}

func TestP10_1_AutoSame(t *testing.T) {
	for i, answers := range first {
		for _, name := range names {
			if a := answers[name]; a == nil || a != made(t, name) {
				t.Errorf("the automaton of %s of the first call %d is %p, and then %p", name, i, a, made(t, name))
			}
		}
	}
	for _, order := range []string{"File File", "File Socket File", "Iter File Socket Iter", "Socket Iter Iter Socket", "File x File", "Iter  Iter"} {
		for name := range strings.SplitSeq(order, " ") {
			if a, _ := std.Auto(name); a != first[0][name] {
				t.Errorf("%s: the automaton of %q is %p; want %p", order, name, a, first[0][name])
			}
		}
	}
	for _, name := range names {
		std.All()
		std.Find(name)
		if a := made(t, string([]byte(name))); a != first[0][name] {
			t.Errorf("the automaton of %q is %p; want %p", name, a, first[0][name])
		}
	}
}

func TestP10_1_AutoEachOther(t *testing.T) {
	file, socket, iter := made(t, "File"), made(t, "Socket"), made(t, "Iter")
	if file == socket || file == iter || socket == iter {
		t.Error("two protocols have one automaton")
	}
}

func TestP10_1_AutoState(t *testing.T) {
	for i, p := range wanted() {
		a := made(t, names[i])
		for j, s := range p.States {
			if at, ok := a.State(s.Name); at != j || !ok {
				t.Errorf("%s: State(%q) = %d, %v; want %d", p.Name, s.Name, at, ok, j)
			}
		}
		for _, other := range wanted() {
			for _, s := range other.States {
				if at, ok := a.State(s.Name); other.Name != p.Name && (at != 0 || ok) {
					t.Errorf("%s: State(%q) = %d, %v", p.Name, s.Name, at, ok)
				}
			}
		}
		for _, name := range []string{"", p.Name, p.Moves[0].Op, p.Moves[0].Outs[0].Name, strings.ToLower(p.States[0].Name), p.States[0].Name + " "} {
			if at, ok := a.State(name); at != 0 || ok {
				t.Errorf("%s: State(%q) = %d, %v", p.Name, name, at, ok)
			}
		}
	}
}

func TestP10_1_AutoSets(t *testing.T) {
	type sets struct {
		enabled, keeps uint32
		outcomes       string
	}
	for i, c := range []struct {
		ops    string
		finals uint32
		want   map[string]sets
	}{
		{"read write size close", 0b100, map[string]sets{
			"read": {0b001, 0, "some none"}, "write": {0b001, 0, "ok over"}, "size": {0b011, 0b011, "ok"}, "close": {0b011, 0, "ok"},
		}},
		{"connect send recv peek close", 0b1000, map[string]sets{
			"connect": {0b0001, 0, "ok fail"}, "send": {0b0010, 0, "ok lost"}, "recv": {0b0010, 0, "some none lost"},
			"peek": {0b0010, 0b0010, "some none"}, "close": {0b0111, 0, "ok"},
		}},
		{"next stop left", 0b10, map[string]sets{"next": {0b01, 0, "item done"}, "stop": {0b01, 0, "ok"}, "left": {0b01, 0b01, "ok"}}},
	} {
		a := made(t, names[i])
		if ops := strings.Join(a.Ops(), " "); ops != c.ops || a.Finals() != c.finals {
			t.Errorf("%s has the operations %s, the final states %b; want %s, %b", names[i], ops, a.Finals(), c.ops, c.finals)
		}
		for _, op := range append(words(), "", "x", names[i]) {
			if got := (sets{a.Enabled(op), a.Keeps(op), strings.Join(a.Outcomes(op), " ")}); got != c.want[op] {
				t.Errorf("%s: %q is enabled in %b, keeps %b, with %q; want %v", names[i], op, got.enabled, got.keeps, got.outcomes, c.want[op])
			}
		}
	}
}

// words are the operations and the outcomes of all protocols.
func words() []string {
	var l []string
	for _, p := range wanted() {
		for _, m := range p.Moves {
			l = append(l, m.Op)
			for _, o := range m.Outs {
				l = append(l, o.Name)
			}
		}
	}
	slices.Sort(l)
	return slices.Compact(l)
}

// outs are the outcomes of an operation in a state, as the chapter lists them.
func outs(p api.Proto, state int, op string) []api.Out {
	for _, m := range p.Moves {
		if m.From == state && m.Op == op {
			return m.Outs
		}
	}
	return nil
}

func TestP10_1_AutoOuts(t *testing.T) {
	for i, p := range wanted() {
		a := made(t, names[i])
		for _, op := range append(words(), "", "x", p.Name, p.States[0].Name) {
			for _, state := range []int{0, 1, 2, 3, 4, 5, 31, 32, 33, 64, -1, -2, math.MaxInt, math.MinInt} {
				if got, want := a.Outs(state, op), outs(p, state, op); !slices.Equal(got, want) {
					t.Errorf("%s: Outs(%d, %q) = %v; want %v", p.Name, state, op, got, want)
				}
			}
		}
	}
}

func TestP10_1_AutoStep(t *testing.T) {
	for i, p := range wanted() {
		a := made(t, names[i])
		for _, op := range append(words(), "", "x") {
			for _, outcome := range append(words(), "", "x") {
				for _, set := range []uint32{0, 1, 2, 3, 4, 5, 6, 7, 8, 9, 10, 11, 12, 13, 14, 15, 1 << 16, 1 << 31, math.MaxUint32} {
					if got, want := a.Step(set, op, outcome), step(p, set, op, outcome); got != want {
						t.Errorf("%s: Step(%b, %q, %q) = %b; want %b", p.Name, set, op, outcome, got, want)
					}
				}
			}
		}
	}
}

func step(p api.Proto, set uint32, op, outcome string) uint32 {
	var next uint32
	for state := range p.States {
		for _, o := range outs(p, state, op) {
			if set>>state&1 == 1 && o.Name == outcome {
				next |= 1 << o.To
			}
		}
	}
	return next
}
