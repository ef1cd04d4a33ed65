package auto_test

import (
	"math/rand"
	"slices"
	"testing"

	"ballcock/api"
	"ballcock/auto"
)

// The tests here hold the package against the chapter written out plainly.

// violation is what Wrong has to return.
func violation(p api.Proto) (rule, index int) {
	none := func(state int) bool { return state < 0 || state >= len(p.States) }
	if len(p.States) < 1 || len(p.States) > 16 {
		return 1, 0
	}
	for i, s := range p.States {
		for _, earlier := range p.States[:i] {
			if earlier.Name == s.Name {
				return 1, i
			}
		}
	}
	for i, m := range p.Moves {
		if none(m.From) || len(m.Outs) == 0 {
			return 2, i
		}
		for _, o := range m.Outs {
			if none(o.To) {
				return 2, i
			}
		}
	}
	for i, m := range p.Moves {
		for _, earlier := range p.Moves[:i] {
			if earlier.Op == m.Op && earlier.From == m.From {
				return 3, i
			}
		}
		for j, o := range m.Outs {
			for _, earlier := range m.Outs[:j] {
				if earlier.Name == o.Name {
					return 3, i
				}
			}
		}
	}
	for i, m := range p.Moves {
		if p.States[m.From].Final {
			return 4, i
		}
	}
	for i := range p.States {
		if !ends(p, i, map[int]bool{}) {
			return 5, i
		}
	}
	return 0, 0
}

// ends tells whether a final state can be reached from a state without the states that were visited.
func ends(p api.Proto, state int, visited map[int]bool) bool {
	if p.States[state].Final {
		return true
	}
	if visited[state] {
		return false
	}
	visited[state] = true
	for _, m := range p.Moves {
		for _, o := range m.Outs {
			if m.From == state && ends(p, o.To, visited) {
				return true
			}
		}
	}
	return false
}

// moveOf is the move of an operation from a state, nil if there is none.
func moveOf(p api.Proto, state int, op string) *api.Move {
	for i, m := range p.Moves {
		if m.From == state && m.Op == op {
			return &p.Moves[i]
		}
	}
	return nil
}

// setOf is the set of the states of a protocol for which a function holds.
func setOf(p api.Proto, holds func(state int) bool) uint32 {
	var set uint32
	for state := range p.States {
		if holds(state) {
			set += 1 << state
		}
	}
	return set
}

// stays tells whether a move leads back to its state, whatever its outcome.
func stays(m *api.Move) bool {
	for _, o := range m.Outs {
		if o.To != m.From {
			return false
		}
	}
	return true
}

// leads tells whether an outcome of an operation leads from a state of a set to a state.
func leads(p api.Proto, set uint32, op, outcome string, to int) bool {
	for from := range p.States {
		if m := moveOf(p, from, op); m != nil && set&(1<<from) != 0 && slices.Contains(m.Outs, api.Out{Name: outcome, To: to}) {
			return true
		}
	}
	return false
}

// distinct are the names of a list, each one where it stands first.
func distinct(names []string) []string {
	var l []string
	for i, name := range names {
		if slices.Index(names, name) == i {
			l = append(l, name)
		}
	}
	return l
}

// maker makes random protocols.
type maker struct{ *rand.Rand }

func (m maker) rarely() bool { return m.Intn(40) == 0 }

func (m maker) pick(l ...string) string { return l[m.Intn(len(l))] }

func (m maker) states() []api.State {
	count := 1 + m.Intn(5)
	if m.rarely() {
		count = []int{0, 15, 16, 17, 18}[m.Intn(5)]
	}
	l := states(count, false)
	m.Shuffle(count, func(i, j int) { l[i], l[j] = l[j], l[i] })
	for i := range l {
		l[i].Final = m.Intn(3) == 0
		if m.rarely() {
			l[i].Name = m.pick("", "S0", "S1", "A", "a", "S0 ")
		}
	}
	return l
}

// state is the number of a state that is not final, most of the time.
func (m maker) state(p api.Proto) int {
	if m.Intn(500) == 0 || len(p.States) == 0 {
		return strange(len(p.States))[m.Intn(16)]
	}
	i := m.Intn(len(p.States))
	for try := 0; p.States[i].Final && try < 8; try++ {
		i = m.Intn(len(p.States))
	}
	return i
}

func (m maker) outs(p api.Proto) []api.Out {
	var l []api.Out
	names := []string{"ok", "no", "x", "", "go"}
	m.Shuffle(len(names), func(i, j int) { names[i], names[j] = names[j], names[i] })
	count := 1 + m.Intn(4)
	if m.Intn(500) == 0 {
		count = 0
	}
	for i := range count {
		o := api.Out{Name: names[i], To: m.state(p)}
		if m.Intn(500) == 0 {
			o.Name = m.pick(names...)
		}
		if len(p.States) > 0 && m.Intn(2) == 0 {
			o.To = m.Intn(len(p.States))
		}
		l = append(l, o)
	}
	return l
}

func (m maker) proto() api.Proto {
	p := api.Proto{Name: m.pick("P", "", "S0"), States: m.states()}
	for range m.Intn(3 * (len(p.States) + 1)) {
		move := api.Move{Op: m.pick("go", "end", "", "ok"), From: m.state(p), Outs: m.outs(p)}
		if moveOf(p, move.From, move.Op) == nil || m.rarely() {
			p.Moves = append(p.Moves, move)
		}
	}
	return p
}

// valid is a random protocol that is valid.
func (m maker) valid() api.Proto {
	for {
		p := m.proto()
		if rule, _ := violation(p); rule == 0 {
			return p
		}
	}
}

// TestP9_1_Reference compares Wrong and New.
func TestP9_1_Reference(t *testing.T) {
	m := maker{rand.New(rand.NewSource(911))}
	var counts [6]int
	for range 30_000 {
		p := m.proto()
		rule, index := violation(p)
		checkWrong(t, p, rule, index)
		counts[rule]++
	}
	for rule, count := range counts {
		if count < 700 {
			t.Errorf("only %d protocols violate the rule %d first", count, rule)
		}
	}
}

// TestP9_1_Changed takes valid protocols and changes one place of them.
func TestP9_1_Changed(t *testing.T) {
	m := maker{rand.New(rand.NewSource(912))}
	for range 10_000 {
		p := m.valid()
		q := m.proto()
		states, moves := len(p.States), len(p.Moves)
		switch m.Intn(5) {
		case 0:
			p.States[m.Intn(states)].Final = m.Intn(2) == 0
		case 1:
			p.States[m.Intn(states)].Name = p.States[m.Intn(states)].Name
		case 2:
			p.Moves = append(p.Moves, q.Moves...)
		case 3:
			if moves > 0 {
				p.Moves = slices.Delete(p.Moves, m.Intn(moves), moves)
			}
		case 4:
			if moves > 0 {
				p.Moves[m.Intn(moves)].Outs = m.outs(q)
			}
		}
		rule, index := violation(p)
		checkWrong(t, p, rule, index)
	}
}

// Names of operations and outcomes that random protocols have, and some that they don't.
var (
	opNames  = []string{"go", "end", "", "ok", "g", "goo", "no", "S0"}
	outNames = []string{"ok", "no", "x", "", "go", "o", "end", "S0"}
)

// TestP9_2_Reference compares what tells names and outcomes.
func TestP9_2_Reference(t *testing.T) {
	m := maker{rand.New(rand.NewSource(920))}
	for range 5000 {
		p := m.valid()
		a := made(t, p)
		if !same(a.Proto(), p) {
			t.Fatalf("%v: Proto = %v", p, a.Proto())
		}
		for _, name := range []string{"S0", "S1", "S2", "S3", "S4", "S15", "S16", "", "A", "a", "S0 ", "P", "go"} {
			want := slices.IndexFunc(p.States, func(s api.State) bool { return s.Name == name })
			if at, ok := a.State(name); at != max(want, 0) || ok != (want >= 0) {
				t.Fatalf("%v: State(%q) = %d, %v", p, name, at, ok)
			}
		}
		var ops []string
		outcomes := map[string][]string{}
		for _, move := range p.Moves {
			ops = append(ops, move.Op)
			for _, o := range move.Outs {
				outcomes[move.Op] = append(outcomes[move.Op], o.Name)
			}
		}
		if got := a.Ops(); !slices.Equal(got, distinct(ops)) {
			t.Fatalf("%v: Ops = %q", p, got)
		}
		for _, op := range opNames {
			if got := a.Outcomes(op); !slices.Equal(got, distinct(outcomes[op])) {
				t.Fatalf("%v: Outcomes(%q) = %q", p, op, got)
			}
			for state := -2; state < 20; state++ {
				var want []api.Out
				if move := moveOf(p, state, op); move != nil {
					want = move.Outs
				}
				if got := a.Outs(state, op); !slices.Equal(got, want) {
					t.Fatalf("%v: Outs(%d, %q) = %v", p, state, op, got)
				}
			}
		}
	}
}

// TestP9_3_Reference compares what tells sets.
func TestP9_3_Reference(t *testing.T) {
	m := maker{rand.New(rand.NewSource(930))}
	kept, left := 0, 0
	for range 2000 {
		p := m.valid()
		a := made(t, p)
		if set, want := a.Finals(), setOf(p, func(state int) bool { return p.States[state].Final }); set != want {
			t.Fatalf("%v: Finals = %b; want %b", p, set, want)
		}
		for _, op := range opNames {
			enabled := setOf(p, func(state int) bool { return moveOf(p, state, op) != nil })
			keeps := setOf(p, func(state int) bool { return moveOf(p, state, op) != nil && stays(moveOf(p, state, op)) })
			if a.Enabled(op) != enabled || a.Keeps(op) != keeps {
				t.Fatalf("%v: %q is enabled in %b, keeps %b; want %b, %b", p, op, a.Enabled(op), a.Keeps(op), enabled, keeps)
			}
			if keeps != 0 {
				kept++
			}
			if keeps != enabled {
				left++
			}
			for _, outcome := range outNames {
				for _, set := range []uint32{0, 0xffffffff, m.Uint32(), m.Uint32() & 0xffff, m.Uint32() << len(p.States)} {
					want := setOf(p, func(to int) bool { return leads(p, set, op, outcome, to) })
					if next := a.Step(set, op, outcome); next != want {
						t.Fatalf("%v: Step(%b, %q, %q) = %b; want %b", p, set, op, outcome, next, want)
					}
				}
			}
		}
	}
	if kept < 1000 || left < 1000 {
		t.Errorf("only %d operations keep states, %d leave some", kept, left)
	}
}

// TestP9_3_Walk has one operation after the other.
func TestP9_3_Walk(t *testing.T) {
	a := made(t, file())
	set := uint32(1)
	for _, c := range []struct {
		op, outcome string
		want        uint32
	}{{"read", "some", 1}, {"size", "ok", 1}, {"write", "over", 2}, {"size", "ok", 2}, {"close", "ok", 4}, {"close", "ok", 0}} {
		if set = a.Step(set, c.op, c.outcome); set != c.want {
			t.Fatalf("after %s %s: %b; want %b", c.op, c.outcome, set, c.want)
		}
	}
	if rule, index := auto.Wrong(a.Proto()); rule != 0 || index != 0 {
		t.Errorf("Wrong of a Proto = %d, %d", rule, index)
	}
}
