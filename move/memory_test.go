package move_test

import (
	"fmt"
	"slices"
	"testing"

	"ballcock/api"
	"ballcock/auto"
	"ballcock/move"
)

// answers is what all calls tell of an automaton, a permission, two sets and an operation.
type answers struct {
	do                               [3]uint32
	check                            int
	restKnown, partKnown             uint32
	joined, joinedShare, joinedFirst uint32
	begin, leave, leaveOpen          uint32
}

// asked asks everything. The permission is that of the rest, of the part, and the old one in turn.
func asked(a *auto.Auto, p api.Perm, s uint32, op string) answers {
	var l answers
	for i, outcome := range []string{"ok", "some", "none"} {
		l.do[i] = move.Do(a, p, s, op, outcome)
	}
	other := one(api.Share, 9)
	c := api.Contract{Name: "x", Handle: true, Proto: "File", Kind: p.Kind, Least: p.F, At: s, To: ^s, In: p.In}
	l.check = move.Check(a, p, s, op)
	l.restKnown, l.partKnown = move.Split(p, other, s)
	l.joined, l.joinedShare, l.joinedFirst = move.Join(other, other, p, s, 5), move.Join(one(api.Unique, 0), p, other, s, 5), move.Join(p, other, other, 6, s)
	l.begin, l.leave, l.leaveOpen = move.Begin(c), move.Leave(a, c), move.Leave(a, api.Contract{Kind: p.Kind})
	return l
}

// question is a call of asked.
type question struct {
	a  *auto.Auto
	p  api.Perm
	s  uint32
	op string
}

func questions(t *testing.T) []question {
	t.Helper()
	var l []question
	for _, a := range []*auto.Auto{predefined(t, "File"), predefined(t, "Socket"), predefined(t, "Iter"), widest(t), nil} {
		for _, op := range []string{"read", "close", "stay", "left", ""} {
			for _, kind := range append(slices.Clone(kinds), api.None, 5) {
				for _, in := range []uint32{0, 3, 6, all} {
					for _, s := range []uint32{0, 1, 2, 3, 7, 1 << 20} {
						l = append(l, question{a, one(kind, in), s, op})
					}
				}
			}
		}
	}
	return l
}

// TestP17_4_EarlierCalls asks again in the opposite order, twice in a row, and of a new automaton.
func TestP17_4_EarlierCalls(t *testing.T) {
	l := questions(t)
	var first []answers
	for _, q := range l {
		first = append(first, asked(q.a, q.p, q.s, q.op))
	}
	for i := len(l) - 1; i >= 0; i-- {
		q := l[i]
		if got := asked(q.a, q.p, q.s, q.op); got != first[i] {
			t.Errorf("%s, %b, %q: %v, then %v", text(q.p), q.s, q.op, first[i], got)
		}
		if q.a == nil {
			continue
		}
		if got := asked(automaton(t, q.a.Proto()), q.p, q.s, q.op); got != first[i] {
			t.Errorf("%s, %b, %q: %v, of an equal automaton %v", text(q.p), q.s, q.op, first[i], got)
		}
	}
}

// TestP17_4_Automata: an automaton that was asked is as it was.
func TestP17_4_Automata(t *testing.T) {
	describe := func(a *auto.Auto) string {
		return fmt.Sprint(a.Proto(), a.Ops(), a.Finals(), a.Enabled("close"), a.Keeps("size"), a.Step(3, "close", "ok"))
	}
	before := map[*auto.Auto]string{}
	for _, q := range questions(t) {
		if q.a == nil {
			continue
		}
		if before[q.a] == "" {
			before[q.a] = describe(q.a)
		}
		asked(q.a, q.p, q.s, q.op)
		if now := describe(q.a); now != before[q.a] {
			t.Fatalf("%s became %s", before[q.a], now)
		}
	}
}

// TestP17_4_Arguments hands in variables, whose values stay as they were, and changes them afterwards.
func TestP17_4_Arguments(t *testing.T) {
	file := predefined(t, "File")
	for _, kind := range anyKinds() {
		p, c := one(kind, 3), contracts(kind, true)[0]
		q, d := p, c
		first := asked(file, q, 3, "size")
		begin, leave := move.Begin(d), move.Leave(file, d)
		if q != p || d != c {
			t.Errorf("%s became %s, %v became %v", text(p), text(q), c, d)
		}
		q.Kind, q.In, d.Kind, d.At, d.To, d.In = 9, 9, 9, 9, 9, 9
		if asked(file, p, 3, "size") != first || move.Begin(c) != begin || move.Leave(file, c) != leave {
			t.Errorf("%s: another answer after a change of what was handed in", text(p))
		}
	}
}
