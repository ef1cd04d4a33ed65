package bound_test

import (
	"slices"
	"testing"

	"ballcock/api"
	"ballcock/bound"
)

// deep is a copy of a system that shares no memory with it.
func deep(l []api.Row) []api.Row {
	l = slices.Clone(l)
	for i := range l {
		l[i].T.C = slices.Clone(l[i].T.C)
	}
	return l
}

// alike tells whether two rows have the same fields; nil and empty lists are alike.
func alike(a, b api.Row) bool {
	return a.Op == b.Op && a.T.K == b.T.K && slices.Equal(a.T.C, b.T.C)
}

// guarded is a copy of a list with spare capacity, and the memory behind it.
func guarded[T any](l []T, behind T) ([]T, []T) {
	memory := append(slices.Clone(l), behind, behind)
	return memory[:len(l)], memory
}

// guardedRows is a copy of a system with spare capacity, also of its terms,
// and a function that tells whether all of that is as it was.
func guardedRows(s []api.Row) ([]api.Row, func() bool) {
	l, memory := guarded(s, ge(77, 78))
	var parts [][]api.Rat
	for i := range l {
		var part []api.Rat
		l[i].T.C, part = guarded(l[i].T.C, whole(79))
		parts = append(parts, part)
	}
	before := deep(memory)
	return l, func() bool {
		for i, part := range parts {
			if !slices.Equal(part, append(slices.Clone(s[i].T.C), whole(79), whole(79))) {
				return false
			}
		}
		return slices.EqualFunc(memory, before, alike)
	}
}

// systems holds systems of each answer, and some whose terms share memory.
func systems() [][]api.Row {
	shared := wholes(1, 2, 3)
	l := [][]api.Row{
		{gt(0)}, {ge(-2, 1), ge(1, -1)}, {eq(-1, 1), eq(-2, 1)}, {{}}, {row(3, ints(0))}, many(401, ge(0)),
		{ge(0, 1, 0), gt(5, -1, 0, 0), eq(0, 0, 1, 0)},
		{ge(1, 1, 2, 3, 4, 5, 6, 7, 8), gt(1, -1, 0, 0, 0, 0, 0, 0, -1), eq(2, 0, 1, 0, 0, 0, 0, 0, 1)},
		{row(api.RowGe, of(whole(1), shared...)), row(api.RowGt, of(whole(2), shared...)), row(api.RowGe, of(whole(3), shared[1:]...)), row(api.RowEq, of(whole(4), shared[:2]...))},
	}
	return slices.Concat(l, solvable(), overStep1(), overStep2(), overStep4())
}

func TestP4_3_SolveMemory(t *testing.T) {
	for _, s := range systems() {
		l, same := guardedRows(s)
		at, answer := bound.Solve(l)
		if !same() {
			t.Errorf("Solve(%s) changed its argument", text(s))
		}
		// What is done to the argument later does not change the result, nor the other way round.
		kept := slices.Clone(at)
		for i := range l {
			clear(l[i].T.C)
			l[i] = ge(-9, 1)
		}
		if !slices.Equal(at, kept) {
			t.Errorf("Solve(%s): the result became %s", text(s), values(at))
		}
		for i := range at[:cap(at)] {
			at[:cap(at)][i] = r(99, 98)
		}
		check(t, deep(s), kept, answer)
	}
}

func TestP4_3_HoldsMemory(t *testing.T) {
	for _, s := range systems() {
		for _, values := range [][]api.Rat{nil, wholes(1), wholes(1, 2, 3, 4, 5, 6, 7, 8), append(wholes(1, 2, 3, 4, 5, 6, 7, 8), r(0, 0)), {r(2, 2)}} {
			l, same := guardedRows(s)
			at, memory := guarded(values, whole(79))
			before := slices.Clone(memory)
			first := bound.Holds(l, at)
			if !same() || !slices.Equal(memory, before) {
				t.Errorf("Holds(%s, %v) changed an argument", text(s), values)
			}
			if bound.Holds(l, at) != first {
				t.Errorf("Holds(%s, %v) is %v, then not", text(s), values, first)
			}
		}
	}
}

func TestP4_3_EntailsMemory(t *testing.T) {
	for _, s := range systems() {
		for _, x := range []api.Row{eq(0, 1, 0), ge(1, -1, 2), gt(1, 1), ge(0), row(3, ints(1)), row(api.RowEq, of(r(2, 2), whole(5)))} {
			l, same := guardedRows(s)
			one, sameRow := guardedRows([]api.Row{x})
			first := bound.Entails(l, one[0])
			if !same() || !sameRow() {
				t.Errorf("Entails(%s, %s) changed an argument", text(s), text(one))
			}
			entails(t, l, one[0], first)
		}
		// The row may share memory with the system.
		if len(s) > 0 {
			l, same := guardedRows(s)
			first := bound.Entails(l, l[0])
			if !same() || bound.Entails(deep(s), deep(s)[0]) != first {
				t.Errorf("Entails(%s, its first row) changed an argument", text(s))
			}
		}
	}
}
