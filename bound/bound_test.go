package bound_test

import (
	"slices"
	"testing"

	"ballcock/api"
	"ballcock/bound"
	"ballcock/rat"
	"ballcock/term"
)

const (
	least = -1 << 63
	most  = 1<<63 - 1
)

func r(n, d int64) api.Rat { return api.Rat{N: n, D: d} }

// whole is the fraction n/1.
func whole(n int64) api.Rat { return r(n, 1) }

// of is the term with a constant and coefficients.
func of(k api.Rat, c ...api.Rat) api.Term { return api.Term{C: c, K: k} }

// wholes is a list of fractions that are whole numbers.
func wholes(list ...int64) []api.Rat {
	var l []api.Rat
	for _, n := range list {
		l = append(l, whole(n))
	}
	return l
}

// ints is the term of a constant and coefficients that are whole numbers.
func ints(k int64, c ...int64) api.Term { return of(whole(k), wholes(c...)...) }

func row(op int, t api.Term) api.Row { return api.Row{Op: op, T: t} }

// eq, ge and gt are rows of whole numbers.
func eq(k int64, c ...int64) api.Row { return row(api.RowEq, ints(k, c...)) }

func ge(k int64, c ...int64) api.Row { return row(api.RowGe, ints(k, c...)) }

func gt(k int64, c ...int64) api.Row { return row(api.RowGt, ints(k, c...)) }

// geOf is the RowGe row with a constant and coefficients.
func geOf(k api.Rat, c ...api.Rat) api.Row { return row(api.RowGe, of(k, c...)) }

func eqOf(k api.Rat, c ...api.Rat) api.Row { return row(api.RowEq, of(k, c...)) }

// many is a row so many times.
func many(n int, x api.Row) []api.Row { return slices.Repeat([]api.Row{x}, n) }

// join is a new list of the rows of several.
func join(l ...[]api.Row) []api.Row { return slices.Concat(l...) }

// from is a system with its variables renumbered, so that variable 0 becomes the given one.
func from(first int, l []api.Row) []api.Row {
	var moved []api.Row
	for _, x := range l {
		moved = append(moved, row(x.Op, of(x.T.K, append(slices.Repeat(wholes(0), first), x.T.C...)...)))
	}
	return moved
}

// text is a system as a text.
func text(l []api.Row) string {
	s := ""
	for _, x := range l {
		s += term.Show(x.T)
		switch x.Op {
		case api.RowEq:
			s += " = 0; "
		case api.RowGe:
			s += " >= 0; "
		case api.RowGt:
			s += " > 0; "
		default:
			s += " ?; "
		}
	}
	if len(s) > 500 {
		s = s[:500] + ".."
	}
	return s
}

// values is a list of fractions as a text.
func values(at []api.Rat) string {
	s := ""
	for _, x := range at {
		s += rat.Show(x) + " "
	}
	return s
}

// full is a list of values, and 0 for the variables beyond it.
func full(at []api.Rat) []api.Rat {
	return append(slices.Clone(at), slices.Repeat(wholes(0), 8-len(at))...)
}

// check compares what Solve returns with an answer and a witness.
func check(t *testing.T, l []api.Row, at []api.Rat, answer int) {
	t.Helper()
	if w, got := bound.Solve(l); got != answer || !slices.Equal(w, at) {
		t.Errorf("Solve(%s) = %s, %d; want %s, %d", text(l), values(w), got, values(at), answer)
	}
}

func sat(t *testing.T, l []api.Row, at ...api.Rat) {
	t.Helper()
	check(t, l, full(at), api.Sat)
}

func unsat(t *testing.T, l []api.Row) {
	t.Helper()
	check(t, l, nil, api.Unsat)
}

func over(t *testing.T, l []api.Row) {
	t.Helper()
	check(t, l, nil, api.Over)
}

// solved is a system, and the values that its witness begins with; those of the other variables are 0.
type solved struct {
	l  []api.Row
	at []api.Rat
}

// everywhere checks witnesses, with the variables at each place where they still exist.
func everywhere(t *testing.T, cases []solved) {
	t.Helper()
	for _, c := range cases {
		sat(t, c.l, c.at...)
		for first := 1; first+len(c.at) <= 8; first++ {
			sat(t, from(first, c.l), append(slices.Repeat(wholes(0), first), c.at...)...)
		}
	}
}

func TestP4_1_NoBound(t *testing.T) {
	for _, l := range [][]api.Row{
		nil, {}, {eq(0)}, {ge(0)}, {ge(3)}, {gt(3)}, {geOf(r(1, most))}, {row(api.RowGt, of(r(1, most)))},
		{ge(0, 0, 0)}, {gt(1, 0, 0, 0, 0, 0, 0, 0, 0)}, {eq(0, 0), ge(0), gt(1)}, many(400, ge(0)), many(400, eq(0, 0)),
	} {
		sat(t, l)
	}
}

func TestP4_1_OnlyLower(t *testing.T) {
	everywhere(t, []solved{
		{[]api.Row{ge(0, 1)}, wholes(1)},
		{[]api.Row{gt(0, 1)}, wholes(1)},
		{[]api.Row{ge(-3, 1)}, wholes(4)},
		{[]api.Row{gt(-3, 1)}, wholes(4)},
		{[]api.Row{ge(5, 1)}, wholes(-4)},
		{[]api.Row{gt(3, 2)}, []api.Rat{r(-1, 2)}},
		{[]api.Row{geOf(r(-1, 3), r(2, 5))}, []api.Rat{r(11, 6)}},
		// The greatest one counts, wherever it stands.
		{[]api.Row{ge(-3, 1), ge(-5, 1), ge(1, 1)}, wholes(6)},
		{[]api.Row{ge(-5, 1), ge(-3, 1)}, wholes(6)},
		{[]api.Row{ge(1, 1), gt(-3, 1), ge(-10, 2)}, wholes(6)},
		{[]api.Row{ge(7, 1), ge(6, 1), ge(8, 1)}, wholes(-5)},
		{[]api.Row{geOf(r(-1, 2), whole(1)), geOf(r(-1, 3), whole(1)), geOf(r(-2, 3), whole(1))}, []api.Rat{r(5, 3)}},
		// The values of the variables after it count.
		{[]api.Row{ge(0, 1, -1)}, wholes(1, 0)},
		{[]api.Row{gt(0, 1, -1), ge(-2, 0, 1)}, wholes(4, 3)},
		{[]api.Row{ge(0, 1, -1, -1), ge(-2, 0, 1), ge(-4, 0, 0, 1)}, wholes(9, 3, 5)},
		{[]api.Row{ge(0, 1, -1), ge(-3, 1, 0, -1), ge(-4, 0, 0, 1), ge(-7, 0, 1)}, wholes(9, 8, 5)},
		{[]api.Row{ge(0, 1, -1), ge(-3, 1, 0, -1), ge(-5, 0, 0, 1), ge(-6, 0, 1)}, wholes(10, 7, 6)},
	})
}

func TestP4_1_OnlyUpper(t *testing.T) {
	everywhere(t, []solved{
		{[]api.Row{ge(0, -1)}, wholes(-1)},
		{[]api.Row{gt(0, -1)}, wholes(-1)},
		{[]api.Row{ge(5, -1)}, wholes(4)},
		{[]api.Row{ge(-5, -1)}, wholes(-6)},
		{[]api.Row{gt(3, -2)}, []api.Rat{r(1, 2)}},
		{[]api.Row{geOf(r(1, 3), r(-2, 5))}, []api.Rat{r(-1, 6)}},
		// The least one counts, wherever it stands.
		{[]api.Row{ge(3, -1), ge(1, -1), ge(8, -1)}, wholes(0)},
		{[]api.Row{ge(8, -1), ge(3, -1), gt(1, -1)}, wholes(0)},
		{[]api.Row{ge(2, -2), ge(3, -1)}, wholes(0)},
		{[]api.Row{ge(-8, -1), ge(-7, -1), ge(-9, -1)}, wholes(-10)},
		// The values of the variables after it count.
		{[]api.Row{ge(0, -1, 1)}, wholes(-1, 0)},
		{[]api.Row{gt(0, -1, 1), ge(2, 0, -1)}, wholes(0, 1)},
		{[]api.Row{ge(0, -1, 2, 3), ge(2, 0, -1), ge(-4, 0, 0, 1)}, wholes(16, 1, 5)},
	})
}

func TestP4_1_Both(t *testing.T) {
	everywhere(t, []solved{
		{[]api.Row{gt(0, 1), ge(1, -1)}, []api.Rat{r(1, 2)}},
		{[]api.Row{gt(1, -1), gt(0, 1)}, []api.Rat{r(1, 2)}},
		{[]api.Row{ge(-3, 1), ge(8, -1)}, []api.Rat{r(11, 2)}},
		{[]api.Row{ge(3, 1), ge(-2, -1)}, []api.Rat{r(-5, 2)}},
		{[]api.Row{ge(-2, 3), ge(3, -4)}, []api.Rat{r(17, 24)}},
		// Equal bounds.
		{[]api.Row{ge(-3, 1), ge(3, -1)}, wholes(3)},
		{[]api.Row{ge(-3, 7), ge(6, -14)}, []api.Rat{r(3, 7)}},
		// The greatest and the least of several.
		{[]api.Row{ge(0, 1), ge(-2, 1), ge(10, -1), ge(-1, 1), ge(5, -1), ge(7, -1)}, []api.Rat{r(7, 2)}},
		{[]api.Row{ge(20, -2), ge(0, 1), ge(30, -1), ge(-4, 1), ge(-10, 5)}, wholes(7)},
		// The bounds depend on the variable after it, and the variable after it on their sums.
		{[]api.Row{ge(0, 1, -1), ge(5, -1, -1)}, []api.Rat{r(5, 2), r(3, 2)}},
		{[]api.Row{ge(0, 1, -1), ge(5, -1, -1), ge(1, 0, 2)}, []api.Rat{r(5, 2), whole(1)}},
		{[]api.Row{gt(0, 1, -1), ge(-2, 0, 1), ge(5, -1)}, []api.Rat{r(17, 4), r(7, 2)}},
		{[]api.Row{gt(0, 1), gt(0, 0, 1), gt(0, 0, 0, 1), gt(1, -1, -1, -1)}, []api.Rat{r(1, 8), r(1, 4), r(1, 2)}},
		{[]api.Row{gt(0, 1), gt(0, -1, 1), gt(0, 0, -1, 1), gt(1, 0, 0, -1)}, []api.Rat{r(1, 8), r(1, 4), r(1, 2)}},
		{[]api.Row{gt(0, 0, 0, 1), gt(0, 0, 1, -1), gt(0, 1, -1), gt(1, -1)}, []api.Rat{r(7, 8), r(3, 4), r(1, 2)}},
		// A variable between two that have no bounds.
		{[]api.Row{ge(-1, 0, 1), ge(2, 0, -1)}, []api.Rat{whole(0), r(3, 2), whole(0)}},
	})
}

func TestP4_1_Selected(t *testing.T) {
	everywhere(t, []solved{
		{[]api.Row{eq(-2, 1)}, wholes(2)},
		{[]api.Row{eq(3, -2)}, []api.Rat{r(3, 2)}},
		{[]api.Row{eq(-4, 1, 2)}, wholes(4, 0)},
		{[]api.Row{eq(-4, 0, 2)}, wholes(0, 2)},
		{[]api.Row{eq(-1, 1, 1), eq(0, 1, -1)}, []api.Rat{r(1, 2), r(1, 2)}},
		{[]api.Row{eq(-1, 1, 1), gt(0, 1), gt(0, 0, 1)}, []api.Rat{r(1, 2), r(1, 2)}},
		{[]api.Row{gt(0, 1), eq(-1, 1, 1), gt(0, 0, 1), eq(-2, 2, 2)}, []api.Rat{r(1, 2), r(1, 2)}},
		{[]api.Row{eq(0, 1, -1, -1), ge(-1, 0, 1), ge(-1, 0, 0, 1)}, wholes(4, 2, 2)},
		{[]api.Row{eq(-3, 1), ge(0, -1, 1)}, wholes(3, 4)},
		{[]api.Row{ge(0, 1, -1), eq(-3, 1)}, wholes(3, 2)},
		// The conditions on a selected variable bind the free ones.
		{[]api.Row{eq(0, 1, -2), ge(-5, 1)}, []api.Rat{whole(7), r(7, 2)}},
		{[]api.Row{eq(0, 1, -2), ge(-5, -1)}, []api.Rat{whole(-7), r(-7, 2)}},
		// Two selected variables and one that is free.
		{[]api.Row{eq(0, 1, 0, -1), eq(1, 0, 1, 1), ge(-2, 1, 1, 1)}, wholes(4, -5, 4)},
		{[]api.Row{eq(0, 1, 1), eq(0, 0, 1, 1), ge(-2, 0, 0, 1)}, wholes(3, -3, 3)},
		{[]api.Row{eq(-6, 1, 1, 1), eq(0, 1, -1), ge(0, 1, 0, -1), ge(-1, 0, 0, 1)}, []api.Rat{r(9, 4), r(9, 4), r(3, 2)}},
		// All of a part are selected, and a row that they satisfy remains.
		{[]api.Row{eq(-1, 1), eq(-2, 0, 1), eq(-3, 0, 0, 1), ge(0, 1, 1, -1), gt(1, 1, 1, -1)}, wholes(1, 2, 3)},
	})
	var all []api.Row
	for v := range 8 {
		all = append(all, from(v, []api.Row{eq(int64(-v-1), 1)})...)
	}
	sat(t, all, wholes(1, 2, 3, 4, 5, 6, 7, 8)...)
	sat(t, join(all, []api.Row{ge(-36, 1, 1, 1, 1, 1, 1, 1, 1)}), wholes(1, 2, 3, 4, 5, 6, 7, 8)...)
	unsat(t, join(all, []api.Row{gt(-36, 1, 1, 1, 1, 1, 1, 1, 1)}))
}

// TestP4_1_AllVariables: a chain through all eight variables, in both directions.
func TestP4_1_AllVariables(t *testing.T) {
	up, down := []api.Row{}, []api.Row{}
	for v := range 7 {
		up = append(up, from(v, []api.Row{ge(-1, -1, 1)})...)
		down = append(down, from(v, []api.Row{ge(-1, 1, -1)})...)
	}
	sat(t, up, wholes(-14, -12, -10, -8, -6, -4, -2, 0)...)
	sat(t, down, wholes(14, 12, 10, 8, 6, 4, 2, 0)...)
	ends := []api.Row{ge(0, 1), ge(7, 0, 0, 0, 0, 0, 0, 0, -1)}
	sat(t, join(up, ends), wholes(0, 1, 2, 3, 4, 5, 6, 7)...)
	unsat(t, join(up, ends, []api.Row{gt(0, 1)}))
	unsat(t, join(up, down))
}

func TestP4_1_Unsat(t *testing.T) {
	for _, l := range [][]api.Row{
		// Rows without variables.
		{gt(0)}, {gt(-1)}, {ge(-1)}, {geOf(r(-1, most))}, {gt(-most)}, {eq(1)}, {eq(-1)}, {eqOf(r(1, most))},
		{ge(1), gt(0, 0), gt(1)}, {ge(0, 1), gt(0)}, {gt(0), ge(0, 1)},
		// Bounds that leave nothing.
		{ge(-2, 1), ge(1, -1)}, {ge(1, -1), ge(-2, 1)}, {gt(-1, 1), ge(1, -1)}, {ge(-1, 1), gt(1, -1)}, {gt(-1, 1), gt(1, -1)},
		{ge(0, 1), ge(9, -1), ge(-3, 1), ge(8, -1), ge(2, -1)}, {geOf(r(-1, 2), whole(1)), geOf(r(1, 3), whole(-1))},
		{ge(0, 1, -1), gt(0, -1, 1)}, {ge(0, 1, -1), ge(0, 0, 1, -1), gt(0, -1, 0, 1)}, {ge(0, 1, 1), ge(0, 1, -1), ge(-1, -1)},
		{gt(0, 1), gt(0, 0, 1), ge(0, -1, -1)}, {gt(0, 1, 1), gt(0, 0, -1, 1), gt(0, -1, 0, -1)},
		// Equations.
		{eq(-1, 1), eq(-2, 1)}, {eq(-1, 1, 1), eq(-3, 2, 2)}, {eq(-1, 1), eq(-2, 1), ge(0, 1)}, {ge(0, 0, 1), eq(-1, 1, 1), eq(-2, 1, 1)},
		{eq(-1, 1), gt(-1, 1)}, {gt(1, -1), eq(-1, 1)}, {eq(-1, 1), ge(-2, 1)}, {eq(0, 1, -1), gt(0, 1, -1)}, {eq(0, 1, -1), ge(-1, 1), ge(0, 0, -1)},
		{eq(-1, 1, 1), gt(-1, 1), gt(0, 0, 1)}, {eq(0, 1, -1), eq(0, 0, 1, -1), gt(0, 1, 0, -1)}, {eq(-3, 1), eq(-4, 0, 1), ge(-8, 1, 1)},
	} {
		for first := range 6 {
			unsat(t, from(first, l))
		}
		slices.Reverse(l)
		unsat(t, l)
	}
}

// TestP4_1_Strict: a sum is strict if and only if one of its two rows is, also in later sums.
func TestP4_1_Strict(t *testing.T) {
	for ops := range 8 {
		op := func(i int) int { return api.RowGe + ops>>i&1 }
		pair := []api.Row{row(op(0), ints(-2, 1)), row(op(1), ints(2, -1))}
		ring := []api.Row{row(op(0), ints(0, 1, -1)), row(op(1), ints(0, 0, 1, -1)), row(op(2), ints(0, -1, 0, 1))}
		loose := []api.Row{row(op(0), ints(0, 1, -1)), row(op(1), ints(0, 0, 1, -1)), row(op(2), ints(1, -1, 0, 1))}
		if ops&3 == 0 {
			sat(t, pair, whole(2))
		} else {
			unsat(t, pair)
		}
		if ops == 0 {
			sat(t, ring)
		} else {
			unsat(t, ring)
		}
		// With room between the bounds, the conditions make no difference.
		sat(t, loose, r(3, 4), r(1, 2))
	}
	// Of several pairs only one sum is strict.
	unsat(t, []api.Row{ge(0, 1), ge(0, -1), gt(0, 1)})
	unsat(t, []api.Row{ge(0, 1), ge(0, -1), gt(0, -1)})
	unsat(t, []api.Row{ge(0, 1), gt(0, 1), ge(1, -1), ge(0, -1)})
	// The strict bound is not the tightest one.
	sat(t, []api.Row{gt(1, 1), ge(0, 1), ge(0, -1), gt(1, -1)})
	// Rows without the variable keep their conditions.
	sat(t, []api.Row{ge(0, 1), ge(0, 0, 1), ge(0, 0, -1)}, wholes(1)...)
	unsat(t, []api.Row{ge(0, 1), gt(0, 0, 1), ge(0, 0, -1)})
	// So do rows from which selected terms were subtracted.
	sat(t, []api.Row{eq(-1, 1), ge(-1, 1)}, wholes(1)...)
	unsat(t, []api.Row{eq(-1, 1), gt(-1, 1)})
}

// TestP4_1_VariablesInOrder: the variables are eliminated from 0 to 7 and chosen from 7 to 0.
func TestP4_1_VariablesInOrder(t *testing.T) {
	for first := range 7 {
		zeros := slices.Repeat(wholes(0), first)
		sat(t, from(first, []api.Row{ge(0, 1, -1)}), append(zeros, wholes(1, 0)...)...)
		sat(t, from(first, []api.Row{ge(0, -1, 1)}), append(zeros, wholes(-1, 0)...)...)
		sat(t, from(first, []api.Row{ge(0, 1, 1), ge(-2, 0, 1)}), append(zeros, wholes(-2, 3)...)...)
	}
	// A row is divided by the coefficient of its first variable, and then it is gone.
	over(t, []api.Row{geOf(whole(1<<62), r(1, 2), whole(1))})
	sat(t, []api.Row{geOf(whole(1<<62), whole(1), r(1, 2))}, whole(-1<<62+1))
}

// shuffled are systems with the same rows in other orders: each row at the
// start, in the order given and reversed.
func shuffled(l []api.Row) [][]api.Row {
	var all [][]api.Row
	for i := range l {
		turned := join(l[i:], l[:i])
		back := slices.Clone(turned)
		slices.Reverse(back)
		all = append(all, turned, back)
	}
	return all
}

// TestP4_1_RowsInOrder: whatever the order of the rows of step 2, the same sums
// arise, and the bounds are the same.
func TestP4_1_RowsInOrder(t *testing.T) {
	for _, l := range [][]api.Row{
		{ge(0, 1, -1), gt(5, -1, -1), ge(3, 1, 1, 1), ge(9, -1, 2, -1), gt(4, 0, 1, -1), ge(7, 0, -1, 1)},
		{gt(0, 1), gt(0, 0, 1), gt(0, 0, 0, 1), gt(1, -1, -1, -1), ge(2, 1, -1)},
		{ge(0, 1, -1), ge(0, 0, 1, -1), gt(0, -1, 0, 1), ge(3, 1), ge(3, -1)},
		{eq(0, 1, -1, -1), ge(-1, 0, 1), ge(-1, 0, 0, 1), ge(10, -1, 1, 0, 1), gt(0, 0, 0, 0, 1)},
		{ge(most, 1), ge(0, -1), ge(-1, 1), ge(1, -1)},
	} {
		at, answer := bound.Solve(l)
		for _, other := range shuffled(l) {
			check(t, other, at, answer)
		}
	}
}

func TestP4_1_Ops(t *testing.T) {
	for _, op := range []int{-1, 3, 4, 99, least, most, 1 << 32, 256, 258} {
		for _, x := range []api.Row{row(op, ints(0)), row(op, ints(1, 1)), row(op, ints(-1))} {
			for _, l := range [][]api.Row{
				{x}, {ge(0), x}, {x, ge(0)}, {eq(-1, 1), x, ge(0, 1)}, {gt(0), x}, {x, eq(1)}, {eq(1), x},
				append(many(399, ge(0, 1)), x),
			} {
				over(t, l)
			}
		}
	}
}

// invalid holds terms that are not valid, by each reason.
func invalid() []api.Term {
	l := []api.Term{{}, ints(0, 0, 0, 0, 0, 0, 0, 0, 0, 0), ints(1, 1, 1, 1, 1, 1, 1, 1, 1, 1), of(whole(0), make([]api.Rat, 8)...)}
	for _, x := range badRats() {
		l = append(l, of(x), of(x, whole(1)), of(whole(0), x), of(whole(0), whole(1), x), of(whole(1), append(slices.Repeat(wholes(0), 7), x)...))
	}
	return l
}

// badRats holds fractions that are not valid, by each reason.
func badRats() []api.Rat {
	return []api.Rat{{}, r(1, 0), r(0, 2), r(2, 2), r(2, 4), r(1, -2), r(0, -1), whole(least), r(1, least)}
}

func TestP4_1_Invalid(t *testing.T) {
	for _, bad := range invalid() {
		for op := range 3 {
			x := row(op, bad)
			for _, l := range [][]api.Row{
				{x}, {x, x}, {ge(0), x}, {x, ge(0)}, {eq(-1, 1), x}, {x, ge(0, 1), ge(0, 0, 1)},
				// Beside rows that cannot be satisfied.
				{gt(0), x}, {x, gt(0)}, {eq(1), x}, {x, eq(1)}, {eq(1, 1), eq(2, 1), x}, {ge(-2, 1), ge(1, -1), x},
				append(many(399, ge(0, 1)), x),
			} {
				over(t, l)
			}
		}
	}
}

func TestP4_1_RowsAtTheStart(t *testing.T) {
	for _, x := range []api.Row{eq(0), ge(0), gt(1), eq(-1, 1), ge(0, 1), gt(0, -1), gt(0), eq(1), {}} {
		for _, n := range []int{401, 402, 1000} {
			over(t, many(n, x))
		}
	}
	sat(t, many(400, ge(-3, 1)), whole(4))
	sat(t, many(400, eq(-3, 1)), whole(3))
	unsat(t, append(many(399, ge(-3, 1)), gt(0)))
	// All kinds of rows count, and also those that say nothing.
	for _, a := range []api.Row{eq(-4, 1), ge(0), ge(-3, 1)} {
		for _, b := range []api.Row{eq(-4, 1), gt(1), gt(-3, 1), ge(-4, 1)} {
			over(t, append(many(200, a), many(201, b)...))
			if _, answer := bound.Solve(append(many(200, a), many(200, b)...)); answer != api.Sat {
				t.Errorf("Solve of 200 times %s and 200 times %s is %d", text([]api.Row{a}), text([]api.Row{b}), answer)
			}
		}
	}
}

func TestP4_1_RowsThatArise(t *testing.T) {
	lower, upper := ge(0, 1), ge(1, -1)
	for v := range 8 {
		at := append(slices.Repeat(wholes(0), v), r(1, 2))
		sat(t, from(v, append(many(20, lower), many(20, upper)...)), at...)
		sat(t, from(v, append(many(1, lower), many(399, upper)...)), at...)
		over(t, from(v, append(many(21, lower), many(20, upper)...)))
		over(t, from(v, append(many(20, lower), many(21, upper)...)))
		over(t, from(v, append(many(200, lower), many(200, upper)...)))
		over(t, from(v, append(many(3, upper), many(134, lower)...)))
		// The rows without the variable count, also those that say nothing.
		other := []api.Row{ge(0)}
		if v < 7 {
			other = append(other, ge(0, 0, 1))
		}
		for _, x := range other {
			over(t, from(v, join(many(20, lower), many(20, upper), many(1, x))))
			over(t, from(v, join(many(390, x), many(5, lower), many(5, upper))))
			if _, answer := bound.Solve(from(v, join(many(1, x), many(19, lower), many(21, upper)))); answer != api.Sat {
				t.Errorf("400 rows that arise are %d", answer)
			}
		}
	}
	// Bounds of one kind leave no rows; equations do not count any more.
	sat(t, append(many(200, ge(-1, 1)), many(200, ge(-1, 0, -1))...), wholes(2, -2)...)
	sat(t, join(many(300, eq(-1, 0, 0, 1)), many(20, lower), many(20, upper)), r(1, 2), whole(0), whole(1))
	// Rows that a selected variable leaves without variables count.
	over(t, join([]api.Row{eq(-1, 0, 1)}, many(20, lower), many(20, upper), []api.Row{ge(0, 0, 1)}))
	// The sums of a variable are rows for the next one: 225, then 225 times 1 or 2.
	square := join(many(15, ge(0, 1, 1)), many(15, ge(1, -1)))
	sat(t, join(square, many(1, ge(0, 0, -1))), r(3, 4), r(-1, 2))
	over(t, join(square, many(2, ge(0, 0, -1))))
}

// TestP4_1_RowsBeforeUnsat: too many rows are Over, also where the system would be Unsat.
func TestP4_1_RowsBeforeUnsat(t *testing.T) {
	for _, x := range []api.Row{gt(0), ge(-1)} {
		over(t, many(401, x))
		over(t, join([]api.Row{x}, many(20, ge(0, 1)), many(20, ge(1, -1))))
		over(t, join(many(21, ge(0, 1)), many(20, ge(1, -1)), []api.Row{x}))
	}
	over(t, join(many(21, ge(-2, 1)), many(20, ge(1, -1))))
	unsat(t, join(many(20, ge(-2, 1)), many(20, ge(1, -1))))
	over(t, join(many(15, ge(0, 1, 1)), many(15, ge(-1, -1)), many(2, ge(0, 0, -1))))
	unsat(t, join(many(15, ge(0, 1, 1)), many(15, ge(-1, -1)), many(1, ge(0, 0, -1))))
	over(t, append(many(400, eq(1)), ge(0)))
	unsat(t, many(400, eq(1)))
}
