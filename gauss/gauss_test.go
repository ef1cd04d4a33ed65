package gauss_test

import (
	"slices"
	"testing"

	"ballcock/api"
	"ballcock/gauss"
	"ballcock/term"
)

const (
	least = -1 << 63
	most  = 1<<63 - 1
)

func r(n, d int64) api.Rat { return api.Rat{N: n, D: d} }

// whole is the fraction n/1.
func whole(n int64) api.Rat { return r(n, 1) }

// of is the term with a constant and coefficients.
func of(k api.Rat, c ...api.Rat) api.Term { return api.Term{C: c, K: k} }

// ints is the term of a constant and coefficients that are whole numbers.
func ints(k int64, c ...int64) api.Term {
	t := of(whole(k))
	for _, n := range c {
		t.C = append(t.C, whole(n))
	}
	return t
}

// from is the term with its variables renumbered, so that variable 0 becomes the given one.
func from(first int, t api.Term) api.Term {
	return of(t.K, append(slices.Repeat([]api.Rat{whole(0)}, first), t.C...)...)
}

// allFrom renumbers the variables of a list of terms.
func allFrom(first int, l []api.Term) []api.Term {
	var moved []api.Term
	for _, t := range l {
		moved = append(moved, from(first, t))
	}
	return moved
}

// alike tells whether two terms have the same fields; nil and empty lists are alike.
func alike(a, b api.Term) bool { return a.K == b.K && slices.Equal(a.C, b.C) }

// want holds what Solve has to return.
type want struct {
	terms  []api.Term
	pivots []int
	answer int
}

func sat(pivots []int, terms ...api.Term) want { return want{terms, pivots, api.Sat} }

// from is what has to be returned if the variables are renumbered, so that variable 0 becomes the given one.
func (w want) from(first int) want {
	moved := want{terms: allFrom(first, w.terms), answer: w.answer}
	for _, v := range w.pivots {
		moved.pivots = append(moved.pivots, v+first)
	}
	return moved
}

func unsat() want { return want{answer: api.Unsat} }

func over() want { return want{answer: api.Over} }

// text is a list of terms as a text.
func text(l []api.Term) string {
	s := ""
	for _, t := range l {
		s += term.Show(t) + "; "
	}
	return s
}

func check(t *testing.T, l []api.Term, w want) {
	t.Helper()
	terms, pivots, answer := gauss.Solve(l)
	if !slices.EqualFunc(terms, w.terms, alike) || !slices.Equal(pivots, w.pivots) || answer != w.answer {
		t.Errorf("Solve(%s) = %s%v, %d; want %s%v, %d", text(l), text(terms), pivots, answer, text(w.terms), w.pivots, w.answer)
	}
}

func TestP3_1_Sat(t *testing.T) {
	for _, c := range []struct {
		l []api.Term
		w want
	}{
		{[]api.Term{ints(0, 1)}, sat([]int{0}, ints(0, 1))},
		{[]api.Term{ints(-4, 2)}, sat([]int{0}, ints(-2, 1))},
		{[]api.Term{ints(1, -2)}, sat([]int{0}, of(r(-1, 2), whole(1)))},
		{[]api.Term{of(r(1, 2), r(2, 3), r(-1, 4))}, sat([]int{0}, of(r(3, 4), whole(1), r(-3, 8)))},
		{[]api.Term{ints(-1, 1, 1), ints(0, 1, -1)}, sat([]int{0, 1}, of(r(-1, 2), whole(1)), of(r(-1, 2), whole(0), whole(1)))},
		// Terms that say the same twice, or nothing.
		{[]api.Term{ints(-1, 1, 1), ints(-2, 2, 2), ints(3, -3, -3)}, sat([]int{0}, ints(-1, 1, 1))},
		{[]api.Term{ints(0), ints(-1, 1), ints(0)}, sat([]int{0}, ints(-1, 1))},
		// The order is that of the variables, not that of the terms.
		{[]api.Term{ints(-3, 0, 0, 1), ints(-1, 0, 2), ints(0, 1, 1, 1)}, sat([]int{0, 1, 2}, of(r(7, 2), whole(1)), of(r(-1, 2), whole(0), whole(1)), ints(-3, 0, 0, 1))},
		{[]api.Term{ints(5, 0, 0, 0, 0, 0, 0, 0, 1), ints(6, 0, 0, 0, 1), ints(7, 0, 1)}, sat([]int{1, 3, 7}, ints(7, 0, 1), ints(6, 0, 0, 0, 1), ints(5, 0, 0, 0, 0, 0, 0, 0, 1))},
		// Variables that are not selected remain in the terms.
		{[]api.Term{ints(1, 0, 2, 4, 6)}, sat([]int{1}, of(r(1, 2), whole(0), whole(1), whole(2), whole(3)))},
		{[]api.Term{ints(1, 1, 2, 3, 4), ints(2, 1, 2, 4, 6)}, sat([]int{0, 2}, ints(-2, 1, 2, 0, -2), ints(1, 0, 0, 1, 2))},
		// A selected term is subtracted from those selected before it.
		{[]api.Term{ints(0, 1, 1, 1), ints(0, 0, 1, 1), ints(-1, 0, 0, 1)}, sat([]int{0, 1, 2}, ints(0, 1), ints(1, 0, 1), ints(-1, 0, 0, 1))},
		// More terms than variables.
		{[]api.Term{ints(0, 1, 1), ints(-1, 1, 2), ints(-1, 2, 3), ints(-1, 0, 1)}, sat([]int{0, 1}, ints(1, 1), ints(-1, 0, 1))},
	} {
		check(t, c.l, c.w)
	}
}

// TestP3_1_EachVariable: a system of one variable and of a chain of all eight.
func TestP3_1_EachVariable(t *testing.T) {
	var chain, solved []api.Term
	for v := range 8 {
		check(t, []api.Term{from(v, ints(6, 3))}, sat([]int{v}, from(v, ints(2, 1))))
		link := from(v, ints(0, 1, -1))
		if v == 7 {
			link = from(v, ints(-5, 1))
		}
		chain, solved = append(chain, link), append(solved, from(v, ints(-5, 1)))
	}
	check(t, chain, sat([]int{0, 1, 2, 3, 4, 5, 6, 7}, solved...))
	slices.Reverse(chain)
	check(t, chain, sat([]int{0, 1, 2, 3, 4, 5, 6, 7}, solved...))
}

func TestP3_1_Unsat(t *testing.T) {
	for _, l := range [][]api.Term{
		{ints(2)}, {ints(-1)}, {of(r(1, most))}, {ints(-most)},
		{ints(0), ints(1)}, {ints(1), ints(0)},
		{ints(0, 1), ints(1)}, {ints(1), ints(0, 1)},
		{ints(-1, 1), ints(-2, 1)}, {ints(-1, 1, 1), ints(-3, 2, 2)},
		{ints(-1, 0, 0, 0, 0, 0, 0, 0, 1), ints(1, 0, 0, 0, 0, 0, 0, 0, 1)},
		{ints(0, 1, 1), ints(0, 1, -1), ints(-1, 1)}, {ints(-1, 1), ints(0, 1, 1), ints(0, 1, -1)},
		{ints(0, 1, 1), ints(0, 0, 1, 1), ints(-1, -1, 0, 1)},
		{of(whole(0), r(1, 3), r(1, 2)), of(r(1, most), r(2, 3), whole(1))},
		// The difference of the constants is the greatest and the least that fits.
		{ints(most, 1), ints(0, 1)}, {ints(-most, 1), ints(0, 1)}, {ints(1<<62, 1), ints(-1<<62+1, 1)},
	} {
		check(t, l, unsat())
	}
}

func TestP3_1_Empty(t *testing.T) {
	for _, l := range [][]api.Term{
		nil, {}, {ints(0)}, {ints(0), ints(0), ints(0)}, {ints(0, 0)}, {ints(0, 0, 0, 0, 0, 0, 0, 0, 0), ints(0)},
		slices.Repeat([]api.Term{ints(0, 0)}, 400),
	} {
		check(t, l, sat(nil))
	}
}

func TestP3_1_ZerosAtTheEnd(t *testing.T) {
	for _, c := range []struct {
		l []api.Term
		w want
	}{
		{[]api.Term{ints(-4, 2, 0, 0)}, sat([]int{0}, ints(-2, 1))},
		{[]api.Term{ints(-4, 1, 0, 0, 0, 0, 0, 0, 0)}, sat([]int{0}, ints(-4, 1))},
		{[]api.Term{ints(-4, 0, 1, 0)}, sat([]int{1}, ints(-4, 0, 1))},
		{[]api.Term{ints(0, 0, 0), ints(-1, 0, 1, 0)}, sat([]int{1}, ints(-1, 0, 1))},
		{[]api.Term{ints(-1, 1, 1, 0), ints(0, 1, -1, 0, 0)}, sat([]int{0, 1}, of(r(-1, 2), whole(1)), of(r(-1, 2), whole(0), whole(1)))},
		{[]api.Term{ints(1, 0, 0)}, unsat()},
		{[]api.Term{ints(-1, 1, 0), ints(-2, 1, 0, 0)}, unsat()},
		{[]api.Term{ints(0, 1, 0, 0), of(whole(0), whole(1), r(0, 2))}, over()},
	} {
		check(t, c.l, c.w)
	}
}

// brittle is a term whose constant overflows if the term is selected for variable 0, and only then.
// So the answer tells whether it was.
func brittle() api.Term { return of(r(1, 1<<62), whole(3), whole(1)) }

// TestP3_1_FirstIsSelected: of several terms with the variable, the first one
// in the order of the argument is selected.
func TestP3_1_FirstIsSelected(t *testing.T) {
	plain, left := ints(0, 1), of(r(1, 1<<62), whole(0), whole(1))
	for v := range 7 {
		both := sat([]int{v, v + 1}, from(v, plain), from(v, left))
		for _, c := range []struct {
			l []api.Term
			w want
		}{
			{[]api.Term{plain, brittle()}, both},
			{[]api.Term{brittle(), plain}, over()},
			{[]api.Term{plain, brittle(), brittle()}, both},
			{[]api.Term{plain, brittle(), plain}, both},
			{[]api.Term{brittle(), plain, plain}, over()},
			{[]api.Term{plain, plain, brittle()}, both},
			{[]api.Term{ints(0), plain, brittle()}, both},
			{[]api.Term{ints(0), brittle(), plain}, over()},
			{[]api.Term{left, plain, brittle()}, both},
			{[]api.Term{left, brittle(), plain}, over()},
		} {
			check(t, allFrom(v, c.l), c.w)
		}
	}
}

// TestP3_1_FirstOfTheRest: a term that was selected is not selected again, and
// the order of the others does not change by the selection.
func TestP3_1_FirstOfTheRest(t *testing.T) {
	head, plain, other := ints(0, 1, 1), ints(0, 0, 1), from(1, brittle())
	all := sat([]int{0, 1, 2}, ints(0, 1), plain, of(r(1, 1<<62), whole(0), whole(0), whole(1)))
	for _, c := range []struct {
		l []api.Term
		w want
	}{
		{[]api.Term{head, plain, other}, all},
		{[]api.Term{plain, head, other}, all},
		{[]api.Term{plain, other, head}, all},
		{[]api.Term{head, other, plain}, over()},
		{[]api.Term{other, head, plain}, over()},
		{[]api.Term{other, plain, head}, over()},
		{[]api.Term{ints(0), plain, other, head, plain}, all},
		{[]api.Term{other, plain, plain, head, plain}, over()},
	} {
		check(t, c.l, c.w)
	}
}

func TestP3_1_JustFits(t *testing.T) {
	zero, one := whole(0), whole(1)
	for _, c := range []struct {
		l []api.Term
		w want
	}{
		// Quotients.
		{[]api.Term{of(r(1, 1<<31), whole(1<<31))}, sat([]int{0}, of(r(1, 1<<62), one))},
		{[]api.Term{of(whole(1<<62-1), r(1, 2))}, sat([]int{0}, ints(most-1, 1))},
		{[]api.Term{of(whole(1), r(-1, most))}, sat([]int{0}, ints(-most, 1))},
		{[]api.Term{ints(1, most)}, sat([]int{0}, of(r(1, most), one))},
		{[]api.Term{ints(most, most)}, sat([]int{0}, ints(1, 1))},
		{[]api.Term{ints(most, -1, -most)}, sat([]int{0}, ints(-most, 1, most))},
		{[]api.Term{of(zero, r(-1, 2), whole(1<<62-1))}, sat([]int{0}, ints(0, 1, -most+1))},
		{[]api.Term{of(r(1, most), r(1, most))}, sat([]int{0}, ints(1, 1))},
		// Products.
		{[]api.Term{ints(0, 1, 1<<62-1), ints(0, 2)}, sat([]int{0, 1}, ints(0, 1), ints(0, 0, 1))},
		{[]api.Term{ints(1<<62-1, 1), ints(-1, 2, 1)}, sat([]int{0, 1}, ints(1<<62-1, 1), ints(-most, 0, 1))},
		{[]api.Term{of(r(1, 1<<61), one), of(zero, r(1, 2), one)}, sat([]int{0, 1}, of(r(1, 1<<61), one), of(r(-1, 1<<62), zero, one))},
		// Differences.
		{[]api.Term{ints(most-1, 1), ints(-1, 1, 1)}, sat([]int{0, 1}, ints(most-1, 1), ints(-most, 0, 1))},
		{[]api.Term{ints(-1, 1), ints(most-1, 1, 1)}, sat([]int{0, 1}, ints(-1, 1), ints(most, 0, 1))},
		// Those of terms that were selected before.
		{[]api.Term{ints(0, 1, 1<<62), ints(-1, 0, 1)}, sat([]int{0, 1}, ints(1<<62, 1), ints(-1, 0, 1))},
		{[]api.Term{ints(most, 1, 1), ints(1, 0, 1)}, sat([]int{0, 1}, ints(most-1, 1), ints(1, 0, 1))},
		{[]api.Term{ints(1, 0, 1), ints(-most+1, 1, 1)}, sat([]int{0, 1}, ints(-most, 1), ints(1, 0, 1))},
	} {
		check(t, c.l, c.w)
		check(t, allFrom(6, c.l), c.w.from(6))
	}
}

// overflowing holds systems of two variables in which a fraction overflows.
func overflowing() [][]api.Term {
	zero, one := whole(0), whole(1)
	return [][]api.Term{
		// Quotients: too great, the least int64, a denominator.
		{of(whole(1<<62), r(1, 2))},
		{of(whole(1<<62), r(-1, 2))},
		{of(whole(2), r(1, most))},
		{of(r(1, 1<<31), whole(1<<32))},
		{of(r(1, most), whole(2))},
		{of(zero, r(1, 2), whole(1<<62))},
		{of(zero, r(1, 2), whole(-1<<62))},
		{of(zero, whole(5), r(1, 1<<62))},
		{ints(0), of(r(1, 1<<62), zero, whole(5))},
		{ints(0, 1), of(whole(1<<62), zero, r(1, 2))},
		// Products, also where the difference would fit.
		{ints(0, 1, 1<<62), ints(0, 2)},
		{ints(0, 1, 1<<62), ints(0, 2, 1<<62)},
		{ints(0, 1, 1<<62), ints(0, -2, -1<<62)},
		{ints(1<<62, 1), ints(1<<62, 2)},
		{ints(-1<<62, 1), ints(-1, 2)},
		{of(r(1, 1<<62), one), of(zero, r(1, 2))},
		// Differences.
		{ints(most, 1), ints(-1, 1, 1)},
		{ints(-1, 1), ints(most, 1, 1)},
		{ints(0, 1, most), ints(0, 1, -1)},
		{ints(0, 1, -most), ints(0, 1, 1)},
		{of(r(1, most), one), of(r(1, most-1), one)},
		// Those of terms that were selected before.
		{ints(0, 1, 1<<62), ints(-2, 0, 1)},
		{ints(0, 1, 1<<62), ints(2, 0, 1)},
		{ints(most, 1, 1), ints(-1, 0, 1)},
		{ints(-1, 0, 1), ints(most, 1, 1)},
		{of(r(1, most), one, one), of(r(1, most-1), zero, one)},
	}
}

func TestP3_1_Over(t *testing.T) {
	for _, l := range overflowing() {
		for first := range 7 {
			check(t, allFrom(first, l), over())
		}
		// Beside terms that say nothing, and at the end of many terms.
		check(t, append([]api.Term{ints(0)}, append(l, ints(0, 0))...), over())
		check(t, append(slices.Repeat([]api.Term{ints(0)}, 398), l...), over())
		if len(l) == 2 {
			check(t, slices.Insert(l, 1, slices.Repeat([]api.Term{ints(0)}, 398)...), over())
		}
	}
}

// TestP3_1_OverBeforeUnsat: a system without solutions in which a fraction
// overflows is Over, whichever of the two is found first.
func TestP3_1_OverBeforeUnsat(t *testing.T) {
	for _, l := range overflowing() {
		check(t, append([]api.Term{ints(2)}, l...), over())
		check(t, append(slices.Clone(l), ints(2)), over())
		// The system without solutions is one of other variables, solved before or after the fraction overflows.
		for _, p := range [][]api.Term{{ints(1, 1), ints(2, 1)}, {from(7, ints(1, 1)), from(7, ints(2, 1))}} {
			check(t, append(slices.Clone(p), allFrom(3, l)...), over())
			check(t, append(allFrom(3, l), p...), over())
		}
	}
	// What overflows is the constant that would tell that there are no solutions.
	check(t, []api.Term{ints(most, 1), ints(-1, 1)}, over())
	check(t, []api.Term{ints(-most, 1), ints(1, 1)}, over())
	check(t, []api.Term{ints(1<<62, 1), ints(1, 2)}, over())
	check(t, []api.Term{of(r(1, most), whole(1)), of(r(1, most-1), whole(1))}, over())
}

// invalid holds terms that are not valid, by each reason.
func invalid() []api.Term {
	l := []api.Term{{}, ints(0, 0, 0, 0, 0, 0, 0, 0, 0, 0), ints(1, 1, 1, 1, 1, 1, 1, 1, 1, 1), of(whole(0), make([]api.Rat, 8)...)}
	for _, x := range []api.Rat{{}, r(1, 0), r(0, 2), r(2, 2), r(2, 4), r(1, -2), r(0, -1), whole(least), r(1, least)} {
		l = append(l, of(x), of(x, whole(1)), of(whole(0), x), of(whole(0), whole(1), x), from(7, of(whole(0), x)))
	}
	return l
}

func TestP3_1_Invalid(t *testing.T) {
	for _, x := range invalid() {
		for _, l := range [][]api.Term{
			{x}, {x, x}, {ints(0), x}, {x, ints(0)}, {ints(-1, 1), x}, {x, ints(-1, 1)}, {ints(-1, 1), x, ints(0, 1, 1)},
			// Beside a system without solutions.
			{ints(1), x}, {x, ints(1)}, {ints(1, 1), ints(2, 1), x},
			append(slices.Repeat([]api.Term{ints(-1, 1)}, 399), x),
		} {
			check(t, l, over())
		}
	}
}

func TestP3_1_Rows(t *testing.T) {
	for _, x := range []api.Term{ints(0), ints(0, 0), ints(-1, 1), ints(0, 1, 2, 3, 4, 5, 6, 7, 8), ints(2), {}} {
		for _, n := range []int{401, 402, 1000} {
			check(t, slices.Repeat([]api.Term{x}, n), over())
		}
	}
	check(t, append(slices.Repeat([]api.Term{ints(0)}, 400), ints(-1, 1)), over())
	check(t, append(slices.Repeat([]api.Term{ints(0)}, 399), ints(-4, 2)), sat([]int{0}, ints(-2, 1)))
	check(t, slices.Repeat([]api.Term{ints(-4, 2)}, 400), sat([]int{0}, ints(-2, 1)))
	check(t, append(slices.Repeat([]api.Term{ints(-4, 2)}, 399), ints(-3, 1)), unsat())
	check(t, append(slices.Repeat([]api.Term{ints(0)}, 399), ints(1)), unsat())
}

func TestP3_1_Free(t *testing.T) {
	for _, c := range []struct{ pivots, want []int }{
		{nil, []int{0, 1, 2, 3, 4, 5, 6, 7}},
		{[]int{}, []int{0, 1, 2, 3, 4, 5, 6, 7}},
		{[]int{0}, []int{1, 2, 3, 4, 5, 6, 7}},
		{[]int{7}, []int{0, 1, 2, 3, 4, 5, 6}},
		{[]int{1, 3}, []int{0, 2, 4, 5, 6, 7}},
		{[]int{6, 0, 3}, []int{1, 2, 4, 5, 7}},
		{[]int{7, 6, 5, 4, 3, 2, 1}, []int{0}},
		{[]int{2, 2, 5, 2, 5}, []int{0, 1, 3, 4, 6, 7}},
		{[]int{0, 1, 2, 3, 4, 5, 6, 7}, nil},
		{[]int{7, 0, 6, 1, 5, 2, 4, 3, 7, 0}, nil},
		{[]int{8, -1, 9, 100, most, least}, []int{0, 1, 2, 3, 4, 5, 6, 7}},
		{[]int{8, 4, -1, 4, 64, 256 + 1, 1 << 32}, []int{0, 1, 2, 3, 5, 6, 7}},
		{slices.Repeat([]int{1, -5, 12}, 1000), []int{0, 2, 3, 4, 5, 6, 7}},
	} {
		if got := gauss.Free(c.pivots); !slices.Equal(got, c.want) {
			t.Errorf("Free(%v) = %v; want %v", c.pivots, got, c.want)
		}
	}
	_, pivots, _ := gauss.Solve([]api.Term{ints(0, 0, 1, 1), ints(0, 0, 0, 0, 0, 1)})
	if got := gauss.Free(pivots); !slices.Equal(got, []int{0, 2, 3, 5, 6, 7}) {
		t.Errorf("Free(%v) = %v", pivots, got)
	}
}

// guarded is a copy of a list with spare capacity, and the memory behind it.
func guarded[T any](l []T, behind T) ([]T, []T) {
	memory := append(slices.Clone(l), behind, behind)
	return memory[:len(l)], memory
}

// spoil overwrites a list of a result, its spare capacity too.
func spoil[T any](l []T, with T) {
	l = l[:cap(l)]
	for i := range l {
		l[i] = with
	}
}

// deep is a copy of a list of terms that shares no memory with it.
func deep(l []api.Term) []api.Term {
	l = slices.Clone(l)
	for i := range l {
		l[i].C = slices.Clone(l[i].C)
	}
	return l
}

// systems holds systems of each answer, one of them with terms that share memory.
func systems() [][]api.Term {
	shared := ints(-6, 1, 2, 3).C
	l := [][]api.Term{
		nil, {ints(0)}, {ints(2)}, {{}}, {ints(-4, 2)}, {ints(-2, 1), ints(0)}, {ints(-1, 1, 1), ints(0, 1, -1)}, {ints(-1, 1, 1, 0), ints(-2, 1, 1, 0)},
		{ints(0, 1), ints(0, 0, 1), ints(0, 0, 0, 1)}, {ints(0, 1, 2, 3, 4, 5, 6, 7, 8), ints(1, 0, 1, 0, 0, 0, 0, 0, 1), ints(2, 0, 1, 0, 0, 0, 0, 0, 1)},
		{{C: shared, K: whole(1)}, {C: shared, K: whole(1)}, {C: shared[1:], K: whole(2)}, {C: shared[:1], K: whole(3)}},
	}
	return append(l, overflowing()...)
}

func TestP3_2_ArgumentsStay(t *testing.T) {
	for _, s := range systems() {
		before := deep(s)
		l, memory := guarded(s, ints(77, 78))
		list := memory[:len(memory):len(memory)]
		for i := range l {
			l[i].C, _ = guarded(l[i].C, whole(79))
		}
		wholly := deep(list)
		terms, pivots, answer := gauss.Solve(l)
		// Results are new memory: what is written there does not show in the arguments.
		for _, x := range terms {
			spoil(x.C, r(99, 98))
		}
		spoil(terms, api.Term{})
		spoil(pivots, -5)
		if !slices.EqualFunc(list, wholly, alike) || !slices.EqualFunc(s, before, alike) {
			t.Errorf("Solve(%s) changed its argument to %s", text(before), text(list))
		}
		for i := range l {
			if behind := l[i].C[:cap(l[i].C)]; behind[len(before[i].C)] != whole(79) {
				t.Errorf("Solve(%s) wrote behind the coefficients of term %d", text(before), i)
			}
		}
		if again, _, same := gauss.Solve(l); same != answer || len(again) != len(terms) {
			t.Errorf("Solve(%s) is %d, then %d", text(before), answer, same)
		}
	}
}

func TestP3_2_ResultsAreNew(t *testing.T) {
	for _, s := range systems() {
		l := deep(s)
		terms, pivots, answer := gauss.Solve(l)
		w := want{deep(terms), slices.Clone(pivots), answer}
		// What is done to the argument later does not change the result.
		for i := range l {
			spoil(l[i].C, r(99, 98))
		}
		spoil(l, api.Term{})
		if !slices.EqualFunc(terms, w.terms, alike) || !slices.Equal(pivots, w.pivots) {
			t.Errorf("Solve(%s): the result became %s%v", text(s), text(terms), pivots)
		}
		// No two lists of the result share memory.
		for i := range terms {
			spoil(terms[i].C, r(97, 96))
			w.terms[i] = terms[i]
			if !slices.EqualFunc(terms, w.terms, alike) {
				t.Errorf("Solve(%s): the terms share memory with term %d", text(s), i)
			}
		}
		check(t, deep(s), result(s))
	}
}

// result is what Solve returned for a copy of a system.
func result(s []api.Term) want {
	terms, pivots, answer := gauss.Solve(deep(s))
	return want{terms, pivots, answer}
}

func TestP3_2_FreeMemory(t *testing.T) {
	for _, s := range [][]int{nil, {}, {3}, {5, 1, 5, 9, -1}, {0, 1, 2, 3, 4, 5, 6, 7}} {
		pivots, memory := guarded(s, 66)
		before := slices.Clone(memory)
		free := gauss.Free(pivots)
		kept := slices.Clone(free)
		spoil(free, -9)
		if !slices.Equal(memory, before) {
			t.Errorf("Free(%v) changed its argument to %v", s, memory)
		}
		free = gauss.Free(pivots)
		spoil(memory, 4)
		if !slices.Equal(free, kept) {
			t.Errorf("Free(%v): the result became %v", s, free)
		}
	}
}
