package perm_test

import (
	"math"
	"testing"

	"ballcock/api"
	"ballcock/bound"
	"ballcock/perm"
)

// enough checks an answer for a permission of each kind with a fraction and a Root, and for each set.
func enough(t *testing.T, f api.Rat, root int, low, amount api.Rat, want int) {
	t.Helper()
	for _, kind := range append(noKinds(), kinds...) {
		for _, in := range []uint32{0, 5} {
			if got := perm.Enough(of(kind, f, root, in), low, amount); got != want {
				t.Errorf("Enough(%s, %v, %v) = %d; want %d", text(of(kind, f, root, in)), low, amount, got, want)
				return
			}
		}
	}
}

func TestP15_3_EnoughOfWhole(t *testing.T) {
	for _, c := range []struct {
		f, least api.Rat
		want     int
	}{
		{r(1, 1), r(1, 1), api.Sat},
		{r(1, 1), r(1, 2), api.Sat},
		{r(1, 1), r(0, 1), api.Sat},
		{r(1, 1), r(3, 2), api.Unsat},
		{r(1, 2), r(1, 2), api.Sat},
		{r(1, 2), r(2, 3), api.Unsat},
		{r(1, 2), r(50000001, 100000000), api.Unsat},
		{r(1, 2), r(49999999, 100000000), api.Sat},
		{r(2, 3), r(2, 3), api.Sat},
		{r(2, 3), r(67, 100), api.Unsat},
		{r(2, 3), r(33, 50), api.Sat},
		{r(1, 1<<40), r(0, 1), api.Sat},
		{r(0, 1), r(0, 1), api.Sat},
		{r(0, 1), r(1, 8), api.Unsat},
		{r(0, 1), r(1, most), api.Unsat},
		{r(0, 1), r(-1, 8), api.Sat},
		{r(-1, 8), r(0, 1), api.Unsat},
		{r(-1, 8), r(-1, 4), api.Sat},
		{r(3, 1), r(5, 2), api.Sat},
		{r(3, 1), r(7, 2), api.Unsat},
		{r(most, 1), r(most, 1), api.Sat},
		{r(most, 1), r(1, 1), api.Sat},
		{r(-most, 1), r(-most, 1), api.Sat},
	} {
		// What the parameters have at least does not count, even if it is no fraction.
		for _, amount := range append(wrongFractions(), r(0, 1), r(1, 2), r(1, 1), r(2, 1), r(-1, 1)) {
			enough(t, c.f, -1, c.least, amount, c.want)
		}
	}
}

func TestP15_3_EnoughOfRoot(t *testing.T) {
	for _, c := range []struct {
		f, least, amount api.Rat
		want             int
	}{
		// Any amount above 0 is possible: only 0 is always there.
		{r(1, 1), r(0, 1), r(0, 1), api.Sat},
		{r(1, 2), r(0, 1), r(0, 1), api.Sat},
		{r(0, 1), r(0, 1), r(0, 1), api.Sat},
		{r(1, 1<<30), r(0, 1), r(0, 1), api.Sat},
		{r(1, 1), r(1, 8), r(0, 1), api.Unsat},
		{r(1, 2), r(1, 8), r(0, 1), api.Unsat},
		{r(1, 1), r(1, 1000000000), r(0, 1), api.Unsat},
		{r(0, 1), r(1, 8), r(0, 1), api.Unsat},
		{r(1, 1), r(-1, 8), r(0, 1), api.Sat},
		{r(0, 1), r(-1, 8), r(0, 1), api.Sat},
		// At least so much is there: just enough, and just too small.
		{r(1, 2), r(1, 8), r(1, 4), api.Sat},
		{r(1, 2), r(12500001, 100000000), r(1, 4), api.Unsat},
		{r(1, 2), r(12499999, 100000000), r(1, 4), api.Sat},
		{r(1, 2), r(1, 8), r(24999999, 100000000), api.Unsat},
		{r(1, 2), r(1, 8), r(25000001, 100000000), api.Sat},
		{r(49999999, 100000000), r(1, 8), r(1, 4), api.Unsat},
		{r(50000001, 100000000), r(1, 8), r(1, 4), api.Sat},
		{r(1, 1), r(1, 3), r(1, 3), api.Sat},
		{r(1, 1), r(1, 3), r(1, 2), api.Sat},
		{r(1, 1), r(1, 2), r(1, 3), api.Unsat},
		{r(2, 3), r(1, 2), r(3, 4), api.Sat},
		{r(2, 3), r(1, 2), r(2, 3), api.Unsat},
		{r(0, 1), r(1, 8), r(1, 2), api.Unsat},
		{r(0, 1), r(0, 1), r(1, 2), api.Sat},
		// All of it is there.
		{r(1, 2), r(1, 2), r(1, 1), api.Sat},
		{r(1, 2), r(2, 3), r(1, 1), api.Unsat},
		{r(1, 1), r(1, 1), r(1, 1), api.Sat},
		{r(1, 1), r(1, 1), r(99, 100), api.Unsat},
		{r(3, 1), r(3, 1), r(1, 1), api.Sat},
		{r(3, 1), r(3, 2), r(1, 2), api.Sat},
		{r(3, 1), r(2, 1), r(1, 2), api.Unsat},
		// A root below 0 is none, and no amount is above 1: beyond it all holds.
		{r(1, 2), r(0, 1), r(-1, 2), api.Sat},
		{r(1, 2), r(1, 8), r(-1, 2), api.Unsat},
		{r(1, 2), r(1, 1), r(3, 2), api.Sat},
		{r(0, 1), r(1, 1), r(2, 1), api.Sat},
		{r(1, 2), r(5, 1), r(101, 100), api.Sat},
		// Of a fraction below 0 the greatest amount counts, which is 1.
		{r(-1, 2), r(0, 1), r(0, 1), api.Unsat},
		{r(-1, 2), r(-1, 2), r(0, 1), api.Sat},
		{r(-1, 2), r(-1, 2), r(1, 4), api.Sat},
		{r(-1, 2), r(-1, 4), r(1, 4), api.Unsat},
		{r(-1, 2), r(-3, 4), r(0, 1), api.Sat},
	} {
		for _, root := range roots() {
			if root != -1 {
				enough(t, c.f, root, c.least, c.amount, c.want)
			}
		}
	}
}

func TestP15_3_EnoughOver(t *testing.T) {
	for _, wrong := range wrongFractions() {
		for _, root := range roots() {
			for _, good := range []api.Rat{r(0, 1), r(1, 2), r(1, 1), r(2, 1)} {
				enough(t, wrong, root, good, good, api.Over)
				enough(t, good, root, wrong, good, api.Over)
				enough(t, wrong, root, wrong, wrong, api.Over)
				if root != -1 {
					enough(t, good, root, good, wrong, api.Over)
				}
			}
		}
	}
	// Valid ones, of which a computed fraction does not fit.
	enough(t, r(1, 2), 0, r(most/2, 1), r(0, 1), api.Unsat)
	enough(t, r(1, 2), 0, r(most/2+1, 1), r(0, 1), api.Over)
	enough(t, r(most-1, most), 0, r(most-2, most-1), r(0, 1), api.Over)
	enough(t, r(1, most), -1, r(1, most-1), r(0, 1), api.Over)
	enough(t, r(-2, 1), -1, r(most-2, 1), r(0, 1), api.Unsat)
	enough(t, r(-2, 1), -1, r(most-1, 1), r(0, 1), api.Over)
}

// rows are those of the chapter.
func rows(root int, amount api.Rat) []api.Row {
	one, zero, minus := r(1, 1), r(0, 1), r(-1, 1)
	if root == -1 {
		return []api.Row{{Op: 0, T: api.Term{C: []api.Rat{one}, K: minus}}}
	}
	// -a is not valid where a is not.
	return []api.Row{
		{Op: 2, T: api.Term{C: []api.Rat{one}, K: zero}},
		{Op: 1, T: api.Term{C: []api.Rat{minus}, K: one}},
		{Op: 1, T: api.Term{C: []api.Rat{one}, K: r(-amount.N, amount.D)}},
	}
}

// TestP15_3_EnoughEntails holds the answers against layer 4, with fractions at and beyond all limits.
func TestP15_3_EnoughEntails(t *testing.T) {
	fractions := append(wrongFractions(), r(0, 1), r(1, 1), r(-1, 1), r(2, 1), r(1, 2), r(-1, 2), r(3, 2), r(1, 3), r(2, 3), r(1, 8), r(1, 1<<31), r(1, 1<<32), r(1, 1<<62), r(1<<62, 1),
		r(most, 1), r(-most, 1), r(1, most), r(-1, most), r(most, most-1), r(most-1, most), r(most-2, most-1), r(1<<31, 1<<31-1), r(3037000499, 3037000500), r(3037000500, 3037000501))
	counts := map[int]int{}
	for _, f := range fractions {
		for _, low := range fractions {
			for _, amount := range fractions {
				for _, root := range []int{-1, 0, 1, -2, math.MaxInt} {
					want := bound.Entails(rows(root, amount), api.Row{Op: 1, T: api.Term{C: []api.Rat{f}, K: r(-low.N, low.D)}})
					if got := perm.Enough(of(3, f, root, 0), low, amount); got != want {
						t.Errorf("Enough(%s, %v, %v) = %d; want %d", text(of(3, f, root, 0)), low, amount, got, want)
					}
					counts[want]++
				}
			}
		}
	}
	if counts[api.Sat] < 1000 || counts[api.Unsat] < 1000 || counts[api.Over] < 1000 {
		t.Errorf("the answers are %v", counts)
	}
}
