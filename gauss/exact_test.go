package gauss_test

import (
	"math/big"
	"math/rand"
	"slices"
	"testing"

	"ballcock/api"
	"ballcock/gauss"
)

// The tests here hold the package against math/big, whose numbers never overflow.

// row is a term: its coefficients of the variables 0 to 7, and its constant as number 8.
type row [9]*big.Rat

// wide is a valid term as a row.
func wide(t api.Term) row {
	var w row
	for i := range w {
		w[i] = new(big.Rat)
	}
	for i, c := range t.C {
		w[i].SetFrac64(c.N, c.D)
	}
	w[8].SetFrac64(t.K.N, t.K.D)
	return w
}

func allWide(l []api.Term) []row {
	var rows []row
	for _, t := range l {
		rows = append(rows, wide(t))
	}
	return rows
}

// fits tells whether a number is one of api's fractions.
func fits(x *big.Rat) bool {
	return x.Num().IsInt64() && x.Denom().IsInt64() && x.Num().Int64() != least
}

// narrow is a row as a term in normal form.
func narrow(w row) api.Term {
	t := api.Term{K: r(w[8].Num().Int64(), w[8].Denom().Int64())}
	used := 0
	for i, c := range w[:8] {
		t.C = append(t.C, r(c.Num().Int64(), c.Denom().Int64()))
		if c.Sign() != 0 {
			used = i + 1
		}
	}
	t.C = t.C[:used]
	return t
}

// put places in a row what is computed of its numbers; false if one does not fit.
func (w *row) put(compute func(i int) *big.Rat) bool {
	for i := range w {
		w[i] = compute(i)
		if !fits(w[i]) {
			return false
		}
	}
	return true
}

// subtract takes a selected row so many times from another one; false if a product or a difference does not fit.
func (w *row) subtract(from row, v int) bool {
	by := w[v]
	var product row
	return product.put(func(i int) *big.Rat { return new(big.Rat).Mul(from[i], by) }) &&
		w.put(func(i int) *big.Rat { return new(big.Rat).Sub(w[i], product[i]) })
}

// step selects a row for a variable, if there is one, and subtracts it from the others; false if a number does not fit.
func step(rows []row, selected map[int]bool, v int) (int, bool) {
	at := -1
	for i := range rows {
		if at < 0 && !selected[i] && rows[i][v].Sign() != 0 {
			at = i
		}
	}
	if at < 0 {
		return at, true
	}
	selected[at] = true
	by := rows[at][v]
	if !rows[at].put(func(i int) *big.Rat { return new(big.Rat).Quo(rows[at][i], by) }) {
		return at, false
	}
	for i := range rows {
		if i != at && rows[i][v].Sign() != 0 && !rows[i].subtract(rows[at], v) {
			return at, false
		}
	}
	return at, true
}

// expected is what Solve has to return for valid terms, by the steps of the document.
func expected(l []api.Term) want {
	rows, selected, places := allWide(l), map[int]bool{}, []int{}
	w := sat(nil)
	for v := range 8 {
		at, ok := step(rows, selected, v)
		if !ok {
			return over()
		}
		if at >= 0 {
			places, w.pivots = append(places, at), append(w.pivots, v)
		}
	}
	for i := range rows {
		if !selected[i] && rows[i][8].Sign() != 0 {
			return unsat()
		}
	}
	for _, at := range places {
		w.terms = append(w.terms, narrow(rows[at]))
	}
	return w
}

// some is a valid fraction: most often a small whole number, and large only as often as told.
func some(dice *rand.Rand, large int) api.Rat {
	x := big.NewRat(dice.Int63n(7)-3, dice.Int63n(2)+1)
	if dice.Intn(100) < large {
		x.SetFrac64(1<<uint(dice.Intn(63))-dice.Int63n(2), 1<<uint(dice.Intn(63)))
		if dice.Intn(2) == 0 {
			x.Neg(x)
		}
		if dice.Intn(2) == 0 && x.Sign() != 0 {
			x.Inv(x)
		}
	}
	if dice.Intn(3) == 0 {
		x.SetInt64(0)
	}
	return r(x.Num().Int64(), x.Denom().Int64())
}

// someSystem is a list of valid terms, some of them sums of those before.
func someSystem(dice *rand.Rand, large int) []api.Term {
	var l []api.Term
	variables := dice.Intn(9)
	for range dice.Intn(8) {
		t := of(some(dice, large))
		for range variables {
			t.C = append(t.C, some(dice, large))
		}
		if sum, ok := someSum(dice, l); ok && dice.Intn(3) == 0 {
			t = sum
		}
		l = append(l, t)
	}
	return l
}

// someSum is the sum of two terms of a list, most often with a constant that agrees; false if it overflows.
func someSum(dice *rand.Rand, l []api.Term) (api.Term, bool) {
	if len(l) == 0 {
		return api.Term{}, false
	}
	a, b := wide(l[dice.Intn(len(l))]), wide(l[dice.Intn(len(l))])
	if !a.put(func(i int) *big.Rat { return new(big.Rat).Add(a[i], b[i]) }) {
		return api.Term{}, false
	}
	if dice.Intn(4) == 0 {
		a[8] = big.NewRat(1, 7)
	}
	return narrow(a), true
}

// TestP3_1_AgainstBig: the result is what the steps of the document lead to.
func TestP3_1_AgainstBig(t *testing.T) {
	for _, large := range []int{0, 3, 20} {
		dice := rand.New(rand.NewSource(3))
		count := map[int]int{}
		for range 12000 {
			l := someSystem(dice, large)
			w := expected(l)
			check(t, l, w)
			if t.Failed() {
				return
			}
			count[w.answer]++
		}
		// All answers have to be common, or the comparison says little.
		for answer, least := range map[int]int{api.Sat: 1500, api.Unsat: 400, api.Over: large * 100} {
			if count[answer] < least {
				t.Errorf("of %d in 100 large numbers, the answer %d came only %d times", large, answer, count[answer])
			}
		}
	}
}

// rank is how many of the rows are independent in the columns from 0 to the last.
// It does not follow the document's steps: it goes through the columns from the end.
func rank(rows []row, last int) int {
	rows = slices.Clone(rows)
	n := 0
	for v := last; v >= 0; v-- {
		at := slices.IndexFunc(rows[n:], func(w row) bool { return w[v].Sign() != 0 })
		if at < 0 {
			continue
		}
		rows[n], rows[n+at] = rows[n+at], rows[n]
		for i := n + 1; i < len(rows); i++ {
			by := new(big.Rat).Quo(rows[i][v], rows[n][v])
			var w row
			for k := range w {
				w[k] = new(big.Rat).Sub(rows[i][k], new(big.Rat).Mul(by, rows[n][k]))
			}
			rows[i] = w
		}
		n++
	}
	return n
}

// TestP3_2_SameSpan: the terms and the selected terms are multiples and sums of
// each other, so they are 0 for the same values; a system is Unsat if and only
// if its constants make it so.
func TestP3_2_SameSpan(t *testing.T) {
	dice := rand.New(rand.NewSource(4))
	for range 12000 {
		l := someSystem(dice, 1)
		terms, _, answer := gauss.Solve(l)
		rows := allWide(l)
		switch whole, variables := rank(rows, 8), rank(rows, 7); answer {
		case api.Sat:
			both := rank(append(rows, allWide(terms)...), 8)
			if whole != variables || len(terms) != whole || both != whole {
				t.Fatalf("Solve(%s) = %s: ranks %d, %d and %d", text(l), text(terms), whole, variables, both)
			}
		case api.Unsat:
			if whole == variables {
				t.Fatalf("Solve(%s) is Unsat, but has a solution", text(l))
			}
		}
	}
}

// zeroAt tells whether all terms are 0 when each variable has a value.
func zeroAt(rows []row, at []*big.Rat) bool {
	for _, w := range rows {
		sum := new(big.Rat).Set(w[8])
		for i, x := range at {
			sum.Add(sum, new(big.Rat).Mul(w[i], x))
		}
		if sum.Sign() != 0 {
			return false
		}
	}
	return true
}

// grid calls a function with all lists of three of a few values.
func grid(visit func(at []*big.Rat)) {
	var values []*big.Rat
	for n := int64(-4); n <= 4; n++ {
		values = append(values, big.NewRat(n, 2))
	}
	for _, x := range values {
		for _, y := range values {
			for _, z := range values {
				visit([]*big.Rat{x, y, z})
			}
		}
	}
}

// TestP3_2_SameSolutions: at each place of a grid, all terms are 0 if and only if all selected terms are.
func TestP3_2_SameSolutions(t *testing.T) {
	dice := rand.New(rand.NewSource(5))
	common := 0
	for range 300 {
		var l []api.Term
		for range dice.Intn(4) {
			l = append(l, ints(dice.Int63n(3)-1, dice.Int63n(4)-2, dice.Int63n(4)-2, dice.Int63n(4)-2))
		}
		terms, pivots, answer := gauss.Solve(l)
		if answer == api.Over || len(terms) != len(pivots) {
			t.Fatalf("Solve(%s) = %s%v, %d", text(l), text(terms), pivots, answer)
		}
		given, solved := allWide(l), allWide(terms)
		grid(func(at []*big.Rat) {
			want := zeroAt(given, at)
			if got := answer == api.Sat && zeroAt(solved, at); got != want {
				t.Fatalf("Solve(%s) = %s%d: at %v the terms are 0: %v", text(l), text(terms), answer, at, want)
			}
			if want && len(l) > 0 {
				common++
			}
		})
	}
	if common < 300 {
		t.Errorf("only %d places were solutions", common)
	}
}
