package bound_test

import (
	"slices"
	"testing"

	"ballcock/api"
)

func TestP4_1_JustFitsInStep1(t *testing.T) {
	everywhere(t, []solved{
		// The equations.
		{[]api.Row{eqOf(whole(1<<62-1), r(1, 2))}, wholes(-most + 1)},
		{[]api.Row{eq(-most, 1), eq(-1, 0, 1)}, wholes(most, 1)},
		// Products.
		{[]api.Row{eq(0, 1, 1<<62-1), ge(0, 2)}, wholes(1<<62-1, -1)},
		{[]api.Row{eqOf(r(1, 1<<61), whole(1)), geOf(whole(0), r(-1, 2))}, []api.Rat{r(-1, 1<<61)}},
		// Differences.
		{[]api.Row{eq(-most+1, 1), ge(1, 1)}, wholes(most - 1)},
		{[]api.Row{eq(most-1, 1), ge(1, -1)}, wholes(-most + 1)},
		// The selected terms are subtracted in the order of their variables.
		{[]api.Row{eq(-most, 1), eq(most, 0, 1), ge(0, 1, 1)}, wholes(most, -most)},
		{[]api.Row{ge(0, 1, 1), eq(most-1, 0, 1), eq(-most, 1)}, wholes(most, -most+1)},
		// What a row does not contain is not subtracted from it.
		{[]api.Row{eq(-most, 1), ge(most, 0, 1), ge(-most+1, 0, 0, 1)}, wholes(most, -most+1, most)},
	})
}

func TestP4_1_JustFitsInStep2(t *testing.T) {
	everywhere(t, []solved{
		// Quotients.
		{[]api.Row{geOf(whole(1<<62-1), r(1, 2))}, wholes(-most + 2)},
		{[]api.Row{geOf(whole(1<<62-1), r(-1, 2))}, wholes(most - 2)},
		{[]api.Row{geOf(whole(0), r(1, 2), whole(1<<62-1))}, wholes(1, 0)},
		{[]api.Row{geOf(r(1, 1<<31), whole(-1<<31))}, []api.Rat{r(1-1<<62, 1<<62)}},
		{[]api.Row{ge(most, most)}, wholes(0)},
		// A row without the variable is not divided.
		{[]api.Row{geOf(whole(0), r(1, 2)), ge(1 << 62), ge(1<<62, 0, 1)}, wholes(1, -1<<62+1)},
		// Sums.
		{[]api.Row{ge(most-1, 1), ge(1, -1)}, []api.Rat{r(-most+2, 2)}},
		{[]api.Row{ge(0, 1, most-1), ge(0, -1, 1)}, []api.Rat{r(-most+2, 2), whole(1)}},
		{[]api.Row{ge(-1, 1, most), ge(1, -1, -most)}, wholes(1, 0)},
		// Two lower rows, or two upper ones, have no sum.
		{[]api.Row{ge(most, 1), ge(most-1, 1)}, wholes(-most + 2)},
		{[]api.Row{ge(most, -1), ge(most-1, -1)}, wholes(most - 2)},
	})
}

func TestP4_1_JustFitsInStep4(t *testing.T) {
	everywhere(t, []solved{
		// A lower bound plus 1, an upper bound minus 1.
		{[]api.Row{ge(-most+1, 1)}, wholes(most)},
		{[]api.Row{geOf(r(1, most), whole(1))}, []api.Rat{r(most-1, most)}},
		{[]api.Row{ge(-most+1, -1)}, wholes(-most)},
		{[]api.Row{geOf(r(1, most), whole(-1))}, []api.Rat{r(-most+1, most)}},
		// The sum of both bounds, and its half.
		{[]api.Row{ge(-1<<62+1, 1), ge(1<<62, -1)}, []api.Rat{r(most, 2)}},
		{[]api.Row{ge(1<<62, 1), ge(-1<<62+1, -1)}, []api.Rat{r(-most, 2)}},
		{[]api.Row{ge(0, 1), geOf(r(1, 1<<62-1), whole(-1))}, []api.Rat{r(1, most-1)}},
		// The bounds: products, and sums in the order of the variables.
		{[]api.Row{ge(0, 1, -1<<62+1), ge(-1, 0, 1)}, wholes(most, 2)},
		{[]api.Row{ge(0, -1, -1<<62+1), ge(-1, 0, 1)}, wholes(-most, 2)},
		{[]api.Row{ge(most, 1, -2, 1), ge(-1, 0, 1), ge(-1, 0, 0, 1)}, wholes(-most+3, 2, 2)},
		{[]api.Row{ge(most-2, -1, 1), ge(-1, 0, 1)}, wholes(most-1, 2)},
		// The values of selected variables: products, and sums in the order of the variables.
		{[]api.Row{eq(0, 1, 1<<62-1), ge(-1, 0, 1)}, wholes(-most+1, 2)},
		{[]api.Row{eq(most-2, 1, 1), ge(-1, 0, 1)}, wholes(-most, 2)},
		{[]api.Row{eq(most, 1, -2, 1), ge(-1, 0, 1), ge(-1, 0, 0, 1)}, wholes(-most+2, 2, 2)},
	})
}

// overStep1 holds systems in which a fraction of step 1 overflows.
func overStep1() [][]api.Row {
	one, zero := whole(1), whole(0)
	return [][]api.Row{
		// The equations.
		{eqOf(whole(1<<62), r(1, 2))},
		{eqOf(r(1, most), whole(2))},
		{ge(0, 1), eq(0, 1, 1<<62), eq(0, 2)},
		{eq(most, 1), gt(0, 1), eq(-1, 1, 1)},
		// Products, also where the difference would fit.
		{eq(0, 1, 1<<62), ge(0, 2)},
		{eq(0, 1, 1<<62), ge(0, 2, 1<<62)},
		{gt(0, -2, -1<<62), eq(0, 1, 1<<62)},
		{eq(1<<62, 1), ge(1<<62, 2)},
		{eq(-1<<62, 1), ge(-1, 2)},
		{eqOf(r(1, 1<<62), one), geOf(zero, r(-1, 2))},
		// Differences.
		{eq(most, 1), ge(-1, 1)},
		{eq(-most, 1), ge(1, 1)},
		{eq(0, 1, most), ge(0, 1, -1)},
		{eq(0, 1, -most), gt(0, 1, 1)},
		{eqOf(r(1, most), one), geOf(r(1, most-1), one)},
		{eq(0, 1), ge(0, 1), eq(most, 0, 1), ge(0, 1), ge(-1, 1, 1)},
		// The selected terms are subtracted in the order of their variables.
		{eq(most, 1), eq(-most, 0, 1), ge(-1, 1, 1)},
		{eq(-most, 0, 1), ge(-1, 1, 1), eq(most, 1)},
	}
}

// overStep2 holds systems in which a fraction of step 2 overflows.
func overStep2() [][]api.Row {
	one, zero := whole(1), whole(0)
	return [][]api.Row{
		// Quotients, also where all rows bound the variable from one side.
		{geOf(whole(1<<62), r(1, 2))},
		{geOf(whole(1<<62), r(-1, 2))},
		{geOf(whole(-1<<62), r(1, 2))},
		{geOf(whole(-1<<62), r(-1, 2))},
		{row(api.RowGt, of(whole(1<<62), r(1, 2)))},
		{geOf(zero, r(1, 2), whole(1<<62))},
		{geOf(zero, r(-1, 2), whole(-1<<62))},
		{geOf(r(1, most), whole(2))},
		{geOf(r(1, 1<<31), whole(-1<<32))},
		{ge(0, 1), ge(0, -1), ge(5, 1), geOf(whole(2), r(-1, most))},
		{ge(0, 1), geOf(whole(1<<62), zero, r(1, 2))},
		{eq(0, 1, -1), geOf(whole(1<<62), r(1, 2))},
		// Sums.
		{ge(most, 1), ge(1, -1)},
		{ge(1, 1), gt(most, -1)},
		{ge(-most, 1), ge(-1, -1)},
		{ge(0, 1, most), ge(0, -1, 1)},
		{ge(0, 1, -most), ge(0, -1, -1)},
		{geOf(r(1, most), one), geOf(r(1, most-1), whole(-1))},
		{ge(0, 1), ge(most, 1), ge(0, -1), ge(1, -1)},
		{ge(most, 1), ge(0, 1), ge(1, -1), ge(0, -1)},
		{ge(0, 1, 1), ge(most, -1), ge(1, 0, -1)},
	}
}

// overStep4 holds systems in which a fraction of step 4 overflows.
func overStep4() [][]api.Row {
	one := whole(1)
	return [][]api.Row{
		// A lower bound plus 1, an upper bound minus 1.
		{ge(-most, 1)},
		{gt(-most, 1)},
		{geOf(r(-1, most), one)},
		{ge(-most, -1)},
		{geOf(r(-1, most), whole(-1))},
		{ge(-5, 1), ge(-most, 1), ge(0, 1)},
		// The sum of both bounds, and its half.
		{ge(-1<<62, 1), ge(1<<62, -1)},
		{ge(1<<62, 1), ge(-1<<62, -1)},
		{ge(-most, 1), ge(most, -1)},
		{ge(0, 1), geOf(r(1, most), whole(-1))},
		{geOf(r(1, most), one), ge(0, -1)},
		// The bounds: products and sums.
		{ge(0, 1, -1<<62), ge(-1, 0, 1)},
		{gt(0, -1, 1<<62), ge(-1, 0, 1)},
		{ge(most, 1, 1, -2), ge(-1, 0, 1), ge(-1, 0, 0, 1)},
		{ge(most, -1, 1, -2), ge(-1, 0, 1), ge(-1, 0, 0, 1)},
		{geOf(r(1, most), one, one), geOf(r(-1, 2), whole(0), one), geOf(whole(3), whole(0), whole(-2))},
		// Those of rows that are not the tightest.
		{ge(0, 1, 1<<62), ge(0, 1), ge(-1, 0, 1)},
		{ge(0, -1), ge(0, -1, 1<<62), ge(-1, 0, 1)},
		// The values of selected variables: products and sums.
		{eq(0, 1, 1<<62), ge(-1, 0, 1)},
		{eq(0, 1, -1<<62), ge(-1, 0, 1)},
		{eq(most, 1, 1), ge(-1, 0, 1)},
		{eq(most, 1, 1, -2), ge(-1, 0, 1), ge(-1, 0, 0, 1)},
		{eq(0, 1, 0, -1), eq(0, 0, 1, -1<<62), ge(-1, 0, 0, 1)},
	}
}

func TestP4_1_Over(t *testing.T) {
	for _, systems := range [][][]api.Row{overStep1(), overStep2(), overStep4()} {
		for _, l := range systems {
			for first := range 6 {
				over(t, from(first, l))
			}
			// Beside rows that say nothing.
			over(t, join([]api.Row{ge(0), eq(0, 0)}, l, []api.Row{gt(1)}))
			over(t, join(many(390, ge(0)), l))
		}
	}
}

// impossible holds systems without solutions and equations, of no variable, of the first and of the last one.
func impossible() [][]api.Row {
	return [][]api.Row{
		{gt(0)}, {ge(-1)},
		{ge(-1, 1), ge(0, -1)}, {gt(0, 1), ge(0, -1)},
		from(7, []api.Row{ge(-1, 1), ge(0, -1)}), from(7, []api.Row{ge(0, 1), gt(0, -1)}),
	}
}

// TestP4_1_OverBeforeUnsat: a fraction of the steps before the answer that
// overflows makes it Over, also where the system would be Unsat.
func TestP4_1_OverBeforeUnsat(t *testing.T) {
	for _, l := range append(overStep1(), overStep2()...) {
		for _, p := range impossible() {
			over(t, join(p, from(3, l)))
			over(t, join(from(3, l), p))
		}
	}
	// The equations have no solutions either.
	for _, l := range overStep1()[:4] {
		over(t, join([]api.Row{eq(1)}, l))
		over(t, join(l, []api.Row{eq(1)}))
	}
	// What overflows is what would tell that there are no solutions.
	over(t, []api.Row{eq(most, 1), ge(-1, 1)})
	over(t, []api.Row{ge(-most, 1), ge(-1, -1)})
	over(t, []api.Row{eq(0, 1, -1), ge(-most, 1), ge(-1, 0, -1)})
}

// TestP4_1_UnsatBeforeWitness: a system without solutions has no witness, and so none that overflows.
func TestP4_1_UnsatBeforeWitness(t *testing.T) {
	for _, l := range overStep4() {
		for _, p := range impossible() {
			unsat(t, join(p, from(3, l)))
			unsat(t, join(from(3, l), p))
		}
	}
}

// TestP4_1_JustFitsAndUnsat: fractions that just fit do not hide that there are no solutions.
func TestP4_1_JustFitsAndUnsat(t *testing.T) {
	for _, l := range [][]api.Row{
		{eq(most-1, 1), ge(-1, 1)},
		{eq(-most+1, 1), ge(-1, -1)},
		{eqOf(r(1, 1<<61), whole(1)), geOf(whole(0), r(1, 2))},
		{eq(-most, 1), eq(most, 0, 1), ge(-1, 1, 1)},
		{geOf(whole(-1<<62+1), r(1, 2)), ge(0, -1)},
		{ge(-most+1, 1), ge(-1, -1)},
		{ge(-most, 1), ge(most-1, -1)},
		{geOf(r(-1, most), whole(1)), ge(0, -1)},
		{ge(-most), ge(-most, 0)},
	} {
		for first := range 6 {
			unsat(t, from(first, l))
		}
		back := slices.Clone(l)
		slices.Reverse(back)
		unsat(t, back)
	}
}
