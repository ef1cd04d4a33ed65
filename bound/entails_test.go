package bound_test

import (
	"testing"

	"ballcock/api"
	"ballcock/bound"
)

func entails(t *testing.T, l []api.Row, x api.Row, want int) {
	t.Helper()
	if got := bound.Entails(l, x); got != want {
		t.Errorf("Entails(%s, %s) = %d; want %d", text(l), text([]api.Row{x}), got, want)
	}
}

// entailment is a system, a row, and what Entails has to return.
type entailment struct {
	l    []api.Row
	x    api.Row
	want int
}

// entailments checks a table, with the variables at each place where they still exist.
func entailments(t *testing.T, table []entailment) {
	t.Helper()
	for _, c := range table {
		for first := range 6 {
			entails(t, from(first, c.l), from(first, []api.Row{c.x})[0], c.want)
		}
	}
}

func TestP4_3_Ge(t *testing.T) {
	unit := []api.Row{ge(0, 1), ge(1, -1)}
	entailments(t, []entailment{
		{nil, ge(0), api.Sat}, {nil, ge(1), api.Sat}, {nil, ge(-1), api.Unsat}, {nil, ge(0, 1), api.Unsat}, {nil, ge(0, 0, 0), api.Sat},
		{unit, ge(0, 1), api.Sat}, {unit, ge(1, -1), api.Sat}, {unit, ge(1, 1), api.Sat}, {unit, ge(5, -5), api.Sat}, {unit, geOf(r(-1, 1<<61), whole(1)), api.Unsat},
		{unit, ge(0, -1), api.Unsat}, {unit, ge(-1, 1), api.Unsat}, {unit, ge(1, -2), api.Unsat}, {unit, ge(0, 0, 1), api.Unsat},
		{[]api.Row{ge(-2, 1), ge(-3, 0, 1)}, ge(-5, 1, 1), api.Sat}, {[]api.Row{ge(-2, 1), ge(-3, 0, 1)}, ge(-6, 1, 1), api.Unsat},
		{[]api.Row{ge(0, 1, -1), ge(0, 0, 1, -1)}, ge(0, 1, 0, -1), api.Sat}, {[]api.Row{ge(0, 1, -1), ge(0, 0, 1, -1)}, ge(0, -1, 0, 1), api.Unsat},
		{[]api.Row{gt(0, 1)}, ge(0, 1), api.Sat}, {[]api.Row{gt(0, 1)}, ge(0, -1), api.Unsat},
		{[]api.Row{eq(-2, 1, 1), ge(0, 1)}, ge(2, 0, -1), api.Sat}, {[]api.Row{eq(-2, 1, 1), ge(0, 1)}, ge(1, 0, -1), api.Unsat}, {[]api.Row{eq(-2, 1)}, ge(-2, 1), api.Sat}, {[]api.Row{eq(-2, 1)}, ge(2, -1), api.Sat},
		// What overflows: in a sum, in a quotient, in the witness.
		{[]api.Row{ge(most, 1)}, ge(-1, 1), api.Over}, {nil, geOf(whole(1<<62), r(1, 2)), api.Over}, {nil, ge(most, 1), api.Over}, {nil, ge(-most+1, 1), api.Unsat}, {unit, geOf(r(-1, most), whole(1)), api.Over},
	})
}

func TestP4_3_Gt(t *testing.T) {
	half := []api.Row{gt(0, 1), ge(1, -2)}
	entailments(t, []entailment{
		{nil, gt(0), api.Unsat}, {nil, gt(1), api.Sat}, {nil, gt(-1), api.Unsat}, {nil, gt(0, 1), api.Unsat}, {nil, row(api.RowGt, of(r(1, most))), api.Sat},
		{half, gt(0, 1), api.Sat}, {half, gt(1, -1), api.Sat}, {half, gt(1, -2), api.Unsat}, {half, gt(1, 1), api.Sat}, {half, gt(0, -1), api.Unsat},
		{[]api.Row{ge(0, 1)}, gt(0, 1), api.Unsat}, {[]api.Row{ge(0, 1)}, gt(1, 1), api.Sat}, {[]api.Row{ge(0, 1)}, row(api.RowGt, of(r(1, most), whole(1))), api.Sat},
		{[]api.Row{gt(-2, 1), ge(-3, 0, 1)}, gt(-5, 1, 1), api.Sat}, {[]api.Row{ge(-2, 1), ge(-3, 0, 1)}, gt(-5, 1, 1), api.Unsat},
		{[]api.Row{ge(0, 1, -1), gt(0, 0, 1, -1)}, gt(0, 1, 0, -1), api.Sat}, {[]api.Row{ge(0, 1, -1), ge(0, 0, 1, -1)}, gt(0, 1, 0, -1), api.Unsat},
		{[]api.Row{eq(-2, 1)}, gt(-2, 1), api.Unsat}, {[]api.Row{eq(-2, 1)}, gt(-1, 1), api.Sat},
		// What overflows: in a sum, in a quotient, in the witness.
		{[]api.Row{ge(most, 1)}, gt(-1, 1), api.Over}, {nil, row(api.RowGt, of(whole(1<<62), r(1, 2))), api.Over}, {nil, gt(most, 1), api.Over}, {nil, gt(-most+1, 1), api.Unsat},
	})
}

func TestP4_3_Eq(t *testing.T) {
	entailments(t, []entailment{
		{nil, eq(0), api.Sat}, {nil, eq(0, 0, 0), api.Sat}, {nil, eq(1), api.Unsat}, {nil, eq(-1), api.Unsat}, {nil, eq(0, 1), api.Unsat},
		{[]api.Row{eq(-2, 1)}, eq(-2, 1), api.Sat}, {[]api.Row{eq(-2, 1)}, eq(4, -2), api.Sat}, {[]api.Row{eq(-2, 1)}, eq(-3, 1), api.Unsat}, {[]api.Row{eq(-2, 1)}, eq(-1, 1), api.Unsat},
		{[]api.Row{ge(0, 1), ge(0, -1)}, eq(0, 1), api.Sat}, {[]api.Row{ge(-3, 1), ge(3, -1)}, eq(-3, 1), api.Sat},
		{[]api.Row{eq(0, 1, -1), eq(0, 0, 1, -1)}, eq(0, 1, 0, -1), api.Sat}, {[]api.Row{ge(0, 1, -1), ge(0, 0, 1, -1), ge(0, -1, 0, 1)}, eq(0, 0, 1, -1), api.Sat},
		// Only the first half is entailed, only the second one, none.
		{[]api.Row{ge(0, 1)}, eq(0, 1), api.Unsat}, {[]api.Row{gt(0, 1)}, eq(0, 1), api.Unsat},
		{[]api.Row{ge(0, -1)}, eq(0, 1), api.Unsat}, {[]api.Row{gt(0, -1)}, eq(0, 1), api.Unsat},
		{[]api.Row{ge(1, 1), ge(1, -1)}, eq(0, 1), api.Unsat},
		// The first half is Over, whatever the second one is: not entailed, entailed, Over.
		{[]api.Row{ge(most, 1)}, eq(-1, 1), api.Over},
		{[]api.Row{ge(most, 1), ge(0, -1)}, eq(-1, 1), api.Over},
		{nil, eqOf(whole(1<<62), r(1, 2)), api.Over},
		// The first half is entailed, and the second one is Over.
		{[]api.Row{ge(0, 1), ge(most, -1)}, eq(1, 1), api.Over},
		{[]api.Row{ge(-most, 1)}, eq(-most, 1), api.Over},
		// The first half is not entailed, and the second one, which would be Over, does not count.
		{[]api.Row{ge(most, -1)}, eq(1, 1), api.Unsat},
		{nil, eq(-most, 1), api.Unsat},
	})
	// The halves by themselves.
	entails(t, []api.Row{ge(most, 1)}, ge(-1, 1), api.Over)
	entails(t, []api.Row{ge(most, 1)}, ge(1, -1), api.Unsat)
	entails(t, []api.Row{ge(most, 1), ge(0, -1)}, ge(1, -1), api.Sat)
	entails(t, []api.Row{ge(0, 1), ge(most, -1)}, ge(1, 1), api.Sat)
	entails(t, []api.Row{ge(0, 1), ge(most, -1)}, ge(-1, -1), api.Over)
	entails(t, []api.Row{ge(most, -1)}, ge(1, 1), api.Unsat)
	entails(t, []api.Row{ge(most, -1)}, ge(-1, -1), api.Over)
}

func TestP4_3_Unsolvable(t *testing.T) {
	for _, l := range [][]api.Row{{gt(0)}, {ge(-1)}, {eq(1)}, {ge(-2, 1), ge(1, -1)}, {eq(-1, 1), eq(-2, 1)}} {
		for op := range 3 {
			for _, k := range []int64{-1, 0, 1} {
				entails(t, l, row(op, ints(k)), api.Sat)
				entails(t, l, row(op, ints(k, 0, 1)), api.Sat)
			}
		}
	}
}

func TestP4_3_Invalid(t *testing.T) {
	systems := [][]api.Row{nil, {ge(0, 1)}, {eq(-1, 1)}, {gt(0)}, {eq(1)}}
	for _, l := range systems {
		for _, x := range invalid() {
			for _, op := range []int{api.RowEq, api.RowGe, api.RowGt, -1, 3} {
				entails(t, l, row(op, x), api.Over)
			}
		}
		for _, op := range []int{-1, 3, 4, 99, least, most, 1 << 32, 256, 258} {
			for _, x := range []api.Term{ints(0), ints(1), ints(-1), ints(0, 1)} {
				entails(t, l, row(op, x), api.Over)
			}
		}
	}
	// What is wrong stands in the system.
	for _, x := range []api.Row{eq(0), ge(0), gt(1), eq(1), ge(-1), gt(-1)} {
		for _, bad := range []api.Row{{}, row(3, ints(0)), row(-1, ints(1)), row(api.RowGe, of(r(2, 2))), row(api.RowGt, of(whole(0), r(1, 0)))} {
			entails(t, []api.Row{bad}, x, api.Over)
			entails(t, []api.Row{gt(0), bad, ge(0)}, x, api.Over)
		}
	}
}

func TestP4_3_Rows(t *testing.T) {
	for _, x := range []api.Row{eq(-3, 1), ge(-3, 1), gt(-2, 1)} {
		entails(t, many(399, eq(-3, 1)), x, api.Sat)
		entails(t, many(400, eq(-3, 1)), x, api.Over)
		entails(t, many(399, gt(0)), x, api.Sat)
		entails(t, many(400, gt(0)), x, api.Over)
		entails(t, many(1000, eq(-3, 1)), x, api.Over)
	}
	// The row that is added counts in step 2: 20 times 20 sums, then 21 times 20.
	l := append(many(20, ge(0, 1)), many(19, ge(1, -1))...)
	entails(t, l, ge(0, 1), api.Sat)
	entails(t, l, ge(1, -1), api.Sat)
	l = append(l, ge(1, -1))
	entails(t, l, ge(0, 1), api.Over)
	entails(t, l, ge(1, -1), api.Over)
}
