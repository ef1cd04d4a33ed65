package bound_test

import (
	"slices"
	"testing"

	"ballcock/api"
	"ballcock/bound"
)

func holds(t *testing.T, l []api.Row, at []api.Rat, want bool) {
	t.Helper()
	if got := bound.Holds(l, at); got != want {
		t.Errorf("Holds(%s, %s) = %v", text(l), values(at), got)
	}
}

func TestP4_2_Conditions(t *testing.T) {
	for _, value := range []api.Rat{whole(0), whole(1), whole(-1), r(1, most), r(-1, most), whole(most), whole(-most), r(-3, 2)} {
		for op, want := range []bool{value.N == 0, value.N >= 0, value.N > 0} {
			holds(t, []api.Row{row(op, of(value))}, nil, want)
			holds(t, []api.Row{row(op, ints(0, 1))}, []api.Rat{value}, want)
			holds(t, []api.Row{row(op, ints(0, -1))}, []api.Rat{r(-value.N, value.D)}, want)
			holds(t, []api.Row{row(op, ints(0, 0, 0, 0, 0, 0, 0, 0, 1))}, append(wholes(5, 5, 5, 5, 5, 5, 5), value), want)
		}
	}
	for _, op := range []int{-1, 3, 4, 99, least, most, 1 << 32, 256, 258} {
		for _, k := range []int64{-1, 0, 1} {
			holds(t, []api.Row{row(op, ints(k))}, nil, false)
			holds(t, []api.Row{ge(0), row(op, ints(0, k)), ge(0)}, wholes(1), false)
		}
	}
}

func TestP4_2_AllRows(t *testing.T) {
	for _, at := range [][]api.Rat{nil, {}, wholes(3), wholes(1, 2, 3, 4, 5, 6, 7, 8)} {
		holds(t, nil, at, true)
		holds(t, []api.Row{}, at, true)
	}
	l := []api.Row{ge(-1, 1), gt(5, -1, 1), eq(0, 1, -1), geOf(r(-1, 2), r(1, 2), r(1, 3))}
	holds(t, l, wholes(1, 1), true)
	holds(t, l, wholes(2, 2), true)
	for i, x := range []api.Row{gt(-1, 1), ge(-1, 0, 1, -2), eq(1, 1)} {
		at := wholes(1, 1, 1)
		for n := range len(l) + 1 {
			holds(t, slices.Insert(slices.Clone(l), n, x), at, false)
		}
		holds(t, []api.Row{l[i], x, l[i]}, at, false)
	}
	// There may be more rows here than in a system that is solved.
	holds(t, many(401, ge(-1, 1)), wholes(1), true)
	holds(t, append(many(1000, ge(-1, 1)), gt(-1, 1)), wholes(1), false)
}

func TestP4_2_TooFewValues(t *testing.T) {
	l := []api.Row{ge(-1, 1), ge(0, 0, -1), eq(0, 0, 0, 1)}
	holds(t, l, wholes(1), true)
	holds(t, l, wholes(1, 0), true)
	holds(t, l, wholes(1, 0, 0), true)
	holds(t, l, nil, false)
	holds(t, l, wholes(1, 0, 1), false)
	holds(t, []api.Row{ge(-1, 0, 1)}, wholes(1), false)
	holds(t, []api.Row{ge(0, 0, 1), eq(0, 0, 0, 0, 0, 0, 0, 0, -1)}, wholes(1), true)
	holds(t, []api.Row{gt(0, 1)}, nil, false)
	// Values beyond the last variable do not count, even if they are not valid.
	for _, x := range append(badRats(), whole(7)) {
		holds(t, []api.Row{eq(-1, 1), eq(0, 0, 0, 0, 0, 0, 0, 0, 1)}, append(wholes(1, 0, 0, 0, 0, 0, 0, 0), x), true)
	}
}

func TestP4_2_Invalid(t *testing.T) {
	for _, x := range invalid() {
		for op := range 3 {
			for _, at := range [][]api.Rat{nil, wholes(0, 0), wholes(1, 1, 1, 1, 1, 1, 1, 1)} {
				holds(t, []api.Row{row(op, x)}, at, false)
				holds(t, []api.Row{ge(0), row(op, x)}, at, false)
				holds(t, []api.Row{row(op, x), gt(1)}, at, false)
			}
		}
	}
	for _, x := range badRats() {
		for v := range 8 {
			at := full(nil)
			at[v] = x
			for _, l := range [][]api.Row{nil, {ge(0)}, {gt(1, 0, 0)}, {eq(0, 1, 1, 1, 1, 1, 1, 1, 1)}, {eq(0), ge(1, 1)}} {
				holds(t, l, at, false)
				holds(t, l, at[:v+1], false)
			}
		}
	}
}

func TestP4_2_Over(t *testing.T) {
	for _, c := range []struct {
		x    api.Row
		at   []api.Rat
		want bool
	}{
		// Products.
		{ge(0, 1<<62), wholes(1), true},
		{ge(0, 1<<62), wholes(2), false},
		{ge(0, -1<<62), wholes(-2), false},
		{ge(0, 1<<62-1), wholes(2), true},
		{geOf(whole(1), r(1, 1<<31)), []api.Rat{r(1, 1<<31)}, true},
		{geOf(whole(1), r(1, 1<<32)), []api.Rat{r(1, 1<<31)}, false},
		{gt(1, 1<<62, 1<<62), wholes(2, -2), false},
		// Sums, from the constant through the variables in order.
		{gt(most-1, 1), wholes(1), true},
		{gt(most, 1), wholes(1), false},
		{gt(most, 1, -1), wholes(1, 2), false},
		{gt(most, -1, 1), wholes(2, 1), true},
		{ge(1, 1, 1), wholes(most, -1), false},
		{ge(1, 1, 1), wholes(-1, most), true},
		{geOf(r(1, most), whole(1)), []api.Rat{r(1, most-1)}, false},
		{geOf(r(1, most), whole(1)), []api.Rat{r(1, most)}, true},
	} {
		holds(t, []api.Row{c.x}, c.at, c.want)
		holds(t, []api.Row{ge(0), c.x, gt(1)}, c.at, c.want)
	}
	for _, x := range []api.Row{ge(0, 1<<62), gt(most, 1), eq(0, 1<<62)} {
		holds(t, []api.Row{x}, wholes(2), false)
		holds(t, []api.Row{ge(0), x}, wholes(2), false)
		holds(t, []api.Row{x, ge(0)}, wholes(2), false)
	}
}

// solvable holds systems whose witnesses do not overflow in their rows.
func solvable() [][]api.Row {
	return [][]api.Row{
		nil, {ge(0)}, {gt(0, 1)}, {gt(0, -1)}, {gt(0, 1), ge(1, -1)}, {ge(-3, 1), ge(3, -1)}, {eq(-3, 2)},
		{eq(-1, 1, 1), gt(0, 1), gt(0, 0, 1)}, {eq(0, 1, -2), ge(-5, 1)}, {eq(0, 1, 0, -1), eq(1, 0, 1, 1), ge(-2, 1, 1, 1)},
		{gt(0, 1, -1), ge(-2, 0, 1), ge(5, -1)}, {gt(0, 1), gt(0, -1, 1), gt(0, 0, -1, 1), gt(1, 0, 0, -1)},
		{ge(0, 1, -1), ge(5, -1, -1), ge(1, 0, 2)}, {ge(0, 1, -1, -1), ge(-2, 0, 1), ge(-4, 0, 0, 1)},
		{geOf(r(-1, 3), r(2, 5)), geOf(r(7, 2), r(-1, 4), r(3, 7))}, many(400, gt(-3, 1)),
		join(many(20, ge(0, 1)), many(20, gt(1, -1))),
	}
}

func TestP4_2_Witness(t *testing.T) {
	for _, l := range solvable() {
		for first := range 6 {
			moved := from(first, l)
			at, answer := bound.Solve(moved)
			if answer != api.Sat || len(at) != 8 {
				t.Errorf("Solve(%s) = %s, %d", text(moved), values(at), answer)
			}
			holds(t, moved, at, true)
		}
	}
}

func TestP4_2_NoValues(t *testing.T) {
	for _, l := range [][]api.Row{
		{gt(0)}, {ge(-2, 1), ge(1, -1)}, {gt(0, 1), ge(0, -1)}, {ge(0, 1), gt(0, -1)}, {eq(-1, 1), eq(-2, 1)}, {eq(-1, 1), gt(-1, 1)},
		{ge(0, 1, -1), gt(0, -1, 1)}, {eq(-1, 1, 1), gt(-1, 1), gt(0, 0, 1)}, {ge(0, 1, 1), ge(0, 1, -1), ge(-1, -1)},
		{ge(0, 1, -1), ge(0, 0, 1, -1), gt(0, -1, 0, 1)}, {gt(0, 1, 1), gt(0, 0, -1, 1), gt(0, -1, 0, -1)},
	} {
		unsat(t, l)
		grid(func(at []api.Rat) { holds(t, l, at, false) })
	}
}

// grid calls a function with all lists of three of a few values.
func grid(visit func(at []api.Rat)) {
	var halves []api.Rat
	for n := int64(-3); n <= 3; n++ {
		halves = append(halves, whole(n), r(2*n+1, 2))
	}
	for _, x := range halves {
		for _, y := range halves {
			for _, z := range halves {
				visit([]api.Rat{x, y, z})
			}
		}
	}
}
