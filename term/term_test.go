package term_test

import (
	"reflect"
	"slices"
	"strings"
	"testing"

	"ballcock/api"
	"ballcock/term"
)

const (
	least = -1 << 63
	most  = 1<<63 - 1
)

func r(n, d int64) api.Rat { return api.Rat{N: n, D: d} }

// whole is the fraction n/1.
func whole(n int64) api.Rat { return r(n, 1) }

// of is the term with a constant and coefficients.
func of(k api.Rat, c ...api.Rat) api.Term { return api.Term{C: c, K: k} }

// wholes is a list of n fractions n/1.
func wholes(n int, value int64) []api.Rat { return slices.Repeat([]api.Rat{whole(value)}, n) }

// zeros is a list of n zeros.
func zeros(n int) []api.Rat { return wholes(n, 0) }

// alike tells whether two terms have the same fields; nil and empty lists are alike.
func alike(a, b api.Term) bool { return a.K == b.K && slices.Equal(a.C, b.C) }

// invalidRats holds fractions that are not valid, by each reason.
func invalidRats() []api.Rat {
	return []api.Rat{{}, r(1, 0), r(0, 2), r(2, 2), r(2, 4), r(1, -2), r(0, -1), r(least, 1), r(1, least)}
}

// invalid holds terms that are not valid, by each reason.
func invalid() []api.Term {
	l := []api.Term{
		{},
		of(whole(0), zeros(9)...),
		of(whole(1), wholes(9, 1)...),
		of(whole(0), append(wholes(8, 1), whole(0))...),
		of(whole(1), zeros(300)...),
		of(whole(0), append(wholes(8, 1), r(2, 2))...),
	}
	for _, x := range invalidRats() {
		l = append(l,
			of(x),
			of(x, whole(1), r(1, 2)),
			of(whole(0), x),
			of(whole(1), whole(1), x, whole(2)),
			of(r(1, 3), append(wholes(7, 1), x)...),
			of(r(1, 3), append([]api.Rat{x}, zeros(7)...)...))
	}
	return l
}

// valid holds pairs of a valid term and its normal form.
func valid() [][2]api.Term {
	return [][2]api.Term{
		{of(whole(0)), of(whole(0))},
		{{C: []api.Rat{}, K: whole(0)}, of(whole(0))},
		{of(r(-3, 7)), of(r(-3, 7))},
		{of(whole(most)), of(whole(most))},
		{of(whole(0), whole(0)), of(whole(0))},
		{of(whole(5), zeros(8)...), of(whole(5))},
		{of(whole(0), r(1, 2)), of(whole(0), r(1, 2))},
		{of(whole(3), r(1, 2), whole(0)), of(whole(3), r(1, 2))},
		{of(whole(3), r(1, 2), whole(0), whole(-1), whole(0)), of(whole(3), r(1, 2), whole(0), whole(-1))},
		{of(whole(1), whole(0), whole(0), whole(2)), of(whole(1), whole(0), whole(0), whole(2))},
		{of(whole(1), append(zeros(7), r(1, most))...), of(whole(1), append(zeros(7), r(1, most))...)},
		{of(whole(1), append(wholes(7, -4), whole(0))...), of(whole(1), wholes(7, -4)...)},
		{of(whole(-most), wholes(8, -most)...), of(whole(-most), wholes(8, -most)...)},
	}
}

func TestP2_1_Right(t *testing.T) {
	for _, c := range valid() {
		if !term.Right(c[0]) {
			t.Errorf("Right(%v) = false", c[0])
		}
	}
	for _, a := range invalid() {
		if term.Right(a) {
			t.Errorf("Right(%v) = true", a)
		}
	}
}

func TestP2_1_Own(t *testing.T) {
	for _, c := range valid() {
		if got := term.Own(c[0]); !alike(got, c[1]) {
			t.Errorf("Own(%v) = %v; want %v", c[0], got, c[1])
		}
	}
	for _, a := range invalid() {
		if got := term.Own(a); !alike(got, of(whole(0))) {
			t.Errorf("Own(%v) = %v; want the zero term", a, got)
		}
	}
}

func TestP2_1_At(t *testing.T) {
	a := of(whole(3), r(1, 2), whole(0), whole(-1), whole(0))
	for _, c := range []struct {
		i    int
		want api.Rat
	}{
		{0, r(1, 2)}, {1, whole(0)}, {2, whole(-1)}, {3, whole(0)}, {4, whole(0)}, {7, whole(0)}, {8, whole(0)},
		{-1, whole(0)}, {-2, whole(0)}, {least, whole(0)}, {most, whole(0)},
	} {
		if got := term.At(a, c.i); got != c.want {
			t.Errorf("At(%v, %d) = %v; want %v", a, c.i, got, c.want)
		}
	}
	if got := term.At(of(whole(7)), 0); got != whole(0) {
		t.Errorf("At of a term without variables = %v", got)
	}
	if got := term.At(api.Term{}, 0); got != whole(0) {
		t.Errorf("At of the zero value = %v", got)
	}
	if got := term.At(of(whole(0), wholes(8, 4)...), 7); got != whole(4) {
		t.Errorf("At of the last variable = %v", got)
	}
}

func TestP2_2_Add(t *testing.T) {
	for _, c := range []struct{ a, b, want api.Term }{
		{of(whole(0)), of(whole(0)), of(whole(0))},
		{of(whole(1)), of(r(1, 2), r(1, 3)), of(r(3, 2), r(1, 3))},
		{of(whole(1), r(1, 2), whole(2)), of(whole(-1), r(1, 2)), of(whole(0), whole(1), whole(2))},
		{of(whole(1), r(1, 2)), of(whole(-1), r(1, 2), whole(2)), of(whole(0), whole(1), whole(2))},
		{of(whole(1), whole(2), whole(3)), of(whole(0), whole(1), whole(-3)), of(whole(1), whole(3))},
		{of(whole(1), whole(2), whole(3)), of(whole(0), whole(-2), whole(-3)), of(whole(1))},
		{of(whole(1), whole(2), whole(3)), of(whole(0), whole(-2), whole(3)), of(whole(1), whole(0), whole(6))},
		{of(whole(1), whole(2), whole(0)), of(whole(1), zeros(8)...), of(whole(2), whole(2))},
		{of(whole(0), wholes(8, 1)...), of(whole(0), wholes(8, 2)...), of(whole(0), wholes(8, 3)...)},
		{of(whole(1<<62), whole(-1<<62)), of(whole(1<<62-1), whole(-1<<62+1)), of(whole(most), whole(-most))},
		{of(r(1, 1<<62), r(3, 1<<62)), of(r(1, 1<<62), r(1, 1<<62)), of(r(1, 1<<61), r(1, 1<<60))},
	} {
		if got, err := term.Add(c.a, c.b); !alike(got, c.want) || err != api.OK {
			t.Errorf("Add(%v, %v) = %v, %d; want %v", c.a, c.b, got, err, c.want)
		}
	}
}

// one is a term that has x as its variable i, or, for i of -1, as its constant, and is 1/3 else.
func one(i int, x api.Rat) api.Term {
	a := of(r(1, 3), r(1, 3), r(1, 3), r(1, 3), r(1, 3), r(1, 3), r(1, 3), r(1, 3), r(1, 3))
	if i < 0 {
		a.K = x
	} else {
		a.C[i] = x
	}
	return a
}

// bare tells whether a result beside an error is its zero value.
func bare(a api.Term) bool { return len(a.C) == 0 && a.K == api.Rat{} }

func TestP2_2_AddOver(t *testing.T) {
	for _, c := range [][2]api.Rat{
		{whole(most), whole(1)}, {whole(-most), whole(-1)}, {whole(1 << 62), whole(1 << 62)},
		{r(1, most), r(1, most-1)}, {whole(most), r(1, 2)},
	} {
		for i := -1; i < 8; i++ {
			for _, p := range [][2]api.Term{{one(i, c[0]), one(i, c[1])}, {one(i, c[1]), one(i, c[0])}} {
				if got, err := term.Add(p[0], p[1]); !bare(got) || err != api.ErrOver {
					t.Errorf("Add(%v, %v) = %v, %d; want ErrOver", p[0], p[1], got, err)
				}
			}
		}
	}
}

func TestP2_2_AddInvalid(t *testing.T) {
	for _, a := range invalid() {
		for _, b := range append(invalid(), of(whole(1), whole(1)), of(whole(most), wholes(8, most)...)) {
			for _, p := range [][2]api.Term{{a, b}, {b, a}} {
				if got, err := term.Add(p[0], p[1]); !bare(got) || err != api.ErrArg {
					t.Errorf("Add(%v, %v) = %v, %d; want ErrArg", p[0], p[1], got, err)
				}
			}
		}
	}
	// An invalid term comes ahead of what overflows beside it.
	full := of(whole(most), whole(most), r(2, 2))
	if _, err := term.Add(full, of(whole(most), whole(most))); err != api.ErrArg {
		t.Errorf("Add: %d; want ErrArg", err)
	}
}

func TestP2_2_Scale(t *testing.T) {
	a := of(whole(3), r(1, 2), whole(0), whole(-1), whole(0))
	for _, c := range []struct {
		a    api.Term
		by   api.Rat
		want api.Term
	}{
		{a, whole(-2), of(whole(-6), whole(-1), whole(0), whole(2))},
		{a, whole(1), of(whole(3), r(1, 2), whole(0), whole(-1))},
		{a, r(2, 3), of(whole(2), r(1, 3), whole(0), r(-2, 3))},
		{a, whole(0), of(whole(0))},
		{of(whole(0)), whole(most), of(whole(0))},
		{of(whole(0), zeros(8)...), r(1, most), of(whole(0))},
		{of(whole(0), wholes(8, 2)...), r(1, 2), of(whole(0), wholes(8, 1)...)},
		{of(whole(most), whole(-most)), whole(-1), of(whole(-most), whole(most))},
		{of(whole(1<<62-1), r(1, 2)), whole(2), of(whole(most-1), whole(1))},
		{of(r(1, 1<<31)), r(1, 1<<31), of(r(1, 1<<62))},
		{of(whole(most)), r(1, most), of(whole(1))},
	} {
		if got, err := term.Scale(c.a, c.by); !alike(got, c.want) || err != api.OK {
			t.Errorf("Scale(%v, %v) = %v, %d; want %v", c.a, c.by, got, err, c.want)
		}
	}
}

func TestP2_2_ScaleOver(t *testing.T) {
	for _, c := range [][2]api.Rat{
		{whole(1 << 62), whole(2)}, {whole(-1 << 62), whole(2)}, {whole(1 << 62), whole(-2)},
		{r(1, 1<<62), r(1, 5)}, {whole(most), whole(most)}, {r(1, 5), r(1, 1<<62)},
	} {
		for i := -1; i < 8; i++ {
			if got, err := term.Scale(one(i, c[0]), c[1]); !bare(got) || err != api.ErrOver {
				t.Errorf("Scale(%v, %v) = %v, %d; want ErrOver", one(i, c[0]), c[1], got, err)
			}
		}
	}
}

func TestP2_2_ScaleInvalid(t *testing.T) {
	for _, a := range invalid() {
		for _, by := range append(invalidRats(), whole(0), whole(1), whole(most)) {
			if got, err := term.Scale(a, by); !bare(got) || err != api.ErrArg {
				t.Errorf("Scale(%v, %v) = %v, %d; want ErrArg", a, by, got, err)
			}
		}
	}
	for _, c := range valid() {
		for _, by := range invalidRats() {
			if got, err := term.Scale(c[0], by); !bare(got) || err != api.ErrArg {
				t.Errorf("Scale(%v, %v) = %v, %d; want ErrArg", c[0], by, got, err)
			}
		}
	}
}

func TestP2_2_Value(t *testing.T) {
	a := of(whole(3), r(1, 2), whole(0), whole(-1), whole(0))
	for _, c := range []struct {
		a    api.Term
		at   []api.Rat
		want api.Rat
	}{
		{a, nil, whole(3)},
		{a, []api.Rat{}, whole(3)},
		{a, []api.Rat{whole(2)}, whole(4)},
		{a, []api.Rat{whole(2), whole(9)}, whole(4)},
		{a, []api.Rat{whole(2), whole(9), r(1, 3)}, r(11, 3)},
		{a, []api.Rat{whole(2), whole(9), r(1, 3), whole(7), whole(7), whole(7), whole(7), whole(7)}, r(11, 3)},
		{a, append(wholes(8, 1), wholes(20, 5)...), r(5, 2)},
		{of(r(-1, 2)), nil, r(-1, 2)},
		{of(r(-1, 2)), wholes(8, most), r(-1, 2)},
		{of(whole(0), wholes(8, 1)...), []api.Rat{whole(1), whole(2), whole(3), whole(4), whole(5), whole(6), whole(7), whole(8)}, whole(36)},
		{of(whole(0), wholes(8, 1)...), wholes(9, 2), whole(16)},
		{of(whole(0), wholes(8, 1)...), wholes(7, 2), whole(14)},
		// What is beyond the eighth element does not matter, even if it is not valid.
		{a, append(wholes(8, 1), r(2, 2), api.Rat{}), r(5, 2)},
		{of(whole(0), wholes(8, 1)...), append(wholes(8, 2), r(1, 0)), whole(16)},
		// Products with 0 do not overflow.
		{of(whole(0), whole(most), whole(0)), []api.Rat{whole(0), whole(most)}, whole(0)},
		// Products and sums that just fit.
		{of(whole(-1), whole(1<<31)), []api.Rat{whole(1 << 31)}, whole(1<<62 - 1)},
		{of(whole(most-2), whole(1), whole(1)), []api.Rat{whole(1), whole(1)}, whole(most)},
		{of(whole(-most+2), whole(1), whole(1)), []api.Rat{whole(-1), whole(-1)}, whole(-most)},
		{of(whole(-most), whole(2)), []api.Rat{whole(1<<62 - 1)}, whole(-1)},
		{of(r(1, 1<<31), r(1, 1<<31)), []api.Rat{r(1, 1<<31)}, r(1<<31+1, 1<<62)},
	} {
		if got, err := term.Value(c.a, c.at); got != c.want || err != api.OK {
			t.Errorf("Value(%v, %v) = %v, %d; want %v", c.a, c.at, got, err, c.want)
		}
	}
}

func TestP2_2_ValueOver(t *testing.T) {
	for _, c := range []struct {
		a  api.Term
		at []api.Rat
	}{
		{of(whole(most), whole(1)), []api.Rat{whole(1)}},
		{of(whole(-most), whole(1)), []api.Rat{whole(-1)}},
		{of(whole(0), whole(1<<62)), []api.Rat{whole(2)}},
		{of(whole(0), whole(-1<<62)), []api.Rat{whole(2)}},
		{of(whole(0), r(1, most)), []api.Rat{r(1, 2)}},
		// The whole would fit, a product does not.
		{of(whole(-most), whole(1<<62)), []api.Rat{whole(2)}},
		{of(whole(0), whole(2), whole(-2)), []api.Rat{whole(1 << 62), whole(1 << 62)}},
		// The whole would fit, the sum on the way does not.
		{of(whole(most), whole(1), whole(1)), []api.Rat{whole(1), whole(-1)}},
		{of(whole(0), whole(1), whole(1), whole(1)), []api.Rat{whole(most), whole(1), whole(-2)}},
		{of(r(1, 3), r(1, most), r(-1, most)), []api.Rat{whole(1), whole(1)}},
		{of(whole(0), wholes(8, 1)...), []api.Rat{whole(0), whole(0), whole(0), whole(0), whole(0), whole(0), whole(most), whole(1)}},
	} {
		if got, err := term.Value(c.a, c.at); got != (api.Rat{}) || err != api.ErrOver {
			t.Errorf("Value(%v, %v) = %v, %d; want ErrOver", c.a, c.at, got, err)
		}
	}
}

// TestP2_2_ValueOrder: the products are added in order, from the first variable on and after K.
func TestP2_2_ValueOrder(t *testing.T) {
	a := of(whole(-1), whole(1), whole(1))
	at := []api.Rat{whole(most), whole(1)}
	if got, err := term.Value(a, at); got != whole(most) || err != api.OK {
		t.Errorf("Value(%v, %v) = %v, %d", a, at, got, err)
	}
	a, at = of(whole(0), whole(1), whole(1), whole(1)), []api.Rat{whole(most), whole(-1), whole(1)}
	if got, err := term.Value(a, at); got != whole(most) || err != api.OK {
		t.Errorf("Value(%v, %v) = %v, %d", a, at, got, err)
	}
	at = []api.Rat{whole(most), whole(1), whole(-1)}
	if got, err := term.Value(a, at); got != (api.Rat{}) || err != api.ErrOver {
		t.Errorf("Value(%v, %v) = %v, %d; want ErrOver", a, at, got, err)
	}
}

func TestP2_2_ValueInvalid(t *testing.T) {
	for _, a := range invalid() {
		for _, at := range [][]api.Rat{nil, {whole(1)}, wholes(8, most), {r(2, 2)}} {
			if got, err := term.Value(a, at); got != (api.Rat{}) || err != api.ErrArg {
				t.Errorf("Value(%v, %v) = %v, %d; want ErrArg", a, at, got, err)
			}
		}
	}
	for _, c := range valid() {
		for _, x := range invalidRats() {
			for i := range 8 {
				at := wholes(i+1, 0)
				at[i] = x
				if got, err := term.Value(c[0], at); got != (api.Rat{}) || err != api.ErrArg {
					t.Errorf("Value(%v, %v) = %v, %d; want ErrArg", c[0], at, got, err)
				}
			}
		}
	}
	// An invalid element comes ahead of what overflows before it.
	a := of(whole(most), whole(1))
	if _, err := term.Value(a, []api.Rat{whole(1), whole(1), r(2, 2)}); err != api.ErrArg {
		t.Errorf("Value: %d; want ErrArg", err)
	}
}

func TestP2_3_Same(t *testing.T) {
	for i, c := range valid() {
		for j, d := range valid() {
			if got, want := term.Same(c[0], d[0]), alike(c[1], d[1]); got != want {
				t.Errorf("Same of %d and %d = %v", i, j, got)
			}
		}
		if !term.Same(c[0], c[1]) || !term.Same(c[1], c[0]) {
			t.Errorf("Same: %v is not the same as its normal form %v", c[0], c[1])
		}
	}
	a := of(whole(3), r(1, 2), whole(-1))
	for _, b := range []api.Term{
		of(whole(3), r(1, 2)), of(whole(3), whole(0), r(1, 2), whole(-1)), of(whole(3), r(1, 2), whole(1)),
		of(whole(3), r(1, 3), whole(-1)), of(r(3, 2), r(1, 2), whole(-1)), of(whole(3), r(1, 2), whole(-1), whole(1)),
		of(whole(3), whole(-1), r(1, 2)), of(whole(3)),
	} {
		if term.Same(a, b) || term.Same(b, a) {
			t.Errorf("Same(%v, %v) = true", a, b)
		}
	}
}

func TestP2_3_SameInvalid(t *testing.T) {
	for _, a := range invalid() {
		if term.Same(a, a) {
			t.Errorf("Same(%v, itself) = true", a)
		}
		if b := of(whole(0)); term.Same(a, b) || term.Same(b, a) {
			t.Errorf("Same(%v, 0) = true", a)
		}
	}
}

func TestP2_3_Show(t *testing.T) {
	a := of(whole(3), r(1, 2), whole(0), whole(-1), whole(0))
	for _, c := range []struct {
		a     api.Term
		names []string
		want  string
	}{
		{of(whole(3), r(1, 2)), nil, "1/2*x0 + 3"},
		{of(whole(0)), nil, "0"},
		{of(r(-1, 2)), nil, "-1/2"},
		{of(whole(0), zeros(8)...), []string{"a", "b"}, "0"},
		{of(whole(4), zeros(8)...), []string{"a", "b"}, "4"},
		{of(whole(0), whole(1)), nil, "1*x0"},
		{of(whole(0), whole(0), whole(-1)), nil, "-1*x1"},
		{of(r(-5, 7), whole(0), whole(0), r(-2, 3)), nil, "-2/3*x2 + -5/7"},
		{a, nil, "1/2*x0 + -1*x2 + 3"},
		{a, []string{"k"}, "1/2*k + -1*x2 + 3"},
		{a, []string{"k", "l"}, "1/2*k + -1*x2 + 3"},
		{a, []string{"k", "l", "m"}, "1/2*k + -1*m + 3"},
		{a, []string{"k", "l", "m", "n", "o", "p", "q", "r", "s", "t"}, "1/2*k + -1*m + 3"},
		{a, []string{"", "", "a + b"}, "1/2* + -1*a + b + 3"},
		{of(whole(most), wholes(8, -most)...), nil, "-9223372036854775807*x0 + -9223372036854775807*x1 + -9223372036854775807*x2 + -9223372036854775807*x3 + -9223372036854775807*x4 + -9223372036854775807*x5 + -9223372036854775807*x6 + -9223372036854775807*x7 + 9223372036854775807"},
	} {
		if got := term.Show(c.a, c.names...); got != c.want {
			t.Errorf("Show(%v, %q) = %q; want %q", c.a, c.names, got, c.want)
		}
	}
	for _, a := range invalid() {
		if got := term.Show(a) + term.Show(a, "k", "l"); got != "??" {
			t.Errorf("Show(%v) = %q; want ? twice", a, got)
		}
	}
}

// guarded is a copy of a term whose list has spare capacity, and the memory behind it.
func guarded(a api.Term) (api.Term, []api.Rat) {
	memory := append(slices.Clone(a.C), whole(77), r(2, 2), whole(0))
	return api.Term{C: memory[:len(a.C)], K: a.K}, memory
}

// spoil overwrites a list of a result, its spare capacity too.
func spoil(c []api.Rat) {
	c = c[:cap(c)]
	for i := range c {
		c[i] = r(99, 98)
	}
}

func TestP2_3_Memory(t *testing.T) {
	var terms []api.Term
	for _, c := range valid() {
		terms = append(terms, c[0])
	}
	for _, first := range append(terms, invalid()...) {
		for _, second := range terms {
			a, memoryA := guarded(first)
			b, memoryB := guarded(second)
			at := append(wholes(8, 3), r(5, 6))
			beforeA, beforeB, beforeAt := slices.Clone(memoryA), slices.Clone(memoryB), slices.Clone(at)
			names := []string{"k", "l"}
			sum, _ := term.Add(a, b)
			scaled, _ := term.Scale(a, whole(1))
			own := term.Own(a)
			term.Value(a, at[:8])
			term.Same(a, b)
			term.Right(a)
			term.Show(a, names...)
			spoil(sum.C)
			spoil(scaled.C)
			spoil(own.C)
			if !slices.Equal(memoryA, beforeA) || !slices.Equal(memoryB, beforeB) || !slices.Equal(at, beforeAt) || !reflect.DeepEqual(names, []string{"k", "l"}) {
				t.Fatalf("arguments %v and %v were changed", first, second)
			}
		}
	}
}

// TestP2_3_Kept: what is done to arguments later does not change results.
func TestP2_3_Kept(t *testing.T) {
	a, memory := guarded(of(whole(3), r(1, 2), whole(2)))
	names := []string{"k", "l"}
	sum, _ := term.Add(a, of(whole(0)))
	other, _ := term.Add(of(whole(0)), a)
	scaled, _ := term.Scale(a, whole(1))
	own := term.Own(a)
	text := term.Show(a, names...)
	spoil(memory)
	names[0] = "z"
	for i, got := range []api.Term{sum, other, scaled, own} {
		if !alike(got, of(whole(3), r(1, 2), whole(2))) {
			t.Errorf("result %d became %v", i, got)
		}
	}
	if text != "1/2*k + 2*l + 3" || strings.Contains(term.Show(own), "z") {
		t.Errorf("text %q", text)
	}
}
