package rat_test

import (
	"testing"

	"ballcock/api"
	"ballcock/rat"
)

const (
	least = -1 << 63
	most  = 1<<63 - 1
)

func r(n, d int64) api.Rat { return api.Rat{N: n, D: d} }

// invalid holds fractions that are not valid, by each reason and by several.
func invalid() []api.Rat {
	return []api.Rat{
		{}, r(1, 0), r(-1, 0), r(0, -1), r(0, 2), r(0, most), r(2, 4), r(-2, 4), r(3, 3), r(1, -2), r(-1, -1),
		r(least, 1), r(least, 3), r(least, most), r(least, -1), r(least, 0), r(1, least), r(0, least), r(least, least),
		r(most, most), r(-most, most),
	}
}

// valid holds fractions that are valid, the greatest and the least among them.
func valid() []api.Rat {
	return []api.Rat{
		r(0, 1), r(1, 1), r(-1, 1), r(1, 2), r(-7, 3), r(most, 1), r(-most, 1), r(1, most), r(-1, most),
		r(most, most-1), r(-most+1, most), r(1<<62, 3), r(3, 1<<62),
	}
}

func TestP1_1_New(t *testing.T) {
	for _, c := range []struct {
		n, d int64
		want api.Rat
		err  api.Errno
	}{
		{1, 2, r(1, 2), 0},
		{6, 4, r(3, 2), 0},
		{-6, 4, r(-3, 2), 0},
		{6, -4, r(-3, 2), 0},
		{-6, -4, r(3, 2), 0},
		{12, 4, r(3, 1), 0},
		{0, 1, r(0, 1), 0},
		{0, 5, r(0, 1), 0},
		{0, -5, r(0, 1), 0},
		{0, least, r(0, 1), 0},
		{most, 1, r(most, 1), 0},
		{most, -1, r(-most, 1), 0},
		{-most, 1, r(-most, 1), 0},
		{1, most, r(1, most), 0},
		{1, -most, r(-1, most), 0},
		{most, most, r(1, 1), 0},
		{most, most - 1, r(most, most-1), 0},
		{least, 2, r(-1<<62, 1), 0},
		{least, -2, r(1<<62, 1), 0},
		{least, 6, r(-1<<62, 3), 0},
		{2, least, r(-1, 1<<62), 0},
		{-2, least, r(1, 1<<62), 0},
		{least, least, r(1, 1), 0},
		{least, 1, r(0, 0), api.ErrOver},
		{least, -1, r(0, 0), api.ErrOver},
		{least, 3, r(0, 0), api.ErrOver},
		{least, most, r(0, 0), api.ErrOver},
		{1, least, r(0, 0), api.ErrOver},
		{-1, least, r(0, 0), api.ErrOver},
		{most, least, r(0, 0), api.ErrOver},
		{0, 0, r(0, 0), api.ErrArg},
		{1, 0, r(0, 0), api.ErrArg},
		{least, 0, r(0, 0), api.ErrArg},
	} {
		if got, err := rat.New(c.n, c.d); got != c.want || err != c.err {
			t.Errorf("New(%d, %d) = %v, %d; want %v, %d", c.n, c.d, got, err, c.want, c.err)
		}
	}
}

func TestP1_1_Right(t *testing.T) {
	for _, a := range valid() {
		if !rat.Right(a) {
			t.Errorf("Right(%v) = false", a)
		}
	}
	for _, a := range invalid() {
		if rat.Right(a) {
			t.Errorf("Right(%v) = true", a)
		}
	}
}

type binary func(a, b api.Rat) (api.Rat, api.Errno)

type sample struct {
	a, b, want api.Rat
	err        api.Errno
}

func checkAll(t *testing.T, name string, do binary, l []sample) {
	t.Helper()
	for _, c := range l {
		if got, err := do(c.a, c.b); got != c.want || err != c.err {
			t.Errorf("%s(%v, %v) = %v, %d; want %v, %d", name, c.a, c.b, got, err, c.want, c.err)
		}
	}
}

func TestP1_2_Add(t *testing.T) {
	checkAll(t, "Add", rat.Add, []sample{
		{r(1, 2), r(1, 3), r(5, 6), 0},
		{r(1, 6), r(1, 3), r(1, 2), 0},
		{r(1, 2), r(1, 2), r(1, 1), 0},
		{r(1, 2), r(-1, 2), r(0, 1), 0},
		{r(0, 1), r(0, 1), r(0, 1), 0},
		{r(-1, 4), r(-1, 6), r(-5, 12), 0},
		{r(1, 4), r(-5, 6), r(-7, 12), 0},
		{r(0, 1), r(-7, 3), r(-7, 3), 0},
		// Just fits, just overflows.
		{r(most-1, 1), r(1, 1), r(most, 1), 0},
		{r(most, 1), r(1, 1), r(0, 0), api.ErrOver},
		{r(1-most, 1), r(-1, 1), r(-most, 1), 0},
		{r(-most, 1), r(-1, 1), r(0, 0), api.ErrOver},
		{r(-1<<62, 1), r(-1<<62, 1), r(0, 0), api.ErrOver},
		{r(most, 1), r(most, 1), r(0, 0), api.ErrOver},
		{r(1, 1<<31), r(1, 1<<31-1), r(1<<32-1, 1<<62-1<<31), 0},
		{r(1, 1<<61), r(1, 3), r(1<<61+3, 3<<61), 0},
		{r(1, 1<<62), r(1, 3), r(0, 0), api.ErrOver},
		{r(1, most), r(1, most-1), r(0, 0), api.ErrOver},
		{r(most, 2), r(1, 3), r(0, 0), api.ErrOver},
		// Too large on the way only.
		{r(most, 2), r(1, 2), r(1<<62, 1), 0},
		{r(most, 2), r(most, 2), r(most, 1), 0},
		{r(-most, 2), r(-most, 2), r(-most, 1), 0},
		{r(most, most-1), r(-most, most-1), r(0, 1), 0},
		{r(1, 3<<60), r(1, 3<<61), r(1, 1<<61), 0},
		{r(1, most), r(-1, most), r(0, 1), 0},
		{r(1<<62+1, 192), r(1<<62+105, 320), r(1<<59+5, 15), 0},
		{r(-1<<62-1, 192), r(-1<<62-105, 320), r(-1<<59-5, 15), 0},
	})
}

func TestP1_2_Sub(t *testing.T) {
	checkAll(t, "Sub", rat.Sub, []sample{
		{r(1, 2), r(2, 3), r(-1, 6), 0},
		{r(2, 3), r(1, 2), r(1, 6), 0},
		{r(5, 6), r(1, 3), r(1, 2), 0},
		{r(1, 3), r(1, 3), r(0, 1), 0},
		{r(0, 1), r(most, 1), r(-most, 1), 0},
		// Just fits, just overflows.
		{r(1-most, 1), r(1, 1), r(-most, 1), 0},
		{r(-most, 1), r(1, 1), r(0, 0), api.ErrOver},
		{r(-1<<62, 1), r(1<<62, 1), r(0, 0), api.ErrOver},
		{r(most-1, 1), r(-1, 1), r(most, 1), 0},
		{r(most, 1), r(-1, 1), r(0, 0), api.ErrOver},
		{r(1, 1<<62), r(1, 3), r(0, 0), api.ErrOver},
		{r(most, most-1), r(most-1, most-2), r(0, 0), api.ErrOver},
		// Too large on the way only.
		{r(most, 1), r(most, 1), r(0, 1), 0},
		{r(most, 2), r(-most, 2), r(most, 1), 0},
		{r(1, 3<<60), r(-1, 3<<61), r(1, 1<<61), 0},
		{r(1<<62+1, 192), r(-1<<62-105, 320), r(1<<59+5, 15), 0},
	})
}

func TestP1_2_Mul(t *testing.T) {
	checkAll(t, "Mul", rat.Mul, []sample{
		{r(2, 3), r(3, 4), r(1, 2), 0},
		{r(2, 3), r(-3, 4), r(-1, 2), 0},
		{r(-2, 3), r(-3, 4), r(1, 2), 0},
		{r(0, 1), r(-5, 7), r(0, 1), 0},
		{r(-5, 7), r(0, 1), r(0, 1), 0},
		{r(0, 1), r(1, most), r(0, 1), 0},
		// Just fits, just overflows.
		{r(1<<61, 1), r(2, 1), r(1<<62, 1), 0},
		{r(1<<62, 1), r(2, 1), r(0, 0), api.ErrOver},
		{r(-1<<62, 1), r(2, 1), r(0, 0), api.ErrOver},
		{r(most, 1), r(-1, 1), r(-most, 1), 0},
		{r(most/7, 1), r(7, 1), r(most, 1), 0},
		{r(most/7+1, 1), r(7, 1), r(0, 0), api.ErrOver},
		{r(1, most/7), r(1, 7), r(1, most), 0},
		{r(1, 1<<61), r(1, 2), r(1, 1<<62), 0},
		{r(1, 1<<62), r(1, 2), r(0, 0), api.ErrOver},
		{r(1<<32, 1), r(1<<32, 1), r(0, 0), api.ErrOver},
		{r(1, 1<<32), r(1, 1<<32), r(0, 0), api.ErrOver},
		{r(most, 1), r(most, 1), r(0, 0), api.ErrOver},
		// Too large on the way only.
		{r(1<<62, 3), r(3, 1<<61), r(2, 1), 0},
		{r(most, most-1), r(most-1, most), r(1, 1), 0},
		{r(most, most-1), r(1-most, most), r(-1, 1), 0},
		{r(-most, 1<<62), r(-1<<62, most), r(1, 1), 0},
	})
}

func TestP1_2_Div(t *testing.T) {
	checkAll(t, "Div", rat.Div, []sample{
		{r(1, 2), r(3, 4), r(2, 3), 0},
		{r(1, 2), r(-3, 4), r(-2, 3), 0},
		{r(-1, 2), r(-3, 4), r(2, 3), 0},
		{r(0, 1), r(-2, 1), r(0, 1), 0},
		{r(1, 1), r(-most, 1), r(-1, most), 0},
		{r(1, 1), r(-1, most), r(-most, 1), 0},
		// Just fits, just overflows.
		{r(1<<61, 1), r(1, 2), r(1<<62, 1), 0},
		{r(1<<62, 1), r(1, 2), r(0, 0), api.ErrOver},
		{r(1<<62, 1), r(-1, 2), r(0, 0), api.ErrOver},
		{r(1, 1<<62), r(2, 1), r(0, 0), api.ErrOver},
		{r(1, 1<<61), r(2, 1), r(1, 1<<62), 0},
		{r(1, most), r(most, 1), r(0, 0), api.ErrOver},
		{r(most, 1), r(1, most), r(0, 0), api.ErrOver},
		// Too large on the way only.
		{r(most, most-1), r(most, most-1), r(1, 1), 0},
		{r(1<<62, 3), r(1<<61, 3), r(2, 1), 0},
		{r(-most, 2), r(most, 2), r(-1, 1), 0},
		// Division by 0, also of an argument that would overflow anyway.
		{r(1, 2), r(0, 1), r(0, 0), api.ErrArg},
		{r(0, 1), r(0, 1), r(0, 0), api.ErrArg},
		{r(most, 1), r(0, 1), r(0, 0), api.ErrArg},
	})
}

func TestP1_2_InvalidFractions(t *testing.T) {
	for name, do := range map[string]binary{"Add": rat.Add, "Sub": rat.Sub, "Mul": rat.Mul, "Div": rat.Div} {
		var l []sample
		for _, bad := range invalid() {
			for _, good := range valid() {
				l = append(l, sample{bad, good, r(0, 0), api.ErrArg}, sample{good, bad, r(0, 0), api.ErrArg})
			}
			for _, other := range invalid() {
				l = append(l, sample{bad, other, r(0, 0), api.ErrArg})
			}
		}
		checkAll(t, name, do, l)
	}
}

func TestP1_3_Compare(t *testing.T) {
	rising := []api.Rat{
		r(-most, 1), r(1-most, 1), r(-most, 2), r(-7, 3), r(-2, 1), r(-most, most-1), r(-1, 1), r(1-most, most),
		r(-2, 3), r(-1, 2), r(-1, 3), r(-1, most-1), r(-1, most), r(0, 1), r(1, most), r(1, most-1),
		r(1, 3), r(1, 2), r(2, 3), r(most-2, most-1), r(most-1, most), r(1, 1), r(most, most-1),
		r(most-1, most-2), r(2, 1), r(7, 3), r(most, 2), r(most-1, 1), r(most, 1),
	}
	for i, a := range rising {
		for j, b := range rising {
			want := 0
			if i < j {
				want = -1
			} else if i > j {
				want = 1
			}
			if got := rat.Compare(a, b); got != want {
				t.Errorf("Compare(%v, %v) = %d; want %d", a, b, got, want)
			}
		}
	}
}

func TestP1_3_CompareInvalidFractions(t *testing.T) {
	for _, bad := range invalid() {
		for _, other := range append(invalid(), valid()...) {
			if got := rat.Compare(bad, other); got != 0 {
				t.Errorf("Compare(%v, %v) = %d; want 0", bad, other, got)
			}
			if got := rat.Compare(other, bad); got != 0 {
				t.Errorf("Compare(%v, %v) = %d; want 0", other, bad, got)
			}
		}
	}
}

func TestP1_3_Show(t *testing.T) {
	for _, c := range []struct {
		a    api.Rat
		want string
	}{
		{r(0, 1), "0"},
		{r(4, 1), "4"},
		{r(-4, 1), "-4"},
		{r(1, 2), "1/2"},
		{r(-7, 3), "-7/3"},
		{r(10, 11), "10/11"},
		{r(most, 1), "9223372036854775807"},
		{r(-most, 1), "-9223372036854775807"},
		{r(-most, most-1), "-9223372036854775807/9223372036854775806"},
		{r(1, most), "1/9223372036854775807"},
	} {
		if got := rat.Show(c.a); got != c.want {
			t.Errorf("Show(%v) = %q; want %q", c.a, got, c.want)
		}
	}
	for _, a := range invalid() {
		if got := rat.Show(a); got != "?" {
			t.Errorf("Show(%v) = %q; want \"?\"", a, got)
		}
	}
}
