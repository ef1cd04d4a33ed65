package rat_test

import (
	"math/big"
	"testing"

	"ballcock/api"
	"ballcock/rat"
)

// The tests here hold the package against math/big, whose numbers never overflow.

// exact is what a call has to return for the quotient of two big numbers.
func exact(q *big.Rat) (api.Rat, api.Errno) {
	n, d := q.Num(), q.Denom()
	if !n.IsInt64() || !d.IsInt64() || n.Int64() == least {
		return api.Rat{}, api.ErrOver
	}
	return r(n.Int64(), d.Int64()), api.OK
}

// edges holds numbers at which something may change, with both signs.
func edges() []int64 {
	l := []int64{0, least, least + 1, least + 2}
	for _, n := range []int64{1, 2, 3, 4, 6, 7, 12, 105, 1<<31 - 1, 1 << 31, 1 << 32, 3037000499, 3037000500, 3 << 60, 3 << 61, 1<<61 - 1, 1 << 61, 1<<62 - 1, 1 << 62, most / 7, most - 2, most - 1, most} {
		l = append(l, n, -n)
	}
	return l
}

func right(a api.Rat) bool {
	g := new(big.Int).GCD(nil, nil, new(big.Int).Abs(big.NewInt(a.N)), new(big.Int).Abs(big.NewInt(a.D)))
	return a.D > 0 && a.N != least && g.Cmp(big.NewInt(1)) == 0
}

func TestP1_1_AgainstBig(t *testing.T) {
	for _, n := range edges() {
		for _, d := range edges() {
			want, wantErr := api.Rat{}, api.ErrArg
			if d != 0 {
				want, wantErr = exact(new(big.Rat).SetFrac(big.NewInt(n), big.NewInt(d)))
			}
			if got, err := rat.New(n, d); got != want || err != wantErr {
				t.Errorf("New(%d, %d) = %v, %d; want %v, %d", n, d, got, err, want, wantErr)
			}
			if a := r(n, d); rat.Right(a) != right(a) {
				t.Errorf("Right(%v) = %v", a, !right(a))
			}
		}
	}
}

// checkPair checks all calls that take the two valid fractions.
func checkPair(t *testing.T, a, b api.Rat) {
	t.Helper()
	x, y := big.NewRat(a.N, a.D), big.NewRat(b.N, b.D)
	for _, c := range []struct {
		name string
		do   binary
		big  func(x, y *big.Rat) *big.Rat
	}{
		{"Add", rat.Add, new(big.Rat).Add},
		{"Sub", rat.Sub, new(big.Rat).Sub},
		{"Mul", rat.Mul, new(big.Rat).Mul},
		{"Div", rat.Div, new(big.Rat).Quo},
	} {
		want, wantErr := api.Rat{}, api.ErrArg
		if c.name != "Div" || b.N != 0 {
			want, wantErr = exact(c.big(x, y))
		}
		if got, err := c.do(a, b); got != want || err != wantErr {
			t.Errorf("%s(%v, %v) = %v, %d; want %v, %d", c.name, a, b, got, err, want, wantErr)
		}
	}
	if got, want := rat.Compare(a, b), x.Cmp(y); got != want {
		t.Errorf("Compare(%v, %v) = %d; want %d", a, b, got, want)
	}
}

func TestP1_2_P1_3_EdgesAgainstBig(t *testing.T) {
	var l []api.Rat
	for _, n := range edges() {
		for _, d := range []int64{1, 2, 3, 12, 105, 1 << 31, 3037000500, 3 << 61, 1 << 62, most / 7, most - 1, most} {
			if a := r(n, d); right(a) {
				l = append(l, a)
			}
		}
	}
	for _, a := range l {
		for _, b := range l {
			checkPair(t, a, b)
		}
	}
}

// sequence makes a list of numbers that is the same in each run and looks random.
type sequence uint64

func (s *sequence) next() uint64 {
	*s ^= *s << 13
	*s ^= *s >> 7
	*s ^= *s << 17
	return uint64(*s)
}

// number is one of at most the given number of bits, and above 0.
func (s *sequence) number(bits uint64) int64 {
	return int64(s.next()>>(64-bits)) | 1<<(s.next()%bits)
}

// pair is two fractions with denominators of a common divisor, so that sums
// often reduce and often end just beside the limits.
func (s *sequence) pair(t *testing.T) (api.Rat, api.Rat) {
	common := 1 + s.next()%50
	shared := s.number(common)
	var l [2]api.Rat
	for i := range l {
		n, d := s.number(1+s.next()%63), shared
		if common < 62 {
			d *= s.number(1 + s.next()%(62-common))
		}
		if s.next()%2 == 0 {
			n = -n
		}
		a, err := rat.New(n, d)
		if err != api.OK || !right(a) {
			t.Fatalf("New(%d, %d) = %v, %d", n, d, a, err)
		}
		l[i] = a
	}
	return l[0], l[1]
}

func TestP1_2_P1_3_SequenceAgainstBig(t *testing.T) {
	s := sequence(20)
	for range 100000 {
		a, b := s.pair(t)
		checkPair(t, a, b)
		if sum, err := rat.Add(a, b); err == api.OK {
			checkPair(t, sum, b)
		}
	}
}
