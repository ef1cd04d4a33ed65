package term_test

import (
	"math/big"
	"math/rand"
	"testing"

	"ballcock/api"
	"ballcock/term"
)

// The tests here hold the package against math/big, whose numbers never overflow.

// exact is a fraction without bounds as one of api; false if it overflows.
func exact(q *big.Rat) (api.Rat, bool) {
	n, d := q.Num(), q.Denom()
	if !n.IsInt64() || !d.IsInt64() || n.Int64() == least {
		return api.Rat{}, false
	}
	return r(n.Int64(), d.Int64()), true
}

// large is a fraction as a number without bounds.
func large(a api.Rat) *big.Rat { return big.NewRat(a.N, a.D) }

// some is a valid fraction, most often small, now and then at the limits.
func some(dice *rand.Rand) api.Rat {
	n, d := dice.Int63n(7)-3, dice.Int63n(3)+1
	switch dice.Intn(12) {
	case 0:
		n = most - dice.Int63n(3)
	case 1:
		n = -most + dice.Int63n(3)
	case 2:
		d = most - dice.Int63n(3)
	case 3:
		n, d = 1<<uint(dice.Intn(63)), 1<<uint(dice.Intn(63))
	}
	a, _ := exact(big.NewRat(n, d))
	return a
}

// someTerm is a valid term.
func someTerm(dice *rand.Rand) api.Term {
	a := of(some(dice))
	for range dice.Intn(9) {
		a.C = append(a.C, some(dice))
	}
	return a
}

// part is the coefficient of variable i; 0 if there is none.
func part(a api.Term, i int) *big.Rat {
	if i < len(a.C) {
		return large(a.C[i])
	}
	return new(big.Rat)
}

// compose is the term in normal form of a constant and eight coefficients.
func compose(k *big.Rat, coefficient func(i int) *big.Rat) (api.Term, api.Errno) {
	var a api.Term
	var ok bool
	if a.K, ok = exact(k); !ok {
		return api.Term{}, api.ErrOver
	}
	used := 0
	for i := range 8 {
		c, ok := exact(coefficient(i))
		if !ok {
			return api.Term{}, api.ErrOver
		}
		a.C = append(a.C, c)
		if c.N != 0 {
			used = i + 1
		}
	}
	a.C = a.C[:used]
	return a, api.OK
}

// value is what Value has to return for valid arguments.
func value(a api.Term, at []api.Rat) (api.Rat, api.Errno) {
	sum := large(a.K)
	for i, c := range a.C {
		product := new(big.Rat)
		if i < len(at) {
			product.Mul(large(c), large(at[i]))
		}
		sum.Add(sum, product)
		_, fits := exact(product)
		if _, ok := exact(sum); !ok || !fits {
			return api.Rat{}, api.ErrOver
		}
	}
	got, _ := exact(sum)
	return got, api.OK
}

func TestP2_2_AgainstBig(t *testing.T) {
	dice := rand.New(rand.NewSource(2))
	count := map[string]int{}
	for range 60000 {
		a, b, by := someTerm(dice), someTerm(dice), some(dice)
		want, wantErr := compose(new(big.Rat).Add(large(a.K), large(b.K)), func(i int) *big.Rat { return new(big.Rat).Add(part(a, i), part(b, i)) })
		got, err := term.Add(a, b)
		if !alike(got, want) || err != wantErr {
			t.Fatalf("Add(%v, %v) = %v, %d; want %v, %d", a, b, got, err, want, wantErr)
		}
		count["Add"+err.Error()]++
		want, wantErr = compose(new(big.Rat).Mul(large(a.K), large(by)), func(i int) *big.Rat { return new(big.Rat).Mul(part(a, i), large(by)) })
		got, err = term.Scale(a, by)
		if !alike(got, want) || err != wantErr {
			t.Fatalf("Scale(%v, %v) = %v, %d; want %v, %d", a, by, got, err, want, wantErr)
		}
		count["Scale"+err.Error()]++
		at := append([]api.Rat(nil), someTerm(dice).C...)
		number, wantErr := value(a, at)
		if got, err := term.Value(a, at); got != number || err != wantErr {
			t.Fatalf("Value(%v, %v) = %v, %d; want %v, %d", a, at, got, err, number, wantErr)
		}
		count["Value"+wantErr.Error()]++
	}
	// Both endings have to be common, or the comparison says little.
	for _, name := range []string{"Add", "Scale", "Value"} {
		for _, err := range []api.Errno{api.OK, api.ErrOver} {
			if count[name+err.Error()] < 2000 {
				t.Errorf("%s ended in error %d only %d times", name, err, count[name+err.Error()])
			}
		}
	}
}
