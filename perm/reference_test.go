package perm_test

import (
	"fmt"
	"math/big"
	"math/rand"
	"strings"
	"testing"

	"ballcock/api"
	"ballcock/perm"
)

// The tests here hold random calls against the chapter, with its table as it is written there, sets as lists of states, and
// numbers that never overflow.

// table is that of the chapter: the kind of a permission, and the parts with the rests that they leave.
const table = `| unique | full (pure), share (share), imm (imm), pure (full) |
| full | full (pure), pure (full) |
| share | share (share), pure (share) |
| imm | imm (imm) |
| pure | pure (pure) |`

// kindNamed is the number of a word; that of no word is none of the five.
func kindNamed(w string) int {
	for kind := range 5 {
		if word(kind) == w {
			return kind
		}
	}
	return 99
}

// tableRest is the kind of a rest by the table; false: it has none.
func tableRest(from, part int) (int, bool) {
	for line := range strings.SplitSeq(table, "\n") {
		cells := strings.Split(line, "|")
		if strings.TrimSpace(cells[1]) != word(from) {
			continue
		}
		for division := range strings.SplitSeq(cells[2], ",") {
			words := strings.Fields(division)
			if words[0] == word(part) {
				return kindNamed(strings.Trim(words[1], "()")), true
			}
		}
	}
	return 0, false
}

// exact is a fraction as a number that never overflows; false: it is not valid.
func exact(a api.Rat) (*big.Rat, bool) {
	if a.D <= 0 || a.N == least {
		return nil, false
	}
	q := big.NewRat(a.N, a.D)
	return q, q.Num().Int64() == a.N && q.Denom().Int64() == a.D
}

// fitted is a number as a fraction; false: it overflows.
func fitted(q *big.Rat) (api.Rat, bool) {
	if !q.Num().IsInt64() || !q.Denom().IsInt64() || q.Num().Int64() == least {
		return api.Rat{}, false
	}
	return r(q.Num().Int64(), q.Denom().Int64()), true
}

// wantSplit is what the chapter says of a split.
func wantSplit(p api.Perm, kind int, by api.Rat, in uint32) (rest, part api.Perm, err api.Errno) {
	amount, okAmount := exact(by)
	f, okF := exact(p.F)
	restKind, okKind := tableRest(p.Kind, kind)
	if !okAmount || amount.Sign() <= 0 || amount.Cmp(big.NewRat(1, 1)) >= 0 || !okF || !okKind {
		return api.Perm{}, api.Perm{}, api.ErrArg
	}
	set := p.In
	needed := word(p.Kind) == "unique" && word(kind) != "imm"
	if needed {
		set = in
	}
	if needed && in == 0 || !needed && in != 0 {
		return api.Perm{}, api.Perm{}, api.ErrArg
	}
	partF, okPart := fitted(new(big.Rat).Mul(amount, f))
	restF, okRest := fitted(new(big.Rat).Mul(new(big.Rat).Sub(big.NewRat(1, 1), amount), f))
	if !okPart || !okRest {
		return api.Perm{}, api.Perm{}, api.ErrOver
	}
	return of(restKind, restF, p.Root, set), of(kind, partF, p.Root, set), api.OK
}

// wantLend is what the chapter says of a loan; the zero Perm as rest means that nothing is left.
func wantLend(p api.Perm, c api.Contract) (rest, lent api.Perm, err api.Errno) {
	if !c.Handle || word(c.Kind) == "unique" && word(p.Kind) != "unique" {
		return api.Perm{}, api.Perm{}, api.ErrArg
	}
	if word(c.Kind) == "unique" {
		return api.Perm{}, p, api.OK
	}
	given := uint32(0)
	if word(p.Kind) == "unique" && word(c.Kind) != "imm" {
		given = c.In
	}
	rest, lent, err = wantSplit(p, c.Kind, r(1, 2), given)
	if err != api.OK {
		return api.Perm{}, api.Perm{}, err
	}
	if from := word(p.Kind); from == "full" || from == "share" || from == "pure" {
		ok := true
		switch word(c.Kind) {
		case "share":
			ok = subset(p.In, c.In) && subset(c.In, p.In)
		case "pure":
			ok = subset(p.In, c.In)
		case "full":
			ok = subset(c.In, p.In)
		}
		if !ok {
			return api.Perm{}, api.Perm{}, api.ErrArg
		}
	}
	if word(c.Kind) != "imm" {
		lent.In = c.In
	}
	return rest, lent, api.OK
}

// chooser makes random arguments.
type chooser struct {
	*rand.Rand
}

func pick[T any](c chooser, l ...T) T { return l[c.Intn(len(l))] }

// fraction is one that is often right, sometimes far or below 0, and seldom not valid.
func (c chooser) fraction() api.Rat {
	switch c.Intn(12) {
	case 0:
		return pick(c, wrongFractions()...)
	case 1:
		return pick(c, r(1, 1<<61), r(1, 1<<62), r(1, most), r(most, 2), r(most-1, most), r(-1<<62, 1), r(1, 3074457345618258602), r(1, 3074457345618258604))
	case 2:
		return pick(c, r(0, 1), r(-1, 2), r(5, 2), r(3, 1), r(-1, 1))
	}
	d := 1 + c.Int63n(12)
	a, _ := fitted(big.NewRat(1+c.Int63n(d), d))
	return a
}

func (c chooser) kind() int {
	if c.Intn(20) == 0 {
		return pick(c, noKinds()...)
	}
	return c.Intn(5)
}

func (c chooser) set() uint32 {
	if c.Intn(20) == 0 {
		return c.Uint32()
	}
	return uint32(c.Intn(8))
}

func (c chooser) permission() api.Perm {
	return of(c.kind(), c.fraction(), pick(c, -1, -1, 0, 1, 2, -2), c.set())
}

func (c chooser) contract() api.Contract {
	return api.Contract{Name: "x", Handle: c.Intn(20) > 0, Proto: "File", Kind: c.kind(), Least: c.fraction(), At: c.set(), To: c.set(), In: c.set()}
}

// tooFew tells which of the errors came less often than they have to in a test of some worth.
func tooFew(counts map[api.Errno]int) string {
	for _, err := range []api.Errno{api.OK, api.ErrArg, api.ErrOver} {
		if counts[err] < 100 {
			return fmt.Sprint(counts)
		}
	}
	return ""
}

func TestP15_1_SplitReference(t *testing.T) {
	c := chooser{rand.New(rand.NewSource(151))}
	counts := map[api.Errno]int{}
	for range 60000 {
		p, kind, by, in := c.permission(), c.kind(), c.fraction(), c.set()*uint32(c.Intn(2))
		rest, part, err := wantSplit(p, kind, by, in)
		counts[err]++
		if err == api.OK {
			splits(t, p, kind, by, in, rest, part)
		} else {
			splitFails(t, p, kind, by, in, err)
		}
	}
	if few := tooFew(counts); few != "" {
		t.Error(few)
	}
}

func TestP15_2_LendReference(t *testing.T) {
	c := chooser{rand.New(rand.NewSource(152))}
	counts := map[api.Errno]int{}
	for range 60000 {
		p, contract := c.permission(), c.contract()
		rest, lent, err := wantLend(p, contract)
		counts[err]++
		if err == api.OK {
			lends(t, p, contract, rest, lent)
		} else {
			lendFails(t, p, contract, err)
		}
	}
	if few := tooFew(counts); few != "" {
		t.Error(few)
	}
}

// atLeast tells whether f times each possible amount is at least low, for small numbers. It is linear in the amount, so that
// the ends of the amounts tell: 1, and the least one, or 0 as the limit of those above it.
func atLeast(f, low *big.Rat, root int, amount *big.Rat) bool {
	one := big.NewRat(1, 1)
	if root == -1 {
		return f.Cmp(low) >= 0
	}
	if amount.Cmp(one) > 0 {
		return true
	}
	bottom := new(big.Rat)
	if amount.Sign() > 0 {
		bottom = amount
	}
	return f.Cmp(low) >= 0 && new(big.Rat).Mul(f, bottom).Cmp(low) >= 0
}

func TestP15_3_EnoughReference(t *testing.T) {
	c := chooser{rand.New(rand.NewSource(153))}
	number := func() *big.Rat { return big.NewRat(c.Int63n(14)-2, 1+c.Int63n(12)) }
	counts := map[bool]int{}
	for range 30000 {
		f, low, amount, root := number(), number(), number(), pick(c, -1, 0, 1, 7, -2)
		want := api.Unsat
		if atLeast(f, low, root, amount) {
			want = api.Sat
		}
		counts[want == api.Sat]++
		ratF, _ := fitted(f)
		ratLow, _ := fitted(low)
		ratAmount, _ := fitted(amount)
		p := of(c.kind(), ratF, root, c.set())
		if got := perm.Enough(p, ratLow, ratAmount); got != want {
			t.Errorf("Enough(%s, %v, %v) = %d; want %d", text(p), ratLow, ratAmount, got, want)
		}
	}
	if counts[true] < 1000 || counts[false] < 1000 {
		t.Error(counts)
	}
}

// TestP15_1_Whole splits at random again and again: the fractions of all parts make up the whole, and each kind stands beside
// those only that it may stand beside.
func TestP15_1_Whole(t *testing.T) {
	c := chooser{rand.New(rand.NewSource(154))}
	for range 3000 {
		holders := []api.Perm{perm.Own()}
		for range 12 {
			i := c.Intn(len(holders))
			rest, part, err := perm.Split(holders[i], c.kind(), pick(c, r(1, 2), r(1, 3), r(3, 4), r(2, 5)), uint32(c.Intn(2)*3))
			if err == api.OK {
				holders[i] = rest
				holders = append(holders, part)
			}
		}
		sum, count := new(big.Rat), map[int]int{}
		for _, p := range holders {
			f, _ := exact(p.F)
			sum.Add(sum, f)
			count[p.Kind]++
		}
		if sum.Cmp(big.NewRat(1, 1)) != 0 {
			t.Fatalf("the sum of %v is %v", holders, sum)
		}
		alone := len(holders) == 1
		if !alone && count[api.Unique] > 0 || count[api.Full] > 1 || count[api.Full] > 0 && count[api.Share] > 0 || count[api.Imm] > 0 && count[api.Imm] < len(holders) {
			t.Fatalf("%v stand beside each other", holders)
		}
	}
}
