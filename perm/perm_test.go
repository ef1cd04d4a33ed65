package perm_test

import (
	"fmt"
	"math"
	"testing"

	"ballcock/api"
	"ballcock/perm"
	"ballcock/rat"
)

const (
	least = math.MinInt64
	most  = math.MaxInt64
)

var kinds = []int{api.Unique, api.Full, api.Share, api.Imm, api.Pure}

// noKinds are kinds that are none of the five.
func noKinds() []int {
	return []int{api.None, -2, 5, 6, 8, 255, 256, 260, 1 << 32, 1<<32 + 3, math.MaxInt, math.MinInt, math.MinInt + 1}
}

// roots are Roots, that of the whole handle among them, and some that no parameter has.
func roots() []int {
	return []int{-1, 0, 1, 2, 7, 12, -2, -3, math.MaxInt, math.MinInt}
}

// wrongFractions are fractions that are not valid, by each reason.
func wrongFractions() []api.Rat {
	return []api.Rat{
		{}, r(1, 0), r(-1, 0), r(0, 2), r(0, -1), r(2, 4), r(-2, 4), r(3, 3), r(1, -2), r(-1, -2), r(-1, -1), r(1, least), r(0, least),
		r(least, 1), r(least, 3), r(least, -1), r(least, least), r(least, 0), r(most, most), r(2, most-1),
	}
}

func r(n, d int64) api.Rat { return api.Rat{N: n, D: d} }

func of(kind int, f api.Rat, root int, in uint32) api.Perm {
	return api.Perm{Kind: kind, F: f, Root: root, In: in}
}

// word is the word of a kind, or its number.
func word(kind int) string {
	if kind < 0 || kind > 4 {
		return fmt.Sprint("kind ", kind)
	}
	return []string{"unique", "full", "share", "imm", "pure"}[kind]
}

// text tells a permission in a message, without Show.
func text(p api.Perm) string {
	return fmt.Sprintf("%s %d/%d of %d in %b", word(p.Kind), p.F.N, p.F.D, p.Root, p.In)
}

func TestP15_1_Own(t *testing.T) {
	if got, want := perm.Own(), of(0, r(1, 1), -1, 0); got != want {
		t.Errorf("Own() = %s; want %s", text(got), text(want))
	}
}

func TestP15_1_Param(t *testing.T) {
	for _, root := range roots() {
		for _, in := range []uint32{0, 1, 3, 6, 1 << 15, math.MaxUint32} {
			for _, c := range []struct {
				kind int
				want api.Perm
			}{
				{api.Unique, perm.Own()},
				{api.Full, of(1, r(1, 1), root, in)},
				{api.Share, of(2, r(1, 1), root, in)},
				{api.Imm, of(3, r(1, 1), root, 0)},
				{api.Pure, of(4, r(1, 1), root, in)},
			} {
				// What is asked at the beginning and left at the end does not count.
				for _, l := range []api.Rat{r(0, 1), r(1, 2), r(1, 1), {}, r(least, 0)} {
					contract := api.Contract{Name: "x", Handle: true, Proto: "File", Kind: c.kind, Least: l, At: 5, To: 4, In: in}
					if got := perm.Param(contract, root); got != c.want {
						t.Errorf("Param(%s in %b, %d) = %s; want %s", word(c.kind), in, root, text(got), text(c.want))
					}
				}
			}
		}
	}
}

// TestP15_1_ParamOthers has contracts that are not right, and that of a number: they are read by the same rule.
func TestP15_1_ParamOthers(t *testing.T) {
	if got := perm.Param(api.Contract{Name: "n"}, 3); got != perm.Own() {
		t.Errorf("Param of a number = %s", text(got))
	}
	for _, kind := range noKinds() {
		if got, want := perm.Param(api.Contract{Handle: true, Kind: kind, In: 6}, 3), of(kind, r(1, 1), 3, 6); got != want {
			t.Errorf("Param of %s = %s; want %s", word(kind), text(got), text(want))
		}
	}
}

func TestP15_3_Show(t *testing.T) {
	for _, c := range []struct {
		f    api.Rat
		want string
	}{
		{r(1, 1), "1"}, {r(0, 1), "0"}, {r(1, 2), "1/2"}, {r(2, 3), "2/3"}, {r(3, 1), "3"}, {r(5, 2), "5/2"}, {r(-1, 1), "-1"}, {r(-1, 2), "-1/2"}, {r(-7, 3), "-7/3"},
		{r(most, 1), "9223372036854775807"}, {r(-most, most-1), "-9223372036854775807/9223372036854775806"},
		{r(1, 0), "?"}, {r(2, 4), "?"}, {r(least, 1), "?"}, {api.Rat{}, "?"},
	} {
		for kind, word := range []string{"unique ", "full ", "share ", "imm ", "pure "} {
			for root, end := range map[int]string{
				-1: "", 0: "*k0", 1: "*k1", 2: "*k2", 10: "*k10", 127: "*k127", -2: "*k-2", -10: "*k-10",
				math.MaxInt: "*k9223372036854775807", math.MinInt: "*k-9223372036854775808",
			} {
				for _, in := range []uint32{0, 1, 5, math.MaxUint32} {
					if got, want := perm.Show(of(kind, c.f, root, in)), word+c.want+end; got != want {
						t.Errorf("Show(%s) = %q; want %q", text(of(kind, c.f, root, in)), got, want)
					}
				}
			}
		}
	}
	if got := perm.Show(perm.Own()); got != "unique 1" {
		t.Errorf("Show(Own()) = %q", got)
	}
}

func TestP15_3_ShowOfNoKind(t *testing.T) {
	for _, kind := range noKinds() {
		for _, f := range []api.Rat{r(1, 1), r(1, 2), r(-3, 1), {}} {
			for _, root := range roots() {
				if got := perm.Show(of(kind, f, root, 3)); got != "?" {
					t.Errorf("Show(%s) = %q", text(of(kind, f, root, 3)), got)
				}
			}
		}
	}
}

// TestP15_1_Example is that of the chapter: a third of one's own.
func TestP15_1_Example(t *testing.T) {
	rest, part, err := perm.Split(perm.Own(), api.Imm, r(1, 3), 0)
	if got := perm.Show(rest) + " and " + perm.Show(part); got != "imm 2/3 and imm 1/3" || err != api.OK {
		t.Errorf("%s, %v", got, err)
	}
	rest, part, err = perm.Split(part, api.Imm, r(1, 3), 0)
	if got := perm.Show(rest) + " and " + perm.Show(part); got != "imm 2/9 and imm 1/9" || err != api.OK {
		t.Errorf("%s, %v", got, err)
	}
}

// TestP15_1_Chain splits halves of halves: all parts and what is left make up the whole.
func TestP15_1_Chain(t *testing.T) {
	for _, kind := range []int{api.Share, api.Imm, api.Pure, api.Full} {
		left, sum, in := perm.Own(), r(0, 1), uint32(3)
		if kind == api.Imm {
			in = 0
		}
		for i := range 40 {
			part := kind
			if kind == api.Full && i > 0 {
				// What is left of a full part is pure, and has no full part any more.
				part = api.Pure
			}
			rest, given, err := perm.Split(left, part, r(1, 2), in)
			if err != api.OK {
				t.Fatalf("after %d parts the error %v", i, err)
			}
			sum, _ = rat.Add(sum, given.F)
			left, in = rest, 0
		}
		if left.F != r(1, 1<<40) || sum != r(1<<40-1, 1<<40) {
			t.Errorf("%s: %s is left, the sum is %v", word(kind), text(left), sum)
		}
	}
}
