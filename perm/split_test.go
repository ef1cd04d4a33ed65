package perm_test

import (
	"math"
	"testing"

	"ballcock/api"
	"ballcock/perm"
)

// splits compares what Split returns with a rest and a part.
func splits(t *testing.T, p api.Perm, kind int, by api.Rat, in uint32, rest, part api.Perm) {
	t.Helper()
	if gotRest, gotPart, err := perm.Split(p, kind, by, in); gotRest != rest || gotPart != part || err != api.OK {
		t.Errorf("Split(%s, %s, %v, %b) = %s, %s, %v; want %s, %s", text(p), word(kind), by, in, text(gotRest), text(gotPart), err, text(rest), text(part))
	}
}

// splitFails checks the error of a Split, and that there is nothing beside it.
func splitFails(t *testing.T, p api.Perm, kind int, by api.Rat, in uint32, want api.Errno) {
	t.Helper()
	if rest, part, err := perm.Split(p, kind, by, in); rest != (api.Perm{}) || part != (api.Perm{}) || err != want {
		t.Errorf("Split(%s, %s, %v, %b) = %s, %s, %v; want only %v", text(p), word(kind), by, in, text(rest), text(part), err, want)
	}
}

// divisions are the rows of the chapter's table: from which kind which part leaves which rest, and whether the set is given.
func divisions() []struct {
	from, part, rest int
	given            bool
} {
	return []struct {
		from, part, rest int
		given            bool
	}{
		{api.Unique, api.Full, api.Pure, true},
		{api.Unique, api.Share, api.Share, true},
		{api.Unique, api.Imm, api.Imm, false},
		{api.Unique, api.Pure, api.Full, true},
		{api.Full, api.Full, api.Pure, false},
		{api.Full, api.Pure, api.Full, false},
		{api.Share, api.Share, api.Share, false},
		{api.Share, api.Pure, api.Share, false},
		{api.Imm, api.Imm, api.Imm, false},
		{api.Pure, api.Pure, api.Pure, false},
	}
}

// isDivision tells whether the table has a row, and whether the set is given there.
func isDivision(from, part int) (ok, given bool) {
	for _, d := range divisions() {
		if d.from == from && d.part == part {
			return true, d.given
		}
	}
	return false, false
}

// givenSet is a set that a split may get.
func givenSet(given bool) uint32 {
	if given {
		return 6
	}
	return 0
}

func TestP15_1_SplitKinds(t *testing.T) {
	for _, d := range divisions() {
		for _, root := range roots() {
			for _, own := range []uint32{0, 1, 5, 1 << 15, math.MaxUint32} {
				for _, in := range []uint32{1, 2, 3, 5, 1 << 15, 1<<16 - 1, 1 << 16, 1 << 31, math.MaxUint32} {
					set := in
					if !d.given {
						in, set = 0, own
					}
					splits(t, of(d.from, r(1, 1), root, own), d.part, r(1, 4), in, of(d.rest, r(3, 4), root, set), of(d.part, r(1, 4), root, set))
				}
			}
		}
	}
}

func TestP15_1_SplitFractions(t *testing.T) {
	for _, d := range divisions() {
		for _, c := range []struct{ f, by, rest, part api.Rat }{
			{r(1, 1), r(1, 2), r(1, 2), r(1, 2)},
			{r(1, 1), r(1, 3), r(2, 3), r(1, 3)},
			{r(1, 1), r(2, 3), r(1, 3), r(2, 3)},
			{r(1, 2), r(1, 3), r(1, 3), r(1, 6)},
			{r(2, 3), r(3, 4), r(1, 6), r(1, 2)},
			{r(3, 5), r(2, 9), r(7, 15), r(2, 15)},
			{r(1, 1), r(1, most), r(most-1, most), r(1, most)},
			{r(1, 1), r(most-1, most), r(1, most), r(most-1, most)},
			// Fractions that no right program has are split in the same way.
			{r(0, 1), r(1, 3), r(0, 1), r(0, 1)},
			{r(-1, 2), r(1, 4), r(-3, 8), r(-1, 8)},
			{r(3, 1), r(1, 3), r(2, 1), r(1, 1)},
			{r(7, 2), r(2, 7), r(5, 2), r(1, 1)},
			{r(0, 1), r(1, most), r(0, 1), r(0, 1)},
		} {
			in := givenSet(d.given)
			set := in
			if !d.given {
				set = 9
			}
			for _, root := range []int{-1, 0, 4} {
				splits(t, of(d.from, c.f, root, 9), d.part, c.by, in, of(d.rest, c.rest, root, set), of(d.part, c.part, root, set))
			}
		}
	}
}

// TestP15_1_SplitOtherKinds has each pair of kinds that is not in the table, with each given set.
func TestP15_1_SplitOtherKinds(t *testing.T) {
	pairs := 0
	for _, from := range kinds {
		for _, part := range kinds {
			if ok, _ := isDivision(from, part); ok {
				continue
			}
			pairs++
			for _, in := range []uint32{0, 1, 6, math.MaxUint32} {
				for _, own := range []uint32{0, 1, 6} {
					splitFails(t, of(from, r(1, 1), -1, own), part, r(1, 2), in, api.ErrArg)
					splitFails(t, of(from, r(1, 3), 2, own), part, r(1, 2), in, api.ErrArg)
				}
			}
		}
	}
	if pairs != 15 {
		t.Errorf("%d pairs of kinds that cannot be split", pairs)
	}
}

func TestP15_1_SplitNoKind(t *testing.T) {
	for _, wrong := range noKinds() {
		for _, in := range []uint32{0, 6} {
			for _, kind := range append(noKinds(), kinds...) {
				splitFails(t, of(wrong, r(1, 1), -1, 6), kind, r(1, 2), in, api.ErrArg)
				splitFails(t, of(kind, r(1, 1), -1, 6), wrong, r(1, 2), in, api.ErrArg)
			}
		}
	}
}

// TestP15_1_SplitSet has a set that is empty where it must not be, and one that is not where it must be.
func TestP15_1_SplitSet(t *testing.T) {
	for _, d := range divisions() {
		for _, own := range []uint32{0, 1, 6, math.MaxUint32} {
			if d.given {
				splitFails(t, of(d.from, r(1, 1), -1, own), d.part, r(1, 2), 0, api.ErrArg)
				continue
			}
			for _, in := range []uint32{1, 2, 6, 1 << 15, 1 << 16, 1 << 31, math.MaxUint32, own | 1} {
				splitFails(t, of(d.from, r(1, 1), -1, own), d.part, r(1, 2), in, api.ErrArg)
			}
		}
	}
}

// notParts are the values that no part may be: not valid, 0, 1, below 0, above 1.
func notParts() []api.Rat {
	return append(wrongFractions(), r(0, 1), r(1, 1), r(-1, 2), r(-1, most), r(-1, 1), r(-most, 1), r(3, 2), r(2, 1), r(most, most-1), r(most, 1))
}

func TestP15_1_SplitPart(t *testing.T) {
	for _, d := range divisions() {
		for _, by := range notParts() {
			for _, f := range []api.Rat{r(1, 1), r(1, 2), r(0, 1), r(1, most), {}} {
				splitFails(t, of(d.from, f, -1, 3), d.part, by, givenSet(d.given), api.ErrArg)
				splitFails(t, of(d.from, f, 3, 3), d.part, by, givenSet(d.given), api.ErrArg)
			}
		}
	}
}

func TestP15_1_SplitWrongFraction(t *testing.T) {
	for _, d := range divisions() {
		for _, f := range wrongFractions() {
			for _, by := range []api.Rat{r(1, 2), r(1, most), r(most-1, most)} {
				splitFails(t, of(d.from, f, -1, 3), d.part, by, givenSet(d.given), api.ErrArg)
				splitFails(t, of(d.from, f, 0, 3), d.part, by, givenSet(d.given), api.ErrArg)
			}
		}
	}
}

func TestP15_1_SplitOver(t *testing.T) {
	for _, d := range divisions() {
		in := givenSet(d.given)
		set := in
		if !d.given {
			set = 3
		}
		fits := func(f, by, rest, part api.Rat) {
			t.Helper()
			splits(t, of(d.from, f, 1, 3), d.part, by, in, of(d.rest, rest, 1, set), of(d.part, part, 1, set))
		}
		over := func(f, by api.Rat) {
			t.Helper()
			splitFails(t, of(d.from, f, 1, 3), d.part, by, in, api.ErrOver)
			splitFails(t, of(d.from, f, -1, 3), d.part, by, in, api.ErrOver)
		}
		// Both denominators, just below and just above the limit.
		fits(r(1, 1<<61), r(1, 2), r(1, 1<<62), r(1, 1<<62))
		over(r(1, 1<<62), r(1, 2))
		fits(r(1, most/2), r(1, 2), r(1, most-1), r(1, most-1))
		fits(r(1, 3074457345618258601), r(1, 3), r(2, 9223372036854775803), r(1, 9223372036854775803))
		over(r(1, 3074457345618258603), r(1, 3))
		over(r(1, 3074457345618258603), r(2, 3))
		over(r(1, 1<<40), r(1, 1<<40))
		// Only the denominator of the part, or only that of the rest.
		fits(r(1, 3074457345618258602), r(1, 3), r(1, 4611686018427387903), r(1, 9223372036854775806))
		over(r(1, 3074457345618258604), r(1, 3))
		fits(r(1, 3074457345618258602), r(2, 3), r(1, 9223372036854775806), r(1, 4611686018427387903))
		over(r(1, 3074457345618258604), r(2, 3))
		// Numerators, both and only one of them. 7 divides the greatest one, 3 does not.
		fits(r(most, 1), r(2, 7), r(most/7*5, 1), r(most/7*2, 1))
		fits(r(-most, 1), r(2, 7), r(-most/7*5, 1), r(-most/7*2, 1))
		over(r(most, 1), r(2, 5))
		over(r(-most, 1), r(2, 5))
		over(r(most, 1), r(2, 3))
		over(r(most, 1), r(1, 3))
		fits(r(most/4, 1), r(1, 4), r(most/4*3, 4), r(most/4, 4))
		// The least int64 is no numerator.
		over(r(-1<<62, 1), r(1, 3))
		over(r(-1<<62, 1), r(2, 3))
		fits(r(-1<<61, 1), r(1, 3), r(-1<<62, 3), r(-1<<61, 3))
	}
}

// TestP15_1_SplitOrder has other errors together with one that overflows: that one comes last.
func TestP15_1_SplitOrder(t *testing.T) {
	far := r(1, most)
	for _, from := range append(noKinds(), kinds...) {
		for _, part := range append(noKinds(), kinds...) {
			ok, given := isDivision(from, part)
			for _, in := range []uint32{0, 6} {
				want := api.ErrArg
				if ok && (in != 0) == given {
					want = api.ErrOver
				}
				splitFails(t, of(from, far, 0, 3), part, r(1, 2), in, want)
				splitFails(t, of(from, far, 0, 3), part, r(1, 1), in, api.ErrArg)
				splitFails(t, of(from, far, 0, 3), part, r(2, 2), in, api.ErrArg)
				splitFails(t, of(from, r(most, most), 0, 3), part, far, in, api.ErrArg)
			}
		}
	}
}
