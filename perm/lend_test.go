package perm_test

import (
	"math"
	"testing"

	"ballcock/api"
	"ballcock/perm"
)

// asks is the contract of a handle of a kind, with a set.
func asks(kind int, in uint32) api.Contract {
	return api.Contract{Name: "x", Handle: true, Proto: "File", Kind: kind, Least: r(0, 1), At: 1, To: 4, In: in}
}

// lends compares what Lend returns with a rest and a lent permission; the zero Perm as rest means that nothing is left.
func lends(t *testing.T, p api.Perm, c api.Contract, rest, lent api.Perm) {
	t.Helper()
	some := rest != (api.Perm{})
	if gotRest, gotSome, gotLent, err := perm.Lend(p, c); gotRest != rest || gotSome != some || gotLent != lent || err != api.OK {
		t.Errorf("Lend(%s, %s in %b) = %s, %v, %s, %v; want %s, %v, %s", text(p), word(c.Kind), c.In, text(gotRest), gotSome, text(gotLent), err, text(rest), some, text(lent))
	}
}

// lendFails checks the error of a Lend, and that there is nothing beside it.
func lendFails(t *testing.T, p api.Perm, c api.Contract, want api.Errno) {
	t.Helper()
	if rest, some, lent, err := perm.Lend(p, c); rest != (api.Perm{}) || some || lent != (api.Perm{}) || err != want {
		t.Errorf("Lend(%s, %s in %b) = %s, %v, %s, %v; want only %v", text(p), word(c.Kind), c.In, text(rest), some, text(lent), err, want)
	}
}

// sets are some sets of states; nested, overlapping and apart ones are among them.
func sets() []uint32 {
	return []uint32{0, 1, 2, 3, 4, 5, 6, 7, 8, 1 << 15, 1<<16 - 1, 1 << 16, 1 << 31, math.MaxUint32}
}

// subset tells, state by state, whether a set is one of another set.
func subset(a, b uint32) bool {
	for i := range 32 {
		if a>>i&1 == 1 && b>>i&1 == 0 {
			return false
		}
	}
	return true
}

func TestP15_2_LendUnique(t *testing.T) {
	lends(t, perm.Own(), asks(api.Unique, 0), api.Perm{}, perm.Own())
	// It is lent as it is, whatever it is: nothing is split.
	for _, root := range roots() {
		for _, f := range append(wrongFractions(), r(1, 1), r(1, 2), r(0, 1), r(-1, 2), r(3, 1), r(1, most)) {
			p := of(api.Unique, f, root, 0)
			lends(t, p, asks(api.Unique, 0), api.Perm{}, p)
		}
	}
}

func TestP15_2_LendUniqueFails(t *testing.T) {
	for _, kind := range append(noKinds(), api.Full, api.Share, api.Imm, api.Pure) {
		for _, f := range []api.Rat{r(1, 1), r(1, 2), r(1, most), {}} {
			for _, root := range []int{-1, 0, 3} {
				for _, in := range []uint32{0, 3} {
					lendFails(t, of(kind, f, root, 3), asks(api.Unique, in), api.ErrArg)
					lendFails(t, of(kind, f, root, 0), asks(api.Unique, in), api.ErrArg)
				}
			}
		}
	}
}

// TestP15_2_LendOwn lends parts of a unique permission: there is no rule for its own set.
func TestP15_2_LendOwn(t *testing.T) {
	half := r(1, 2)
	for _, root := range roots() {
		for _, own := range sets() {
			p := of(api.Unique, r(1, 1), root, own)
			for _, in := range sets()[1:] {
				lends(t, p, asks(api.Full, in), of(api.Pure, half, root, in), of(api.Full, half, root, in))
				lends(t, p, asks(api.Share, in), of(api.Share, half, root, in), of(api.Share, half, root, in))
				lends(t, p, asks(api.Pure, in), of(api.Full, half, root, in), of(api.Pure, half, root, in))
				lends(t, p, asks(api.Imm, in), of(api.Imm, half, root, own), of(api.Imm, half, root, own))
			}
			lends(t, p, asks(api.Imm, 0), of(api.Imm, half, root, own), of(api.Imm, half, root, own))
			// Without a set nothing can be split off for these kinds.
			for _, kind := range []int{api.Full, api.Share, api.Pure} {
				lendFails(t, p, asks(kind, 0), api.ErrArg)
			}
		}
	}
}

// TestP15_2_LendSets lends parts of the other kinds, with each two sets.
func TestP15_2_LendSets(t *testing.T) {
	for _, row := range []struct {
		from, kind, rest int
		fits             func(own, asked uint32) bool
	}{
		{api.Full, api.Full, api.Pure, func(own, asked uint32) bool { return subset(asked, own) }},
		{api.Full, api.Pure, api.Full, subset},
		{api.Share, api.Share, api.Share, func(own, asked uint32) bool { return own == asked }},
		{api.Share, api.Pure, api.Share, subset},
		{api.Pure, api.Pure, api.Pure, subset},
	} {
		for _, root := range []int{-1, 0, 5} {
			for _, own := range sets() {
				for _, asked := range sets() {
					p, c := of(row.from, r(2, 3), root, own), asks(row.kind, asked)
					if row.fits(own, asked) {
						lends(t, p, c, of(row.rest, r(1, 3), root, own), of(row.kind, r(1, 3), root, asked))
					} else {
						lendFails(t, p, c, api.ErrArg)
					}
				}
			}
		}
	}
}

// TestP15_2_LendSetsJust has the rules of the sets just kept and just broken.
func TestP15_2_LendSetsJust(t *testing.T) {
	half, quarter := r(1, 2), r(1, 4)
	// Full: a superset.
	lends(t, of(api.Full, half, 0, 7), asks(api.Full, 7), of(api.Pure, quarter, 0, 7), of(api.Full, quarter, 0, 7))
	lends(t, of(api.Full, half, 0, 7), asks(api.Full, 5), of(api.Pure, quarter, 0, 7), of(api.Full, quarter, 0, 5))
	lendFails(t, of(api.Full, half, 0, 5), asks(api.Full, 7), api.ErrArg)
	lendFails(t, of(api.Full, half, 0, 5), asks(api.Full, 2), api.ErrArg)
	// Share: the same set.
	lends(t, of(api.Share, half, 0, 5), asks(api.Share, 5), of(api.Share, quarter, 0, 5), of(api.Share, quarter, 0, 5))
	lendFails(t, of(api.Share, half, 0, 5), asks(api.Share, 7), api.ErrArg)
	lendFails(t, of(api.Share, half, 0, 7), asks(api.Share, 5), api.ErrArg)
	// Pure: a subset.
	for from, rest := range map[int]int{api.Full: api.Full, api.Share: api.Share, api.Pure: api.Pure} {
		lends(t, of(from, half, 0, 5), asks(api.Pure, 5), of(rest, quarter, 0, 5), of(api.Pure, quarter, 0, 5))
		lends(t, of(from, half, 0, 5), asks(api.Pure, 7), of(rest, quarter, 0, 5), of(api.Pure, quarter, 0, 7))
		lendFails(t, of(from, half, 0, 7), asks(api.Pure, 5), api.ErrArg)
		lendFails(t, of(from, half, 0, 5), asks(api.Pure, 2), api.ErrArg)
	}
}

// TestP15_2_LendImm lends parts of an imm permission: there is no rule for the sets, and the part keeps that of the permission.
func TestP15_2_LendImm(t *testing.T) {
	for _, root := range roots() {
		for _, own := range sets() {
			for _, in := range sets() {
				part := of(api.Imm, r(1, 6), root, own)
				lends(t, of(api.Imm, r(1, 3), root, own), asks(api.Imm, in), part, part)
			}
		}
	}
}

func TestP15_2_LendFractions(t *testing.T) {
	for _, d := range divisions() {
		for _, c := range []struct{ f, half api.Rat }{
			{r(1, 1), r(1, 2)}, {r(1, 2), r(1, 4)}, {r(2, 3), r(1, 3)}, {r(3, 4), r(3, 8)}, {r(4, 1), r(2, 1)}, {r(5, 1), r(5, 2)}, {r(0, 1), r(0, 1)}, {r(-2, 3), r(-1, 3)},
			{r(1, most/2), r(1, most-1)}, {r(2, most), r(1, most)}, {r(most-1, most), r(most/2, most)}, {r(most, 1), r(most, 2)}, {r(most-1, 1), r(most/2, 1)},
		} {
			lends(t, of(d.from, c.f, 2, 6), asks(d.part, 6), of(d.rest, c.half, 2, 6), of(d.part, c.half, 2, 6))
		}
	}
}

// TestP15_2_LendOtherTerms has contracts that differ in what lending does not ask for.
func TestP15_2_LendOtherTerms(t *testing.T) {
	for _, d := range divisions() {
		for _, l := range []api.Rat{{}, r(0, 1), r(1, 2), r(1, 1), r(3, 1), r(-1, 1), r(least, 0)} {
			for _, at := range []uint32{0, 1, 6, math.MaxUint32} {
				for _, name := range []string{"", "x", "main"} {
					c := api.Contract{Name: name, Handle: true, Proto: name, Kind: d.part, Least: l, At: at, To: 7 &^ at, In: 6}
					half := r(1, 2)
					lends(t, of(d.from, r(1, 1), 0, 6), c, of(d.rest, half, 0, 6), of(d.part, half, 0, 6))
				}
			}
		}
	}
}

// TestP15_2_LendNumber has contracts of no handle.
func TestP15_2_LendNumber(t *testing.T) {
	for _, kind := range append(noKinds(), kinds...) {
		for _, from := range append(noKinds(), kinds...) {
			for _, f := range []api.Rat{r(1, 1), r(1, most), {}} {
				c := asks(kind, 6)
				c.Handle = false
				lendFails(t, of(from, f, -1, 6), c, api.ErrArg)
			}
		}
	}
	lendFails(t, perm.Own(), api.Contract{}, api.ErrArg)
	lendFails(t, perm.Own(), api.Contract{Name: "n"}, api.ErrArg)
}

func TestP15_2_LendOtherKinds(t *testing.T) {
	for _, from := range append(noKinds(), kinds...) {
		for _, kind := range append(noKinds(), kinds...) {
			if ok, _ := isDivision(from, kind); ok || from == api.Unique && kind == api.Unique {
				continue
			}
			for _, in := range []uint32{0, 6} {
				for _, f := range []api.Rat{r(1, 1), r(1, most), {}} {
					lendFails(t, of(from, f, -1, 6), asks(kind, in), api.ErrArg)
					lendFails(t, of(from, f, 2, 0), asks(kind, in), api.ErrArg)
				}
			}
		}
	}
}

func TestP15_2_LendWrongFraction(t *testing.T) {
	for _, d := range divisions() {
		for _, f := range wrongFractions() {
			lendFails(t, of(d.from, f, -1, 6), asks(d.part, 6), api.ErrArg)
			lendFails(t, of(d.from, f, 2, 6), asks(d.part, 6), api.ErrArg)
		}
	}
}

// TestP15_2_LendOrder has errors together with a fraction that overflows: those that come first, and a set that does not fit.
func TestP15_2_LendOrder(t *testing.T) {
	for _, far := range []api.Rat{r(1, 1<<62), r(1, most), r(3, most), r(-1, 1<<62)} {
		for _, d := range divisions() {
			p := of(d.from, far, 0, 6)
			lendFails(t, p, asks(d.part, 6), api.ErrOver)
			// The set of the contract does not fit: the split fails ahead of that.
			for _, in := range []uint32{1, 2, 7, 9, math.MaxUint32} {
				lendFails(t, p, asks(d.part, in), api.ErrOver)
			}
			// Without a set the split itself has the error that it names first.
			if d.given {
				lendFails(t, p, asks(d.part, 0), api.ErrArg)
			} else {
				lendFails(t, p, asks(d.part, 0), api.ErrOver)
			}
			number := asks(d.part, 6)
			number.Handle = false
			lendFails(t, p, number, api.ErrArg)
			if d.from != api.Unique {
				lendFails(t, p, asks(api.Unique, 6), api.ErrArg)
			}
		}
	}
	// A fraction that is not valid, and a set that does not fit.
	lendFails(t, of(api.Share, r(2, 4), 0, 6), asks(api.Share, 1), api.ErrArg)
}
