package perm

import (
	"ballcock/api"
	"ballcock/rat"
)

// rests has the kind of the rest, by the kind of a permission and by that of the part; None where such a part cannot be split off.
var rests = [5][5]int{
	api.Unique: {api.None, api.Pure, api.Share, api.Imm, api.Full},
	api.Full:   {api.None, api.Pure, api.None, api.None, api.Full},
	api.Share:  {api.None, api.None, api.Share, api.None, api.Share},
	api.Imm:    {api.None, api.None, api.None, api.Imm, api.None},
	api.Pure:   {api.None, api.None, api.None, api.None, api.Pure},
}

// kindOfRest is the kind of the rest; false: such a part cannot be split off.
func kindOfRest(from, part int) (int, bool) {
	if !isKind(from) || !isKind(part) {
		return api.None, false
	}
	kind := rests[from][part]
	return kind, kind != api.None
}

func isKind(kind int) bool {
	return kind >= 0 && kind < len(rests)
}

// isPart tells whether a fraction is between 0 and 1. One that is not valid compares as equal to each, so it is not.
func isPart(r api.Rat) bool {
	return rat.Compare(r, number(0)) > 0 && rat.Compare(r, number(1)) < 0
}

// setIsGiven tells whether a part of a kind gets its set with the split, since the permission has none to keep.
func setIsGiven(p api.Perm, kind int) bool {
	return p.Kind == api.Unique && kind != api.Imm
}

// kept is the set of the rest and of the part; false: the given one is there in vain, or missing.
func kept(p api.Perm, kind int, in uint32) (uint32, bool) {
	if setIsGiven(p, kind) {
		return in, in != 0
	}
	return p.In, in == 0
}

// fits tells whether the borrower and the lender can both rely on their sets: what one of them may do, the other expects.
func fits(p api.Perm, c api.Contract) bool {
	if p.Kind == api.Unique {
		return true
	}
	switch c.Kind {
	case api.Full:
		return within(c.In, p.In)
	case api.Share:
		return p.In == c.In
	case api.Pure:
		return within(p.In, c.In)
	}
	return true
}

// within tells whether a set is a subset of another one.
func within(set, of uint32) bool {
	return set&^of == 0
}

// number is the fraction of a whole number.
func number(n int64) api.Rat {
	return api.Rat{N: n, D: 1}
}

// negative is -a, which is valid if and only if a is: the least int64 stays as it is.
func negative(a api.Rat) api.Rat {
	return api.Rat{N: -a.N, D: a.D}
}
