package move

import (
	"ballcock/api"
	"ballcock/auto"
)

// othersChange tells whether others than the holder of a kind may change the state of the handle.
func othersChange(kind int) bool {
	return kind == api.Share || kind == api.Pure
}

// known is what a permission lets its variable know of a set: where others may change the state, no more than that they stay in In.
func known(p api.Perm, s uint32) uint32 {
	if othersChange(p.Kind) {
		return p.In
	}
	return s
}

// allows tells whether a permission allows an operation that is enabled in all states of a set.
func allows(a *auto.Auto, p api.Perm, s uint32, op string) bool {
	switch p.Kind {
	case api.Unique:
		return true
	case api.Full, api.Share:
		return within(reached(a, s, op), p.In)
	case api.Imm, api.Pure:
		return within(s, a.Keeps(op))
	}
	return false
}

// reached is the set of states to which the outcomes of an operation lead from a set.
func reached(a *auto.Auto, s uint32, op string) uint32 {
	var set uint32
	for state := range api.MaxStates {
		if !within(1<<state, s) {
			continue
		}
		for _, o := range a.Outs(state, op) {
			set |= 1 << o.To
		}
	}
	return set
}

// within tells whether a set is a subset of another one.
func within(set, of uint32) bool {
	return set&^of == 0
}
