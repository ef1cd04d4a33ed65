package auto

import (
	"slices"

	"ballcock/api"
)

// start is what no two moves of a protocol have in common.
type start struct {
	op   string
	from int
}

// Wrong is what isn't right of a protocol, and where; 0, 0: it is.
func Wrong(p api.Proto) (int, int) {
	if len(p.States) == 0 || len(p.States) > api.MaxStates {
		return api.ProtoStates, 0
	}
	// The rules in their order, since each one relies on those ahead of it.
	for i, violating := range [...]func(p api.Proto) int{sameName, astray, twice, fromFinal, stuck} {
		if at := violating(p); at >= 0 {
			return api.ProtoStates + i, at
		}
	}
	return 0, 0
}

// sameName is the first state with the name of an earlier one, -1 if there is none.
func sameName(p api.Proto) int {
	isNew := fresh[string]()
	return slices.IndexFunc(p.States, func(s api.State) bool { return !isNew(s.Name) })
}

// astray is the first move that lacks a state to start from, an outcome, or a state of an outcome, -1 if there is none.
func astray(p api.Proto) int {
	none := func(state int) bool { return state < 0 || state >= len(p.States) }
	return slices.IndexFunc(p.Moves, func(m api.Move) bool {
		return none(m.From) || len(m.Outs) == 0 || slices.ContainsFunc(m.Outs, func(o api.Out) bool { return none(o.To) })
	})
}

// twice is the first move that an earlier one rules out, or with two outcomes of one name, -1 if there is none.
func twice(p api.Proto) int {
	isNew := fresh[start]()
	return slices.IndexFunc(p.Moves, func(m api.Move) bool {
		isNewOut := fresh[string]()
		return !isNew(start{m.Op, m.From}) || slices.ContainsFunc(m.Outs, func(o api.Out) bool { return !isNewOut(o.Name) })
	})
}

// fromFinal is the first move that starts from a final state, -1 if there is none.
func fromFinal(p api.Proto) int {
	return slices.IndexFunc(p.Moves, func(m api.Move) bool { return p.States[m.From].Final })
}

// stuck is the first state from which no final one can be reached, -1 if there is none.
func stuck(p api.Proto) int {
	set := ending(p)
	for i := range p.States {
		if !has(set, i) {
			return i
		}
	}
	return -1
}

// ending is the set of states from which a final one can be reached.
func ending(p api.Proto) uint32 {
	set := finals(p)
	// Once a round adds no state, no later one does: as many rounds as states are enough.
	for range p.States {
		for _, m := range p.Moves {
			if slices.ContainsFunc(m.Outs, func(o api.Out) bool { return has(set, o.To) }) {
				set |= 1 << m.From
			}
		}
	}
	return set
}

func finals(p api.Proto) uint32 {
	var set uint32
	for i, s := range p.States {
		if s.Final {
			set |= 1 << i
		}
	}
	return set
}

func has(set uint32, state int) bool {
	return set>>state&1 == 1
}

// fresh makes a function that tells whether it is given a key for the first time.
func fresh[K comparable]() func(key K) bool {
	times := map[K]int{}
	return func(key K) bool {
		times[key]++
		return times[key] == 1
	}
}
