package decl

import (
	"slices"
	"strings"

	"ballcock/api"
	"ballcock/auto"
)

// nowhere is the place of a state that the protocol does not have.
const nowhere = -1

// declared is the protocol that a Proto declares, with the offsets of the Proto, its States and its Ops.
type declared struct {
	api.Proto
	at              int
	statesAt, opsAt []int
}

// read reads the protocol that a Proto declares.
func read(l []api.Node, n api.Node) declared {
	// Books and diagnostics keep the name, so it may have no memory of the tree.
	d := declared{Proto: api.Proto{Name: strings.Clone(n.Words[0])}, at: n.At}
	each(l, n, api.NodeState, func(state api.Node) {
		d.States = append(d.States, api.State{Name: state.Words[0], Final: state.Nums[0] == 1})
		d.statesAt = append(d.statesAt, state.At)
	})
	// All States come first, since an Op may stand ahead of those that it names.
	place := placer(d.States)
	each(l, n, api.NodeOp, func(op api.Node) {
		d.Moves = append(d.Moves, move(op.Words, place))
		d.opsAt = append(d.opsAt, op.At)
	})
	return d
}

// placer makes a function that tells the place of the state with a name.
func placer(states []api.State) func(name string) int {
	places := map[string]int{}
	for i, s := range states {
		places[s.Name] = i
	}
	return func(name string) int {
		if i, ok := places[name]; ok {
			return i
		}
		return nowhere
	}
}

// move is the move of an Op with these words.
func move(words []string, place func(name string) int) api.Move {
	m := api.Move{Op: words[0], From: place(words[1])}
	for pair := range slices.Chunk(words[2:], 2) {
		m.Outs = append(m.Outs, api.Out{Name: pair[0], To: place(pair[1])})
	}
	return m
}

// wrong is the code of what is wrong with a declared protocol, and its offset; 0, 0: nothing is.
func (d declared) wrong(inUse bool) (code, at int) {
	if inUse {
		return api.DiagTwice, d.at
	}
	if i := slices.IndexFunc(d.Moves, astray); i >= 0 {
		return api.DiagNone, d.opsAt[i]
	}
	switch rule, i := auto.Wrong(d.Proto); {
	case rule == 0:
		return 0, 0
	case len(d.States) == 0:
		return api.DiagProto, d.at
	case rule == api.ProtoStates || rule == api.ProtoStuck:
		return api.DiagProto, d.statesAt[i]
	default:
		return api.DiagProto, d.opsAt[i]
	}
}

// astray tells whether a move starts from, or leads to, a state that the protocol does not have.
func astray(m api.Move) bool {
	return m.From == nowhere || slices.ContainsFunc(m.Outs, func(o api.Out) bool { return o.To == nowhere })
}
