package contract

import (
	"math/bits"
	"slices"
	"strings"

	"ballcock/api"
	"ballcock/auto"
	"ballcock/decl"
	"ballcock/rat"
	"ballcock/scope"
)

// reader reads the contracts of the Params of a valid tree.
type reader struct {
	l    []api.Node
	book *decl.Book
}

// readerOfRight makes a reader of a tree whose protocols and names are right; false: they are not.
func readerOfRight(l []api.Node) (reader, bool) {
	book, diags := decl.New(l)
	if book == nil || len(diags) > 0 || len(scope.Check(l)) > 0 {
		return reader{}, false
	}
	return reader{l: l, book: book}, true
}

// contract is that of a Param, as far as it can be determined.
func (r reader) contract(n api.Node) api.Contract {
	// Words of the tree are its memory, so a contract has copies.
	c := api.Contract{Name: strings.Clone(n.Words[0])}
	// A Param that is a number has no second word.
	if len(n.Words) == 1 {
		return c
	}
	c.Handle, c.Proto, c.Kind, c.Least = true, strings.Clone(n.Words[1]), int(n.Nums[0]), least(n)
	protocol, ok := r.book.Find(c.Proto)
	if !ok {
		return c
	}
	for _, kid := range n.Kids {
		set := states(protocol, r.l[kid])
		switch r.l[kid].Nums[0] {
		case api.NamesAt:
			c.At = set
		case api.NamesTo:
			c.To = set
		case api.NamesIn:
			c.In = set
		}
	}
	return c
}

// diags tells what is wrong with a Param that has this contract, in a tree whose protocols and names are right.
func (r reader) diags(n api.Node, c api.Contract) []api.Diag {
	if !c.Handle {
		return nil
	}
	protocol, _ := r.book.Find(c.Proto)
	if r.wrongState(n, protocol) || r.wrongNames(n) || wrongLeast(c) || wrongSets(c, protocol.Finals()) {
		return []api.Diag{{Code: api.DiagContract, At: n.At, Name: c.Name}}
	}
	return nil
}

// wrongState tells whether a Names of a Param has a state that the protocol does not have, or one state twice.
func (r reader) wrongState(n api.Node, protocol *auto.Auto) bool {
	return slices.ContainsFunc(n.Kids, func(kid int) bool {
		names := r.l[kid]
		// Such a state adds nothing to the set.
		return bits.OnesCount32(states(protocol, names)) < len(names.Words)
	})
}

// wrongNames tells whether a Param has other Names than its kind requires.
func (r reader) wrongNames(n api.Node) bool {
	var which []int64
	for _, kid := range n.Kids {
		which = append(which, r.l[kid].Nums[0])
	}
	return !slices.Equal(which, required(n.Nums[0]))
}

// required are the numbers of the Names that a kind of permissions requires, in the order in which they stand in a Param.
func required(kind int64) []int64 {
	switch kind {
	case api.Unique:
		return []int64{api.NamesAt, api.NamesTo}
	case api.Full:
		return []int64{api.NamesAt, api.NamesTo, api.NamesIn}
	case api.Imm:
		return []int64{api.NamesAt}
	}
	return []int64{api.NamesIn}
}

// wrongLeast tells whether a contract has a least fraction that it may not have.
func wrongLeast(c api.Contract) bool {
	has := c.Least.N > 0
	whole := c.Kind == api.Unique || c.Kind == api.Full
	return has && (whole || rat.Compare(c.Least, api.Rat{N: 1, D: 1}) > 0)
}

// wrongSets tells whether a contract has states in which its handle may not be.
func wrongSets(c api.Contract, finals uint32) bool {
	return c.In&finals != 0 || c.Kind == api.Full && (c.At|c.To)&^c.In != 0
}

// states is the set of the states in a Names, without those that the protocol does not have.
func states(protocol *auto.Auto, names api.Node) uint32 {
	var set uint32
	for _, name := range names.Words {
		if state, ok := protocol.State(name); ok {
			set |= 1 << state
		}
	}
	return set
}

// least is the least fraction of a Param that is a handle, 0/1 if there is none.
func least(n api.Node) api.Rat {
	above, below := n.Nums[1], n.Nums[2]
	if below == 0 {
		return api.Rat{D: 1}
	}
	// Numbers of a valid tree do not overflow.
	f, _ := rat.New(above, below)
	return f
}
