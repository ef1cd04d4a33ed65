package parse

import "ballcock/api"

// branch is a node with all below it. The node has no Kids yet: a Bin stands ahead of
// its left operand, but is read behind it, so that indices are given when all is read.
type branch struct {
	api.Node
	kids []*branch
}

// add makes other branches the next children of a branch.
func (b *branch) add(kids ...*branch) {
	b.kids = append(b.kids, kids...)
}

// numbered are the nodes of a program in preorder, if there are not too many, and none is too deep.
func numbered(program *branch) ([]api.Node, api.Fault) {
	var l []api.Node
	var fault api.Fault
	var visit func(b *branch, depth int) int
	visit = func(b *branch, depth int) int {
		at := len(l)
		l = append(l, b.Node)
		if depth > api.MaxNest && fault.Err == api.OK {
			fault = api.Fault{Err: api.ErrDeep, At: b.At}
		}
		kids := make([]int, len(b.kids))
		for i, kid := range b.kids {
			kids[i] = visit(kid, depth+1)
		}
		l[at].Kids = kids
		return at
	}
	visit(program, 1)
	if len(l) > api.MaxNodes {
		fault = api.Fault{Err: api.ErrBig}
	}
	if fault.Err != api.OK {
		return nil, fault
	}
	return l, fault
}
