package decl_test

import (
	"fmt"

	"ballcock/api"
)

// branch is a node with all below it.
type branch struct {
	kind  int
	words []string
	nums  []int64
	kids  []branch
}

// of is a branch with these words (strings), numbers (ints) and children (branches), each in their order.
func of(kind int, parts ...any) branch {
	b := branch{kind: kind}
	for _, part := range parts {
		switch part := part.(type) {
		case string:
			b.words = append(b.words, part)
		case int:
			b.nums = append(b.nums, int64(part))
		case branch:
			b.kids = append(b.kids, part)
		default:
			panic(fmt.Sprintf("no part of a node: %v", part))
		}
	}
	return b
}

// branchOf is the declaration of a protocol.
func branchOf(p api.Proto) branch {
	b := of(api.NodeProto, p.Name)
	for _, s := range p.States {
		final := 0
		if s.Final {
			final = 1
		}
		b.kids = append(b.kids, of(api.NodeState, s.Name, final))
	}
	for _, m := range p.Moves {
		op := of(api.NodeOp, m.Op, p.States[m.From].Name)
		for _, o := range m.Outs {
			op.words = append(op.words, o.Name, p.States[o.To].Name)
		}
		b.kids = append(b.kids, op)
	}
	return b
}

// list is the list of the nodes of a branch in preorder; their offsets differ.
func list(b branch) []api.Node {
	var l []api.Node
	var add func(b branch) int
	add = func(b branch) int {
		at := len(l)
		l = append(l, api.Node{Kind: b.kind, Words: b.words, Nums: b.nums, At: 10*at + 7})
		for _, kid := range b.kids {
			place := add(kid)
			l[at].Kids = append(l[at].Kids, place)
		}
		return at
	}
	add(b)
	return l
}

// shown is a list of nodes as a text.
func shown(l []api.Node) string {
	return fmt.Sprint(l)
}
