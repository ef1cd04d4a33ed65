package tree_test

import (
	"fmt"
	"slices"
	"strings"
	"testing"

	"ballcock/api"
	"ballcock/tree"
)

// branch is a node with all below it.
type branch struct {
	kind  int
	words []string
	nums  []int64
	kids  []branch
}

// of is a branch with these words (strings), numbers (ints) and children (branches), each in their order.
func of(kind int, parts ...any) branch {
	b := branch{kind: kind}
	for _, part := range parts {
		switch part := part.(type) {
		case string:
			b.words = append(b.words, part)
		case int:
			b.nums = append(b.nums, int64(part))
		case branch:
			b.kids = append(b.kids, part)
		case []branch:
			b.kids = append(b.kids, part...)
		default:
			panic(fmt.Sprintf("no part of a node: %v", part))
		}
	}
	return b
}

// list is the list of the nodes of a branch in preorder; their offsets differ.
func list(b branch) []api.Node {
	var l []api.Node
	var add func(b branch) int
	add = func(b branch) int {
		at := len(l)
		l = append(l, api.Node{Kind: b.kind, Words: b.words, Nums: b.nums, At: 10 * at})
		for _, kid := range b.kids {
			place := add(kid)
			l[at].Kids = append(l[at].Kids, place)
		}
		return at
	}
	add(b)
	return l
}

// many are so many branches that are alike.
func many(count int, b branch) []branch {
	return slices.Repeat([]branch{b}, count)
}

// Branches that are valid where they may stand.
var (
	state  = of(api.NodeState, "s", 0)
	op     = of(api.NodeOp, "go", "s", "ok", "s")
	param  = of(api.NodeParam, "p")
	atS    = of(api.NodeNames, "s", api.NamesAt)
	toS    = of(api.NodeNames, "s", api.NamesTo)
	inS    = of(api.NodeNames, "s", api.NamesIn)
	block  = of(api.NodeBlock)
	num    = of(api.NodeNum, 1)
	exit   = of(api.NodeExit)
	handle = of(api.NodeHandle, "h")
	aCase  = of(api.NodeCase, "ok", block)
	fn     = of(api.NodeFn, "f", block)
	proto  = of(api.NodeProto, "P")
)

// samples has a valid branch of each kind that is part of a program.
func samples() []branch {
	return []branch{
		proto, state, op, fn, param, inS, block,
		of(api.NodeLet, "x", num), of(api.NodeSet, "x", num), of(api.NodeOpen, "h", "P", block, block),
		of(api.NodeDo, "h", "go"), aCase, of(api.NodeSplit, "g", "h", api.Imm, 1, 2, block), of(api.NodeCall, "f"), handle,
		of(api.NodeIf, num, block), of(api.NodeWhile, num, block), of(api.NodeReturn, num), exit,
		num, of(api.NodeVar, "x"), of(api.NodeBin, api.BinAdd, num, num), of(api.NodeNeg, num),
	}
}

func inProgram(b ...branch) []api.Node { return list(of(api.NodeProgram, b)) }

func inBlock(b ...branch) []api.Node {
	return inProgram(of(api.NodeFn, "f", of(api.NodeBlock, b)))
}

// around is a list that is a valid tree if this branch is valid, and of a kind that exists.
func around(b branch) []api.Node {
	switch b.kind {
	case api.NodeProgram:
		return list(b)
	case api.NodeProto, api.NodeFn:
		return inProgram(b)
	case api.NodeState, api.NodeOp:
		return inProgram(of(api.NodeProto, "P", b))
	case api.NodeParam:
		return inProgram(of(api.NodeFn, "f", b, block))
	case api.NodeNames:
		return inProgram(of(api.NodeFn, "f", of(api.NodeParam, "p", "P", api.Imm, 0, 0, b), block))
	case api.NodeBlock:
		return inProgram(of(api.NodeFn, "f", b))
	case api.NodeCase:
		return inBlock(of(api.NodeDo, "h", "go", b))
	case api.NodeHandle:
		return inBlock(of(api.NodeCall, "f", b))
	case api.NodeNum, api.NodeVar, api.NodeBin, api.NodeNeg:
		return inBlock(of(api.NodeReturn, b))
	}
	return inBlock(b)
}

// text shows a list so that a failed test tells which one it was.
func text(l []api.Node) string {
	if len(l) > 40 {
		return fmt.Sprint(len(l), " nodes")
	}
	var parts []string
	for i, n := range l {
		parts = append(parts, fmt.Sprint(i, ": kind ", n.Kind, " ", n.Words, n.Nums, n.Kids))
	}
	return "{" + strings.Join(parts, "; ") + "}"
}

// isTree checks that a list is a valid tree for all functions.
func isTree(t *testing.T, l []api.Node) {
	t.Helper()
	if !tree.Right(l) || len(tree.Walk(l)) != len(l) || !tree.Same(l, l) || len(tree.Build(l, 0)) != len(l) {
		t.Errorf("%s is not a valid tree: Right = %v, Walk = %v", text(l), tree.Right(l), tree.Walk(l))
	}
}

// isNone checks that a list is no valid tree for any function.
func isNone(t *testing.T, l []api.Node) {
	t.Helper()
	if tree.Right(l) || len(tree.Walk(l)) != 0 || tree.Same(l, l) {
		t.Errorf("%s is a valid tree: Right = %v, Walk = %v", text(l), tree.Right(l), tree.Walk(l))
	}
	for at := range min(len(l), 30) {
		if b := tree.Build(l, at); len(b) != 0 {
			t.Errorf("Build(%s, %d) = %s", text(l), at, text(b))
		}
	}
	// Its depth is not specified unless it is a tree, but it is told all the same.
	tree.Deep(l)
}

func valid(t *testing.T, branches ...branch) {
	t.Helper()
	for _, b := range branches {
		isTree(t, around(b))
	}
}

func invalid(t *testing.T, branches ...branch) {
	t.Helper()
	for _, b := range branches {
		isNone(t, around(b))
	}
}

func TestP6_1_Program(t *testing.T) {
	isTree(t, []api.Node{{}})
	if tree.Deep([]api.Node{{}}) != 1 {
		t.Errorf("a Program without children has the depth %d", tree.Deep([]api.Node{{}}))
	}
	valid(t, of(api.NodeProgram, proto), of(api.NodeProgram, fn), of(api.NodeProgram, fn, proto, proto, fn), of(api.NodeProgram, many(1499, proto)))
	invalid(t, of(api.NodeProgram, "x"), of(api.NodeProgram, 0))
}

func TestP6_1_Protocols(t *testing.T) {
	valid(t,
		proto, of(api.NodeProto, "P", state), of(api.NodeProto, "P", op), of(api.NodeProto, "P", op, state, state, op),
		of(api.NodeState, "s", 0), of(api.NodeState, "s", 1),
		of(api.NodeOp, "go", "a", "ok", "b"), of(api.NodeOp, "go", "a", "ok", "b", "ok", "b", "no", "a"),
	)
	invalid(t,
		of(api.NodeProto), of(api.NodeProto, "P", "Q"), of(api.NodeProto, "P", 0),
		of(api.NodeState, 0), of(api.NodeState, "s", "s", 0), of(api.NodeState, "s"), of(api.NodeState, "s", 0, 0), of(api.NodeState, "s", 2), of(api.NodeState, "s", -1),
		of(api.NodeOp), of(api.NodeOp, "go"), of(api.NodeOp, "go", "a"), of(api.NodeOp, "go", "a", "ok"), of(api.NodeOp, "go", "a", "ok", "b", "no"), of(api.NodeOp, "go", "a", "ok", "b", 0),
	)
}

func TestP6_1_Functions(t *testing.T) {
	valid(t,
		fn, of(api.NodeFn, "f", param, block), of(api.NodeFn, "f", param, of(api.NodeParam, "p", "P", api.Full, 0, 0), param, block),
		block, of(api.NodeBlock, exit), of(api.NodeBlock, exit, of(api.NodeDo, "h", "go"), exit),
	)
	invalid(t,
		of(api.NodeFn, block), of(api.NodeFn, "f", "g", block), of(api.NodeFn, "f", 0, block),
		of(api.NodeFn, "f"), of(api.NodeFn, "f", param), of(api.NodeFn, "f", block, param), of(api.NodeFn, "f", block, block), of(api.NodeFn, "f", param, block, block), of(api.NodeFn, "f", block, param, block),
		of(api.NodeBlock, "x"), of(api.NodeBlock, 0),
	)
}

func TestP6_1_Params(t *testing.T) {
	for kind := api.Unique; kind <= api.Pure; kind++ {
		valid(t, of(api.NodeParam, "p", "P", kind, 0, 0), of(api.NodeParam, "p", "P", kind, 1, 1, atS, toS, inS), of(api.NodeParam, "p", "P", kind, 7, 2, toS))
	}
	valid(t,
		of(api.NodeParam, "p", "P", api.Imm, 999_999_999_999_999_999, 1), of(api.NodeParam, "p", "P", api.Imm, 1, 999_999_999_999_999_999),
		of(api.NodeParam, "p", "P", api.Imm, 0, 0, atS), of(api.NodeParam, "p", "P", api.Imm, 0, 0, inS),
		of(api.NodeParam, "p", "P", api.Imm, 0, 0, atS, toS), of(api.NodeParam, "p", "P", api.Imm, 0, 0, atS, inS), of(api.NodeParam, "p", "P", api.Imm, 0, 0, toS, inS),
	)
	invalid(t,
		of(api.NodeParam), of(api.NodeParam, "p", 0), of(api.NodeParam, "p", api.Imm, 0, 0), of(api.NodeParam, "p", atS), of(api.NodeParam, "p", api.Imm, 0, 0, atS),
		of(api.NodeParam, api.Imm, 0, 0), of(api.NodeParam, "p", "P"), of(api.NodeParam, "p", "P", api.Imm), of(api.NodeParam, "p", "P", api.Imm, 0), of(api.NodeParam, "p", "P", api.Imm, 0, 0, 0),
		of(api.NodeParam, "p", "P", "Q", api.Imm, 0, 0), of(api.NodeParam, "p", "P", atS),
		of(api.NodeParam, "p", "P", -1, 0, 0), of(api.NodeParam, "p", "P", 5, 0, 0),
		of(api.NodeParam, "p", "P", api.Imm, 0, 1), of(api.NodeParam, "p", "P", api.Imm, 1, 0), of(api.NodeParam, "p", "P", api.Imm, -1, 1), of(api.NodeParam, "p", "P", api.Imm, 1, -1), of(api.NodeParam, "p", "P", api.Imm, -1, -1),
		of(api.NodeParam, "p", "P", api.Imm, 1_000_000_000_000_000_000, 1), of(api.NodeParam, "p", "P", api.Imm, 1, 1_000_000_000_000_000_000),
	)
}

func TestP6_1_Names(t *testing.T) {
	valid(t,
		of(api.NodeNames, "s", api.NamesAt), of(api.NodeNames, "s", api.NamesTo), of(api.NodeNames, "s", api.NamesIn),
		of(api.NodeNames, "a", "b", "a", api.NamesAt),
	)
	invalid(t, of(api.NodeNames, api.NamesAt), of(api.NodeNames, "s"), of(api.NodeNames, "s", 0, 0), of(api.NodeNames, "s", -1), of(api.NodeNames, "s", 3))
	// The numbers of the Names of a Param increase.
	for _, kids := range [][]branch{{atS, atS}, {toS, atS}, {inS, atS}, {inS, toS}, {atS, inS, toS}, {toS, atS, inS}, {atS, toS, toS}, {inS, inS}, {atS, toS, inS, inS}, {atS, of(api.NodeNames, "s"), inS}} {
		invalid(t, of(api.NodeParam, "p", "P", api.Imm, 0, 0, kids))
	}
}

func TestP6_1_Statements(t *testing.T) {
	for _, kind := range []int{api.NodeLet, api.NodeSet} {
		valid(t, of(kind, "x", num), of(kind, "x", of(api.NodeNeg, num)))
		invalid(t, of(kind, num), of(kind, "x", "y", num), of(kind, "x", 0, num), of(kind, "x"), of(kind, "x", num, num), of(kind, "x", handle))
	}
	valid(t,
		of(api.NodeOpen, "h", "P", block, block),
		of(api.NodeDo, "h", "go"), of(api.NodeDo, "h", "go", aCase), of(api.NodeDo, "h", "go", aCase, aCase, aCase),
		of(api.NodeCase, "ok", block),
		of(api.NodeIf, num, block), of(api.NodeIf, num, block, block), of(api.NodeWhile, num, block), of(api.NodeReturn, num), exit,
	)
	invalid(t,
		of(api.NodeOpen, "h", block, block), of(api.NodeOpen, "h", "P", "Q", block, block), of(api.NodeOpen, "h", "P", 0, block, block),
		of(api.NodeOpen, "h", "P"), of(api.NodeOpen, "h", "P", block), of(api.NodeOpen, "h", "P", block, block, block), of(api.NodeOpen, "h", "P", block, exit), of(api.NodeOpen, "h", "P", exit, block),
		of(api.NodeDo, "h"), of(api.NodeDo, "h", "go", "ok"), of(api.NodeDo, "h", "go", 0), of(api.NodeDo, "h", "go", block), of(api.NodeDo, "h", "go", aCase, block),
		of(api.NodeCase, block), of(api.NodeCase, "ok", "no", block), of(api.NodeCase, "ok", 0, block), of(api.NodeCase, "ok"), of(api.NodeCase, "ok", block, block), of(api.NodeCase, "ok", exit),
		of(api.NodeIf, "x", num, block), of(api.NodeIf, 0, num, block), of(api.NodeIf), of(api.NodeIf, num), of(api.NodeIf, block), of(api.NodeIf, block, num), of(api.NodeIf, num, num), of(api.NodeIf, block, block), of(api.NodeIf, num, block, exit), of(api.NodeIf, num, block, block, block), of(api.NodeIf, num, num, block),
		of(api.NodeWhile, "x", num, block), of(api.NodeWhile, 0, num, block), of(api.NodeWhile, num), of(api.NodeWhile, block), of(api.NodeWhile, num, block, block), of(api.NodeWhile, block, num), of(api.NodeWhile),
		of(api.NodeReturn, "x", num), of(api.NodeReturn, 0, num), of(api.NodeReturn), of(api.NodeReturn, num, num), of(api.NodeReturn, block), of(api.NodeReturn, handle),
		of(api.NodeExit, "x"), of(api.NodeExit, 0), of(api.NodeExit, num), of(api.NodeExit, block),
	)
}

func TestP6_1_Splits(t *testing.T) {
	for kind := api.Full; kind <= api.Pure; kind++ {
		valid(t, of(api.NodeSplit, "g", "h", kind, 1, 2, block), of(api.NodeSplit, "g", "h", kind, 1, 2, inS, block))
	}
	valid(t, of(api.NodeSplit, "g", "h", api.Pure, 3, 2, block), of(api.NodeSplit, "g", "h", api.Pure, 1, 1, block), of(api.NodeSplit, "g", "h", api.Pure, 999_999_999_999_999_999, 999_999_999_999_999_999, block))
	invalid(t,
		of(api.NodeSplit, "g", "h", api.Unique, 1, 2, block), of(api.NodeSplit, "g", "h", api.Unique, 1, 2, inS, block), of(api.NodeSplit, "g", "h", 5, 1, 2, block), of(api.NodeSplit, "g", "h", -1, 1, 2, block),
		of(api.NodeSplit, "g", "h", api.Imm, 0, 1, block), of(api.NodeSplit, "g", "h", api.Imm, 1, 0, block), of(api.NodeSplit, "g", "h", api.Imm, 0, 0, block), of(api.NodeSplit, "g", "h", api.Imm, -1, 2, block), of(api.NodeSplit, "g", "h", api.Imm, 1, -2, block),
		of(api.NodeSplit, "g", "h", api.Imm, 1_000_000_000_000_000_000, 2, block), of(api.NodeSplit, "g", "h", api.Imm, 1, 1_000_000_000_000_000_000, block),
		of(api.NodeSplit, "g", api.Imm, 1, 2, block), of(api.NodeSplit, "g", "h", "k", api.Imm, 1, 2, block), of(api.NodeSplit, "g", "h", api.Imm, 1, block), of(api.NodeSplit, "g", "h", api.Imm, 1, 2, 3, block), of(api.NodeSplit, "g", "h", block),
		of(api.NodeSplit, "g", "h", api.Imm, 1, 2), of(api.NodeSplit, "g", "h", api.Imm, 1, 2, inS), of(api.NodeSplit, "g", "h", api.Imm, 1, 2, block, inS), of(api.NodeSplit, "g", "h", api.Imm, 1, 2, block, block), of(api.NodeSplit, "g", "h", api.Imm, 1, 2, inS, inS, block), of(api.NodeSplit, "g", "h", api.Imm, 1, 2, inS, block, block), of(api.NodeSplit, "g", "h", api.Imm, 1, 2, exit),
		of(api.NodeSplit, "g", "h", api.Imm, 1, 2, atS, block), of(api.NodeSplit, "g", "h", api.Imm, 1, 2, toS, block), of(api.NodeSplit, "g", "h", api.Imm, 1, 2, of(api.NodeNames, "s"), block), of(api.NodeSplit, "g", "h", api.Imm, 1, 2, of(api.NodeNames, "s", api.NamesIn, api.NamesIn), block), of(api.NodeSplit, "g", "h", api.Imm, 1, 2, of(api.NodeNames, api.NamesIn), block),
	)
}

func TestP6_1_Calls(t *testing.T) {
	valid(t,
		of(api.NodeCall, "f"), of(api.NodeCall, "f", "x"), of(api.NodeCall, "f", num), of(api.NodeCall, "f", handle),
		of(api.NodeCall, "f", "x", num, handle, of(api.NodeNeg, num), handle, handle, of(api.NodeVar, "y")),
		handle,
	)
	invalid(t,
		of(api.NodeCall), of(api.NodeCall, "f", "x", "y"), of(api.NodeCall, "f", 0), of(api.NodeCall, "f", block), of(api.NodeCall, "f", num, exit), of(api.NodeCall, "f", handle, param),
		of(api.NodeHandle), of(api.NodeHandle, "h", "h"), of(api.NodeHandle, "h", 0), of(api.NodeHandle, "h", num),
	)
}

func TestP6_1_Expressions(t *testing.T) {
	for sign := api.BinLess; sign <= api.BinDiv; sign++ {
		valid(t, of(api.NodeBin, sign, num, num))
	}
	valid(t,
		of(api.NodeNum, 0), of(api.NodeNum, 999_999_999_999_999_999), of(api.NodeVar, "x"), of(api.NodeNeg, num),
		of(api.NodeBin, api.BinLess, of(api.NodeBin, api.BinSame, num, num), of(api.NodeNeg, of(api.NodeVar, "x"))),
	)
	invalid(t,
		of(api.NodeNum), of(api.NodeNum, 1, 1), of(api.NodeNum, "x", 1), of(api.NodeNum, 1, num), of(api.NodeNum, -1), of(api.NodeNum, 1_000_000_000_000_000_000), of(api.NodeNum, -1<<63), of(api.NodeNum, 1<<63-1),
		of(api.NodeVar), of(api.NodeVar, "x", "y"), of(api.NodeVar, "x", 0), of(api.NodeVar, "x", num),
		of(api.NodeBin, num, num), of(api.NodeBin, 0, 0, num, num), of(api.NodeBin, "x", 0, num, num), of(api.NodeBin, -1, num, num), of(api.NodeBin, 6, num, num), of(api.NodeBin, 0), of(api.NodeBin, 0, num), of(api.NodeBin, 0, num, num, num), of(api.NodeBin, 0, num, handle), of(api.NodeBin, 0, handle, num),
		of(api.NodeNeg), of(api.NodeNeg, num, num), of(api.NodeNeg, "x", num), of(api.NodeNeg, 0, num), of(api.NodeNeg, handle), of(api.NodeNeg, block),
	)
}
