package show_test

import (
	"fmt"
	"slices"
	"strings"
	"testing"

	"ballcock/api"
	"ballcock/show"
	"ballcock/tree"
)

// branch is a node with all below it.
type branch struct {
	kind  int
	words []string
	nums  []int64
	kids  []branch
}

// of is a branch with these words (strings), numbers (ints) and children (branches), each in their order.
func of(kind int, parts ...any) branch {
	b := branch{kind: kind}
	for _, part := range parts {
		switch part := part.(type) {
		case string:
			b.words = append(b.words, part)
		case int:
			b.nums = append(b.nums, int64(part))
		case branch:
			b.kids = append(b.kids, part)
		case []branch:
			b.kids = append(b.kids, part...)
		default:
			panic(fmt.Sprintf("no part of a node: %v", part))
		}
	}
	return b
}

// many are so many branches that are alike.
func many(count int, b branch) []branch {
	return slices.Repeat([]branch{b}, count)
}

// times is a text again and again.
func times(count int, s string) string {
	return strings.Repeat(s, count)
}

// list is the list of the nodes of a branch in preorder.
func list(b branch) []api.Node {
	var l []api.Node
	var add func(b branch) int
	add = func(b branch) int {
		at := len(l)
		l = append(l, node(b))
		for _, kid := range b.kids {
			place := add(kid)
			l[at].Kids = append(l[at].Kids, place)
		}
		return at
	}
	add(b)
	return l
}

// layers is the list of the nodes of a branch by their depths, those of each depth backwards, with offsets that differ.
func layers(b branch) []api.Node {
	l := []api.Node{node(b)}
	branches := []branch{b}
	for at := 0; at < len(branches); at++ {
		l[at].At = 1000 - at
		for _, kid := range slices.Backward(branches[at].kids) {
			l[at].Kids = append(l[at].Kids, len(l))
			l = append(l, node(kid))
			branches = append(branches, kid)
		}
		slices.Reverse(l[at].Kids)
	}
	return l
}

// node is that of a branch, without children.
func node(b branch) api.Node {
	return api.Node{Kind: b.kind, Words: slices.Clone(b.words), Nums: slices.Clone(b.nums)}
}

func inProgram(b ...branch) branch { return of(api.NodeProgram, b) }

func inBlock(b ...branch) branch {
	return inProgram(of(api.NodeFn, "f", of(api.NodeBlock, b)))
}

// prints checks the text of a tree, whatever the indices of its nodes are.
func prints(t *testing.T, program branch, want string) {
	t.Helper()
	for _, l := range [][]api.Node{list(program), layers(program)} {
		if !tree.Right(l) {
			t.Fatalf("%v is no valid tree", l)
		}
		if s := show.Show(l); s != want {
			t.Errorf("Show(%v)\n got %q\nwant %q", l, s, want)
		}
	}
}

// indented are lines with blanks at their beginnings.
func indented(blanks string, lines []string) string {
	var s strings.Builder
	for _, line := range lines {
		s.WriteString(blanks + line + "\n")
	}
	return s.String()
}

// protoPart checks the lines of a part of a protocol, alone and among others.
func protoPart(t *testing.T, b branch, lines ...string) {
	t.Helper()
	want := indented("  ", lines)
	prints(t, inProgram(of(api.NodeProto, "P", b)), "proto P {\n"+want+"}\n")
	prints(t, inProgram(of(api.NodeProto, "P", state, b, b, state)), "proto P {\n  state s;\n"+want+want+"  state s;\n}\n")
}

// param checks the text of a parameter, alone and among others.
func param(t *testing.T, b branch, want string) {
	t.Helper()
	prints(t, inProgram(of(api.NodeFn, "f", b, block)), "fn f("+want+") { }\n")
	prints(t, inProgram(of(api.NodeFn, "f", b, named, b, b, block)), "fn f("+want+", p, "+want+", "+want+") { }\n")
}

// statement checks the lines of a statement, alone, among others, and in a block that is in others.
func statement(t *testing.T, b branch, lines ...string) {
	t.Helper()
	want := indented("  ", lines)
	prints(t, inBlock(b), "fn f() {\n"+want+"}\n")
	prints(t, inBlock(exit, b, b, exit), "fn f() {\n  exit;\n"+want+want+"  exit;\n}\n")
	prints(t, inBlock(of(api.NodeWhile, one, of(api.NodeBlock, of(api.NodeIf, one, of(api.NodeBlock, b, exit))))),
		"fn f() {\n  while 1 {\n    if 1 {\n"+indented("      ", lines)+"      exit;\n    }\n  }\n}\n")
}

// expression checks the text of an expression: in a tree, and as one of a valid tree.
func expression(t *testing.T, b branch, want string) {
	t.Helper()
	statement(t, of(api.NodeSet, "x", b), "x = "+want+";")
	program := inBlock(exit, of(api.NodeReturn, b), exit)
	for _, l := range [][]api.Node{list(program), layers(program)} {
		at := slices.IndexFunc(l, func(n api.Node) bool { return n.Kind == api.NodeReturn })
		if s := show.Expr(l, l[at].Kids[0]); s != want {
			t.Errorf("Expr(%v, %d) = %q; want %q", l, l[at].Kids[0], s, want)
		}
	}
}

// Branches that are valid where they may stand.
var (
	state  = of(api.NodeState, "s", 0)
	named  = of(api.NodeParam, "p")
	inS    = of(api.NodeNames, "s", api.NamesIn)
	block  = of(api.NodeBlock)
	one    = of(api.NodeNum, 1)
	exit   = of(api.NodeExit)
	handle = of(api.NodeHandle, "h")
	ok     = of(api.NodeCase, "ok", block)
	fn     = of(api.NodeFn, "f", block)
	proto  = of(api.NodeProto, "P")
	exits  = of(api.NodeBlock, exit)
)

func name(s string) branch { return of(api.NodeVar, s) }

func bin(sign int, left, right branch) branch { return of(api.NodeBin, sign, left, right) }

func neg(b branch) branch { return of(api.NodeNeg, b) }

// samples has a valid branch of each kind that is part of a program.
func samples() []branch {
	return []branch{
		proto, state, of(api.NodeOp, "go", "s", "ok", "s"), fn, named, inS, block,
		of(api.NodeLet, "x", one), of(api.NodeSet, "x", one), of(api.NodeOpen, "h", "P", block, block),
		of(api.NodeDo, "h", "go"), ok, of(api.NodeSplit, "g", "h", api.Imm, 1, 2, block), of(api.NodeCall, "f"), handle,
		of(api.NodeIf, one, block), of(api.NodeWhile, one, block), of(api.NodeReturn, one), exit,
		one, name("x"), bin(api.BinAdd, one, one), neg(one),
	}
}

// around is a program with this branch in a place where it may stand.
func around(b branch) branch {
	switch b.kind {
	case api.NodeProgram:
		return b
	case api.NodeProto, api.NodeFn:
		return inProgram(b)
	case api.NodeState, api.NodeOp:
		return inProgram(of(api.NodeProto, "P", b))
	case api.NodeParam:
		return inProgram(of(api.NodeFn, "f", b, block))
	case api.NodeNames:
		return inProgram(of(api.NodeFn, "f", of(api.NodeParam, "p", "P", api.Imm, 0, 0, b), block))
	case api.NodeBlock:
		return inProgram(of(api.NodeFn, "f", b))
	case api.NodeCase:
		return inBlock(of(api.NodeDo, "h", "go", b))
	case api.NodeHandle:
		return inBlock(of(api.NodeCall, "f", b))
	case api.NodeNum, api.NodeVar, api.NodeBin, api.NodeNeg:
		return inBlock(of(api.NodeReturn, b))
	}
	return inBlock(b)
}
