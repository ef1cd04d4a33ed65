package show_test

import (
	"math"
	"slices"
	"testing"

	"ballcock/api"
	"ballcock/show"
)

// isNone checks that there is no text of a list that is no valid tree, nor of any of its nodes.
func isNone(t *testing.T, l []api.Node) {
	t.Helper()
	shown := l
	if len(l) > 30 {
		shown = l[:30]
	}
	if s := show.Show(l); s != "" {
		t.Errorf("Show(%v) = %q", shown, s)
	}
	for at := -1; at <= min(len(l), 1600); at++ {
		if s := show.Expr(l, at); s != "" {
			t.Errorf("Expr(%v, %d) = %q", shown, at, s)
		}
	}
	for _, at := range []int{math.MinInt, math.MaxInt} {
		if s := show.Expr(l, at); s != "" {
			t.Errorf("Expr(%v, %d) = %q", shown, at, s)
		}
	}
}

func TestP8_1_NoTree(t *testing.T) {
	num := api.Node{Kind: api.NodeNum, Nums: []int64{1}}
	twoParents := list(inBlock(of(api.NodeReturn, bin(api.BinAdd, one, one))))
	twoParents[4].Kids = []int{5, 5}
	orphan := append(list(inBlock(of(api.NodeReturn, one))), num)
	for _, l := range [][]api.Node{
		nil, {}, {num}, {{}, {}}, {{}, num}, {{Kids: []int{0}}}, {{Kids: []int{1}}}, {{Kids: []int{-1}}}, {{Kids: []int{math.MaxInt}}},
		{num, {}}, {{Kind: api.NodeNeg, Kids: []int{1}}, num}, {{Kind: api.NodeNeg, Kids: []int{0}}},
		{{Kind: api.NodeNeg, Kids: []int{1}}, {Kind: api.NodeNeg, Kids: []int{0}}},
		{{Kids: []int{1, 1}}, {Kind: api.NodeProto, Words: []string{"P"}}},
		twoParents, orphan,
		{{Kids: []int{2}}, {Kind: api.NodeBlock}, {Kind: api.NodeFn, Words: []string{"f"}, Kids: []int{1}}},
	} {
		isNone(t, l)
	}
}

// TestP8_1_WrongRoot has lists that are valid below a root of another kind.
func TestP8_1_WrongRoot(t *testing.T) {
	for _, b := range samples() {
		isNone(t, list(b))
		isNone(t, layers(b))
		l := list(around(b))
		for kind := -1; kind <= 24; kind++ {
			if kind != api.NodeProgram {
				l[0].Kind = kind
				isNone(t, l)
			}
		}
	}
}

// wrong are lists that are no valid trees because of one thing in one node, beside expressions that are valid.
func wrong() []branch {
	return []branch{
		of(api.NodeProgram, "P"), of(api.NodeProgram, 1), inProgram(inProgram()), inProgram(one), inProgram(of(-1)), inProgram(of(24)), inProgram(of(math.MaxInt)), inProgram(of(math.MinInt)),
		of(api.NodeProto), of(api.NodeProto, "fn"), of(api.NodeProto, "P", "Q"), of(api.NodeProto, "P", one),
		of(api.NodeState, "s"), of(api.NodeState, "s", 2), of(api.NodeState, "s", -1), of(api.NodeState, 0), of(api.NodeState, "state", 0),
		of(api.NodeOp), of(api.NodeOp, "go"), of(api.NodeOp, "go", "s"), of(api.NodeOp, "go", "s", "ok"), of(api.NodeOp, "go", "s", "ok", "s", "no"),
		of(api.NodeFn, "f"), of(api.NodeFn, block), of(api.NodeFn, "f", named), of(api.NodeFn, "f", block, named), of(api.NodeFn, "f", block, block),
		of(api.NodeParam), of(api.NodeParam, "p", "P"), of(api.NodeParam, "p", "P", 5, 0, 0), of(api.NodeParam, "p", "P", -1, 0, 0), of(api.NodeParam, "p", "P", api.Imm, 0, 1), of(api.NodeParam, "p", "P", api.Imm, 1, 0), of(api.NodeParam, "p", inS), of(api.NodeParam, "p", "P", api.Imm, 0, 0, inS, inS),
		of(api.NodeNames, 2), of(api.NodeNames, "s"), of(api.NodeNames, "s", 3), of(api.NodeNames, "s", -1), of(api.NodeNames, "in", 2),
		of(api.NodeBlock, "x"), of(api.NodeBlock, one), of(api.NodeBlock, block), of(api.NodeBlock, handle), of(api.NodeBlock, ok),
		of(api.NodeLet, one), of(api.NodeLet, "x"), of(api.NodeLet, "x", one, one), of(api.NodeLet, "let", one), of(api.NodeLet, "x", handle),
		of(api.NodeSet, one), of(api.NodeSet, "x"), of(api.NodeSet, "x", exit), of(api.NodeSet, "9", one), of(api.NodeSet, "", one),
		of(api.NodeOpen, "h", "P"), of(api.NodeOpen, "h", "P", block), of(api.NodeOpen, "h", block, block), of(api.NodeOpen, "h", "P", block, one),
		of(api.NodeDo), of(api.NodeDo, "h"), of(api.NodeDo, "h", "go", block), of(api.NodeDo, "h", "go", "go"),
		of(api.NodeCase, block), of(api.NodeCase, "ok"), of(api.NodeCase, "ok", exit), of(api.NodeCase, "o k", block),
		of(api.NodeSplit, "g", "h", api.Unique, 1, 2, block), of(api.NodeSplit, "g", "h", 5, 1, 2, block), of(api.NodeSplit, "g", "h", api.Imm, 0, 2, block), of(api.NodeSplit, "g", "h", api.Imm, 1, 0, block), of(api.NodeSplit, "g", "h", api.Imm, 1, 2, inS), of(api.NodeSplit, "g", "h", api.Imm, 1, 2), of(api.NodeSplit, "g", "h", api.Imm, 1, 2, of(api.NodeNames, "s", api.NamesAt), block), of(api.NodeSplit, "g", "h", api.Imm, block),
		of(api.NodeCall), of(api.NodeCall, "f", "g", "x"), of(api.NodeCall, "f", block), of(api.NodeCall, "f", exit),
		of(api.NodeHandle), of(api.NodeHandle, "&h"), of(api.NodeHandle, "h", one),
		of(api.NodeIf), of(api.NodeIf, one), of(api.NodeIf, block), of(api.NodeIf, one, block, block, block), of(api.NodeIf, one, one), of(api.NodeIf, handle, block),
		of(api.NodeWhile, one), of(api.NodeWhile, one, block, block), of(api.NodeWhile, block, one), of(api.NodeWhile, 1, one, block),
		of(api.NodeReturn), of(api.NodeReturn, one, one), of(api.NodeReturn, block),
		of(api.NodeExit, one), of(api.NodeExit, "x"), of(api.NodeExit, 0),
		of(api.NodeNum), of(api.NodeNum, -1), of(api.NodeNum, 1_000_000_000_000_000_000), of(api.NodeNum, math.MaxInt), of(api.NodeNum, math.MinInt), of(api.NodeNum, 1, 1), of(api.NodeNum, 1, one),
		of(api.NodeVar), of(api.NodeVar, ""), of(api.NodeVar, "seventeen_letters"), of(api.NodeVar, "x y"), of(api.NodeVar, "pure"), of(api.NodeVar, "1"), of(api.NodeVar, "é"), of(api.NodeVar, "x", "y"), of(api.NodeVar, "x", one),
		of(api.NodeBin, one, one), of(api.NodeBin, 6, one, one), of(api.NodeBin, -1, one, one), of(api.NodeBin, api.BinAdd), of(api.NodeBin, api.BinAdd, one), of(api.NodeBin, api.BinAdd, one, one, one), of(api.NodeBin, api.BinAdd, one, exit), of(api.NodeBin, api.BinAdd, one, handle),
		of(api.NodeNeg), of(api.NodeNeg, one, one), of(api.NodeNeg, block), of(api.NodeNeg, 1, one), of(api.NodeNeg, handle),
	}
}

func TestP8_1_WrongNode(t *testing.T) {
	for _, b := range wrong() {
		program := around(b)
		isNone(t, list(program))
		if b.kind != api.NodeProgram {
			// The rest of the tree is valid, and stands ahead of it and behind it.
			before, behind := of(api.NodeFn, "g", of(api.NodeBlock, of(api.NodeReturn, neg(one)))), of(api.NodeFn, "h", of(api.NodeBlock, of(api.NodeReturn, name("x"))))
			program.kids = slices.Concat([]branch{before}, program.kids, []branch{behind})
			isNone(t, list(program))
			isNone(t, layers(program))
		}
	}
}

func TestP8_1_TooBig(t *testing.T) {
	for _, more := range []int{0, 1, 100} {
		isNone(t, list(inProgram(many(1500+more, proto)...)))
		isNone(t, list(inBlock(many(1498+more, exit)...)))
		isNone(t, list(inBlock(of(api.NodeCall, "f", many(1497+more, one)))))
	}
}

func TestP8_1_TooDeep(t *testing.T) {
	deep := one
	for range 19 {
		deep = neg(deep)
	}
	prints(t, inBlock(of(api.NodeReturn, deep)), "fn f() {\n  return "+times(19, "-")+"1;\n}\n")
	isNone(t, list(inBlock(of(api.NodeReturn, neg(deep)))))
	isNone(t, list(inBlock(of(api.NodeReturn, one), of(api.NodeReturn, neg(neg(deep))))))
	isNone(t, list(inBlock(of(api.NodeWhile, deep, block), of(api.NodeWhile, neg(deep), block))))
	blocks := exit
	for range 10 {
		blocks = of(api.NodeIf, one, of(api.NodeBlock, blocks))
	}
	isNone(t, list(inBlock(of(api.NodeWhile, one, of(api.NodeBlock, blocks)))))
	if l := list(inBlock(of(api.NodeReturn, neg(deep)))); show.Expr(l, 5) != "" || show.Expr(l, len(l)-1) != "" {
		t.Error("an expression of a tree that is too deep")
	}
	chain := make([]api.Node, 1500)
	for at := range chain {
		chain[at] = api.Node{Kind: api.NodeNeg, Kids: []int{at + 1}}
	}
	chain[1499] = node(one)
	isNone(t, chain)
	isNone(t, chain[1:])
}
