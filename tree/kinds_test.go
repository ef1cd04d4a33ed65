package tree_test

import (
	"slices"
	"strings"
	"testing"

	"ballcock/api"
)

// TestP6_1_Kids puts each kind of node as a further child into each kind of node that may have any number of some.
func TestP6_1_Kids(t *testing.T) {
	statements := []int{api.NodeLet, api.NodeSet, api.NodeOpen, api.NodeDo, api.NodeSplit, api.NodeCall, api.NodeIf, api.NodeWhile, api.NodeReturn, api.NodeExit}
	expressions := []int{api.NodeNum, api.NodeVar, api.NodeBin, api.NodeNeg}
	for _, c := range []struct {
		in   func(b branch) branch
		kids []int
	}{
		{func(b branch) branch { return of(api.NodeProgram, fn, b, proto) }, []int{api.NodeProto, api.NodeFn}},
		{func(b branch) branch { return of(api.NodeProto, "P", state, b, op) }, []int{api.NodeState, api.NodeOp}},
		{func(b branch) branch { return of(api.NodeFn, "f", param, b, block) }, []int{api.NodeParam}},
		{func(b branch) branch { return of(api.NodeFn, "f", b) }, []int{api.NodeBlock}},
		{func(b branch) branch { return of(api.NodeParam, "p", "P", api.Imm, 0, 0, atS, b) }, []int{api.NodeNames}},
		{func(b branch) branch { return of(api.NodeBlock, exit, b, exit) }, statements},
		{func(b branch) branch { return of(api.NodeLet, "x", b) }, expressions},
		{func(b branch) branch { return of(api.NodeSet, "x", b) }, expressions},
		{func(b branch) branch { return of(api.NodeOpen, "h", "P", block, b) }, []int{api.NodeBlock}},
		{func(b branch) branch { return of(api.NodeOpen, "h", "P", b, block) }, []int{api.NodeBlock}},
		{func(b branch) branch { return of(api.NodeDo, "h", "go", aCase, b) }, []int{api.NodeCase}},
		{func(b branch) branch { return of(api.NodeCase, "ok", b) }, []int{api.NodeBlock}},
		{func(b branch) branch { return of(api.NodeSplit, "g", "h", api.Imm, 1, 2, b) }, []int{api.NodeBlock}},
		{func(b branch) branch { return of(api.NodeSplit, "g", "h", api.Imm, 1, 2, b, block) }, []int{api.NodeNames}},
		{func(b branch) branch { return of(api.NodeSplit, "g", "h", api.Imm, 1, 2, inS, b) }, []int{api.NodeBlock}},
		{func(b branch) branch { return of(api.NodeCall, "f", b, num) }, append([]int{api.NodeHandle}, expressions...)},
		{func(b branch) branch { return of(api.NodeIf, b, block) }, expressions},
		{func(b branch) branch { return of(api.NodeIf, num, b) }, []int{api.NodeBlock}},
		{func(b branch) branch { return of(api.NodeIf, num, block, b) }, []int{api.NodeBlock}},
		{func(b branch) branch { return of(api.NodeIf, num, b, block) }, []int{api.NodeBlock}},
		{func(b branch) branch { return of(api.NodeWhile, b, block) }, expressions},
		{func(b branch) branch { return of(api.NodeWhile, num, b) }, []int{api.NodeBlock}},
		{func(b branch) branch { return of(api.NodeReturn, b) }, expressions},
		{func(b branch) branch { return of(api.NodeBin, api.BinSub, b, num) }, expressions},
		{func(b branch) branch { return of(api.NodeBin, api.BinSub, num, b) }, expressions},
		{func(b branch) branch { return of(api.NodeNeg, b) }, expressions},
		// Those without children.
		{func(b branch) branch { return of(api.NodeState, "s", 0, b) }, nil},
		{func(b branch) branch { return of(api.NodeOp, "go", "s", "ok", "s", b) }, nil},
		{func(b branch) branch { return of(api.NodeParam, "p", b) }, nil},
		{func(b branch) branch { return of(api.NodeNames, "s", 2, b) }, nil},
		{func(b branch) branch { return of(api.NodeHandle, "h", b) }, nil},
		{func(b branch) branch { return of(api.NodeExit, b) }, nil},
		{func(b branch) branch { return of(api.NodeNum, 1, b) }, nil},
		{func(b branch) branch { return of(api.NodeVar, "x", b) }, nil},
	} {
		for _, kid := range append(samples(), of(api.NodeProgram), of(-1), of(24)) {
			if b := c.in(kid); slices.Contains(c.kids, kid.kind) {
				valid(t, b)
			} else {
				invalid(t, b)
			}
		}
	}
}

func TestP6_1_Samples(t *testing.T) {
	kinds := map[int]bool{api.NodeProgram: true}
	for _, b := range samples() {
		valid(t, b)
		kinds[b.kind] = true
	}
	if len(kinds) != 24 {
		t.Errorf("samples of %d kinds", len(kinds))
	}
}

// TestP6_1_OtherKinds puts kinds that do not exist, and the kind of the root, in the place of each kind.
func TestP6_1_OtherKinds(t *testing.T) {
	for _, b := range samples() {
		for _, kind := range []int{-1, -24, 24, 25, 99, 1 << 40, -1 << 63, 1<<63 - 1, api.NodeProgram} {
			l := around(b)
			at := slices.IndexFunc(l, func(n api.Node) bool { return n.Kind == b.kind })
			l[at].Kind = kind
			isNone(t, l)
		}
	}
	isNone(t, []api.Node{{Kind: 24}})
	isNone(t, []api.Node{{Kind: -1}})
}

// TestP6_1_Root lets each other kind be the root.
func TestP6_1_Root(t *testing.T) {
	for _, b := range samples() {
		isNone(t, list(b))
	}
}

// TestP6_1_Words changes each word of each kind of node.
func TestP6_1_Words(t *testing.T) {
	long := strings.Repeat("n", 16)
	samples := append(samples(), of(api.NodeParam, "p", "P", api.Imm, 0, 0), of(api.NodeOp, "go", "s", "ok", "s", "no", "s"), of(api.NodeNames, "a", "b", "c", 1), of(api.NodeCall, "f", "x"))
	words := 0
	for _, b := range samples {
		for i := range b.words {
			words++
			for _, c := range []struct {
				word string
				name bool
			}{
				{"x", true}, {"_", true}, {"Z9_", true}, {"file", true}, {"unique_", true}, {"Fn", true}, {"main", true}, {long, true}, {long[:15] + "9", true},
				{long + "n", false}, {"", false}, {" ", false}, {"x y", false}, {"9", false}, {"9x", false}, {"x-", false}, {"x\n", false}, {"é", false}, {"x\x00", false}, {"#", false},
				{"proto", false}, {"state", false}, {"final", false}, {"op", false}, {"fn", false}, {"least", false}, {"at", false}, {"to", false}, {"in", false}, {"let", false}, {"open", false}, {"else", false}, {"do", false}, {"split", false}, {"call", false}, {"if", false}, {"while", false}, {"return", false}, {"exit", false}, {"unique", false}, {"full", false}, {"share", false}, {"imm", false}, {"pure", false},
			} {
				changed := b
				changed.words = slices.Clone(b.words)
				changed.words[i] = c.word
				if c.name {
					valid(t, changed)
				} else {
					invalid(t, changed)
				}
			}
		}
	}
	if words < 30 {
		t.Errorf("only %d words", words)
	}
}

// TestP6_1_Counts gives each kind of node one more and one fewer of its words, numbers and children.
func TestP6_1_Counts(t *testing.T) {
	for _, b := range append(samples(), of(api.NodeProgram), of(api.NodeParam, "p", "P", api.Imm, 0, 0)) {
		if more := b; b.kind != api.NodeNames && b.kind != api.NodeCall && len(b.words) > 0 {
			more.words = append(slices.Clone(b.words), "x")
			invalid(t, more)
		}
		more := b
		more.nums = append(slices.Clone(b.nums), 0)
		invalid(t, more)
		if len(b.nums) > 0 {
			fewer := b
			fewer.nums = b.nums[:len(b.nums)-1]
			invalid(t, fewer)
		}
		if len(b.words) > 0 && len(b.nums) != 3 {
			fewer := b
			fewer.words = b.words[:len(b.words)-1]
			invalid(t, fewer)
		}
		if len(b.kids) > 0 {
			fewer := b
			fewer.kids = b.kids[:len(b.kids)-1]
			invalid(t, fewer)
		}
	}
}
