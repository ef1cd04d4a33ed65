package tree_test

import (
	"slices"
	"testing"

	"ballcock/api"
	"ballcock/tree"
)

func TestP6_2_Walk(t *testing.T) {
	for _, c := range []struct {
		l    []api.Node
		want []int
	}{
		{list(of(api.NodeProgram)), []int{0}},
		{inProgram(proto, proto, proto), []int{0, 1, 2, 3}},
		{inBlock(of(api.NodeIf, num, block, of(api.NodeBlock, exit)), exit), []int{0, 1, 2, 3, 4, 5, 6, 7, 8}},
		// All Kids are listed in their own order, whatever their indices are.
		{sample(), []int{0, 1, 2, 4, 8, 10, 9, 3, 6, 5, 7}},
		{[]api.Node{{Kids: []int{3, 1, 2}}, {Kind: api.NodeProto, Words: []string{"A"}}, {Kind: api.NodeProto, Words: []string{"B"}}, {Kind: api.NodeProto, Words: []string{"C"}}}, []int{0, 3, 1, 2}},
		// Everything below a child comes ahead of the next child.
		{[]api.Node{{Kids: []int{2, 1}}, {Kind: api.NodeFn, Words: []string{"f"}, Kids: []int{3}}, {Kind: api.NodeFn, Words: []string{"g"}, Kids: []int{4}}, {Kind: api.NodeBlock}, {Kind: api.NodeBlock}}, []int{0, 2, 4, 1, 3}},
	} {
		if l := tree.Walk(c.l); !slices.Equal(l, c.want) {
			t.Errorf("Walk(%s) = %v; want %v", text(c.l), l, c.want)
		}
	}
	l := inProgram(many(1499, proto)...)
	slices.Reverse(l[0].Kids)
	want := []int{0}
	for at := 1499; at > 0; at-- {
		want = append(want, at)
	}
	if got := tree.Walk(l); !slices.Equal(got, want) {
		t.Errorf("Walk of a Program with its children backwards = %v", got)
	}
	for depth := 5; depth <= 24; depth++ {
		if got := tree.Walk(chain(depth)); len(got) != depth || !slices.IsSorted(got) {
			t.Errorf("Walk of a tree of depth %d = %v", depth, got)
		}
	}
}

// moves is a list of trees that are the same, with other indices and offsets.
func moves() [][]api.Node {
	var l [][]api.Node
	for _, pair := range [][2]int{{0, 0}, {3, 4}, {7, 8}, {9, 10}, {5, 6}, {6, 8}} {
		moved := sample()
		swap(moved, pair[0], pair[1])
		l = append(l, moved)
	}
	for _, offset := range []int{0, 1, -1, 1 << 62} {
		moved := sample()
		for i := range moved {
			moved[i].At = offset
		}
		l = append(l, moved)
	}
	return append(l, tree.Build(sample(), 0))
}

func TestP6_2_Same(t *testing.T) {
	for i, a := range moves() {
		for j, b := range moves() {
			if !tree.Same(a, b) {
				t.Errorf("the trees %d and %d are not the same", i, j)
			}
		}
	}
	// Nil and empty lists are equal.
	empty := sample()
	for i := range empty {
		empty[i].Words, empty[i].Nums, empty[i].Kids = append([]string{}, empty[i].Words...), append([]int64{}, empty[i].Nums...), append([]int{}, empty[i].Kids...)
	}
	if !tree.Same(empty, sample()) || !tree.Same(sample(), empty) {
		t.Error("empty lists instead of nil ones make another tree")
	}
}

func TestP6_2_SameNot(t *testing.T) {
	for i, change := range []func(l []api.Node){
		func(l []api.Node) { l[1].Words[0] = "Main" },
		func(l []api.Node) { l[4].Kind = api.NodeSet },
		func(l []api.Node) { l[4].Words[0] = "y" },
		func(l []api.Node) { l[6].Words[0] = "y" },
		func(l []api.Node) { l[8].Nums[0] = api.BinSub },
		func(l []api.Node) { l[9].Nums[0] = 1 },
		func(l []api.Node) { l[10].Nums[0] = 2 },
		func(l []api.Node) { l[9] = api.Node{Kind: api.NodeVar, Words: []string{"x"}} },
		// Only the order of the children, or the place of a child, differs.
		func(l []api.Node) { l[8].Kids[0], l[8].Kids[1] = 9, 10 },
		func(l []api.Node) { l[2].Kids[0], l[2].Kids[1] = 3, 4 },
		func(l []api.Node) { l[2].Kids, l[5].Kids = []int{4, 3, 7}, nil },
		// Another kind of node with the same parts.
		func(l []api.Node) { l[7].Kind = api.NodeBlock; l[5] = api.Node{Kind: api.NodeIf}; l[5].Kids = []int{7} },
	} {
		l := sample()
		change(l)
		for _, other := range moves() {
			if tree.Same(l, other) || tree.Same(other, l) {
				t.Errorf("change %d leaves the tree the same", i)
				break
			}
		}
	}
	// One tree has more nodes than the other, at the end or within.
	for _, pair := range [][2][]api.Node{
		{inBlock(), inBlock(exit)}, {inBlock(exit), inBlock(exit, exit)}, {inProgram(), inProgram(proto)},
		{inProgram(fn), inProgram(of(api.NodeFn, "f", param, block))},
		{inProgram(proto, fn), inProgram(fn, proto)},
		{inProgram(of(api.NodeProto, "P", state), proto), inProgram(proto, of(api.NodeProto, "P", state))},
		{inBlock(of(api.NodeIf, num, block)), inBlock(of(api.NodeIf, num, block, block))},
		{inBlock(of(api.NodeIf, num, of(api.NodeBlock, exit), block)), inBlock(of(api.NodeIf, num, block, of(api.NodeBlock, exit)))},
		{inBlock(of(api.NodeCall, "f")), inBlock(of(api.NodeCall, "f", "f"))},
		{inBlock(of(api.NodeCall, "f", handle)), inBlock(of(api.NodeCall, "f", of(api.NodeVar, "h")))},
		{around(of(api.NodeState, "s", 0)), around(of(api.NodeState, "s", 1))},
		{around(of(api.NodeOp, "go", "a", "b", "c")), around(of(api.NodeOp, "go", "a", "b", "c", "b", "c"))},
	} {
		isTree(t, pair[0])
		isTree(t, pair[1])
		if tree.Same(pair[0], pair[1]) || tree.Same(pair[1], pair[0]) {
			t.Errorf("Same(%s, %s)", text(pair[0]), text(pair[1]))
		}
	}
}

func TestP6_2_SameInvalid(t *testing.T) {
	for _, l := range [][]api.Node{nil, {}, {{}, {}}, {{Kind: api.NodeBlock}}, sample()[:10], chain(25), inProgram(many(1500, proto)...), around(of(api.NodeVar, "fn"))} {
		if tree.Same(l, l) || tree.Same(l, sample()) || tree.Same(sample(), l) || tree.Same(l, nil) || tree.Same(nil, l) {
			t.Errorf("%s is the same as a tree", text(l))
		}
	}
}

// equal tells whether two lists have the same nodes, with offsets; nil and empty lists are equal.
func equal(a, b []api.Node) bool {
	return slices.EqualFunc(a, b, func(a, b api.Node) bool {
		return a.Kind == b.Kind && a.At == b.At && slices.Equal(a.Words, b.Words) && slices.Equal(a.Nums, b.Nums) && slices.Equal(a.Kids, b.Kids)
	})
}

func TestP6_2_Build(t *testing.T) {
	l := sample()
	for at, want := range [][]api.Node{
		{
			{Kind: api.NodeProgram, Kids: []int{1}, At: 0}, {Kind: api.NodeFn, Words: []string{"main"}, Kids: []int{2}, At: 1}, {Kind: api.NodeBlock, Kids: []int{3, 7}, At: 2},
			{Kind: api.NodeLet, Words: []string{"x"}, Kids: []int{4}, At: 4}, {Kind: api.NodeBin, Nums: []int64{api.BinAdd}, Kids: []int{5, 6}, At: 8}, {Kind: api.NodeNum, Nums: []int64{1}, At: 10}, {Kind: api.NodeNum, Nums: []int64{2}, At: 9},
			{Kind: api.NodeWhile, Kids: []int{8, 9}, At: 3}, {Kind: api.NodeVar, Words: []string{"x"}, At: 6}, {Kind: api.NodeBlock, Kids: []int{10}, At: 5}, {Kind: api.NodeExit, At: 7},
		},
		{
			{Kind: api.NodeFn, Words: []string{"main"}, Kids: []int{1}, At: 1}, {Kind: api.NodeBlock, Kids: []int{2, 6}, At: 2},
			{Kind: api.NodeLet, Words: []string{"x"}, Kids: []int{3}, At: 4}, {Kind: api.NodeBin, Nums: []int64{api.BinAdd}, Kids: []int{4, 5}, At: 8}, {Kind: api.NodeNum, Nums: []int64{1}, At: 10}, {Kind: api.NodeNum, Nums: []int64{2}, At: 9},
			{Kind: api.NodeWhile, Kids: []int{7, 8}, At: 3}, {Kind: api.NodeVar, Words: []string{"x"}, At: 6}, {Kind: api.NodeBlock, Kids: []int{9}, At: 5}, {Kind: api.NodeExit, At: 7},
		},
		{
			{Kind: api.NodeBlock, Kids: []int{1, 5}, At: 2},
			{Kind: api.NodeLet, Words: []string{"x"}, Kids: []int{2}, At: 4}, {Kind: api.NodeBin, Nums: []int64{api.BinAdd}, Kids: []int{3, 4}, At: 8}, {Kind: api.NodeNum, Nums: []int64{1}, At: 10}, {Kind: api.NodeNum, Nums: []int64{2}, At: 9},
			{Kind: api.NodeWhile, Kids: []int{6, 7}, At: 3}, {Kind: api.NodeVar, Words: []string{"x"}, At: 6}, {Kind: api.NodeBlock, Kids: []int{8}, At: 5}, {Kind: api.NodeExit, At: 7},
		},
		{{Kind: api.NodeWhile, Kids: []int{1, 2}, At: 3}, {Kind: api.NodeVar, Words: []string{"x"}, At: 6}, {Kind: api.NodeBlock, Kids: []int{3}, At: 5}, {Kind: api.NodeExit, At: 7}},
		{{Kind: api.NodeLet, Words: []string{"x"}, Kids: []int{1}, At: 4}, {Kind: api.NodeBin, Nums: []int64{api.BinAdd}, Kids: []int{2, 3}, At: 8}, {Kind: api.NodeNum, Nums: []int64{1}, At: 10}, {Kind: api.NodeNum, Nums: []int64{2}, At: 9}},
		{{Kind: api.NodeBlock, Kids: []int{1}, At: 5}, {Kind: api.NodeExit, At: 7}},
		{{Kind: api.NodeVar, Words: []string{"x"}, At: 6}},
		{{Kind: api.NodeExit, At: 7}},
		{{Kind: api.NodeBin, Nums: []int64{api.BinAdd}, Kids: []int{1, 2}, At: 8}, {Kind: api.NodeNum, Nums: []int64{1}, At: 10}, {Kind: api.NodeNum, Nums: []int64{2}, At: 9}},
		{{Kind: api.NodeNum, Nums: []int64{2}, At: 9}},
		{{Kind: api.NodeNum, Nums: []int64{1}, At: 10}},
	} {
		if b := tree.Build(l, at); !equal(b, want) {
			t.Errorf("Build(l, %d) = %s; want %s", at, text(b), text(want))
		}
	}
	for _, at := range []int{-1, -11, 11, 12, 1 << 40, -1 << 63, 1<<63 - 1} {
		if b := tree.Build(l, at); len(b) != 0 {
			t.Errorf("Build(l, %d) = %s", at, text(b))
		}
	}
	if b := tree.Build(nil, 0); len(b) != 0 {
		t.Errorf("Build(nil, 0) = %s", text(b))
	}
}

// TestP6_2_BuildAgain builds lists whose indices follow the preorder already.
func TestP6_2_BuildAgain(t *testing.T) {
	for _, b := range samples() {
		l := around(b)
		if !equal(tree.Build(l, 0), l) {
			t.Errorf("Build(%s, 0) = %s", text(l), text(tree.Build(l, 0)))
		}
	}
	big := inBlock(many(1497, exit)...)
	if b := tree.Build(big, 0); !equal(b, big) {
		t.Errorf("Build of 1500 nodes = %s", text(b))
	}
	if b := tree.Build(big, 1499); !equal(b, []api.Node{{Kind: api.NodeExit, At: 14990}}) {
		t.Errorf("Build of the last of 1500 nodes = %s", text(b))
	}
}
