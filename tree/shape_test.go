package tree_test

import (
	"slices"
	"testing"

	"ballcock/api"
	"ballcock/tree"
)

// sample is: fn main() { let x = 1 + 2; while x { exit; } }, with indices that do not follow the preorder.
func sample() []api.Node {
	return []api.Node{
		{Kind: api.NodeProgram, Kids: []int{1}, At: 0},
		{Kind: api.NodeFn, Words: []string{"main"}, Kids: []int{2}, At: 1},
		{Kind: api.NodeBlock, Kids: []int{4, 3}, At: 2},
		{Kind: api.NodeWhile, Kids: []int{6, 5}, At: 3},
		{Kind: api.NodeLet, Words: []string{"x"}, Kids: []int{8}, At: 4},
		{Kind: api.NodeBlock, Kids: []int{7}, At: 5},
		{Kind: api.NodeVar, Words: []string{"x"}, At: 6},
		{Kind: api.NodeExit, At: 7},
		{Kind: api.NodeBin, Nums: []int64{api.BinAdd}, Kids: []int{10, 9}, At: 8},
		{Kind: api.NodeNum, Nums: []int64{2}, At: 9},
		{Kind: api.NodeNum, Nums: []int64{1}, At: 10},
	}
}

// chain is a tree of this depth, at least 5, whose deepest node is a Var below minus signs.
func chain(depth int) []api.Node {
	expression := of(api.NodeVar, "x")
	for range depth - 5 {
		expression = of(api.NodeNeg, expression)
	}
	return inBlock(of(api.NodeReturn, expression))
}

func TestP6_1_Sample(t *testing.T) {
	isTree(t, sample())
	if d := tree.Deep(sample()); d != 6 {
		t.Errorf("Deep = %d", d)
	}
}

func TestP6_1_NoTree(t *testing.T) {
	isNone(t, nil)
	isNone(t, []api.Node{})
	for name, change := range map[string]func(l []api.Node) []api.Node{
		"a child of none":                    func(l []api.Node) []api.Node { l[2].Kids = []int{4}; return l },
		"a further node, the child of none":  func(l []api.Node) []api.Node { return append(l, api.Node{Kind: api.NodeExit}) },
		"a child of two":                     func(l []api.Node) []api.Node { l[5].Kids = []int{7, 8}; return l },
		"a statement of two blocks":          func(l []api.Node) []api.Node { l[2].Kids = []int{4, 3, 7}; return l },
		"a child of one, twice":              func(l []api.Node) []api.Node { l[5].Kids = []int{7, 7}; return l },
		"two operands that are one":          func(l []api.Node) []api.Node { l[8].Kids = []int{10, 10}; return l },
		"a child of itself":                  func(l []api.Node) []api.Node { l[5].Kids = []int{5}; return l },
		"also a child of itself":             func(l []api.Node) []api.Node { l[5].Kids = []int{7, 5}; return l },
		"the root as a child":                func(l []api.Node) []api.Node { l[5].Kids = []int{7, 0}; return l },
		"the root as its own child":          func(l []api.Node) []api.Node { l[0].Kids = []int{1, 0}; return l },
		"a child that stands ahead":          func(l []api.Node) []api.Node { l[5].Kids = []int{7, 3}; return l },
		"an index below 0":                   func(l []api.Node) []api.Node { l[5].Kids = []int{-1}; return l },
		"an index below 0 beside a child":    func(l []api.Node) []api.Node { l[5].Kids = []int{7, -1}; return l },
		"the smallest index":                 func(l []api.Node) []api.Node { l[5].Kids = []int{7, -1 << 63}; return l },
		"an index behind the last one":       func(l []api.Node) []api.Node { l[5].Kids = []int{7, 11}; return l },
		"the greatest index":                 func(l []api.Node) []api.Node { l[5].Kids = []int{7, 1<<63 - 1}; return l },
		"a list that ends early":             func(l []api.Node) []api.Node { return l[:10] },
		"a list of the root alone":           func(l []api.Node) []api.Node { return l[:1] },
		"a list without its root":            func(l []api.Node) []api.Node { return l[1:] },
		"a list backwards":                   func(l []api.Node) []api.Node { slices.Reverse(l); return l },
		"a circle":                           func(l []api.Node) []api.Node { l[3].Kids, l[5].Kids = []int{6, 5}, []int{3}; return l },
		"far too many children":              func(l []api.Node) []api.Node { l[5].Kids = slices.Repeat([]int{7}, 100_000); return l },
		"two parts that hold each other":     func(l []api.Node) []api.Node { l[2].Kids, l[5].Kids = []int{4}, []int{7, 3}; return l },
		"as many children as a tree has":     func(l []api.Node) []api.Node { l[2].Kids, l[5].Kids = []int{4}, []int{7, 7}; return l },
		"as many as in a tree, one outside":  func(l []api.Node) []api.Node { l[2].Kids, l[5].Kids = []int{4, 11}, []int{7}; return l },
		"as many as in a tree, one below 0":  func(l []api.Node) []api.Node { l[2].Kids, l[5].Kids = []int{4, -1}, []int{7}; return l },
		"as many as in a tree, the root one": func(l []api.Node) []api.Node { l[2].Kids, l[5].Kids = []int{4, 0}, []int{7}; return l },
	} {
		if l := change(sample()); tree.Right(l) {
			t.Errorf("%s: a valid tree", name)
		} else {
			isNone(t, l)
		}
	}
}

// TestP6_1_SmallerIndex swaps two nodes of a list that was a tree, in all ways: it remains one if no child stands ahead of its parent.
func TestP6_1_SmallerIndex(t *testing.T) {
	for i := range sample() {
		for j := range i {
			l := sample()
			swap(l, i, j)
			ordered := true
			for at, n := range l {
				for _, kid := range n.Kids {
					ordered = ordered && kid > at
				}
			}
			if ordered {
				isTree(t, l)
				if !tree.Same(l, sample()) {
					t.Errorf("nodes %d and %d swapped: another tree", j, i)
				}
			} else {
				isNone(t, l)
			}
		}
	}
}

// swap gives two nodes each other's indices.
func swap(l []api.Node, i, j int) {
	l[i], l[j] = l[j], l[i]
	for _, n := range l {
		for k, kid := range n.Kids {
			switch kid {
			case i:
				n.Kids[k] = j
			case j:
				n.Kids[k] = i
			}
		}
	}
}

func TestP6_1_MostNodes(t *testing.T) {
	for _, count := range []int{1499, 1500, 1501, 1502, 3000} {
		for _, l := range [][]api.Node{inProgram(many(count-1, proto)...), inBlock(many(count-3, exit)...), inProgram(of(api.NodeProto, "P", many(count-2, state)))} {
			if len(l) != count {
				t.Fatalf("%d nodes", len(l))
			}
			if count <= 1500 {
				isTree(t, l)
			} else {
				isNone(t, l)
			}
		}
	}
}

func TestP6_1_Depth(t *testing.T) {
	for depth := 5; depth <= 40; depth++ {
		l := chain(depth)
		if d := tree.Deep(l); d != depth {
			t.Errorf("Deep = %d; want %d", d, depth)
		}
		if depth <= 24 {
			isTree(t, l)
		} else {
			isNone(t, l)
		}
	}
	// The deepest node is not the last one, or not the only one.
	for _, depth := range []int{24, 25} {
		expression := num
		for range depth - 6 {
			expression = of(api.NodeNeg, expression)
		}
		for _, l := range [][]api.Node{
			inBlock(of(api.NodeReturn, of(api.NodeBin, api.BinAdd, expression, num)), exit),
			inBlock(exit, of(api.NodeReturn, of(api.NodeBin, api.BinAdd, num, expression))),
			inBlock(of(api.NodeReturn, of(api.NodeBin, api.BinAdd, expression, expression)), exit),
		} {
			if d := tree.Deep(l); d != depth {
				t.Errorf("Deep = %d; want %d", d, depth)
			}
			if tree.Right(l) != (depth == 24) {
				t.Errorf("a tree of depth %d: Right = %v", depth, tree.Right(l))
			}
		}
	}
}

// TestP6_1_DepthOfBlocks nests blocks.
func TestP6_1_DepthOfBlocks(t *testing.T) {
	inner := of(api.NodeWhile, num, block)
	for depth := 5; depth <= 30; depth += 2 {
		if l := inBlock(inner); tree.Deep(l) != depth || tree.Right(l) != (depth <= 24) {
			t.Errorf("depth %d: Deep = %d, Right = %v", depth, tree.Deep(l), tree.Right(l))
		}
		inner = of(api.NodeWhile, num, of(api.NodeBlock, inner))
	}
}

func TestP6_1_Deep(t *testing.T) {
	for want, l := range map[int][]api.Node{
		0: nil,
		1: list(of(api.NodeProgram)),
		2: inProgram(proto, proto),
		3: inProgram(fn, proto),
		4: inBlock(exit),
		// Lists that are trees, but not valid ones.
		5:    list(of(99, of(-1), of(0, of(3, of(24, of(0))), of(7)))),
		1500: deepest(1500),
	} {
		if d := tree.Deep(l); d != want {
			t.Errorf("Deep(%s) = %d; want %d", text(l), d, want)
		}
	}
	if tree.Deep([]api.Node{}) != 0 {
		t.Error("Deep of an empty list")
	}
}

// deepest is a tree, though not a valid one, of so many nodes one below the other.
func deepest(count int) []api.Node {
	l := make([]api.Node, count)
	for i := range count - 1 {
		l[i].Kids = []int{i + 1}
	}
	return l
}

// TestP6_1_Ends calls all functions with lists that might lead them to run long or to fail.
func TestP6_1_Ends(t *testing.T) {
	wide := make([]api.Node, 1500)
	for i := range wide {
		for kid := range 1500 {
			wide[i].Kids = append(wide[i].Kids, kid)
		}
	}
	for _, l := range [][]api.Node{deepest(100_000), deepest(1500), deepest(25), wide, wide[:30], {{Kids: []int{0}}}, {{Kids: []int{1}}, {Kids: []int{0}}}, {{Kids: []int{1, 1, 1}}, {Kids: []int{1}}}} {
		isNone(t, l)
		for _, at := range []int{-1 << 63, -1, len(l) - 1, len(l), 1<<63 - 1} {
			tree.Build(l, at)
		}
		tree.Same(l, sample())
		tree.Same(sample(), l)
	}
}
