package tree_test

import (
	"slices"
	"testing"

	"ballcock/api"
	"ballcock/tree"
)

// guarded is a copy of a list with spare capacity, and the memory behind it.
func guarded[T any](l []T, behind T) ([]T, []T) {
	memory := append(slices.Clone(l), behind, behind)
	return memory[:len(l)], memory
}

// deep is a copy of a list of nodes that shares no memory with it.
func deep(l []api.Node) []api.Node {
	l = slices.Clone(l)
	for i := range l {
		l[i].Words, l[i].Nums, l[i].Kids = slices.Clone(l[i].Words), slices.Clone(l[i].Nums), slices.Clone(l[i].Kids)
	}
	return l
}

// guardedList is a copy of a list of nodes with spare capacity, also of the lists of its nodes,
// and a function that tells whether all of that is as it was.
func guardedList(nodes []api.Node) ([]api.Node, func() bool) {
	l, memory := guarded(nodes, api.Node{Kind: 77, Words: []string{"w"}, Nums: []int64{78}, Kids: []int{79}})
	var behind []api.Node
	for i := range l {
		var n api.Node
		l[i].Words, n.Words = guarded(l[i].Words, "behind")
		l[i].Nums, n.Nums = guarded(l[i].Nums, 5)
		l[i].Kids, n.Kids = guarded(l[i].Kids, 6)
		behind = append(behind, n)
	}
	memoryBefore, behindBefore := deep(memory), deep(behind)
	return l, func() bool { return equal(memory, memoryBefore) && equal(behind, behindBefore) }
}

// overwrite changes all memory of a list of nodes, in its spare capacity too.
func overwrite(l []api.Node) {
	for i := range l[:cap(l)] {
		n := &l[:cap(l)][i]
		for j := range n.Words[:cap(n.Words)] {
			n.Words[:cap(n.Words)][j] = "over"
		}
		for j := range n.Nums[:cap(n.Nums)] {
			n.Nums[:cap(n.Nums)][j] = -7
		}
		for j := range n.Kids[:cap(n.Kids)] {
			n.Kids[:cap(n.Kids)][j] = -8
		}
		n.Kind, n.At = -9, -10
	}
}

// lists are trees, and lists that are none.
func lists() [][]api.Node {
	l := [][]api.Node{nil, sample(), sample()[:10], chain(24), chain(25), inProgram(many(1499, proto)...), deepest(1500), deepest(1501), {{Kids: []int{0}}}}
	for _, b := range samples() {
		l = append(l, around(b))
	}
	return l
}

func TestP6_3_Arguments(t *testing.T) {
	for _, nodes := range lists() {
		l, same := guardedList(nodes)
		other, otherSame := guardedList(nodes)
		tree.Right(l)
		tree.Deep(l)
		tree.Walk(l)
		tree.Same(l, other)
		tree.Same(l, l)
		for at := -1; at <= min(len(l), 30); at++ {
			tree.Build(l, at)
		}
		if !same() || !otherSame() {
			t.Errorf("%s was changed", text(nodes))
		}
	}
}

// TestP6_3_Results changes arguments and results after the calls: neither has a part of the other.
func TestP6_3_Results(t *testing.T) {
	for _, nodes := range lists() {
		for at := range min(len(nodes), 30) {
			l, same := guardedList(nodes)
			first, second := tree.Build(l, at), tree.Build(l, at)
			kept := deep(first)
			overwrite(second)
			if !same() || !equal(first, kept) {
				t.Errorf("a result of Build(%s, %d) has memory of the argument or of another result", text(nodes), at)
			}
			overwrite(l)
			if !equal(first, kept) {
				t.Errorf("Build(%s, %d) keeps memory of its argument", text(nodes), at)
			}
		}
		first, second := tree.Walk(nodes), tree.Walk(nodes)
		kept := slices.Clone(first)
		for i := range second[:cap(second)] {
			second[:cap(second)][i] = -1
		}
		if !slices.Equal(first, kept) {
			t.Errorf("two results of Walk(%s) share memory", text(nodes))
		}
	}
}

// TestP6_3_ListsOfAResult changes one list of a result after the other, in its spare capacity too.
func TestP6_3_ListsOfAResult(t *testing.T) {
	for _, nodes := range lists() {
		b := tree.Build(nodes, 0)
		for i := range b {
			overwrite(b[i : i+1 : i+1])
			if i < len(b)-1 && b[i+1].Kind < 0 {
				t.Errorf("Build(%s, 0): node %d shares memory with another one", text(nodes), i)
			}
			for j := i + 1; j < len(b); j++ {
				if slices.Contains(b[j].Words, "over") || slices.Contains(b[j].Nums, -7) || slices.Contains(b[j].Kids, -8) {
					t.Fatalf("Build(%s, 0): the nodes %d and %d share memory", text(nodes), i, j)
				}
			}
		}
	}
}

// TestP6_3_SharedArguments hands in lists whose nodes share memory.
func TestP6_3_SharedArguments(t *testing.T) {
	words := []string{"s", "s", "s", "s"}
	nums := []int64{1, 1, 1}
	l := []api.Node{
		{Kids: []int{1, 5}}, {Kind: api.NodeProto, Words: words[:1], Kids: []int{2, 3, 4}},
		{Kind: api.NodeState, Words: words[1:2], Nums: nums[:1]}, {Kind: api.NodeState, Words: words[:1], Nums: nums[1:2]}, {Kind: api.NodeOp, Words: words},
		{Kind: api.NodeFn, Words: words[:1], Kids: []int{6, 7}}, {Kind: api.NodeParam, Words: words[2:], Nums: nums}, {Kind: api.NodeBlock},
	}
	isTree(t, l)
	b := tree.Build(l, 0)
	kept := deep(b)
	for i := range b {
		overwrite(b[i : i+1 : i+1])
		for j := i + 1; j < len(b); j++ {
			if !equal(b[j:j+1], kept[j:j+1]) {
				t.Errorf("the nodes %d and %d of the result share memory", i, j)
			}
		}
	}
}

func TestP6_3_SameEachTime(t *testing.T) {
	for range 3 {
		for _, l := range lists() {
			if !slices.Equal(tree.Walk(l), tree.Walk(deep(l))) || tree.Deep(l) != tree.Deep(deep(l)) || tree.Right(l) != tree.Right(deep(l)) || !equal(tree.Build(l, 0), tree.Build(deep(l), 0)) {
				t.Errorf("%s is not told the same each time", text(l))
			}
		}
	}
}
