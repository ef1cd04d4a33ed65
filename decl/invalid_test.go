package decl_test

import (
	"slices"
	"strings"
	"testing"

	"ballcock/api"
	"ballcock/decl"
	"ballcock/tree"
)

// sample is the tree of a program with protocols, right and wrong, and a function.
func sample() branch {
	return of(api.NodeProgram,
		of(api.NodeProto, "P", of(api.NodeState, "A", 0), of(api.NodeState, "Z", 1), of(api.NodeOp, "end", "A", "ok", "Z")),
		of(api.NodeProto, "Q"),
		of(api.NodeFn, "main", of(api.NodeBlock, of(api.NodeLet, "x", of(api.NodeNum, 1)), of(api.NodeReturn, of(api.NodeVar, "x")))))
}

// The places of nodes in the list of a sample.
const (
	placeProto = 1
	placeState = 2
	placeOp    = 4
	placeFn    = 6
	placeNum   = 9
	sampleSize = 12
)

// none tells whether New returns nil and no diagnostics for a list that is no valid tree.
func none(t *testing.T, what string, l []api.Node) {
	t.Helper()
	if tree.Right(l) {
		t.Fatalf("%s: the tree is valid", what)
	}
	if b, diags := decl.New(l); b != nil || len(diags) != 0 {
		t.Errorf("%s: a book is %v, the diagnostics are %v", what, b != nil, diags)
	}
}

func TestP11_1_Sample(t *testing.T) {
	l := list(sample())
	b, diags := made(t, l)
	if len(l) != sampleSize || !slices.Equal(diags, []api.Diag{{Code: api.DiagProto, At: l[5].At, Name: "Q"}}) {
		t.Errorf("%d nodes have the diagnostics %v", len(l), diags)
	}
	holds(t, b, "the sample", proto("P", "A Z!", "end 0 ok 1"))
}

func TestP11_1_NoTree(t *testing.T) {
	none(t, "nil", nil)
	none(t, "an empty list", []api.Node{})
	for at := 1; at < sampleSize; at++ {
		l := list(sample())
		none(t, "the first nodes of a tree", l[:at])
		none(t, "the last nodes of a tree", l[at:])
		none(t, "a tree without one node", slices.Delete(list(sample()), at, at+1))
		none(t, "a tree with one node twice", append(l, l[at]))
		none(t, "a part of a tree", tree.Build(list(sample()), at))
	}
	for at := range sampleSize {
		for _, kid := range []int{-1, 0, at, sampleSize - 1, sampleSize, 1 << 40} {
			l := list(sample())
			l[at].Kids = append(l[at].Kids, kid)
			none(t, "a child that is none", l)
		}
	}
	turned := list(sample())
	slices.Reverse(turned)
	none(t, "a tree turned round", turned)
}

// TestP11_1_InvalidNode breaks one node of the sample, whose other nodes could still tell protocols and diagnostics.
func TestP11_1_InvalidNode(t *testing.T) {
	for _, c := range []struct {
		what string
		at   int
		node func(n *api.Node)
	}{
		{"a root with a word", 0, func(n *api.Node) { n.Words = []string{"P"} }},
		{"a root of another kind", 0, func(n *api.Node) { n.Kind = api.NodeBlock }},
		{"a Proto without a name", placeProto, func(n *api.Node) { n.Words = nil }},
		{"a Proto with two names", placeProto, func(n *api.Node) { n.Words = []string{"P", "R"} }},
		{"a Proto with a keyword as its name", placeProto, func(n *api.Node) { n.Words = []string{"state"} }},
		{"a Proto with an empty name", placeProto, func(n *api.Node) { n.Words = []string{""} }},
		{"a Proto with a long name", placeProto, func(n *api.Node) { n.Words = []string{"seventeen_letters"} }},
		{"a Proto with a number", placeProto, func(n *api.Node) { n.Nums = []int64{0} }},
		{"a State without a number", placeState, func(n *api.Node) { n.Nums = nil }},
		{"a State that is neither final nor not", placeState, func(n *api.Node) { n.Nums = []int64{2} }},
		{"a State with a negative number", placeState, func(n *api.Node) { n.Nums = []int64{-1} }},
		{"a State without a name", placeState, func(n *api.Node) { n.Words = nil }},
		{"a State with a blank in its name", placeState, func(n *api.Node) { n.Words = []string{"A B"} }},
		{"an Op without words", placeOp, func(n *api.Node) { n.Words = nil }},
		{"an Op without a state to start from", placeOp, func(n *api.Node) { n.Words = []string{"end"} }},
		{"an Op without outcomes", placeOp, func(n *api.Node) { n.Words = []string{"end", "A"} }},
		{"an Op with an outcome that leads nowhere", placeOp, func(n *api.Node) { n.Words = []string{"end", "A", "ok"} }},
		{"an Op with a second such outcome", placeOp, func(n *api.Node) { n.Words = []string{"end", "A", "ok", "Z", "no"} }},
		{"an Op with a number", placeOp, func(n *api.Node) { n.Nums = []int64{0} }},
		{"an Op with a sign as its name", placeOp, func(n *api.Node) { n.Words[0] = "->" }},
		{"a node of no kind", placeOp, func(n *api.Node) { n.Kind = 24 }},
		{"a Let in a Proto", placeOp, func(n *api.Node) { n.Kind = api.NodeLet }},
		{"a Fn without a name", placeFn, func(n *api.Node) { n.Words = nil }},
		{"a number that is too great", placeNum, func(n *api.Node) { n.Nums = []int64{1_000_000_000_000_000_000} }},
	} {
		l := list(sample())
		c.node(&l[c.at])
		none(t, c.what, l)
	}
}

func TestP11_1_InvalidChildren(t *testing.T) {
	state := of(api.NodeState, "A", 1)
	for _, b := range []branch{
		of(api.NodeProgram, state),
		of(api.NodeProgram, of(api.NodeProgram)),
		of(api.NodeProgram, of(api.NodeBlock)),
		of(api.NodeProgram, of(api.NodeProto, "P", of(api.NodeProto, "Q", state))),
		of(api.NodeProgram, of(api.NodeProto, "P", of(api.NodeFn, "f", of(api.NodeBlock)))),
		of(api.NodeProgram, of(api.NodeProto, "P", of(api.NodeBlock))),
		of(api.NodeProgram, of(api.NodeProto, "P", of(api.NodeState, "A", 1, state))),
		of(api.NodeProgram, of(api.NodeProto, "P", state, of(api.NodeOp, "go", "A", "ok", "A", state))),
		of(api.NodeProgram, of(api.NodeProto, "P", state), of(api.NodeFn, "f")),
		of(api.NodeProgram, of(api.NodeProto, "P", state), of(api.NodeFn, "f", of(api.NodeBlock, of(api.NodeProto, "Q", state)))),
		of(api.NodeProto, "P", state),
		of(api.NodeFn, "f", of(api.NodeBlock)),
	} {
		none(t, shown(list(b)), list(b))
	}
}

// TestP11_1_Depth has trees as deep as they may be, and deeper.
func TestP11_1_Depth(t *testing.T) {
	for blocks := 1; blocks < 30; blocks++ {
		// The nodes above the innermost block are the Program, the Fn, and a While in each block around it.
		inner := of(api.NodeBlock)
		for range blocks - 1 {
			inner = of(api.NodeBlock, of(api.NodeWhile, of(api.NodeNum, 1), inner))
		}
		l := list(of(api.NodeProgram, of(api.NodeProto, "P", of(api.NodeState, "Z", 1)), of(api.NodeProto, "P"), of(api.NodeFn, "f", inner)))
		if tree.Deep(l) > api.MaxNest {
			none(t, "a deep tree", l)
			continue
		}
		b, diags := made(t, l)
		holds(t, b, "a tree that is deep enough", proto("P", "Z!"))
		if len(diags) != 1 {
			t.Errorf("the diagnostics %v", diags)
		}
	}
}

func TestP11_1_Size(t *testing.T) {
	for _, count := range []int{api.MaxNodes - 1, api.MaxNodes, api.MaxNodes + 1, 2 * api.MaxNodes} {
		root := of(api.NodeProgram)
		for range count - 1 {
			root.kids = append(root.kids, of(api.NodeProto, "P"))
		}
		l := list(root)
		if count > api.MaxNodes {
			none(t, "a great tree", l)
			continue
		}
		b, diags := made(t, l)
		holds(t, b, "a tree that is small enough")
		if len(diags) != count-1 || diags[0].Code != api.DiagProto || diags[1].Code != api.DiagTwice || diags[count-2] != (api.Diag{Code: api.DiagTwice, At: l[count-1].At, Name: "P"}) {
			t.Errorf("%d nodes have %d diagnostics", count, len(diags))
		}
	}
}

// TestP11_1_AfterInvalid shows that a list that is no valid tree has no effect on later calls.
func TestP11_1_AfterInvalid(t *testing.T) {
	l := list(sample())
	l[placeNum].Nums = nil
	none(t, "an invalid tree", l)
	holds(t, right(t, "proto P { final Y; } proto Q { final Z; }"), "a tree after an invalid one", proto("P", "Y!"), proto("Q", "Z!"))
	none(t, "a name that is too long", list(of(api.NodeProgram, of(api.NodeProto, strings.Repeat("P", 17)))))
}
