package typing_test

import (
	"slices"
	"testing"

	"ballcock/api"
	"ballcock/decl"
	"ballcock/scope"
	"ballcock/tree"
	"ballcock/typing"
)

// sampleText has a node of each kind, and a diagnostic of each code.
const sampleText = "proto P { state A; final Z; op end A -> ok Z; } fn f(n, h: P full least 1/2 at A to Z in A|Z) { let a = n + -1; n = 2; " +
	"open b File { do b.read { some { } all { } } } else { exit; } split c = h imm 1/2 in A { do c.go; call n = f(1, &c); call f(&c, 2); } if a < 1 { } else { } while n { return a; } call f(); } fn main(x) { exit; }"

// sampleDiags are those of the sample, each a code and a name.
const sampleDiags = "main main; case all; case none; exit f; op go; sort n; sort h; args f"

// none tells whether nothing is told of a list that is no valid tree.
func none(t *testing.T, what string, l []api.Node) {
	t.Helper()
	if tree.Right(l) {
		t.Fatalf("%s: the tree is valid", what)
	}
	if diags := typing.Check(l); len(diags) != 0 {
		t.Errorf("%s: the diagnostics %v", what, diags)
	}
}

// copied is a copy of a list of nodes that shares no memory with it.
func copied(l []api.Node) []api.Node {
	l = slices.Clone(l)
	for i := range l {
		l[i].Words, l[i].Nums, l[i].Kids = slices.Clone(l[i].Words), slices.Clone(l[i].Nums), slices.Clone(l[i].Kids)
	}
	return l
}

func TestP13_1_Sample(t *testing.T) {
	kinds := map[int]bool{}
	for _, n := range parsed(t, sampleText) {
		kinds[n.Kind] = true
	}
	if len(kinds) != 24 {
		t.Errorf("%d kinds of nodes", len(kinds))
	}
	const marked = "proto P { state A; final Z; op end A -> ok Z; } fn f(n, h: P full least 1/2 at A to Z in A|Z) { let a = n + -1; n = 2; " +
		"open b File { @do b.read { some { } @all { } } } else { @exit; } split c = h imm 1/2 in A { @do c.go; call n = f(1, &c); call f(@&c, @2); } if a < 1 { } else { } while n { return a; } @call f(); } @fn main(x) { exit; }"
	tells(t, marked, sampleDiags, 7, 1, 0, 2, 3, 4, 5, 6)
}

func TestP13_1_NoTree(t *testing.T) {
	sample := parsed(t, sampleText)
	size := len(sample)
	none(t, "nil", nil)
	none(t, "an empty list", []api.Node{})
	for at := 1; at < size; at++ {
		none(t, "the first nodes of a tree", sample[:at])
		none(t, "the last nodes of a tree", sample[at:])
		none(t, "a tree without one node", slices.Delete(copied(sample), at, at+1))
		none(t, "a tree with one node twice", append(copied(sample), sample[at]))
		none(t, "a part of a tree", tree.Build(sample, at))
	}
	for at := range sample {
		for _, kid := range []int{-1, 0, at, size - 1, size, 1 << 40} {
			l := copied(sample)
			l[at].Kids = append(l[at].Kids, kid)
			none(t, "a child that is none", l)
		}
	}
	turned := copied(sample)
	slices.Reverse(turned)
	none(t, "a tree turned round", turned)
}

// TestP13_1_InvalidNode breaks one node after the other, while the other nodes could still have diagnostics.
func TestP13_1_InvalidNode(t *testing.T) {
	sample := parsed(t, sampleText)
	for at := range sample {
		for what, change := range map[string]func(n *api.Node){
			"no kind":            func(n *api.Node) { n.Kind = 24 },
			"a negative kind":    func(n *api.Node) { n.Kind = -1 },
			"another kind":       func(n *api.Node) { n.Kind = (n.Kind + 12) % 24 },
			"a number too many":  func(n *api.Node) { n.Nums = append(n.Nums, 7) },
			"a number too great": func(n *api.Node) { n.Nums = append([]int64{1_000_000_000_000_000_000}, n.Nums...) },
			"two words too many": func(n *api.Node) { n.Words = append(n.Words, "w", "fn") },
			"a keyword":          func(n *api.Node) { n.Words = append([]string{"fn"}, n.Words...) },
			"an empty word":      func(n *api.Node) { n.Words = append(n.Words, "") },
			"a long word":        func(n *api.Node) { n.Words = append(n.Words, "seventeen_letters") },
		} {
			l := copied(sample)
			change(&l[at])
			none(t, what, l)
		}
		for _, change := range []func(n *api.Node){
			func(n *api.Node) { n.Words = nil },
			func(n *api.Node) { n.Nums = nil },
			func(n *api.Node) { n.Kids = nil },
		} {
			l := copied(sample)
			change(&l[at])
			if !tree.Right(l) {
				none(t, "a node without a list", l)
			}
		}
	}
}

// TestP13_1_Depth has trees as deep as they may be, and deeper. There is no main in them.
func TestP13_1_Depth(t *testing.T) {
	for blocks := 1; blocks < 30; blocks++ {
		l := []api.Node{{Kids: []int{1}}, {Kind: api.NodeFn, Words: []string{"f"}, Kids: []int{2}}}
		for range blocks {
			at := len(l)
			l = append(l, api.Node{Kind: api.NodeBlock, Kids: []int{at + 1, at + 3}}, api.Node{Kind: api.NodeWhile, Kids: []int{at + 2, at + 4}}, api.Node{Kind: api.NodeNum, Nums: []int64{1}}, api.Node{Kind: api.NodeExit, At: at})
		}
		l = append(l, api.Node{Kind: api.NodeBlock})
		if tree.Deep(l) > api.MaxNest {
			none(t, "a deep tree", l)
		} else if diags := typing.Check(l); len(diags) != blocks+1 || diags[0] != (api.Diag{Code: api.DiagMain, Name: "main"}) || diags[1].Code != api.DiagExit {
			t.Errorf("%d blocks: the diagnostics %v", blocks, diags)
		}
	}
}

func TestP13_1_Size(t *testing.T) {
	for _, count := range []int{api.MaxNodes - 1, api.MaxNodes, api.MaxNodes + 1, 2 * api.MaxNodes} {
		l := []api.Node{{Kids: []int{1}}, {Kind: api.NodeFn, Words: []string{"main"}, Kids: []int{2}}, {Kind: api.NodeBlock, Kids: []int{3}}, {Kind: api.NodeOpen, Words: []string{"h", "File"}, Kids: []int{4, 5}}, {Kind: api.NodeBlock}, {Kind: api.NodeBlock}}
		for len(l) < count {
			l[4].Kids = append(l[4].Kids, len(l))
			l = append(l, api.Node{Kind: api.NodeDo, Words: []string{"h", "write"}, At: len(l)})
		}
		if count > api.MaxNodes {
			none(t, "a great tree", l)
		} else if diags := typing.Check(l); len(diags) != count-6 || diags[count-7] != (api.Diag{Code: api.DiagCase, At: count - 1, Name: "write"}) {
			t.Errorf("%d nodes have %d diagnostics", count, len(diags))
		}
	}
}

// notChecked tells whether nothing is told of a tree that has diagnostics of the layers 11 and 12, as many as given.
func notChecked(t *testing.T, text string, declDiags, scopeDiags int) {
	t.Helper()
	l := parsed(t, text)
	_, diags := decl.New(l)
	if len(diags) != declDiags || len(scope.Check(l)) != scopeDiags {
		t.Fatalf("%s: the diagnostics %v and %v of the layers 11 and 12", text, diags, scope.Check(l))
	}
	if diags := typing.Check(l); len(diags) != 0 {
		t.Errorf("%s: the diagnostics %v", text, diags)
	}
}

// faults are protocols with diagnostics of layer 11, and functions with diagnostics of layer 12.
var (
	declFaults = []string{
		"proto Q { }", "proto File { final Z; }", "proto Q { final Z; op go Z -> ok Y; }", "proto Q { final Z; op go Z -> ok Z; }", "proto Q { state A; }", "proto Q { state A; state A; final Z; }", "proto Q { final Z; } proto Q { final Z; }",
	}
	scopeFaults = []string{
		"fn g() { } fn g() { }", "fn g(a, a) { }", "fn g(a) { let a = 1; }", "fn g(a) { open a File { } else { } }", "fn g(a: File imm) { split a = a imm 1/2 { } }", "fn g(a: X imm) { }", "fn g() { open a X { } else { } }",
		"fn g() { a = 1; }", "fn g() { return a; }", "fn g() { do a.read; }", "fn g() { split a = b imm 1/2 { } }", "fn g(a) { call g(&b); }", "fn g() { call a = g(); }", "fn g() { call h(); }", "fn g() { if 1 { let a = 1; } return a; }",
		"fn g(a: File imm) { a = 1; }", "fn g(a: File imm) { return a; }", "fn g(a: File imm) { call a = g(&a); }", "fn g(a) { do a.read; }", "fn g(a) { split b = a imm 1/2 { } }", "fn g(a) { call g(&a); }",
	}
)

func TestP13_1_DiagsOfOthers(t *testing.T) {
	// What this layer would tell, with each code on its own, and all of them.
	for _, text := range []string{
		"fn f() { }", "fn main(a) { }", "fn main() { } fn f(h: File imm) { do h.pull; }", "fn main() { } fn f(h: File imm) { do h.read; }", "fn main() { } fn f(h: File imm) { do h.read { } do h.read { some { } some { } all { } } }",
		"fn main() { call main(); }", "fn main() { call f(); } fn f(a) { }", "fn main() { } fn f(h: File imm) { call f(1); }", "fn main() { } fn f(h: File imm, i: Iter imm) { call f(&i, &h); }", "fn main() { } fn f() { exit; }", sampleText,
	} {
		if diags := typing.Check(parsed(t, text)); len(diags) == 0 {
			t.Errorf("%s has no diagnostics", text)
		}
		for _, fault := range declFaults {
			notChecked(t, text+" "+fault, 1, 0)
			notChecked(t, fault+" "+text, 1, 0)
		}
		for _, fault := range scopeFaults {
			notChecked(t, text+" "+fault, 0, 1)
			notChecked(t, fault+" "+text, 0, 1)
			notChecked(t, fault+" "+text+" "+declFaults[0], 1, 1)
		}
	}
}

// TestP13_1_AfterOthers shows that lists of which nothing is told have no effect on later calls.
func TestP13_1_AfterOthers(t *testing.T) {
	l := parsed(t, sampleText)
	l[len(l)-1].Words = []string{"x"}
	none(t, "an invalid tree", l)
	notChecked(t, sampleText+" proto Moves { } fn f() { }", 1, 1)
	tells(t, declared+withMain("fn f(h: Moves imm) { @do h.go; @exit; }"), "case go; exit f")
}
