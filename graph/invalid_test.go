package graph_test

import (
	"slices"
	"testing"

	"ballcock/api"
	"ballcock/contract"
	"ballcock/decl"
	"ballcock/graph"
	"ballcock/scope"
	"ballcock/tree"
	"ballcock/typing"
)

// sampleText has a node of each kind, and no diagnostics of the layers 11 to 13.
const sampleText = "proto P { state A; final Z; op end A -> ok Z; } fn f(n, h: P full least 1/2 at A to Z in A|Z) { let a = n + -1; n = 2; " +
	"open b File { do b.read { some { } none { let d = 1; } } } else { return 1; } split c = h pure 1/2 in A { do c.end; call n = f(1, &c); } if a < 1 { } else { } while n { return a; } call main2(); } fn main() { exit; } fn main2() { }"

// copied is a copy of a list of nodes that shares no memory with it.
func copied(l []api.Node) []api.Node {
	l = slices.Clone(l)
	for i := range l {
		l[i].Words, l[i].Nums, l[i].Kids = slices.Clone(l[i].Words), slices.Clone(l[i].Nums), slices.Clone(l[i].Kids)
	}
	return l
}

// nothing tells whether a list has no codes.
func nothing(t *testing.T, what string, l []api.Node) {
	t.Helper()
	if codes := graph.All(l); len(codes) != 0 {
		t.Errorf("%.300s: %d codes", what, len(codes))
	}
	missing(t, what, l, "f", "g", "main", "main2", "main_", "")
}

// noTree tells whether a list that is no valid tree has no codes.
func noTree(t *testing.T, what string, l []api.Node) {
	t.Helper()
	if tree.Right(l) {
		t.Fatalf("%s: the tree is valid", what)
	}
	nothing(t, what, l)
}

func TestP16_1_Sample(t *testing.T) {
	l := parsed(t, sampleText)
	kinds := map[int]bool{}
	for _, n := range l {
		kinds[n.Kind] = true
	}
	if len(kinds) != 24 {
		t.Errorf("%d kinds of nodes", len(kinds))
	}
	if codes := all(t, l); len(codes) != 3 || len(codes[0].Ins) < 15 {
		t.Errorf("the codes %v", codes)
	}
}

func TestP16_1_NoTree(t *testing.T) {
	sample := parsed(t, sampleText)
	size := len(sample)
	noTree(t, "nil", nil)
	noTree(t, "an empty list", []api.Node{})
	for at := 1; at < size; at++ {
		noTree(t, "the first nodes of a tree", sample[:at])
		noTree(t, "the last nodes of a tree", sample[at:])
		noTree(t, "a tree without one node", slices.Delete(copied(sample), at, at+1))
		noTree(t, "a tree with one node twice", append(copied(sample), sample[at]))
		noTree(t, "a part of a tree", tree.Build(sample, at))
	}
	for at := range sample {
		for _, kid := range []int{-1, 0, at, size - 1, size, 1 << 40} {
			l := copied(sample)
			l[at].Kids = append(l[at].Kids, kid)
			noTree(t, "a child that is none", l)
		}
	}
	turned := copied(sample)
	slices.Reverse(turned)
	noTree(t, "a tree turned round", turned)
}

// TestP16_1_InvalidNode breaks one node after the other.
func TestP16_1_InvalidNode(t *testing.T) {
	sample := parsed(t, sampleText)
	for at := range sample {
		for what, change := range map[string]func(n *api.Node){
			"no kind":            func(n *api.Node) { n.Kind = 24 },
			"a negative kind":    func(n *api.Node) { n.Kind = -1 },
			"another kind":       func(n *api.Node) { n.Kind = (n.Kind + 12) % 24 },
			"a number too many":  func(n *api.Node) { n.Nums = append(n.Nums, 7) },
			"a number too great": func(n *api.Node) { n.Nums = append([]int64{1_000_000_000_000_000_000}, n.Nums...) },
			"two words too many": func(n *api.Node) { n.Words = append(n.Words, "w", "fn") },
			"a keyword":          func(n *api.Node) { n.Words = append([]string{"fn"}, n.Words...) },
			"an empty word":      func(n *api.Node) { n.Words = append(n.Words, "") },
			"a long word":        func(n *api.Node) { n.Words = append(n.Words, "seventeen_letters") },
		} {
			l := copied(sample)
			change(&l[at])
			noTree(t, what, l)
		}
		for _, change := range []func(n *api.Node){
			func(n *api.Node) { n.Words = nil },
			func(n *api.Node) { n.Nums = nil },
			func(n *api.Node) { n.Kids = nil },
		} {
			l := copied(sample)
			change(&l[at])
			if !tree.Right(l) {
				noTree(t, "a node without a list", l)
			}
		}
	}
}

// TestP16_1_Depth has trees as deep as they may be, and deeper.
func TestP16_1_Depth(t *testing.T) {
	for blocks := 1; blocks < 30; blocks++ {
		l := []api.Node{{Kids: []int{1}}, {Kind: api.NodeFn, Words: []string{"main"}, Kids: []int{2}}}
		for range blocks {
			at := len(l)
			l = append(l, api.Node{Kind: api.NodeBlock, Kids: []int{at + 1, at + 3}}, api.Node{Kind: api.NodeWhile, Kids: []int{at + 2, at + 4}}, api.Node{Kind: api.NodeNum, Nums: []int64{1}}, api.Node{Kind: api.NodeExit, At: at})
		}
		l = append(l, api.Node{Kind: api.NodeBlock})
		if tree.Deep(l) > api.MaxNest {
			noTree(t, "a deep tree", l)
		} else if codes := all(t, l); len(codes) != 1 || len(codes[0].Ins) != 3*blocks+1 {
			t.Errorf("%d blocks: the codes %v", blocks, codes)
		}
	}
}

// faults are parts of programs, each of which has one diagnostic of the layer 11, 12 or 13.
var (
	declFaults = []string{
		"proto Q { }", "proto File { final Z; }", "proto Q { final Z; op go Z -> ok Y; }", "proto Q { final Z; op go Z -> ok Z; }", "proto Q { state A; }", "proto Q { state A; state A; final Z; }", "proto Q { final Z; } proto Q { final Z; }",
	}
	scopeFaults = []string{
		"fn g() { } fn g() { }", "fn g(a, a) { }", "fn g(a) { let a = 1; }", "fn g(a) { open a File { } else { } }", "fn g(a: File imm) { split a = a imm 1/2 { } }", "fn g(a: X imm) { }", "fn g() { open a X { } else { } }",
		"fn g() { a = 1; }", "fn g() { return a; }", "fn g() { do a.read; }", "fn g() { split a = b imm 1/2 { } }", "fn g(a) { call g(&b); }", "fn g() { call a = g(); }", "fn g() { call h(); }", "fn g() { if 1 { let a = 1; } return a; }",
		"fn g(a: File imm) { a = 1; }", "fn g(a: File imm) { return a; }", "fn g(a: File imm) { call a = g(&a); }", "fn g(a) { do a.read; }", "fn g(a) { split b = a imm 1/2 { } }", "fn g(a) { call g(&a); }",
	}
	typingFaults = []string{
		"fn g() { exit; }", "fn g(h: File imm) { do h.pull; }", "fn g(h: File imm) { do h.pull { ok { } } }", "fn g(h: File imm) { do h.read; }", "fn g(h: File imm) { do h.read { some { } } }", "fn g(h: File imm) { do h.read { some { } none { } all { } } }",
		"fn g(h: File imm) { do h.read { some { } none { } some { } } }", "fn g() { call main(); }", "fn g(a) { call g(); }", "fn g(a) { call g(1, 2); }", "fn g(h: File imm) { call g(1); }", "fn g(a, h: File imm) { call g(&h, &h); }", "fn g(h: File imm, i: Iter imm) { call g(&h, &h); }",
	}
)

// notMade tells whether a text has no codes, and as many diagnostics of the layers 11 to 13 as given.
func notMade(t *testing.T, text string, declDiags, scopeDiags, typingDiags int) {
	t.Helper()
	l := parsed(t, text)
	_, diags := decl.New(l)
	if len(diags) != declDiags || len(scope.Check(l)) != scopeDiags || len(typing.Check(l)) != typingDiags {
		t.Fatalf("%s: the diagnostics %v, %v and %v of the layers 11 to 13", text, diags, scope.Check(l), typing.Check(l))
	}
	nothing(t, text, l)
}

func TestP16_1_DiagsOfOthers(t *testing.T) {
	for _, text := range []string{"fn main() { }", "fn f() { } fn main() { let a = 1; } fn main2() { }", sampleText} {
		for i, faults := range [][]string{declFaults, scopeFaults, typingFaults} {
			for _, fault := range faults {
				var count [3]int
				count[i] = 1
				notMade(t, text+" "+fault, count[0], count[1], count[2])
				notMade(t, fault+" "+text, count[0], count[1], count[2])
			}
		}
		notMade(t, declFaults[0]+" "+text+" "+scopeFaults[0], 1, 1, 0)
		notMade(t, declFaults[0]+" "+text+" "+typingFaults[0], 1, 0, 0)
		notMade(t, scopeFaults[1]+" "+text+" fn k() { exit; }", 0, 1, 0)
	}
	// Of main itself.
	for _, text := range []string{"", "fn f() { }", "fn main(a) { }", "fn f() { } fn main(h: File imm at Open) { } fn g() { }", "fn Main() { }", "proto P { final Z; } fn main_() { }"} {
		notMade(t, text, 0, 0, 1)
	}
}

// TestP16_1_DiagsOfLater has faults that only layers behind this one tell: there are codes.
func TestP16_1_DiagsOfLater(t *testing.T) {
	for _, text := range []string{
		// Contracts, of layer 14.
		"fn f(a: File unique at Nowhere, b: Iter imm least 5/4 at Ready|Ready, c: File full to Open in End) { }", "fn f(a: File imm) { } fn g(a: Iter share in Over) { }",
		// States, permissions, parts, handles that are left, and numbers that are divided by 0.
		"fn f(a: File imm at Shut) { do a.close; do a.size; do a.close { ok { do a.close; } } call f(&a); }",
		"fn f(a: Iter pure) { split b = a full 9/2 in Never|Over { do b.stop; split c = b share 1/1 { do c.left; } } }",
		"fn f() { open a Socket { do a.peek { none { } some { } } } else { } } fn g() { open a Socket { return 1 / 0; } else { } return 2; }",
		// Handles that are lent twice, functions that call themselves, and what is never reached.
		"fn f(a: File imm, b: File unique) { call f(&a, &a); call g(); } fn g() { call g(); return 1; return 2; }",
	} {
		for _, text := range []string{text + " fn main() { }", "fn main() { exit; let a = 1; exit; } " + text} {
			all(t, parsed(t, text))
		}
	}
	l := parsed(t, "fn f(a: File imm) { } fn main() { }")
	if len(contract.Check(l)) != 1 || len(graph.All(l)) != 2 {
		t.Errorf("a contract that is wrong: %d codes", len(graph.All(l)))
	}
}

// TestP16_1_AfterOthers shows that lists without codes have no effect on later calls.
func TestP16_1_AfterOthers(t *testing.T) {
	l := parsed(t, sampleText)
	l[len(l)-1].Words = []string{"x"}
	noTree(t, "an invalid tree", l)
	notMade(t, sampleText+" proto P { final Z; } fn f() { }", 1, 1, 0)
	makes(t, inF("@do h.size;"), "a do 1 - - - ok:1", end)
}
