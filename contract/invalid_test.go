package contract_test

import (
	"math"
	"slices"
	"strings"
	"testing"

	"ballcock/api"
	"ballcock/contract"
	"ballcock/decl"
	"ballcock/scope"
	"ballcock/tree"
)

// sampleText has a node of each kind, and Params of each kind, with and without diagnostics.
const sampleText = "proto P { state A; final Z; op end A -> ok Z; } fn f(n, h: P full least 1/2 at A to Z in A|Z, i: File unique at Open to Shut, j: P imm least 2/4 at A) { let a = n + -1; n = 2; " +
	"open b File { do b.read { some { } all { } } } else { exit; } split c = h imm 1/2 in A { do c.go; call n = f(1, &c); } if a < 1 { } else { } while n { return a; } } fn main(k: Iter share in Ready, m: Iter pure in Over) { exit; }"

// copied is a copy of a list of nodes that shares no memory with it.
func copied(l []api.Node) []api.Node {
	l = slices.Clone(l)
	for i := range l {
		l[i].Words, l[i].Nums, l[i].Kids = slices.Clone(l[i].Words), slices.Clone(l[i].Nums), slices.Clone(l[i].Kids)
	}
	return l
}

// nothing checks that nothing is told of a list: neither by Check nor by Of at any place.
func nothing(t *testing.T, what string, l []api.Node) {
	t.Helper()
	if diags := contract.Check(l); len(diags) != 0 {
		t.Errorf("%s: the diagnostics %v", what, diags)
	}
	for at := -2; at < len(l)+2; at++ {
		if at < 2 || at >= len(l) || l[at].Kind == api.NodeParam {
			nothingAt(t, what, l, at)
		}
	}
}

// nothingAt checks that Of has nothing at a place.
func nothingAt(t *testing.T, what string, l []api.Node, at int) {
	t.Helper()
	if c, diags := contract.Of(l, at); c != (api.Contract{}) || len(diags) != 0 {
		t.Errorf("%s: at %d the contract %v, the diagnostics %v", what, at, c, diags)
	}
}

// noTree checks that nothing is told of a list that is no valid tree, and that no function is there.
func noTree(t *testing.T, what string, l []api.Node) {
	t.Helper()
	if tree.Right(l) {
		t.Fatalf("%s: the tree is valid", what)
	}
	nothing(t, what, l)
	for _, name := range []string{"f", "main", ""} {
		if contracts, ok := contract.Func(l, name); ok || len(contracts) != 0 {
			t.Errorf("%s: the contracts %v, %v of %s", what, contracts, ok, name)
		}
	}
}

func TestP14_1_Sample(t *testing.T) {
	l := parsed(t, sampleText)
	kinds := map[int]int{}
	for _, n := range l {
		kinds[n.Kind]++
	}
	if len(kinds) != 24 || kinds[api.NodeParam] != 6 || len(scope.Check(l)) != 0 {
		t.Errorf("%d kinds of nodes, %d Params, the diagnostics %v", len(kinds), kinds[api.NodeParam], scope.Check(l))
	}
	tells(t, strings.NewReplacer("h: P", "@h: P", "m: Iter", "@m: Iter").Replace(sampleText))
}

func TestP14_1_NotAParam(t *testing.T) {
	l := parsed(t, sampleText)
	for at, n := range l {
		if n.Kind == api.NodeParam {
			if c, _ := contract.Of(l, at); c == (api.Contract{}) {
				t.Errorf("at %d nothing", at)
			}
		} else {
			nothingAt(t, "a node that is no Param", l, at)
		}
	}
}

func TestP14_1_Outside(t *testing.T) {
	for _, text := range []string{sampleText, "", "fn f(x: File imm at Open) { }", "fn f(x: File imm at Nowhere) { }"} {
		l := parsed(t, text)
		for _, at := range []int{-1, -2, -len(l), len(l), len(l) + 1, 2 * len(l), api.MaxNodes, 1 << 32, 1<<32 + 2, math.MaxInt, math.MinInt, math.MinInt + 2} {
			nothingAt(t, text, l, at)
		}
		// A longer list, of which the tree is only the beginning, is not handed in.
		memory := append(copied(l), api.Node{Kind: api.NodeParam, Words: []string{"x"}})
		nothingAt(t, text, memory[:len(l)], len(l))
	}
}

func TestP14_1_NoTree(t *testing.T) {
	sample := parsed(t, sampleText)
	size := len(sample)
	noTree(t, "nil", nil)
	noTree(t, "an empty list", []api.Node{})
	noTree(t, "a Param alone", []api.Node{{Kind: api.NodeParam, Words: []string{"x"}}})
	noTree(t, "a Fn alone", []api.Node{{Kind: api.NodeFn, Words: []string{"f"}, Kids: []int{1, 2}}, {Kind: api.NodeParam, Words: []string{"x"}}, {Kind: api.NodeBlock}})
	for at := 1; at < size; at++ {
		noTree(t, "the first nodes of a tree", sample[:at])
		noTree(t, "the last nodes of a tree", sample[at:])
		noTree(t, "a tree without one node", slices.Delete(copied(sample), at, at+1))
		noTree(t, "a tree with one node twice", append(copied(sample), sample[at]))
		noTree(t, "a part of a tree", tree.Build(sample, at))
	}
	for at := range sample {
		for _, kid := range []int{-1, 0, at, size - 1, size, 1 << 40} {
			l := copied(sample)
			l[at].Kids = append(l[at].Kids, kid)
			noTree(t, "a child that is none", l)
		}
	}
	turned := copied(sample)
	slices.Reverse(turned)
	noTree(t, "a tree turned round", turned)
}

// TestP14_1_InvalidNode breaks one node after the other.
func TestP14_1_InvalidNode(t *testing.T) {
	sample := parsed(t, sampleText)
	for at := range sample {
		for what, change := range map[string]func(n *api.Node){
			"no kind":            func(n *api.Node) { n.Kind = 24 },
			"a negative kind":    func(n *api.Node) { n.Kind = -1 },
			"a number too many":  func(n *api.Node) { n.Nums = append(n.Nums, 7) },
			"a number too great": func(n *api.Node) { n.Nums = append([]int64{1_000_000_000_000_000_000}, n.Nums...) },
			"two words too many": func(n *api.Node) { n.Words = append(n.Words, "w", "fn") },
			"a keyword":          func(n *api.Node) { n.Words = append([]string{"fn"}, n.Words...) },
			"an empty word":      func(n *api.Node) { n.Words = append(n.Words, "") },
			"a long word":        func(n *api.Node) { n.Words = append(n.Words, "seventeen_letters") },
		} {
			l := copied(sample)
			change(&l[at])
			noTree(t, what, l)
		}
	}
}

// TestP14_1_InvalidParam has Params and Names that no text has.
func TestP14_1_InvalidParam(t *testing.T) {
	names := func(which int64, words ...string) api.Node {
		return api.Node{Kind: api.NodeNames, Words: words, Nums: []int64{which}}
	}
	open := names(api.NamesAt, "Open")
	for what, nodes := range map[string][]api.Node{
		"no words":             {{Nums: []int64{3, 0, 0}}, open},
		"three words":          {{Words: []string{"x", "File", "Open"}, Nums: []int64{3, 0, 0}}, open},
		"a number with Names":  {{Words: []string{"x"}}, open},
		"a number with Nums":   {{Words: []string{"x"}, Nums: []int64{3, 0, 0}}},
		"a handle without":     {{Words: []string{"x", "File"}}, open},
		"one number":           {{Words: []string{"x", "File"}, Nums: []int64{3}}, open},
		"four numbers":         {{Words: []string{"x", "File"}, Nums: []int64{3, 0, 0, 0}}, open},
		"the kind 5":           {{Words: []string{"x", "File"}, Nums: []int64{5, 0, 0}}, open},
		"the kind -1":          {{Words: []string{"x", "File"}, Nums: []int64{-1, 0, 0}}, open},
		"1/0":                  {{Words: []string{"x", "File"}, Nums: []int64{3, 1, 0}}, open},
		"0/1":                  {{Words: []string{"x", "File"}, Nums: []int64{3, 0, 1}}, open},
		"-1/2":                 {{Words: []string{"x", "File"}, Nums: []int64{3, -1, 2}}, open},
		"1/10^18":              {{Words: []string{"x", "File"}, Nums: []int64{3, 1, 1_000_000_000_000_000_000}}, open},
		"Names of a 3":         {{Words: []string{"x", "File"}, Nums: []int64{3, 0, 0}}, names(3, "Open")},
		"Names without words":  {{Words: []string{"x", "File"}, Nums: []int64{3, 0, 0}}, names(0)},
		"two of one Names":     {{Words: []string{"x", "File"}, Nums: []int64{3, 0, 0}}, open, open},
		"Names in odd order":   {{Words: []string{"x", "File"}, Nums: []int64{0, 0, 0}}, names(1, "Open"), names(0, "Open")},
		"a Var in its place":   {{Words: []string{"x", "File"}, Nums: []int64{3, 0, 0}}, {Kind: api.NodeVar, Words: []string{"x"}}},
		"a state no name":      {{Words: []string{"x", "File"}, Nums: []int64{3, 0, 0}}, names(0, "at")},
		"a protocol no name":   {{Words: []string{"x", "fn"}, Nums: []int64{3, 0, 0}}, open},
		"an empty name":        {{Words: []string{"", "File"}, Nums: []int64{3, 0, 0}}, open},
		"a state without word": {{Words: []string{"x", "File"}, Nums: []int64{3, 0, 0}}, names(0, "")},
	} {
		l := []api.Node{{Kids: []int{1}}, {Kind: api.NodeFn, Words: []string{"f"}, Kids: []int{2, 3}}, nodes[0], {Kind: api.NodeBlock}}
		l[2].Kind = api.NodeParam
		for _, n := range nodes[1:] {
			l[2].Kids = append(l[2].Kids, len(l))
			l = append(l, n)
		}
		noTree(t, what, l)
	}
}

// TestP14_1_Depth has trees as deep as they may be, and deeper.
func TestP14_1_Depth(t *testing.T) {
	for blocks := 1; blocks < 30; blocks++ {
		l := []api.Node{{Kids: []int{1}}, {Kind: api.NodeFn, Words: []string{"f"}, Kids: []int{2, 3}}, {Kind: api.NodeParam, Words: []string{"x", "File"}, Nums: []int64{api.Imm, 0, 0}, At: 8}}
		for range blocks {
			at := len(l)
			l = append(l, api.Node{Kind: api.NodeBlock, Kids: []int{at + 1}}, api.Node{Kind: api.NodeWhile, Kids: []int{at + 2, at + 3}}, api.Node{Kind: api.NodeNum, Nums: []int64{1}})
		}
		l = append(l, api.Node{Kind: api.NodeBlock})
		if tree.Deep(l) > api.MaxNest {
			noTree(t, "a deep tree", l)
		} else if diags := contract.Check(l); !slices.Equal(diags, []api.Diag{{Code: 7, At: 8, Name: "x"}}) {
			t.Errorf("%d blocks: the diagnostics %v", blocks, diags)
		}
	}
}

func TestP14_1_Size(t *testing.T) {
	for _, count := range []int{api.MaxNodes - 1, api.MaxNodes, api.MaxNodes + 1, 2 * api.MaxNodes} {
		l := []api.Node{{Kids: []int{1}}, {Kind: api.NodeFn, Words: []string{"f"}, Kids: []int{2, 3}}, {Kind: api.NodeParam, Words: []string{"x", "File"}, Nums: []int64{api.Imm, 0, 0}, At: 8}, {Kind: api.NodeBlock}}
		for len(l) < count {
			l[3].Kids = append(l[3].Kids, len(l))
			l = append(l, api.Node{Kind: api.NodeExit})
		}
		if count > api.MaxNodes {
			noTree(t, "a great tree", l)
		} else if c, diags := contract.Of(l, 2); !c.Handle || !slices.Equal(diags, []api.Diag{{Code: 7, At: 8, Name: "x"}}) {
			t.Errorf("%d nodes: the contract %v, the diagnostics %v", count, c, diags)
		}
	}
}

// notChecked tells whether nothing is told of a tree that has diagnostics of the layers 11 and 12, as many as given.
func notChecked(t *testing.T, text string, declDiags, scopeDiags int) {
	t.Helper()
	l := parsed(t, text)
	_, diags := decl.New(l)
	if len(diags) != declDiags || len(scope.Check(l)) != scopeDiags {
		t.Fatalf("%s: the diagnostics %v and %v of the layers 11 and 12", text, diags, scope.Check(l))
	}
	nothing(t, text, l)
}

// faults are protocols with diagnostics of layer 11, and functions with diagnostics of layer 12.
var (
	declFaults = []string{
		"proto Q { }", "proto File { final Z; }", "proto Q { final Z; op go Z -> ok Y; }", "proto Q { final Z; op go Z -> ok Z; }", "proto Q { state A; }", "proto Q { state A; state A; final Z; }", "proto Q { final Z; } proto Q { final Z; }",
	}
	scopeFaults = []string{
		"fn g() { } fn g() { }", "fn g(a, a) { }", "fn g(a) { let a = 1; }", "fn g(a) { open a File { } else { } }", "fn g(a: File imm) { split a = a imm 1/2 { } }", "fn g(a: X imm) { }", "fn g() { open a X { } else { } }",
		"fn g() { a = 1; }", "fn g() { return a; }", "fn g() { do a.read; }", "fn g() { split a = b imm 1/2 { } }", "fn g(a) { call g(&b); }", "fn g() { call a = g(); }", "fn g() { call h(); }", "fn g() { if 1 { let a = 1; } return a; }",
		"fn g(a: File imm) { a = 1; }", "fn g(a: File imm) { return a; }", "fn g(a: File imm) { call a = g(&a); }", "fn g(a) { do a.read; }", "fn g(a) { split b = a imm 1/2 { } }", "fn g(a) { call g(&a); }",
		"fn g(a, a: File imm at Open) { }", "fn g(a: File imm at Open, a: File imm at Open) { }",
	}
)

func TestP14_1_DiagsOfOthers(t *testing.T) {
	for _, text := range []string{"", "fn f(x) { }", "fn f(x: File imm at Open) { }", "fn f(x: File imm at Nowhere) { }", "fn f(x: File imm) { } fn main(y, x: Iter full at Over to Over in Over) { }", sampleText} {
		for _, fault := range declFaults {
			notChecked(t, text+" "+fault, 1, 0)
			notChecked(t, fault+" "+text, 1, 0)
		}
		for _, fault := range scopeFaults {
			notChecked(t, text+" "+fault, 0, 1)
			notChecked(t, fault+" "+text, 0, 1)
			notChecked(t, fault+" "+text+" "+declFaults[0], 1, 1)
		}
	}
	// The protocol of the Param itself.
	notChecked(t, "fn f(x: Nope imm at Open) { }", 0, 1)
	notChecked(t, "proto Q { } fn f(x: Q imm at Open) { }", 1, 1)
	notChecked(t, "proto File { final Open; } fn f(x: File imm at Open) { }", 1, 0)
	notChecked(t, "proto Q { final Z; } proto Q { final Z; final Y; } fn f(x: Q imm at Z) { }", 1, 0)
}

// TestP14_1_AfterOthers shows that lists of which nothing is told have no effect on later calls.
func TestP14_1_AfterOthers(t *testing.T) {
	l := parsed(t, sampleText)
	l[len(l)-1].Words = []string{"x"}
	noTree(t, "an invalid tree", l)
	notChecked(t, sampleText+" proto Door { } fn f() { }", 1, 1)
	has(t, "x: Door imm at Open", api.Contract{Name: "x", Handle: true, Proto: "Door", Kind: 3, Least: none, At: 4})
}
