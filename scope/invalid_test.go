package scope_test

import (
	"slices"
	"strings"
	"testing"

	"ballcock/api"
	"ballcock/scope"
	"ballcock/tree"
)

// sampleText has a node of each kind, variables of each kind, and a diagnostic of each code.
const sampleText = "proto P { state A; final Z; op end A -> ok Z; } fn f(n, h: P full least 1/2 at A to Z in A|Z) { let a = n + -1; n = 2; " +
	"open b File { do b.read { some { } none { } } } else { exit; } split c = h imm 1/2 in A { call n = f(1, &c); } if a < 1 { } else { } while n { return a; } n = b; h = 1; } fn f() { }"

// none tells whether all functions tell nothing of a list that is no valid tree.
func none(t *testing.T, what string, l []api.Node) {
	t.Helper()
	if tree.Right(l) {
		t.Fatalf("%s: the tree is valid", what)
	}
	if diags, funcs := scope.Check(l), scope.Funcs(l); len(diags) != 0 || len(funcs) != 0 {
		t.Errorf("%s: the diagnostics %v, the functions %v", what, diags, funcs)
	}
	for _, name := range []string{"f", "main", "", "P", "n"} {
		if at, ok := scope.Func(l, name); at != 0 || ok {
			t.Errorf("%s: Func(%s) = %d, %v", what, name, at, ok)
		}
	}
	for at := -1; at <= min(len(l), 80); at++ {
		for _, name := range []string{"n", "h", "a", "b", "c", ""} {
			if proto, ok := scope.Sort(l, at, name); proto != "" || ok {
				t.Errorf("%s: Sort(%d, %s) = %q, %v", what, at, name, proto, ok)
			}
		}
	}
}

// copied is a copy of a list of nodes that shares no memory with it.
func copied(l []api.Node) []api.Node {
	l = slices.Clone(l)
	for i := range l {
		l[i].Words, l[i].Nums, l[i].Kids = slices.Clone(l[i].Words), slices.Clone(l[i].Nums), slices.Clone(l[i].Kids)
	}
	return l
}

func TestP12_1_Sample(t *testing.T) {
	l := parsed(t, sampleText)
	kinds := map[int]bool{}
	for _, n := range l {
		kinds[n.Kind] = true
	}
	var diags []string
	for _, d := range scope.Check(l) {
		diags = append(diags, strings.Repeat("!", d.Code)+d.Name)
	}
	if len(kinds) != 24 || !slices.Equal(diags, []string{"!!!b", "!!!!h", "!!f"}) || len(scope.Funcs(l)) != 2 {
		t.Errorf("%d kinds of nodes, the diagnostics %q, the functions %v", len(kinds), diags, scope.Funcs(l))
	}
}

func TestP12_1_NoTree(t *testing.T) {
	sample := parsed(t, sampleText)
	size := len(sample)
	none(t, "nil", nil)
	none(t, "an empty list", []api.Node{})
	for at := 1; at < size; at++ {
		none(t, "the first nodes of a tree", sample[:at])
		none(t, "the last nodes of a tree", sample[at:])
		none(t, "a tree without one node", slices.Delete(copied(sample), at, at+1))
		none(t, "a tree with one node twice", append(copied(sample), sample[at]))
		none(t, "a part of a tree", tree.Build(sample, at))
	}
	for at := range sample {
		for _, kid := range []int{-1, 0, at, size - 1, size, 1 << 40} {
			l := copied(sample)
			l[at].Kids = append(l[at].Kids, kid)
			none(t, "a child that is none", l)
		}
	}
	turned := copied(sample)
	slices.Reverse(turned)
	none(t, "a tree turned round", turned)
}

// TestP12_1_InvalidNode breaks one node after the other, while the other nodes could still tell functions and variables.
func TestP12_1_InvalidNode(t *testing.T) {
	sample := parsed(t, sampleText)
	for at := range sample {
		for what, change := range map[string]func(n *api.Node){
			"no kind":              func(n *api.Node) { n.Kind = 24 },
			"another kind":         func(n *api.Node) { n.Kind = (n.Kind + 12) % 24 },
			"a number too many":    func(n *api.Node) { n.Nums = append(n.Nums, 7) },
			"a number too great":   func(n *api.Node) { n.Nums = append([]int64{1_000_000_000_000_000_000}, n.Nums...) },
			"two words too many":   func(n *api.Node) { n.Words = append(n.Words, "w", "fn") },
			"a keyword":            func(n *api.Node) { n.Words = append([]string{"fn"}, n.Words...) },
			"an empty word":        func(n *api.Node) { n.Words = append(n.Words, "") },
			"a long word":          func(n *api.Node) { n.Words = append(n.Words, "seventeen_letters") },
			"each word is a blank": func(n *api.Node) { n.Words = append(slices.Repeat([]string{" "}, len(n.Words)), " ") },
		} {
			l := copied(sample)
			change(&l[at])
			none(t, what, l)
		}
		for _, change := range []func(n *api.Node){
			func(n *api.Node) { n.Words = nil },
			func(n *api.Node) { n.Nums = nil },
			func(n *api.Node) { n.Kids = nil },
		} {
			l := copied(sample)
			change(&l[at])
			if !tree.Right(l) {
				none(t, "a node without a list", l)
			}
		}
	}
}

// TestP12_1_Depth has trees as deep as they may be, and deeper.
func TestP12_1_Depth(t *testing.T) {
	for blocks := 1; blocks < 30; blocks++ {
		l := []api.Node{{Kids: []int{1}}, {Kind: api.NodeFn, Words: []string{"f"}, Kids: []int{2}}}
		for range blocks {
			// The number of each While is a variable.
			at := len(l)
			l = append(l, api.Node{Kind: api.NodeBlock, Kids: []int{at + 1}}, api.Node{Kind: api.NodeWhile, Kids: []int{at + 2, at + 3}}, api.Node{Kind: api.NodeVar, Words: []string{"n"}, At: at})
		}
		l = append(l, api.Node{Kind: api.NodeBlock})
		if tree.Deep(l) > api.MaxNest {
			none(t, "a deep tree", l)
		} else if diags := scope.Check(l); len(diags) != blocks || len(scope.Funcs(l)) != 1 {
			t.Errorf("%d blocks: the diagnostics %v, the functions %v", blocks, diags, scope.Funcs(l))
		}
	}
}

func TestP12_1_Size(t *testing.T) {
	for _, count := range []int{api.MaxNodes - 1, api.MaxNodes, api.MaxNodes + 1, 2 * api.MaxNodes} {
		l := []api.Node{{Kids: []int{1}}, {Kind: api.NodeFn, Words: []string{"f"}, Kids: []int{2, 3}}, {Kind: api.NodeParam, Words: []string{"n"}}, {Kind: api.NodeBlock}}
		for len(l) < count {
			l[3].Kids = append(l[3].Kids, len(l))
			l = append(l, api.Node{Kind: api.NodeDo, Words: []string{"n", "read"}})
		}
		if count > api.MaxNodes {
			none(t, "a great tree", l)
			continue
		}
		if diags := scope.Check(l); len(diags) != count-4 || diags[count-5] != (api.Diag{Code: api.DiagSort, Name: "n"}) {
			t.Errorf("%d nodes have %d diagnostics", count, len(diags))
		}
		if proto, ok := scope.Sort(l, count-1, "n"); proto != "" || !ok {
			t.Errorf("%d nodes: Sort = %q, %v", count, proto, ok)
		}
	}
}

// TestP12_1_AfterInvalid shows that a list that is no valid tree has no effect on later calls.
func TestP12_1_AfterInvalid(t *testing.T) {
	l := parsed(t, sampleText)
	l[len(l)-1].Words = []string{"x"}
	none(t, "an invalid tree", l)
	tells(t, "fn f(a) { @n = a; let n = 1; }", "none n")
	sees(t, "fn f(a) { @n = a; let n = 1; @exit; }", "a", "a n")
}
