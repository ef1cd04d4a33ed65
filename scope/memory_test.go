package scope_test

import (
	"fmt"
	"math/rand"
	"slices"
	"strings"
	"testing"
	"unsafe"

	"ballcock/api"
	"ballcock/scope"
)

// equal tells whether two lists of nodes are; nil and empty lists are.
func equal(a, b []api.Node) bool {
	return slices.EqualFunc(a, b, func(a, b api.Node) bool {
		return a.Kind == b.Kind && a.At == b.At && slices.Equal(a.Words, b.Words) && slices.Equal(a.Nums, b.Nums) && slices.Equal(a.Kids, b.Kids)
	})
}

// guarded is a copy of a list with spare capacity, and the memory behind it.
func guarded[T any](l []T, behind T) ([]T, []T) {
	memory := append(slices.Clone(l), behind, behind)
	return memory[:len(l)], memory
}

// guardedList is a copy of a list of nodes with spare capacity, also of the lists of its nodes,
// and a function that tells whether all of that is as it was.
func guardedList(nodes []api.Node) ([]api.Node, func() bool) {
	l, memory := guarded(nodes, api.Node{Kind: api.NodeFn, Words: []string{"behind"}})
	var behind []api.Node
	for i := range l {
		var n api.Node
		l[i].Words, n.Words = guarded(l[i].Words, "behind")
		l[i].Nums, n.Nums = guarded(l[i].Nums, 5)
		l[i].Kids, n.Kids = guarded(l[i].Kids, 6)
		behind = append(behind, n)
	}
	memoryBefore, behindBefore := copied(memory), copied(behind)
	return l, func() bool { return equal(memory, memoryBefore) && equal(behind, behindBefore) }
}

// fill overwrites all memory of a list, in its spare capacity too.
func fill[T any](l []T, with T) {
	for i := range l[:cap(l)] {
		l[:cap(l)][i] = with
	}
}

// overwrite changes all memory of a list of nodes, in its spare capacity too.
func overwrite(l []api.Node) {
	for _, n := range l[:cap(l)] {
		fill(n.Words, "over")
		fill(n.Nums, 1)
		fill(n.Kids, 1)
	}
	fill(l, api.Node{Kind: api.NodeFn, Words: []string{"over"}, At: -1})
}

// answers are what all functions tell of a tree, with the names of the tree and others, at so many nodes.
type answers struct {
	diags  []api.Diag
	funcs  []int
	places []int
	sorts  []string
}

func answersOf(l []api.Node) answers {
	a := answers{diags: scope.Check(l), funcs: scope.Funcs(l)}
	for _, name := range []string{"f", "g", "main", "behind", "over"} {
		at, ok := scope.Func(l, name)
		if !ok {
			at--
		}
		a.places = append(a.places, at)
	}
	for at := -1; at <= min(len(l), 60); at++ {
		for _, name := range []string{"a", "b", "h", "n", "behind", "over"} {
			proto, ok := scope.Sort(l, at, name)
			if !ok {
				proto += "?"
			}
			a.sorts = append(a.sorts, proto)
		}
	}
	return a
}

// told are answers as a text of its own.
func told(a answers) string {
	return fmt.Sprintf("%v %v %v %q", a.diags, a.funcs, a.places, a.sorts)
}

// trees are valid trees of programs, some of them random ones.
func trees(t *testing.T) [][]api.Node {
	var l [][]api.Node
	for _, text := range []string{
		"", "fn main() { }", sampleText, "fn f(a, a: X imm at A) { let a = b; open b File { a = h; } else { do h.x; } split n = b imm 1/2 { call g(&n); } } fn f() { }",
		"proto P { final Z; } fn f(h: P imm at Z, n) { split a = h imm 1/2 { split b = a imm 1/2 { exit; } } split a = n imm 1/2 { do a.x; } } fn g(n) { call n = f(n, &n); }",
	} {
		l = append(l, parsed(t, text))
	}
	m := maker{rand.New(rand.NewSource(1230))}
	for range 40 {
		l = append(l, m.shuffled(m.random(t)))
	}
	return l
}

// others are lists that are no valid tree.
func others(t *testing.T) [][]api.Node {
	l := parsed(t, sampleText)
	wrong := copied(l)
	wrong[len(l)-1].Nums = []int64{1}
	return [][]api.Node{nil, l[:len(l)-1], l[1:], wrong}
}

func TestP12_3_Arguments(t *testing.T) {
	for _, nodes := range append(trees(t), others(t)...) {
		l, same := guardedList(nodes)
		answersOf(l)
		if !same() {
			t.Errorf("%v was changed", nodes)
		}
	}
}

// TestP12_3_ArgumentNotKept changes all memory of a tree after the calls.
func TestP12_3_ArgumentNotKept(t *testing.T) {
	for _, nodes := range trees(t) {
		l, _ := guardedList(nodes)
		a := answersOf(l)
		before := told(a)
		overwrite(l)
		if after := told(a); after != before {
			t.Errorf("a result has memory of its argument: %s, then %s", before, after)
		}
		if again := told(answersOf(nodes)); again != before {
			t.Errorf("an argument is kept: %s, then %s", before, again)
		}
		// The same memory is another tree now.
		other := parsed(t, "fn over(h: Iter imm at Ready) { do h.next; }")
		if len(l) >= len(other) {
			copy(l, other)
			if a, b := told(answersOf(l[:len(other)])), told(answersOf(other)); a != b {
				t.Errorf("a tree in the memory of another one: %s; want %s", a, b)
			}
		}
	}
}

// TestP12_3_WordsNotKept lays the words of a tree, and the name that is asked for, in memory that changes after the calls.
func TestP12_3_WordsNotKept(t *testing.T) {
	var memory [][]byte
	laid := func(s string) string {
		bytes := []byte(s)
		memory = append(memory, bytes)
		return unsafe.String(&bytes[0], len(bytes))
	}
	for _, nodes := range trees(t) {
		l := copied(nodes)
		for _, n := range l {
			for i, word := range n.Words {
				n.Words[i] = laid(word)
			}
		}
		a := answersOf(l)
		for at := range min(len(l), 60) {
			proto, _ := scope.Sort(l, at, laid("h"))
			a.sorts = append(a.sorts, proto)
			if proto, _ := scope.Sort(l, at, laid("b")); proto != "" {
				a.sorts = append(a.sorts, proto)
			}
		}
		before := told(a)
		for _, bytes := range memory {
			fill(bytes, '?')
		}
		if after := told(a); after != before {
			t.Errorf("a result has a word of its argument: %s, then %s", before, after)
		}
		memory = nil
	}
}

// TestP12_3_Results changes the results of calls, in their spare capacity too.
func TestP12_3_Results(t *testing.T) {
	diags, funcs := 0, 0
	for _, nodes := range trees(t) {
		l, same := guardedList(nodes)
		first, second := answersOf(l), answersOf(l)
		before := told(first)
		diags, funcs = diags+len(first.diags), funcs+len(first.funcs)
		fill(second.diags, api.Diag{Code: 77, At: 78, Name: "over"})
		fill(second.funcs, 79)
		if after := told(first); after != before || !same() {
			t.Errorf("two results share memory: %s, then %s", before, after)
		}
		fill(first.diags[:0], api.Diag{Code: 77, At: 78, Name: "over"})
		fill(first.funcs[:0], 79)
		_, _ = append(scope.Check(l), api.Diag{}), append(scope.Funcs(l), 80)
		if again := told(answersOf(l)); again != before || !same() {
			t.Errorf("a result is kept: %s, then %s", before, again)
		}
	}
	if diags < 100 || funcs < 50 {
		t.Errorf("only %d diagnostics and %d functions", diags, funcs)
	}
}

// TestP12_3_EachTime asks of one tree after the other: no answer hangs on earlier ones.
func TestP12_3_EachTime(t *testing.T) {
	l := append(trees(t), others(t)...)
	var first []string
	for _, nodes := range l {
		first = append(first, told(answersOf(nodes)))
	}
	for i, nodes := range slices.Backward(l) {
		if again := told(answersOf(copied(nodes))); again != first[i] {
			t.Errorf("%s, then %s", first[i], again)
		}
	}
}

// TestP12_3_NilAndEmpty has the same trees with nil and with empty lists, and with and without spare capacity.
func TestP12_3_NilAndEmpty(t *testing.T) {
	for _, nodes := range trees(t) {
		empty, nils := copied(nodes), copied(nodes)
		for i, n := range nodes {
			empty[i].Words, empty[i].Nums, empty[i].Kids = append([]string{}, n.Words...), append([]int64{}, n.Nums...), append([]int{}, n.Kids...)
			if len(n.Kids) == 0 {
				nils[i].Kids = nil
			}
			if len(n.Nums) == 0 {
				nils[i].Nums = nil
			}
		}
		spare, _ := guardedList(nodes)
		want := told(answersOf(nodes))
		for _, l := range [][]api.Node{empty, nils, spare, slices.Clip(empty)} {
			if got := told(answersOf(l)); got != want {
				t.Errorf("%s with other lists, %s before", got, want)
			}
		}
	}
}

// TestP12_3_SharedArgument hands in a tree whose nodes share memory.
func TestP12_3_SharedArgument(t *testing.T) {
	words := []string{"a", "File", "a", "b"}
	nums := []int64{api.Imm, 0, 0}
	l := []api.Node{
		{Kids: []int{1}}, {Kind: api.NodeFn, Words: words[:1], Kids: []int{2, 3}}, {Kind: api.NodeParam, Words: words[:2], Nums: nums}, {Kind: api.NodeBlock, Kids: []int{4, 6}},
		{Kind: api.NodeLet, Words: words[2:3], Kids: []int{5}}, {Kind: api.NodeNum, Nums: nums[2:]}, {Kind: api.NodeSet, Words: words[3:], Kids: []int{7}}, {Kind: api.NodeNum, Nums: nums[1:2]},
	}
	got := scope.Check(l)
	want := []api.Diag{{Code: api.DiagTwice, Name: "a"}, {Code: api.DiagNone, Name: "b"}}
	proto, ok := scope.Sort(l, 7, "a")
	if !slices.Equal(got, want) || proto != "File" || !ok {
		t.Errorf("the diagnostics %v, the protocol %q, %v", got, proto, ok)
	}
	fill(words, strings.Repeat("x", 3))
	if !slices.Equal(got, want) || proto != "File" {
		t.Errorf("then the diagnostics %v, the protocol %q", got, proto)
	}
}
