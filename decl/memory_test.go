package decl_test

import (
	"fmt"
	"math/rand"
	"slices"
	"strings"
	"testing"
	"unsafe"

	"ballcock/api"
	"ballcock/decl"
)

// copied is a copy of a list of nodes that shares no memory with it.
func copied(l []api.Node) []api.Node {
	l = slices.Clone(l)
	for i := range l {
		l[i].Words, l[i].Nums, l[i].Kids = slices.Clone(l[i].Words), slices.Clone(l[i].Nums), slices.Clone(l[i].Kids)
	}
	return l
}

// equal tells whether two lists of nodes are; nil and empty lists are.
func equal(a, b []api.Node) bool {
	return slices.EqualFunc(a, b, func(a, b api.Node) bool {
		return a.Kind == b.Kind && a.At == b.At && slices.Equal(a.Words, b.Words) && slices.Equal(a.Nums, b.Nums) && slices.Equal(a.Kids, b.Kids)
	})
}

// guarded is a copy of a list with spare capacity, and the memory behind it.
func guarded[T any](l []T, behind T) ([]T, []T) {
	memory := append(slices.Clone(l), behind, behind)
	return memory[:len(l)], memory
}

// guardedList is a copy of a list of nodes with spare capacity, also of the lists of its nodes,
// and a function that tells whether all of that is as it was.
func guardedList(nodes []api.Node) ([]api.Node, func() bool) {
	l, memory := guarded(nodes, api.Node{Kind: api.NodeProto, Words: []string{"Behind"}})
	var behind []api.Node
	for i := range l {
		var n api.Node
		l[i].Words, n.Words = guarded(l[i].Words, "behind")
		l[i].Nums, n.Nums = guarded(l[i].Nums, 5)
		l[i].Kids, n.Kids = guarded(l[i].Kids, 6)
		behind = append(behind, n)
	}
	memoryBefore, behindBefore := copied(memory), copied(behind)
	return l, func() bool { return equal(memory, memoryBefore) && equal(behind, behindBefore) }
}

// fill overwrites all memory of a list, in its spare capacity too.
func fill[T any](l []T, with T) {
	for i := range l[:cap(l)] {
		l[:cap(l)][i] = with
	}
}

// overwrite changes all memory of a list of nodes, in its spare capacity too.
func overwrite(l []api.Node) {
	for _, n := range l[:cap(l)] {
		fill(n.Words, "over")
		fill(n.Nums, 1)
		fill(n.Kids, 1)
	}
	fill(l, api.Node{Kind: api.NodeProto, Words: []string{"over"}, At: -1})
}

// strangers are names that no protocol of the trees of these tests has.
var strangers = []string{"", "over", "behind", "Behind", "?", "file", "A", "Z", "go", "ok", "Missing"}

// told is all that a book tells, as a text.
func told(b *decl.Book) string {
	var s strings.Builder
	names := b.Names()
	fmt.Fprintf(&s, "%q\n", names)
	for _, name := range append(names, strangers...) {
		a, ok := b.Find(name)
		fmt.Fprintf(&s, "%q %v %v ", name, a != nil, ok)
		if a != nil {
			fmt.Fprintln(&s, a.Proto(), a.Ops(), a.Finals())
		}
	}
	return s.String()
}

// trees are valid trees of programs, some of them random ones.
func trees(t *testing.T) [][]api.Node {
	l := [][]api.Node{list(sample()), list(of(api.NodeProgram))}
	for _, text := range []string{
		"", "fn main() { }", "proto P { state A; final Z; op go A -> ok Z; }",
		"proto P { final Z; } proto Q { op go A -> ok Z, no A; state A; final Z; } fn f(x: Q pure in A) { } proto R { final Z; } proto P { }",
		"proto File { final Z; } proto P { op go A -> ok A; } proto Q { } proto R { state A; } proto S { final Z; op go Z -> ok Z; } proto T { final Z; }",
	} {
		l = append(l, parsed(t, text))
	}
	m := maker{rand.New(rand.NewSource(1120))}
	for range 60 {
		l = append(l, m.shuffled(list(m.program())))
	}
	return l
}

func TestP11_2_Arguments(t *testing.T) {
	for _, nodes := range append(trees(t), nil, list(sample())[:5], list(of(api.NodeProto, "P"))) {
		l, same := guardedList(nodes)
		b, _ := decl.New(l)
		if !same() {
			t.Errorf("New(%s) changed its argument", shown(nodes))
		}
		if b != nil {
			told(b)
		}
		if !same() {
			t.Errorf("Names or Find changed the argument of New(%s)", shown(nodes))
		}
	}
}

// TestP11_2_ArgumentNotKept changes all memory of a tree after New.
func TestP11_2_ArgumentNotKept(t *testing.T) {
	for _, nodes := range trees(t) {
		l, _ := guardedList(nodes)
		b, diags := made(t, l)
		before, names, want := told(b), b.Names(), slices.Clone(diags)
		overwrite(l)
		if after := told(b); after != before {
			t.Errorf("New(%s) keeps its argument: %s, then %s", shown(nodes), before, after)
		}
		if !slices.Equal(diags, want) || !slices.Equal(names, b.Names()) {
			t.Errorf("a result has memory of the argument of New(%s)", shown(nodes))
		}
	}
}

// TestP11_2_WordsNotKept lays the words of a tree in memory that changes after New.
func TestP11_2_WordsNotKept(t *testing.T) {
	for _, nodes := range trees(t) {
		l := copied(nodes)
		var memory [][]byte
		for _, n := range l {
			for i, word := range n.Words {
				bytes := []byte(word)
				memory = append(memory, bytes)
				n.Words[i] = unsafe.String(&bytes[0], len(bytes))
			}
		}
		b, diags := made(t, l)
		before, names := told(b), strings.Join(b.Names(), " ")
		kept, lines := b.Names(), fmt.Sprint(diags)
		for _, bytes := range memory {
			fill(bytes, '?')
		}
		if after := told(b); after != before || strings.Join(kept, " ") != names {
			t.Errorf("New(%s) keeps a word: %s, then %s", shown(nodes), before, after)
		}
		if after := fmt.Sprint(diags); after != lines {
			t.Errorf("a diagnostic has a word of the argument: %s, then %s", lines, after)
		}
	}
}

// TestP11_2_Names changes a result of Names, in its spare capacity too.
func TestP11_2_Names(t *testing.T) {
	for _, l := range trees(t) {
		b, _ := made(t, l)
		before, first, second := told(b), b.Names(), b.Names()
		want := slices.Clone(first)
		fill(second, "over")
		if !slices.Equal(first, want) {
			t.Errorf("two results of Names share memory: %q", first)
		}
		fill(first[:1], "over")
		_ = append(b.Names(), "over", "over")
		if after := told(b); after != before {
			t.Errorf("a result of Names is kept: %s, then %s", before, after)
		}
		slices.Reverse(b.Names())
		if other, _ := made(t, l); told(other) != before {
			t.Errorf("a result of Names is kept for another book: %s, then %s", before, told(other))
		}
	}
}

// TestP11_2_Diags changes the diagnostics, in their spare capacity too.
func TestP11_2_Diags(t *testing.T) {
	some := 0
	for _, nodes := range trees(t) {
		l, same := guardedList(nodes)
		b, first := made(t, l)
		_, second := made(t, l)
		before, want := told(b), slices.Clone(first)
		if !slices.Equal(second, want) {
			t.Errorf("New(%s) has the diagnostics %v, then %v", shown(nodes), first, second)
		}
		fill(second, api.Diag{Code: 77, At: 78, Name: "over"})
		if !slices.Equal(first, want) {
			t.Errorf("the diagnostics of two calls share memory: %v; want %v", first, want)
		}
		fill(first, api.Diag{Code: 77, At: 78, Name: "over"})
		if after := told(b); after != before || !same() {
			t.Errorf("the diagnostics are kept: %s, then %s", before, after)
		}
		if _, third := made(t, l); !slices.Equal(third, want) {
			t.Errorf("the diagnostics are kept: %v; want %v", third, want)
		}
		some += len(want)
	}
	if some < 20 {
		t.Errorf("only %d diagnostics", some)
	}
}

// TestP11_2_Automata changes what the automata of a book return.
func TestP11_2_Automata(t *testing.T) {
	for _, nodes := range trees(t) {
		l, same := guardedList(nodes)
		b, _ := made(t, l)
		before := told(b)
		for _, name := range b.Names() {
			a, _ := b.Find(name)
			for _, op := range a.Ops() {
				fill(a.Outcomes(op), "over")
			}
			fill(a.Ops(), "over")
			p := a.Proto()
			for _, m := range p.Moves {
				fill(m.Outs, api.Out{Name: "over"})
			}
			fill(p.Moves, api.Move{Op: "over"})
			fill(p.States, api.State{Name: "over"})
		}
		if after := told(b); after != before || !same() {
			t.Errorf("what an automaton returned is kept: %s, then %s", before, after)
		}
	}
}

// TestP11_2_Books makes one book after the other: none has an effect on another one.
func TestP11_2_Books(t *testing.T) {
	l := trees(t)
	var books []*decl.Book
	var first []string
	for _, nodes := range l {
		b, _ := made(t, nodes)
		books, first = append(books, b), append(first, told(b))
	}
	for i, b := range slices.Backward(books) {
		if again := told(b); again != first[i] {
			t.Errorf("%s, then %s", first[i], again)
		}
		if other, _ := made(t, l[i]); other == b || told(other) != first[i] {
			t.Errorf("%s, then of the same tree %s", first[i], told(other))
		}
	}
}

// TestP11_2_NilAndEmpty has the same trees with nil and with empty lists, and with and without spare capacity.
func TestP11_2_NilAndEmpty(t *testing.T) {
	for _, nodes := range trees(t) {
		empty := copied(nodes)
		for i, n := range nodes {
			empty[i].Words, empty[i].Nums, empty[i].Kids = append([]string{}, n.Words...), append([]int64{}, n.Nums...), append([]int{}, n.Kids...)
		}
		spare, _ := guardedList(nodes)
		b, diags := made(t, nodes)
		for _, l := range [][]api.Node{empty, spare, slices.Clip(empty)} {
			if other, others := made(t, l); told(other) != told(b) || !slices.Equal(others, diags) {
				t.Errorf("%s is told another way with empty lists or with spare capacity", shown(nodes))
			}
		}
	}
}

// TestP11_2_SharedArgument hands in a tree whose nodes share memory.
func TestP11_2_SharedArgument(t *testing.T) {
	words := []string{"go", "A", "A", "A", "no", "A"}
	nums := []int64{1, 0}
	l := []api.Node{
		{Kids: []int{1, 4, 7}},
		{Kind: api.NodeProto, Words: words[1:2], Kids: []int{2, 3}},
		{Kind: api.NodeState, Words: words[2:3], Nums: nums[:1]}, {Kind: api.NodeState, Words: words[:1], Nums: nums[:1]},
		{Kind: api.NodeProto, Words: words[:1], Kids: []int{5, 6}},
		{Kind: api.NodeState, Words: words[1:2], Nums: nums[1:]}, {Kind: api.NodeOp, Words: words},
		{Kind: api.NodeProto, Words: words[4:5], Kids: []int{8}}, {Kind: api.NodeOp, Words: words[:4]},
	}
	b, diags := made(t, l)
	if want := []api.Diag{{Code: api.DiagProto, Name: "go"}, {Code: api.DiagNone, Name: "no"}}; !slices.Equal(diags, want) {
		t.Errorf("the diagnostics %v; want %v", diags, want)
	}
	fill(words, "over")
	fill(nums, 0)
	holds(t, b, "shared memory", proto("A", "A! go!"))
}
