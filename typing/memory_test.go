package typing_test

import (
	"fmt"
	"math/rand"
	"slices"
	"strings"
	"testing"
	"unsafe"

	"ballcock/api"
	"ballcock/typing"
)

// equal tells whether two lists of nodes are; nil and empty lists are.
func equal(a, b []api.Node) bool {
	return slices.EqualFunc(a, b, func(a, b api.Node) bool {
		return a.Kind == b.Kind && a.At == b.At && slices.Equal(a.Words, b.Words) && slices.Equal(a.Nums, b.Nums) && slices.Equal(a.Kids, b.Kids)
	})
}

// guarded is a copy of a list with spare capacity, and the memory behind it.
func guarded[T any](l []T, behind T) ([]T, []T) {
	memory := append(slices.Clone(l), behind, behind)
	return memory[:len(l)], memory
}

// guardedList is a copy of a list of nodes with spare capacity, also of the lists of its nodes,
// and a function that tells whether all of that is as it was.
func guardedList(nodes []api.Node) ([]api.Node, func() bool) {
	l, memory := guarded(nodes, api.Node{Kind: api.NodeExit, Words: []string{"behind"}})
	var behind []api.Node
	for i := range l {
		var n api.Node
		l[i].Words, n.Words = guarded(l[i].Words, "behind")
		l[i].Nums, n.Nums = guarded(l[i].Nums, 5)
		l[i].Kids, n.Kids = guarded(l[i].Kids, 6)
		behind = append(behind, n)
	}
	memoryBefore, behindBefore := copied(memory), copied(behind)
	return l, func() bool { return equal(memory, memoryBefore) && equal(behind, behindBefore) }
}

// fill overwrites all memory of a list, in its spare capacity too.
func fill[T any](l []T, with T) {
	for i := range l[:cap(l)] {
		l[:cap(l)][i] = with
	}
}

// overwrite changes all memory of a list of nodes, in its spare capacity too.
func overwrite(l []api.Node) {
	for _, n := range l[:cap(l)] {
		fill(n.Words, "over")
		fill(n.Nums, 1)
		fill(n.Kids, 1)
	}
	fill(l, api.Node{Kind: api.NodeExit, Words: []string{"over"}, At: -1})
}

// told are diagnostics as a text of its own.
func told(diags []api.Diag) string {
	return fmt.Sprint(diags)
}

// trees are valid trees of programs, with and without diagnostics of this layer, and with those of others.
func trees(t *testing.T) [][]api.Node {
	l := [][]api.Node{oddTree()}
	for _, text := range []string{
		"", "fn main() { }", sampleText, sampleText + " proto Q { }", sampleText + " fn f() { }", "fn f(h: File imm) { do h.read { some { } } call f(1); exit; do h.pull; call f(); do h.write; }",
		withMain(declared + "fn f(h: Moves imm) { do h.go { x { } } do h.part { one { } two { } one { } } do h.go; }"),
	} {
		l = append(l, parsed(t, text))
	}
	m := &maker{Rand: rand.New(rand.NewSource(1320))}
	for range 60 {
		nodes, _ := m.shuffled(m.random(t).l)
		l = append(l, nodes)
	}
	return l
}

// others are lists that are no valid tree.
func others(t *testing.T) [][]api.Node {
	l := parsed(t, sampleText)
	wrong := copied(l)
	wrong[len(l)-1].Nums = []int64{1}
	return [][]api.Node{nil, l[:len(l)-1], l[1:], wrong}
}

func TestP13_2_Arguments(t *testing.T) {
	for _, nodes := range append(trees(t), others(t)...) {
		l, same := guardedList(nodes)
		typing.Check(l)
		if !same() {
			t.Errorf("%v was changed", nodes)
		}
	}
}

// TestP13_2_ArgumentNotKept changes all memory of a tree after the calls.
func TestP13_2_ArgumentNotKept(t *testing.T) {
	for _, nodes := range trees(t) {
		l, _ := guardedList(nodes)
		diags := typing.Check(l)
		before := told(diags)
		overwrite(l)
		if after := told(diags); after != before {
			t.Errorf("a result has memory of its argument: %s, then %s", before, after)
		}
		if again := told(typing.Check(nodes)); again != before {
			t.Errorf("an argument is kept: %s, then %s", before, again)
		}
		// The same memory is another tree now.
		other := parsed(t, "fn over(h: Iter imm at Ready) { do h.next; do h.over; }")
		if len(l) >= len(other) {
			copy(l, other)
			if a, b := told(typing.Check(l[:len(other)])), told(typing.Check(other)); a != b {
				t.Errorf("a tree in the memory of another one: %s; want %s", a, b)
			}
		}
	}
}

// TestP13_2_WordsNotKept lays the words of a tree in memory that changes after the calls.
func TestP13_2_WordsNotKept(t *testing.T) {
	var memory [][]byte
	laid := func(s string) string {
		bytes := []byte(s)
		memory = append(memory, bytes)
		return unsafe.String(&bytes[0], len(bytes))
	}
	for _, nodes := range trees(t) {
		l := copied(nodes)
		for _, n := range l {
			for i, word := range n.Words {
				n.Words[i] = laid(word)
			}
		}
		diags := typing.Check(l)
		before := told(diags)
		for _, bytes := range memory {
			fill(bytes, '?')
		}
		if after := told(diags); after != before || strings.Contains(after, "?") {
			t.Errorf("a result has a word of its argument: %s, then %s", before, after)
		}
		memory = nil
	}
}

// TestP13_2_Results changes the results of calls, in their spare capacity too.
func TestP13_2_Results(t *testing.T) {
	count := 0
	for _, nodes := range trees(t) {
		l, same := guardedList(nodes)
		first, second := typing.Check(l), typing.Check(l)
		before := told(first)
		count += len(first)
		fill(second, api.Diag{Code: 77, At: 78, Name: "over"})
		if after := told(first); after != before || !same() {
			t.Errorf("two results share memory: %s, then %s", before, after)
		}
		fill(first, api.Diag{Code: 77, At: 78, Name: "over"})
		_ = append(typing.Check(l), api.Diag{Code: 79})
		if again := told(typing.Check(l)); again != before || !same() {
			t.Errorf("a result is kept: %s, then %s", before, again)
		}
	}
	if count < 300 {
		t.Errorf("only %d diagnostics", count)
	}
}

// TestP13_2_EachTime asks of one tree after the other: no answer hangs on earlier ones.
func TestP13_2_EachTime(t *testing.T) {
	l := append(trees(t), others(t)...)
	var first []string
	for _, nodes := range l {
		first = append(first, told(typing.Check(nodes)))
	}
	for i, nodes := range slices.Backward(l) {
		if again := told(typing.Check(copied(nodes))); again != first[i] {
			t.Errorf("%s, then %s", first[i], again)
		}
	}
}

// TestP13_2_NilAndEmpty has the same trees with nil and with empty lists, and with and without spare capacity.
func TestP13_2_NilAndEmpty(t *testing.T) {
	for _, nodes := range trees(t) {
		empty, nils := copied(nodes), copied(nodes)
		for i, n := range nodes {
			empty[i].Words, empty[i].Nums, empty[i].Kids = append([]string{}, n.Words...), append([]int64{}, n.Nums...), append([]int{}, n.Kids...)
			if len(n.Words) == 0 {
				nils[i].Words = nil
			}
			if len(n.Nums) == 0 {
				nils[i].Nums = nil
			}
			if len(n.Kids) == 0 {
				nils[i].Kids = nil
			}
		}
		spare, _ := guardedList(nodes)
		want := told(typing.Check(nodes))
		for _, l := range [][]api.Node{empty, nils, spare, slices.Clip(empty)} {
			if got := told(typing.Check(l)); got != want {
				t.Errorf("%s with other lists, %s before", got, want)
			}
		}
	}
}

// TestP13_2_SharedArgument hands in a tree whose nodes share memory.
func TestP13_2_SharedArgument(t *testing.T) {
	words := []string{"f", "File", "f", "read"}
	nums := []int64{api.Imm, 0, 0}
	l := []api.Node{
		{Kids: []int{1}}, {Kind: api.NodeFn, Words: words[:1], Kids: []int{2, 3}}, {Kind: api.NodeParam, Words: words[:2], Nums: nums}, {Kind: api.NodeBlock, Kids: []int{4, 5, 6}},
		{Kind: api.NodeDo, Words: words[2:], At: 1}, {Kind: api.NodeCall, Words: words[:1], Kids: []int{7}, At: 2}, {Kind: api.NodeDo, Words: []string{"f", "f"}, At: 3}, {Kind: api.NodeNum, Nums: nums[:1], At: 4},
	}
	got := typing.Check(l)
	want := []api.Diag{{Code: api.DiagMain, Name: "main"}, {Code: api.DiagCase, At: 1, Name: "read"}, {Code: api.DiagSort, At: 4, Name: "f"}, {Code: api.DiagOp, At: 3, Name: "f"}}
	if !slices.Equal(got, want) {
		t.Errorf("the diagnostics %v; want %v", got, want)
	}
	fill(words, "xxx")
	if !slices.Equal(got, want) {
		t.Errorf("then the diagnostics %v", got)
	}
}
