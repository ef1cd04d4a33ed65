package graph_test

import (
	"fmt"
	"math/rand"
	"slices"
	"strings"
	"testing"
	"unsafe"

	"ballcock/api"
	"ballcock/graph"
)

// equal tells whether two lists of nodes are; nil and empty lists are.
func equal(a, b []api.Node) bool {
	return slices.EqualFunc(a, b, func(a, b api.Node) bool {
		return a.Kind == b.Kind && a.At == b.At && slices.Equal(a.Words, b.Words) && slices.Equal(a.Nums, b.Nums) && slices.Equal(a.Kids, b.Kids)
	})
}

// guarded is a copy of a list with spare capacity, and the memory behind it.
func guarded[T any](l []T, behind T) ([]T, []T) {
	memory := append(slices.Clone(l), behind, behind)
	return memory[:len(l)], memory
}

// guardedList is a copy of a list of nodes with spare capacity, also of the lists of its nodes,
// and a function that tells whether all of that is as it was.
func guardedList(nodes []api.Node) ([]api.Node, func() bool) {
	l, memory := guarded(nodes, api.Node{Kind: api.NodeExit, Words: []string{"behind"}})
	var behind []api.Node
	for i := range l {
		var n api.Node
		l[i].Words, n.Words = guarded(l[i].Words, "behind")
		l[i].Nums, n.Nums = guarded(l[i].Nums, 5)
		l[i].Kids, n.Kids = guarded(l[i].Kids, 6)
		behind = append(behind, n)
	}
	memoryBefore, behindBefore := copied(memory), copied(behind)
	return l, func() bool { return equal(memory, memoryBefore) && equal(behind, behindBefore) }
}

// fill overwrites all memory of a list, in its spare capacity too.
func fill[T any](l []T, with T) {
	for i := range l[:cap(l)] {
		l[:cap(l)][i] = with
	}
}

// overwrite changes all memory of a list of nodes, in its spare capacity too.
func overwrite(l []api.Node) {
	for _, n := range l[:cap(l)] {
		fill(n.Words, "over")
		fill(n.Nums, 1)
		fill(n.Kids, 1)
	}
	fill(l, api.Node{Kind: api.NodeExit, Words: []string{"over"}, At: -1})
}

// names are those of functions that trees of these tests have, and of some that they do not have.
var names = []string{"f", "g", "main", "main2", "first", "File", "a", ""}

// ask asks for all that the package tells of a list, also where there is nothing.
func ask(l []api.Node) []api.Code {
	codes := slices.Concat(graph.All(l), []api.Code{{}})
	for _, name := range names {
		code, ok := graph.Func(l, name)
		if !ok {
			code.Params--
		}
		codes = append(codes, code)
	}
	return codes
}

// told are codes as a text of its own.
func told(codes []api.Code) string {
	return fmt.Sprint(codes)
}

// memory is one list of a result: as a text, without the lists in it, and as memory to overwrite.
type memory struct {
	told func() string
	fill func()
}

// memories are all lists of codes, those in instructions ahead of the instructions.
func memories(codes []api.Code) []memory {
	var l []memory
	for _, code := range codes {
		for _, in := range code.Ins {
			l = append(l, memory{func() string { return fmt.Sprint(in.Outs) }, func() { fill(in.Outs, "over") }}, memory{func() string { return fmt.Sprint(in.Cases) }, func() { fill(in.Cases, 77) }})
		}
		flat := func() string {
			var b strings.Builder
			for _, in := range code.Ins {
				fmt.Fprint(&b, in.Op, in.Node, in.Var, in.Old, in.Next, in.Else)
			}
			return b.String()
		}
		l = append(l, memory{flat, func() { fill(code.Ins, api.Instr{Op: 78, Node: 79, Next: 80, Outs: []string{"over"}}) }}, memory{func() string { return fmt.Sprint(code.Slots) }, func() { fill(code.Slots, api.Slot{Name: "over", Proto: "over"}) }})
	}
	return l
}

// change overwrites all memory of codes.
func change(codes []api.Code) {
	for _, m := range memories(codes) {
		m.fill()
	}
	fill(codes, api.Code{Name: "over", Node: 81})
}

// trees are valid trees of programs, with and without codes.
func trees(t *testing.T) [][]api.Node {
	l := [][]api.Node{oddTree()}
	for _, text := range []string{
		"", "fn main() { }", sampleText, several, sampleText + " proto Q { }", sampleText + " fn f() { }", sampleText + " fn g() { exit; }", inF(strings.Join(statements[5:], " ")) + " fn g(x) { }", inMainOf(strings.Join(statements[:10], " let a = 1; ")[len("let x = n; "):]),
	} {
		l = append(l, parsed(t, text))
	}
	m := &maker{Rand: rand.New(rand.NewSource(1620))}
	for range 40 {
		l = append(l, m.shuffled(m.random(t)))
	}
	return l
}

// others are lists that are no valid tree.
func others(t *testing.T) [][]api.Node {
	l := parsed(t, sampleText)
	wrong := copied(l)
	wrong[len(l)-1].Nums = []int64{1}
	return [][]api.Node{nil, l[:len(l)-1], l[1:], wrong}
}

// TestP16_2_Indices has all kinds of programs: each place is an index of the code, or -1 where the chapter says so.
func TestP16_2_Indices(t *testing.T) {
	instructions := 0
	for _, l := range trees(t) {
		for _, code := range graph.All(l) {
			isIndexed(t, l, code)
			instructions += len(code.Ins)
		}
		for _, name := range names {
			if code, ok := graph.Func(l, name); ok {
				isIndexed(t, l, code)
			}
		}
	}
	if instructions < 500 {
		t.Errorf("only %d instructions", instructions)
	}
}

func TestP16_2_Arguments(t *testing.T) {
	for _, nodes := range append(trees(t), others(t)...) {
		l, same := guardedList(nodes)
		ask(l)
		if !same() {
			t.Errorf("%v was changed", nodes)
		}
	}
}

// TestP16_2_ArgumentNotKept changes all memory of a tree after the calls.
func TestP16_2_ArgumentNotKept(t *testing.T) {
	other := parsed(t, "fn main() { } fn f(over: Iter imm at Ready) { do over.left; }")
	for _, nodes := range trees(t) {
		l, _ := guardedList(nodes)
		codes := ask(l)
		before := told(codes)
		overwrite(l)
		if after := told(codes); after != before {
			t.Errorf("a result has memory of its argument: %s, then %s", before, after)
		}
		if again := told(ask(nodes)); again != before {
			t.Errorf("an argument is kept: %s, then %s", before, again)
		}
		// The same memory is another tree now.
		if len(l) >= len(other) {
			copy(l, copied(other))
			if a, b := told(ask(l[:len(other)])), told(ask(other)); a != b {
				t.Errorf("a tree in the memory of another one: %s; want %s", a, b)
			}
		}
	}
}

// TestP16_2_WordsNotKept lays the words of a tree, and a name, in memory that changes after the calls.
func TestP16_2_WordsNotKept(t *testing.T) {
	var memory [][]byte
	laid := func(s string) string {
		bytes := []byte(s)
		memory = append(memory, bytes)
		return unsafe.String(&bytes[0], len(bytes))
	}
	for _, nodes := range trees(t) {
		l := copied(nodes)
		for _, n := range l {
			for i, word := range n.Words {
				n.Words[i] = laid(word)
			}
		}
		codes := ask(l)
		main, _ := graph.Func(l, laid("main"))
		codes = append(codes, main)
		before := told(codes)
		for _, bytes := range memory {
			fill(bytes, '?')
		}
		if after := told(codes); after != before || strings.Contains(after, "?") {
			t.Errorf("a result has a word of its argument: %s, then %s", before, after)
		}
		memory = nil
	}
}

// TestP16_2_Results changes the results of calls, in their spare capacity too.
func TestP16_2_Results(t *testing.T) {
	for _, nodes := range trees(t) {
		l, same := guardedList(nodes)
		first, second := ask(l), ask(l)
		before := told(first)
		change(second)
		change(graph.All(l))
		if after := told(first); after != before || !same() {
			t.Errorf("two results share memory: %s, then %s", before, after)
		}
		change(first)
		if again := told(ask(l)); again != before || !same() {
			t.Errorf("a result is kept: %s, then %s", before, again)
		}
	}
}

// TestP16_2_ListsOfAResult overwrites one list of a result after the other, each in a result of its own: no other list changes.
func TestP16_2_ListsOfAResult(t *testing.T) {
	for _, text := range []string{sampleText, several, inF(strings.Join(statements[6:], " "))} {
		l := parsed(t, text)
		before := memories(graph.All(l))
		for i := range before {
			after := memories(graph.All(l))
			after[i].fill()
			for j := range after {
				if was, is := before[j].told(), after[j].told(); j != i && is != was {
					t.Fatalf("%s: with the list %d, the list %d changes from %s to %s", text, i, j, was, is)
				}
			}
		}
	}
}

// TestP16_2_EachTime asks of one tree after the other: no answer hangs on earlier ones.
func TestP16_2_EachTime(t *testing.T) {
	l := append(trees(t), others(t)...)
	var first []string
	for _, nodes := range l {
		first = append(first, told(ask(nodes)))
	}
	for i, nodes := range slices.Backward(l) {
		for range 3 {
			if again := told(ask(copied(nodes))); again != first[i] {
				t.Errorf("%s, then %s", first[i], again)
			}
		}
	}
}

// TestP16_2_NilAndEmpty has the same trees with nil and with empty lists, and with and without spare capacity.
func TestP16_2_NilAndEmpty(t *testing.T) {
	for _, nodes := range trees(t) {
		empty, nils := copied(nodes), copied(nodes)
		for i, n := range nodes {
			empty[i].Words, empty[i].Nums, empty[i].Kids = append([]string{}, n.Words...), append([]int64{}, n.Nums...), append([]int{}, n.Kids...)
			if len(n.Words) == 0 {
				nils[i].Words = nil
			}
			if len(n.Nums) == 0 {
				nils[i].Nums = nil
			}
			if len(n.Kids) == 0 {
				nils[i].Kids = nil
			}
		}
		spare, _ := guardedList(nodes)
		want := told(ask(nodes))
		for _, l := range [][]api.Node{empty, nils, spare, slices.Clip(empty)} {
			if got := told(ask(l)); got != want {
				t.Errorf("%s with other lists, %s before", got, want)
			}
		}
	}
}

// TestP16_2_SharedArgument hands in a tree whose nodes share memory.
func TestP16_2_SharedArgument(t *testing.T) {
	words := []string{"main", "File", "main", "close"}
	l := []api.Node{
		{Kids: []int{1}}, {Kind: api.NodeFn, Words: words[:1], Kids: []int{2}}, {Kind: api.NodeBlock, Kids: []int{3}}, {Kind: api.NodeOpen, Words: words[:2], Kids: []int{4, 5}},
		{Kind: api.NodeBlock, Kids: []int{6}}, {Kind: api.NodeBlock}, {Kind: api.NodeDo, Words: words[2:]},
	}
	code := codeOf(t, l, "main")
	want := "[{main 1 0 [{main File true}] [{1 3 0 -1 1 3 [] []} {3 6 0 -1 -1 -1 [ok] [2]} {2 3 0 -1 3 -1 [] []} {8 -1 -1 -1 -1 -1 [] []}]}]"
	for range 2 {
		if got := told([]api.Code{code}); got != want {
			t.Errorf("the code %s; want %s", got, want)
		}
		fill(words, "xxx")
	}
}
