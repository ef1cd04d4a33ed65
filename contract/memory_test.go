package contract_test

import (
	"fmt"
	"math/rand"
	"slices"
	"strconv"
	"strings"
	"testing"
	"unsafe"

	"ballcock/api"
	"ballcock/contract"
)

// equal tells whether two lists of nodes are; nil and empty lists are.
func equal(a, b []api.Node) bool {
	return slices.EqualFunc(a, b, func(a, b api.Node) bool {
		return a.Kind == b.Kind && a.At == b.At && slices.Equal(a.Words, b.Words) && slices.Equal(a.Nums, b.Nums) && slices.Equal(a.Kids, b.Kids)
	})
}

// guarded is a copy of a list with spare capacity, and the memory behind it.
func guarded[T any](l []T, behind T) ([]T, []T) {
	memory := append(slices.Clone(l), behind, behind)
	return memory[:len(l)], memory
}

// guardedList is a copy of a list of nodes with spare capacity, also of the lists of its nodes,
// and a function that tells whether all of that is as it was.
func guardedList(nodes []api.Node) ([]api.Node, func() bool) {
	l, memory := guarded(nodes, api.Node{Kind: api.NodeParam, Words: []string{"behind"}})
	var behind []api.Node
	for i := range l {
		var n api.Node
		l[i].Words, n.Words = guarded(l[i].Words, "behind")
		l[i].Nums, n.Nums = guarded(l[i].Nums, 5)
		l[i].Kids, n.Kids = guarded(l[i].Kids, 6)
		behind = append(behind, n)
	}
	memoryBefore, behindBefore := copied(memory), copied(behind)
	return l, func() bool { return equal(memory, memoryBefore) && equal(behind, behindBefore) }
}

// fill overwrites all memory of a list, in its spare capacity too.
func fill[T any](l []T, with T) {
	for i := range l[:cap(l)] {
		l[:cap(l)][i] = with
	}
}

// overwrite changes all memory of a list of nodes, in its spare capacity too.
func overwrite(l []api.Node) {
	for _, n := range l[:cap(l)] {
		fill(n.Words, "over")
		fill(n.Nums, 1)
		fill(n.Kids, 1)
	}
	fill(l, api.Node{Kind: api.NodeExit, Words: []string{"over"}, At: -1})
}

// answers are what the package tells of a list.
type answers struct {
	check     []api.Diag
	contracts []api.Contract
	diags     [][]api.Diag
	functions [][]api.Contract
	there     []bool
}

// ask asks for all that the package tells of a list, also where there is nothing.
func ask(l []api.Node) answers {
	a := answers{check: contract.Check(l)}
	for at := -1; at <= len(l); at++ {
		c, diags := contract.Of(l, at)
		a.contracts, a.diags = append(a.contracts, c), append(a.diags, diags)
	}
	for _, name := range []string{"f", "f0", "f1", "f2", "g", "main", ""} {
		contracts, ok := contract.Func(l, name)
		a.functions, a.there = append(a.functions, contracts), append(a.there, ok)
	}
	return a
}

// told are answers as a text of its own.
func (a answers) told() string {
	return fmt.Sprint(a.check, a.contracts, a.diags, a.functions, a.there)
}

// change overwrites all memory of answers.
func (a answers) change() {
	over := api.Diag{Code: 77, At: 78, Name: "over"}
	fill(a.check, over)
	for _, diags := range a.diags {
		fill(diags, over)
	}
	for _, contracts := range a.functions {
		fill(contracts, api.Contract{Name: "over", Proto: "over", At: 79})
	}
}

// trees are valid trees of programs, with and without diagnostics, and with those of other layers.
func trees(t *testing.T) [][]api.Node {
	l := [][]api.Node{oddTree()}
	for _, text := range []string{
		"", "fn main() { }", sampleText, sampleText + " proto Q { }", sampleText + " fn f() { }", "fn f(x: Nope imm at Open, y) { }", declared + "fn f(x: Door imm at Open, y: Door imm) { } fn g(z: Wide share least 4/6 in S3) { }",
	} {
		l = append(l, parsed(t, text))
	}
	m := maker{rand.New(rand.NewSource(1421))}
	for range 40 {
		functions := make([][]written, 3)
		for i := range functions {
			for j := range m.Intn(4) {
				functions[i] = append(functions[i], m.param("p"+strconv.Itoa(j)))
			}
		}
		text, _ := unmarked(m.program(functions...))
		l = append(l, parsed(t, text))
	}
	return l
}

// others are lists that are no valid tree.
func others(t *testing.T) [][]api.Node {
	l := parsed(t, sampleText)
	wrong := copied(l)
	wrong[len(l)-1].Nums = []int64{1}
	return [][]api.Node{nil, l[:len(l)-1], l[1:], wrong}
}

func TestP14_2_Arguments(t *testing.T) {
	for _, nodes := range append(trees(t), others(t)...) {
		l, same := guardedList(nodes)
		ask(l)
		if !same() {
			t.Errorf("%v was changed", nodes)
		}
	}
}

// TestP14_2_ArgumentNotKept changes all memory of a tree after the calls.
func TestP14_2_ArgumentNotKept(t *testing.T) {
	other := parsed(t, "fn f(over: Iter imm at Over, x: Iter pure in Over) { }")
	for _, nodes := range trees(t) {
		l, _ := guardedList(nodes)
		a := ask(l)
		before := a.told()
		overwrite(l)
		if after := a.told(); after != before {
			t.Errorf("a result has memory of its argument: %s, then %s", before, after)
		}
		if again := ask(nodes).told(); again != before {
			t.Errorf("an argument is kept: %s, then %s", before, again)
		}
		// The same memory is another tree now.
		if len(l) >= len(other) {
			copy(l, other)
			if a, b := ask(l[:len(other)]).told(), ask(other).told(); a != b {
				t.Errorf("a tree in the memory of another one: %s; want %s", a, b)
			}
		}
	}
}

// TestP14_2_WordsNotKept lays the words of a tree, and the name of a function, in memory that changes after the calls.
func TestP14_2_WordsNotKept(t *testing.T) {
	var memory [][]byte
	laid := func(s string) string {
		bytes := []byte(s)
		memory = append(memory, bytes)
		return unsafe.String(&bytes[0], len(bytes))
	}
	for _, nodes := range trees(t) {
		l := copied(nodes)
		for _, n := range l {
			for i, word := range n.Words {
				n.Words[i] = laid(word)
			}
		}
		a := ask(l)
		contracts, _ := contract.Func(l, laid("f"))
		before, contractsBefore := a.told(), fmt.Sprint(contracts)
		for _, bytes := range memory {
			fill(bytes, '?')
		}
		if after := a.told(); after != before || strings.Contains(after, "?") {
			t.Errorf("a result has a word of its argument: %s, then %s", before, after)
		}
		if after := fmt.Sprint(contracts); after != contractsBefore {
			t.Errorf("a result has a word of its argument: %s, then %s", contractsBefore, after)
		}
		memory = nil
	}
}

// TestP14_2_Results changes the results of calls, in their spare capacity too.
func TestP14_2_Results(t *testing.T) {
	diags, contracts := 0, 0
	for _, nodes := range trees(t) {
		l, same := guardedList(nodes)
		first, second := ask(l), ask(l)
		before := first.told()
		diags += len(first.check)
		for _, function := range first.functions {
			contracts += len(function)
		}
		second.change()
		if after := first.told(); after != before || !same() {
			t.Errorf("two results share memory: %s, then %s", before, after)
		}
		first.change()
		_ = append(contract.Check(l), api.Diag{Code: 79})
		if again := ask(l).told(); again != before || !same() {
			t.Errorf("a result is kept: %s, then %s", before, again)
		}
	}
	if diags < 40 || contracts < 150 {
		t.Errorf("only %d diagnostics and %d contracts", diags, contracts)
	}
}

// TestP14_2_EachTime asks of one tree after the other: no answer hangs on earlier ones.
func TestP14_2_EachTime(t *testing.T) {
	l := append(trees(t), others(t)...)
	var first []string
	for _, nodes := range l {
		first = append(first, ask(nodes).told())
	}
	for i, nodes := range slices.Backward(l) {
		if again := ask(copied(nodes)).told(); again != first[i] {
			t.Errorf("%s, then %s", first[i], again)
		}
	}
}

// TestP14_2_NilAndEmpty has the same trees with nil and with empty lists, and with and without spare capacity.
func TestP14_2_NilAndEmpty(t *testing.T) {
	for _, nodes := range trees(t) {
		empty, nils := copied(nodes), copied(nodes)
		for i, n := range nodes {
			empty[i].Words, empty[i].Nums, empty[i].Kids = append([]string{}, n.Words...), append([]int64{}, n.Nums...), append([]int{}, n.Kids...)
			if len(n.Words) == 0 {
				nils[i].Words = nil
			}
			if len(n.Nums) == 0 {
				nils[i].Nums = nil
			}
			if len(n.Kids) == 0 {
				nils[i].Kids = nil
			}
		}
		spare, _ := guardedList(nodes)
		want := ask(nodes).told()
		for _, l := range [][]api.Node{empty, nils, spare, slices.Clip(empty)} {
			if got := ask(l).told(); got != want {
				t.Errorf("%s with other lists, %s before", got, want)
			}
		}
	}
}

// TestP14_2_SharedArgument hands in a tree whose nodes share memory.
func TestP14_2_SharedArgument(t *testing.T) {
	words := []string{"f", "File", "Open", "File"}
	nums := []int64{api.Imm, 0, 0}
	l := []api.Node{
		{Kids: []int{1}}, {Kind: api.NodeFn, Words: words[:1], Kids: []int{2, 3, 6}},
		{Kind: api.NodeParam, Words: words[:2], Nums: nums, Kids: []int{4}, At: 1}, {Kind: api.NodeParam, Words: []string{"g", "File"}, Nums: nums, Kids: []int{5}, At: 2},
		{Kind: api.NodeNames, Words: words[2:3], Nums: nums[1:2]}, {Kind: api.NodeNames, Words: words[2:], Nums: nums[1:2]}, {Kind: api.NodeBlock},
	}
	c, _ := contract.Of(l, 3)
	contracts, ok := contract.Func(l, "f")
	diags := contract.Check(l)
	want := []api.Contract{{Name: "f", Handle: true, Proto: "File", Kind: 3, Least: none, At: 1}, {Name: "g", Handle: true, Proto: "File", Kind: 3, Least: none, At: 1}}
	for range 2 {
		if !ok || c != want[1] || !slices.Equal(contracts, want) || !slices.Equal(diags, []api.Diag{{Code: 7, At: 2, Name: "g"}}) {
			t.Errorf("the contracts %v and %v, %v, the diagnostics %v", c, contracts, ok, diags)
		}
		fill(words, "xxx")
		fill(nums, 1)
	}
}
