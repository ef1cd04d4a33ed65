package show_test

import (
	"slices"
	"testing"
	"unsafe"

	"ballcock/api"
	"ballcock/show"
)

// guarded is a copy of a list with spare capacity, and the memory behind it.
func guarded[T any](l []T, behind T) ([]T, []T) {
	memory := append(slices.Clone(l), behind, behind)
	return memory[:len(l)], memory
}

// copied is a copy of a list of nodes that shares no memory with it.
func copied(l []api.Node) []api.Node {
	l = slices.Clone(l)
	for i := range l {
		l[i].Words, l[i].Nums, l[i].Kids = slices.Clone(l[i].Words), slices.Clone(l[i].Nums), slices.Clone(l[i].Kids)
	}
	return l
}

// equal tells whether two lists have the same nodes, with offsets.
func equal(a, b []api.Node) bool {
	return slices.EqualFunc(a, b, func(a, b api.Node) bool {
		return a.Kind == b.Kind && a.At == b.At && slices.Equal(a.Words, b.Words) && slices.Equal(a.Nums, b.Nums) && slices.Equal(a.Kids, b.Kids)
	})
}

// guardedList is a copy of a list of nodes with spare capacity, also of the lists of its nodes,
// and a function that tells whether all of that is as it was.
func guardedList(nodes []api.Node) ([]api.Node, func() bool) {
	l, memory := guarded(copied(nodes), api.Node{Kind: 77, Words: []string{"w"}, Nums: []int64{78}, Kids: []int{79}})
	var behind []api.Node
	for i := range l {
		var n api.Node
		l[i].Words, n.Words = guarded(l[i].Words, "behind")
		l[i].Nums, n.Nums = guarded(l[i].Nums, 5)
		l[i].Kids, n.Kids = guarded(l[i].Kids, 6)
		behind = append(behind, n)
	}
	memoryBefore, behindBefore := copied(memory), copied(behind)
	return l, func() bool { return equal(memory, memoryBefore) && equal(behind, behindBefore) }
}

// lists are trees, and lists that are none.
func lists() [][]api.Node {
	l := [][]api.Node{nil, {{Kids: []int{0}}}, list(inProgram()), list(inProgram(many(1500, proto)...))}
	for _, b := range slices.Concat(samples(), wrong(), []branch{
		inProgram(proto, fn, proto),
		of(api.NodeProto, "P", state, of(api.NodeOp, "go", "s", "ok", "s", "no", "z")),
		of(api.NodeParam, "p", "P", api.Imm, 1, 2, of(api.NodeNames, "a", "b", 0), inS),
		of(api.NodeSplit, "g", "h", api.Imm, 1, 2, inS, exits), of(api.NodeCall, "f", "x", handle, one),
		of(api.NodeReturn, bin(api.BinMul, bin(api.BinAdd, one, name("a")), neg(bin(api.BinLess, one, name("b"))))),
	}) {
		l = append(l, list(around(b)), layers(around(b)))
	}
	return l
}

func TestP8_1_Arguments(t *testing.T) {
	for _, nodes := range lists() {
		l, same := guardedList(nodes)
		show.Show(l)
		for at := -1; at <= min(len(l), 30); at++ {
			show.Expr(l, at)
		}
		if !same() {
			t.Errorf("%v was changed", nodes)
		}
	}
}

// TestP8_1_SpareCapacity has the same lists with and without spare capacity, and with nil and with empty lists.
func TestP8_1_SpareCapacity(t *testing.T) {
	for _, nodes := range lists() {
		l, _ := guardedList(nodes)
		for i := range nodes {
			n := &nodes[i]
			n.Words, n.Nums, n.Kids = append([]string{}, n.Words...), append([]int64{}, n.Nums...), append([]int{}, n.Kids...)
			if i%2 == 0 && len(n.Words) == 0 {
				n.Words = nil
			}
			if i%2 == 0 && len(n.Nums) == 0 {
				n.Nums = nil
			}
			if i%2 == 0 && len(n.Kids) == 0 {
				n.Kids = nil
			}
		}
		if a, b := show.Show(l), show.Show(nodes); a != b {
			t.Errorf("Show: %q, then %q", a, b)
		}
		for at := range min(len(l), 30) {
			if a, b := show.Expr(l, at), show.Expr(nodes, at); a != b {
				t.Errorf("Expr: %q, then %q", a, b)
			}
		}
	}
}

// TestP8_1_ArgumentNotKept lays the words of a tree in memory that changes after the calls,
// which shows whether a text is a part of an argument.
func TestP8_1_ArgumentNotKept(t *testing.T) {
	for _, nodes := range lists() {
		for at := -1; at < min(len(nodes), 30); at++ {
			call := func(l []api.Node) string {
				if at < 0 {
					return show.Show(l)
				}
				return show.Expr(l, at)
			}
			l := copied(nodes)
			var memory [][]byte
			for _, n := range l {
				for i, word := range n.Words {
					if word != "" {
						bytes := []byte(word)
						memory = append(memory, bytes)
						n.Words[i] = unsafe.String(&bytes[0], len(bytes))
					}
				}
			}
			s, want := call(l), call(nodes)
			for _, bytes := range memory {
				for i := range bytes {
					bytes[i] = '?'
				}
			}
			if s != want {
				t.Fatalf("the text %q becomes %q", want, s)
			}
		}
	}
}

// TestP8_1_SameEachTime shows whether a call has an effect on another one.
func TestP8_1_SameEachTime(t *testing.T) {
	type texts struct {
		program string
		exprs   []string
	}
	tell := func(l []api.Node) texts {
		all := texts{program: show.Show(l)}
		for at := range min(len(l), 30) {
			all.exprs = append(all.exprs, show.Expr(l, at))
		}
		return all
	}
	var first []texts
	for _, l := range lists() {
		first = append(first, tell(l))
	}
	for range 2 {
		for i, l := range slices.Backward(lists()) {
			if again := tell(l); again.program != first[i].program || !slices.Equal(again.exprs, first[i].exprs) {
				t.Errorf("%v, then %v", first[i], again)
			}
		}
	}
}

// TestP8_1_SharedArguments hands in lists whose nodes share memory.
func TestP8_1_SharedArguments(t *testing.T) {
	words := []string{"s", "t", "u", "v"}
	nums := []int64{1, 1, 1}
	l := []api.Node{
		{Kids: []int{1, 5}}, {Kind: api.NodeProto, Words: words[:1], Kids: []int{2, 3, 4}},
		{Kind: api.NodeState, Words: words[1:2], Nums: nums[:1]}, {Kind: api.NodeState, Words: words[:1], Nums: nums[1:2]}, {Kind: api.NodeOp, Words: words},
		{Kind: api.NodeFn, Words: words[:1], Kids: []int{6, 7}}, {Kind: api.NodeParam, Words: words[2:], Nums: nums}, {Kind: api.NodeBlock},
	}
	const want = "proto s {\n  final t;\n  final s;\n  op s t -> u v;\n}\nfn s(u: v full least 1/1) { }\n"
	if s := show.Show(l); s != want {
		t.Errorf("Show = %q; want %q", s, want)
	}
}
