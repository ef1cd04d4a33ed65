package parse_test

import (
	"math/rand"
	"slices"
	"strings"
	"testing"
	"unsafe"

	"ballcock/api"
	"ballcock/parse"
)

// texts are programs, and texts that are none, for each fault.
func texts() []string {
	return append(samples(), "x", "fn f() {", "!", times(6001, " "), "fn f() { x = "+times(20, "-")+"1; }", "fn f() { x = "+times(200, "(")+"1; }", sized(1500)[0], sized(1501)[0])
}

// copied is a copy of a list that shares no memory with it.
func copied(l []api.Node) []api.Node {
	l = slices.Clone(l)
	for i := range l {
		l[i].Words, l[i].Nums, l[i].Kids = slices.Clone(l[i].Words), slices.Clone(l[i].Nums), slices.Clone(l[i].Kids)
	}
	return l
}

// overwrite changes all memory of a list of nodes, in its spare capacity too.
func overwrite(l []api.Node) {
	l = l[:cap(l)]
	for i := range l {
		words, nums, kids := l[i].Words, l[i].Nums, l[i].Kids
		for j := range words[:cap(words)] {
			words[:cap(words)][j] = "over"
		}
		for j := range nums[:cap(nums)] {
			nums[:cap(nums)][j] = -7
		}
		for j := range kids[:cap(kids)] {
			kids[:cap(kids)][j] = -8
		}
		l[i].Kind, l[i].At = -9, -10
	}
}

func TestP7_1_NewMemory(t *testing.T) {
	for _, s := range texts() {
		first, _ := parse.Parse(s)
		kept := copied(first)
		second, _ := parse.Parse(s)
		overwrite(first)
		if !equal(second, kept) {
			t.Errorf("Parse(%q): two results share memory", short(s))
		}
		if third, _ := parse.Parse(s); !equal(third, kept) {
			t.Errorf("Parse(%q): a result is kept", short(s))
		}
	}
}

// TestP7_1_ListsOfAResult changes the lists of one node after the other, in their spare capacity too.
func TestP7_1_ListsOfAResult(t *testing.T) {
	for _, s := range samples() {
		l, _ := parse.Parse(s)
		kept := copied(l)
		for i := range l {
			overwrite(l[i : i+1 : i+1])
			if !equal(l[i+1:], kept[i+1:]) {
				t.Fatalf("Parse(%q): node %d shares memory with another one", s, i)
			}
		}
	}
	// Each list of the same node too.
	l, _ := parse.Parse("fn f(a: P imm least 1/2 at A to B, b) { split y = a pure 1/2 in A { } }")
	for i := range l {
		kept := copied(l[i : i+1])[0]
		for j := range l[i].Nums[:cap(l[i].Nums)] {
			l[i].Nums[:cap(l[i].Nums)][j] = -7
		}
		if !slices.Equal(l[i].Kids, kept.Kids) || !slices.Equal(l[i].Words, kept.Words) {
			t.Errorf("the lists of node %d share memory", i)
		}
	}
}

// TestP7_1_ArgumentNotKept lays a text in memory that changes after the call,
// which shows whether the words of nodes are parts of the argument.
func TestP7_1_ArgumentNotKept(t *testing.T) {
	for _, s := range texts() {
		if s == "" {
			continue
		}
		memory := []byte(s)
		l, f := parse.Parse(unsafe.String(&memory[0], len(memory)))
		if string(memory) != s {
			t.Errorf("Parse(%q) changed its argument to %q", short(s), memory)
		}
		for i := range memory {
			memory[i] = '?'
		}
		if want, fault := parse.Parse(s); f != fault || !equal(l, want) {
			t.Errorf("Parse(%q) keeps its argument: %v, %v", short(s), l, f)
		}
	}
}

func TestP7_1_SameEachTime(t *testing.T) {
	for _, s := range texts() {
		first, fault := parse.Parse(s)
		for _, other := range texts() {
			parse.Parse(other)
		}
		if l, f := parse.Parse(s); f != fault || !equal(l, first) {
			t.Errorf("Parse(%q) = %v, %v, then %v, %v", short(s), first, fault, l, f)
		}
	}
}

// TestP7_1_AnyText parses texts of any bytes, and of any tokens: there are nodes, or there is a fault in the text.
func TestP7_1_AnyText(t *testing.T) {
	dice := rand.New(rand.NewSource(72))
	every := everyToken()
	for range 4000 {
		var s strings.Builder
		switch dice.Intn(3) {
		case 0:
			for range dice.Intn(50) {
				s.WriteByte(byte(dice.Intn(256)))
			}
		case 1:
			for range dice.Intn(200) {
				s.WriteString(every[dice.Intn(len(every))] + " ")
			}
		case 2:
			s.WriteString("fn f(){x=")
			for range dice.Intn(3000) {
				s.WriteString([]string{"-", "(", "1+", "((", "--"}[dice.Intn(5)])
			}
		}
		l, f := parse.Parse(s.String())
		if (len(l) == 0) != (f.Err != api.OK) || f.Err == api.OK && f.At != 0 || f.At < 0 || f.At > s.Len() {
			t.Fatalf("Parse(%q) = %d nodes, %v", short(s.String()), len(l), f)
		}
	}
	for _, s := range []string{times(6000, "("), times(6000, "-"), times(3000, "{}"), times(6000, "1"), times(6000, "x"), "fn f(){" + times(5990, "{"), "fn f(){x=" + times(5990, "("), "fn f(){x=" + times(2995, "1+"), "fn f(){" + times(1000, "if 1{"), times(100_000, "fn")} {
		if l, f := parse.Parse(s); len(l) != 0 || f.Err == api.OK {
			t.Errorf("Parse(%q) = %d nodes, %v", short(s), len(l), f)
		}
	}
}
