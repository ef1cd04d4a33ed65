package scope_test

import (
	"math"
	"slices"
	"strconv"
	"strings"
	"testing"

	"ballcock/api"
	"ballcock/parse"
	"ballcock/scope"
)

// parsed is the tree of a text.
func parsed(t *testing.T, text string) []api.Node {
	t.Helper()
	l, fault := parse.Parse(text)
	if fault.Err != api.OK {
		t.Fatalf("%.300s: the fault %v at %d", text, fault.Err, fault.At)
	}
	return l
}

// unmarked takes the marks @ out of a text, and tells the offsets of what they stand ahead of.
func unmarked(text string) (string, []int) {
	parts := strings.Split(text, "@")
	var offsets []int
	at := 0
	for _, part := range parts[:len(parts)-1] {
		at += len(part)
		offsets = append(offsets, at)
	}
	return strings.Join(parts, ""), offsets
}

// nodeAt is the last node, in preorder, at an offset of a parsed text.
func nodeAt(t *testing.T, l []api.Node, offset int) int {
	t.Helper()
	for at, n := range slices.Backward(l) {
		if n.At == offset {
			return at
		}
	}
	t.Fatalf("no node at %d", offset)
	return 0
}

func TestP12_1_Unmarked(t *testing.T) {
	if text, offsets := unmarked("a @bc @@d"); text != "a bc d" || !slices.Equal(offsets, []int{2, 5, 5}) {
		t.Errorf("%q, %v", text, offsets)
	}
	l := parsed(t, "fn f() { a = 1 + 2; }")
	if at := nodeAt(t, l, 13); l[at].Kind != api.NodeNum || l[at].Nums[0] != 1 || nodeAt(t, l, 0) != 1 {
		t.Errorf("the node %d at 13, %d at 0", at, nodeAt(t, l, 0))
	}
}

// funcsAre holds Funcs against the nodes at the marks of a text.
func funcsAre(t *testing.T, marked string) {
	t.Helper()
	text, offsets := unmarked(marked)
	l := parsed(t, text)
	var want []int
	for _, offset := range offsets {
		want = append(want, nodeAt(t, l, offset))
	}
	if got := scope.Funcs(l); !slices.Equal(got, want) {
		t.Errorf("%s: Funcs = %v; want %v", marked, got, want)
	}
}

func TestP12_1_Funcs(t *testing.T) {
	for _, marked := range []string{
		"", "# nothing", "proto P { final Z; }", "proto P { } proto fn_ { state f; }",
		"@fn main() { }", "\n @fn f(a, b: File imm at Open) { }", "@fn f() { } @fn g() { } @fn h() { }", "@fn h() { } @fn g() { let a = 1; } @fn f() { open x File { } else { } }",
		"proto P { final Z; } @fn f() { } proto Q { } @fn g() { } proto P { state A; }", "@fn f() { } proto f { } proto g { final Z; op f Z -> g Z; } @fn g() { call f(); }",
		"@fn f() { } @fn f() { }", "@fn f() { } @fn g() { } @fn f(a, a) { x = y; } proto f { } @fn f() { exit; }",
	} {
		funcsAre(t, marked)
	}
}

// found tells whether the first function with a name is the node at the mark of a text; without a mark there is none.
func found(t *testing.T, marked, name string) {
	t.Helper()
	text, offsets := unmarked(marked)
	l := parsed(t, text)
	want, wanted := 0, len(offsets) > 0
	if wanted {
		want = nodeAt(t, l, offsets[0])
	}
	// The name is asked for by its bytes, wherever they lie.
	for _, name := range []string{name, string([]byte(name))} {
		if at, ok := scope.Func(l, name); at != want || ok != wanted {
			t.Errorf("%s: Func(%.40q) = %d, %v; want %d, %v", marked, name, at, ok, want, wanted)
		}
	}
}

func TestP12_1_Func(t *testing.T) {
	found(t, "@fn main() { }", "main")
	found(t, "@fn f() { } fn g() { } fn h() { }", "f")
	found(t, "fn f() { } @fn g() { } fn h() { }", "g")
	found(t, "fn f() { } fn g() { } @fn h() { }", "h")
	found(t, "proto f { final Z; } fn P() { } @fn f() { } proto P { final f; }", "f")
	found(t, "fn g(f) { } fn h() { let f = 1; } @fn f() { }", "f")
	found(t, "fn g() { } @fn _() { } fn h() { }", "_")
	found(t, "@fn sixteen_letters_() { }", "sixteen_letters_")
}

func TestP12_1_FuncFirst(t *testing.T) {
	found(t, "@fn f() { } fn f() { }", "f")
	found(t, "fn f() { } @fn g() { } fn f() { } fn g() { } fn g() { }", "g")
	found(t, "proto f { } @fn f(a, a) { a = b; } proto f { } fn f() { }", "f")
}

func TestP12_1_FuncNone(t *testing.T) {
	const text = "proto P { state A; final Z; op end A -> ok Z; } fn f(a, b: File imm at Open) { let c = 1; open d File { do d.close; } else { call g(); } } fn Main() { } fn main_() { }"
	for _, name := range []string{
		"", " ", "g", "F", "ff", "f ", " f", "f\x00", "\x00", "f()", "fn", "main", "MAIN", "Main_", "mai", "P", "File", "A", "end", "ok", "a", "b", "c", "d", "close", "Open", "0", "1", "fMain", "f Main", strings.Repeat("f", 10000), "\xff", "é",
	} {
		found(t, text, name)
	}
	for _, text := range []string{"", "proto f { final Z; }", "proto P { state f; final Z; op f f -> f Z; }"} {
		found(t, text, "f")
		found(t, text, "")
	}
}

// TestP12_1_FuncsOrder has trees whose functions are in another order than their indices and offsets.
func TestP12_1_FuncsOrder(t *testing.T) {
	l := []api.Node{
		{Kids: []int{5, 2, 4, 1, 3}},
		{Kind: api.NodeFn, Words: []string{"f"}, Kids: []int{9}, At: -5},
		{Kind: api.NodeFn, Words: []string{"g"}, Kids: []int{6}, At: math.MaxInt},
		{Kind: api.NodeFn, Words: []string{"g"}, Kids: []int{7}, At: 3},
		{Kind: api.NodeProto, Words: []string{"f"}},
		{Kind: api.NodeFn, Words: []string{"h"}, Kids: []int{8}, At: math.MinInt},
		{Kind: api.NodeBlock}, {Kind: api.NodeBlock}, {Kind: api.NodeBlock}, {Kind: api.NodeBlock},
	}
	if got := scope.Funcs(l); !slices.Equal(got, []int{5, 2, 1, 3}) {
		t.Errorf("Funcs = %v", got)
	}
	for name, want := range map[string]int{"f": 1, "g": 2, "h": 5} {
		if at, ok := scope.Func(l, name); at != want || !ok {
			t.Errorf("Func(%s) = %d, %v; want %d", name, at, ok, want)
		}
	}
	l[0].Kids = []int{3, 1, 2, 5, 4}
	if at, ok := scope.Func(l, "g"); at != 3 || !ok || !slices.Equal(scope.Funcs(l), []int{3, 1, 2, 5}) {
		t.Errorf("Func(g) = %d, %v, Funcs = %v", at, ok, scope.Funcs(l))
	}
}

// TestP12_1_ManyFuncs has as many functions as a tree has room for.
func TestP12_1_ManyFuncs(t *testing.T) {
	l := []api.Node{{}}
	var want []int
	for len(l)+2 <= api.MaxNodes {
		at := len(l)
		want = append(want, at)
		l[0].Kids = append(l[0].Kids, at)
		l = append(l, api.Node{Kind: api.NodeFn, Words: []string{"f" + strconv.Itoa(at)}, Kids: []int{at + 1}}, api.Node{Kind: api.NodeBlock})
	}
	if got := scope.Funcs(l); !slices.Equal(got, want) || len(got) != 749 {
		t.Errorf("Funcs = %v", got)
	}
	for _, at := range want {
		if got, ok := scope.Func(l, "f"+strconv.Itoa(at)); got != at || !ok {
			t.Fatalf("Func(f%d) = %d, %v", at, got, ok)
		}
	}
	if diags := scope.Check(l); len(diags) != 0 {
		t.Errorf("the diagnostics %v", diags)
	}
}
