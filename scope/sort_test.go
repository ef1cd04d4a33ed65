package scope_test

import (
	"math"
	"slices"
	"strings"
	"testing"

	"ballcock/api"
	"ballcock/scope"
)

// strangers are texts that are no variable of the trees of these tests.
var strangers = []string{"", " ", "\x00", "?", "stranger", "File", "Open", "f", "g", "main", "read", "P", "A", "fn", "1", "a b", "a ", " a", "a\x00", "A_", "aa", "\xff", strings.Repeat("a", 10000)}

// seesAt holds what Sort tells at a node against its visible variables: numbers ("a") and handles with their protocols
// ("b:File"). No other name of the tree, and no stranger, is visible.
func seesAt(t *testing.T, of string, l []api.Node, at int, visible string) {
	t.Helper()
	names := slices.Clone(strangers)
	for _, n := range l {
		names = append(names, n.Words...)
	}
	sorts := map[string]string{}
	for v := range strings.FieldsSeq(visible) {
		name, proto, _ := strings.Cut(v, ":")
		sorts[name] = proto
		names = append(names, name)
	}
	for _, name := range names {
		want, wanted := sorts[name]
		if got, ok := scope.Sort(l, at, name); got != want || ok != wanted {
			t.Errorf("%.300s: Sort(%d, %.40q) = %q, %v; want %q, %v", of, at, name, got, ok, want, wanted)
		}
	}
}

// sees holds the variables that are visible at each mark of a text.
func sees(t *testing.T, marked string, visible ...string) {
	t.Helper()
	text, offsets := unmarked(marked)
	if len(offsets) != len(visible) {
		t.Fatalf("%s has %d marks, not %d", marked, len(offsets), len(visible))
	}
	l := parsed(t, text)
	for i, offset := range offsets {
		seesAt(t, marked, l, nodeAt(t, l, offset), visible[i])
	}
}

func TestP12_2_Params(t *testing.T) {
	sees(t, "@fn f(a, b: File imm at Open) @{ @exit; }", "", "a b:File", "a b:File")
	sees(t, "fn f(@a, @b: Iter imm at Ready, @c, @d: Socket pure in Live) @{ @exit; @exit; }", "", "a", "a b:Iter", "a b:Iter c", "a b:Iter c d:Socket", "a b:Iter c d:Socket", "a b:Iter c d:Socket")
	sees(t, "fn f() @{ @exit; }", "", "")
	// The parts of a parameter stand ahead of the Block of the function.
	sees(t, "fn f(a, b: File full least 1/2 @at Open @to End @in Open|End, @c) @{ }", "a", "a", "a", "a b:File", "a b:File c")
	sees(t, "proto P { final Z; } fn f(p: P imm at Z) { @exit; } fn g(q: Q imm at Z) { @exit; } proto Q { final Z; }", "p:P", "q:Q")
}

func TestP12_2_Let(t *testing.T) {
	sees(t, "fn f() @{ @let a = @1; @let b = @a + @2; @exit; }", "", "", "", "a", "a", "a", "a b")
	sees(t, "fn f() { @let a = (@1 + -@2) * @3; @exit; }", "", "", "", "", "a")
	sees(t, "fn f(h: File imm at Open) { @let a = 1; @h = @a; @do h.read; @let b = 2; }", "h:File", "h:File a", "h:File a", "h:File a", "h:File a")
	sees(t, "fn f() { @let a = @a; @exit; }", "", "", "a")
}

func TestP12_2_Open(t *testing.T) {
	sees(t, "fn f() { @open a Socket @{ @exit; } else @{ @exit; } @exit; }", "", "a:Socket", "a:Socket", "", "", "")
	sees(t, "fn f(n) { @open a File @{ @open b Iter @{ @do a.read; } else @{ @exit; } @exit; } else @{ @open b File @{ @exit; } else @{ } } @exit; }",
		"n", "n a:File", "n a:File", "n a:File b:Iter", "n a:File b:Iter", "n a:File", "n a:File", "n a:File", "n", "n", "n b:File", "n b:File", "n", "n")
	sees(t, "fn f() { open a P { @exit; } else { @exit; } } proto P { final Z; }", "a:P", "")
}

func TestP12_2_Split(t *testing.T) {
	sees(t, "fn f(h: File imm at Open) { @split g = h imm 1/2 @{ @exit; } @exit; }", "h:File", "h:File g:File", "h:File g:File", "h:File")
	sees(t, "fn f(h: Iter share in Ready) { @split g = h pure 1/2 @in Ready @{ @exit; } @exit; }", "h:Iter", "h:Iter", "h:Iter g:Iter", "h:Iter g:Iter", "h:Iter")
	sees(t, "fn f() { open h Socket { @split g = h imm 1/2 @{ @do g.read; } @do h.read; } else { @exit; } }", "h:Socket", "h:Socket g:Socket", "h:Socket g:Socket", "h:Socket", "")
}

// TestP12_2_SplitOfSplit has handles that are split from handles that are split, in a row.
func TestP12_2_SplitOfSplit(t *testing.T) {
	sees(t, "fn f(h: File imm at Open) { split a = h imm 1/2 { split b = a imm 1/2 { split c = b imm 1/2 { @exit; } @exit; } @exit; } @exit; }",
		"h:File a:File b:File c:File", "h:File a:File b:File", "h:File a:File", "h:File")
	sees(t, "fn f(x, h: File imm at Open, i: Iter imm at Ready) { split a = i imm 1/2 { split b = h imm 1/2 { split c = a imm 1/2 { split d = b imm 1/2 { @exit; } } } } }",
		"x h:File i:Iter a:Iter b:File c:Iter d:File")
	sees(t, "proto P { final Z; } fn f() { open h P { split a = h imm 1/2 { open h2 Socket { split b = a pure 1/2 { split c = h2 full 1/2 { @exit; } } } else { @exit; } } } else { } }",
		"h:P a:P h2:Socket b:P c:Socket", "h:P a:P")
}

// TestP12_2_Odd has handles of protocols that do not exist, and handles that are split from none.
func TestP12_2_Odd(t *testing.T) {
	sees(t, "proto Q { } fn f(a: X imm at A, b: Q imm at A) { open c file { split d = a imm 1/2 { split e = c imm 1/2 { @exit; } } } else { @exit; } }",
		"a:X b:Q c:file d:X e:file", "a:X b:Q")
	sees(t, "fn f(n) { @split a = n imm 1/2 @{ split b = a imm 1/2 { @exit; } @exit; } @exit; }", "n", "n a", "n a b", "n a", "n")
	sees(t, "fn f() { @split a = b imm 1/2 { @exit; } @split c = c imm 1/2 { @exit; } @exit; }", "", "a", "", "c", "")
}

// TestP12_2_Twice has variables that may not be declared: the earlier one is visible.
func TestP12_2_Twice(t *testing.T) {
	sees(t, "fn f(a, @a: File imm at Open, @b: Iter imm at Ready, @b: File imm at Open, @b) { @exit; }", "a", "a", "a b:Iter", "a b:Iter", "a b:Iter")
	sees(t, "fn f(a: File imm at Open) { @let a = @a; @open a Socket { @split a = a imm 1/2 { @exit; } @exit; } else { @exit; } @exit; }",
		"a:File", "a:File", "a:File", "a:File", "a:File", "a:File", "a:File", "a:File")
	sees(t, "fn f() { let a = 1; open a File { @exit; } else { @exit; } split a = a imm 1/2 { @exit; } open b File { let b = 1; @exit; split c = b imm 1/2 { open c Iter { @exit; } else { } @exit; } } else { @exit; } }",
		"a", "a", "a", "a b:File", "a b:File c:File", "a b:File c:File", "a")
	// In the second Block, the one of this Open would not have been visible anyway.
	sees(t, "fn f(a) { open a File { open b File { } else { } } else { let b = 1; @exit; } }", "a b")
}

func TestP12_2_Blocks(t *testing.T) {
	sees(t, "fn f() { let a = 1; @if @a @{ @let b = 2; @exit; } else @{ @let c = 3; @exit; } @exit; }", "a", "a", "a", "a", "a b", "a", "a", "a c", "a")
	sees(t, "fn f(n) { @while @n @{ @let a = 1; @while @a @{ @let b = 2; @exit; } @exit; } @exit; }", "n", "n", "n", "n", "n a", "n a", "n a", "n a", "n a b", "n a", "n")
	sees(t, "fn f(h: File imm at Open) { @do h.read { @some @{ @let a = 1; @exit; } @none @{ @let b = 1; @exit; } } @exit; }",
		"h:File", "h:File", "h:File", "h:File", "h:File a", "h:File", "h:File", "h:File", "h:File b", "h:File")
	sees(t, "fn f() { open a File { let b = 1; @exit; } else { @let b = 2; let c = 3; @exit; } @exit; }", "a:File b", "", "b c", "")
	sees(t, "fn f(h: File imm at Open) { split a = h imm 1/2 { let b = 1; if b { let c = 2; @exit; } @exit; } @exit; }", "h:File a:File b c", "h:File a:File b", "h:File")
	// A name that was visible in a block may be of another sort behind it.
	sees(t, "fn f(h: File imm at Open) { if 1 { let a = 1; @exit; } open a Iter { @exit; } else { open a Socket { @exit; } else { } } split a = h imm 1/2 { @exit; } @let a = 2; @exit; }",
		"h:File a", "h:File a:Iter", "h:File a:Socket", "h:File a:File", "h:File", "h:File a")
}

// TestP12_2_Nodes asks at each kind of statement and expression.
func TestP12_2_Nodes(t *testing.T) {
	const v = "n h:File a"
	sees(t, "fn f(n, h: File imm at Open) { let a = 1; @a = @1 + @n; @do h.read; @call f(@n, @&h); @call a = f(@1 * @2, @&h); @return -@a; @exit; @split b = h imm 1/2 { } @open b File { } else { } @if @1 { } @while @0 { } }",
		slices.Repeat([]string{v}, 20)...)
}

func TestP12_2_Functions(t *testing.T) {
	sees(t, "fn f(a) { let b = 1; @exit; } fn g(c: File imm at Open) { let d = 1; @exit; } fn h() { @exit; }", "a b", "c:File d", "")
	sees(t, "fn f(a, b: File imm at Open) { @exit; } fn g(b, a: Iter imm at Ready) { @exit; }", "a b:File", "b a:Iter")
	// Also within a function whose name an earlier one has.
	sees(t, "fn f(a) { @exit; } @fn f(b: File imm at Open) @{ let c = 1; @exit; } fn f() { let a = 1; @exit; }", "a", "", "b:File", "b:File c", "a")
}

// TestP12_2_NoFunction asks at nodes that are within no function.
func TestP12_2_NoFunction(t *testing.T) {
	l := parsed(t, "proto P { state A; final Z; op end A -> ok Z; } fn f(a, b: P imm at A) { let c = 1; open d P { } else { } } proto Q { final a; } fn g(a) { exit; }")
	kinds := map[int]int{}
	for at, n := range l {
		if n.Kind <= api.NodeOp || n.Kind == api.NodeFn {
			kinds[n.Kind]++
			seesAt(t, "no function", l, at, "")
		}
	}
	if len(kinds) != 5 {
		t.Errorf("the kinds %v", kinds)
	}
	for _, at := range []int{-1, -2, len(l), len(l) + 1, 1 << 40, math.MaxInt, math.MinInt} {
		seesAt(t, "no node", l, at, "")
	}
	seesAt(t, "an empty Program", parsed(t, ""), 0, "")
}

// TestP12_2_NameElsewhere asks by the bytes of a name, wherever they lie.
func TestP12_2_NameElsewhere(t *testing.T) {
	l := parsed(t, "fn f(a, sixteen_letters_: File imm at Open) { exit; }")
	for name, want := range map[string]string{"a": "", "sixteen_letters_": "File"} {
		if got, ok := scope.Sort(l, len(l)-1, string([]byte(name))); got != want || !ok {
			t.Errorf("Sort(%s) = %q, %v", name, got, ok)
		}
	}
}

// TestP12_2_Children has a tree whose indices are not in the order of the children.
func TestP12_2_Children(t *testing.T) {
	l := []api.Node{
		{Kids: []int{2, 1}},
		{Kind: api.NodeFn, Words: []string{"f"}, Kids: []int{5, 4, 3}},
		{Kind: api.NodeFn, Words: []string{"g"}, Kids: []int{6}},
		{Kind: api.NodeBlock, Kids: []int{9, 7, 8}},
		{Kind: api.NodeParam, Words: []string{"a"}},
		{Kind: api.NodeParam, Words: []string{"b", "File"}, Nums: []int64{api.Imm, 0, 0}},
		{Kind: api.NodeBlock},
		{Kind: api.NodeOpen, Words: []string{"d", "Iter"}, Kids: []int{12, 11}},
		{Kind: api.NodeExit},
		{Kind: api.NodeLet, Words: []string{"c"}, Kids: []int{10}},
		{Kind: api.NodeNum, Nums: []int64{1}},
		{Kind: api.NodeBlock}, {Kind: api.NodeBlock},
	}
	for at, visible := range []string{"", "", "", "b:File a", "b:File", "", "", "b:File a c", "b:File a c", "b:File a", "b:File a", "b:File a c", "b:File a c d:Iter"} {
		seesAt(t, "an odd order", l, at, visible)
	}
}
