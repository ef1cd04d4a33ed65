package scope_test

import (
	"math"
	"slices"
	"strconv"
	"strings"
	"testing"

	"ballcock/api"
	"ballcock/scope"
)

func TestP12_1_OrderOfOneNode(t *testing.T) {
	// The protocol, then the new variable.
	tells(t, "fn f(a, @@a: X imm at A) { }", "none X; twice a")
	tells(t, "fn f(a) { @@open a X { } else { } }", "none X; twice a")
	tells(t, "fn f() { open a File { @@open a X { do a.read; @a = 1; } else { } } else { } }", "none X; twice a; sort a")
	// The function, then the old variable.
	tells(t, "fn f() { @@call a = g(); }", "none g; none a")
	tells(t, "fn f(a: File imm at Open) { @@call a = g(); }", "none g; sort a")
	// The old variable, then the new one.
	tells(t, "fn f(a) { @@split a = b imm 1/2 { } }", "none b; twice a")
	tells(t, "fn f(a, b) { @@split a = b imm 1/2 { } }", "sort b; twice a")
	tells(t, "fn f(a) { @@split a = a imm 1/2 { a = 1; @do a.read; } }", "sort a; twice a; sort a")
}

// TestP12_1_OrderOfLet tells a Let behind its expression, but ahead of what follows.
func TestP12_1_OrderOfLet(t *testing.T) {
	tells(t, "fn f(a) { @let a = @b; @c = 1; }", "none b; twice a; none c", 1, 0, 2)
	tells(t, "fn f(a, h: File imm at Open) { @b = 1; @let a = (@c + @h) * -@d; @let a = 1; @e = 2; }", "none b; none c; sort h; none d; twice a; twice a; none e", 0, 2, 3, 4, 1, 5, 6)
	tells(t, "fn f(a: File imm at Open) { @let a = @a; while @b { @let a = @c; } @d = 1; }", "sort a; twice a; none b; none c; twice a; none d", 1, 0, 2, 4, 3, 5)
	tells(t, "fn f() { let a = @a; @let a = a; @let a = a + @b; }", "none a; twice a; none b; twice a", 0, 1, 3, 2)
}

func TestP12_1_OrderOfNodes(t *testing.T) {
	tells(t, "fn f() { @a = @b; }", "none a; none b")
	tells(t, "fn f() { @a = @b + @c * @d - -@e; }", "none a; none b; none c; none d; none e")
	tells(t, "fn f(n, h: File imm at Open) { @@call a = g(@b, @&c, @h, @&n, 1 + @d); }", "none g; none a; none b; none c; sort h; sort n; none d")
	tells(t, "fn f() { if @a { @b = 1; } else { @c = 1; } while @d { @e = 1; } return @g; }", "none a; none b; none c; none d; none e; none g")
	tells(t, "fn f() { @do a.read { some { @b = 1; } none { @c = 1; } } @d = 1; }", "none a; none b; none c; none d")
	tells(t, "fn f() { @open a X { @b = 1; } else { @c = 1; } @d = 1; }", "none X; none b; none c; none d")
	tells(t, "fn f() { @split a = b imm 1/2 { @c = 1; } @d = 1; }", "none b; none c; none d")
	tells(t, "fn f() { } @fn f(a, @@a: X imm at A, @b: Y imm at A) { @c = 1; } @fn f() { @d = 1; }", "twice f; none X; twice a; none Y; none c; twice f; none d")
	// The codes and the names have no part in the order.
	tells(t, "fn f(z, h: File imm at Open) { @z2 = 1; @let z = 1; @h = 1; @b = 1; @open z File { } else { } @do z.x; @a = 1; }", "none z2; twice z; sort h; none b; twice z; sort z; none a")
	// Each use is told, however often there is one.
	tells(t, "fn f() { @a = @a; @a = @a; @call g(@a); @call g(@&a); }", "none a; none a; none a; none a; none g; none a; none g; none a")
}

// TestP12_1_OrderOfChildren has a tree whose indices and offsets are not in the order of the children.
func TestP12_1_OrderOfChildren(t *testing.T) {
	l := []api.Node{
		{Kids: []int{4, 1}},
		{Kind: api.NodeFn, Words: []string{"f"}, Kids: []int{3, 2, 5}, At: 7},
		{Kind: api.NodeParam, Words: []string{"a", "File"}, Nums: []int64{api.Imm, 0, 0}, At: math.MinInt},
		{Kind: api.NodeParam, Words: []string{"a"}, At: 99},
		{Kind: api.NodeFn, Words: []string{"f"}, Kids: []int{6}, At: -3},
		{Kind: api.NodeBlock, Kids: []int{9, 8, 7}},
		{Kind: api.NodeBlock, Kids: []int{12}},
		{Kind: api.NodeLet, Words: []string{"b"}, Kids: []int{10}, At: 4},
		{Kind: api.NodeSet, Words: []string{"b"}, Kids: []int{11}, At: math.MaxInt},
		{Kind: api.NodeSet, Words: []string{"a"}, Kids: []int{13}, At: 0},
		{Kind: api.NodeVar, Words: []string{"b"}, At: 1}, {Kind: api.NodeVar, Words: []string{"a"}, At: 2},
		{Kind: api.NodeExit}, {Kind: api.NodeVar, Words: []string{"c"}, At: 3},
	}
	want := []api.Diag{
		{Code: api.DiagTwice, At: 7, Name: "f"}, {Code: api.DiagTwice, At: math.MinInt, Name: "a"}, {Code: api.DiagNone, At: 3, Name: "c"},
		{Code: api.DiagNone, At: math.MaxInt, Name: "b"}, {Code: api.DiagNone, At: 1, Name: "b"},
	}
	if got := scope.Check(l); !slices.Equal(got, want) {
		t.Errorf("the diagnostics %v; want %v", got, want)
	}
}

// TestP12_1_Offsets has a diagnostic of each kind of node at offsets that are not those of a text, 0 among them.
func TestP12_1_Offsets(t *testing.T) {
	for _, at := range []int{0, 1, -1, 6000, math.MaxInt, math.MinInt} {
		l := parsed(t, "fn f() { } fn f(n, n: X imm at A) { let n = v; n = 1; v = 1; open n Y { } else { } do n.x; split n = n imm 1/2 { } call v = g(v, &v, &n); }")
		for i := range l {
			l[i].At = at
		}
		var want []api.Diag
		for _, text := range []string{"twice f", "none X", "twice n", "none v", "twice n", "none v", "none Y", "twice n", "sort n", "sort n", "twice n", "none g", "none v", "none v", "none v", "sort n"} {
			code, name, _ := strings.Cut(text, " ")
			want = append(want, api.Diag{Code: codes[code], At: at, Name: name})
		}
		if got := scope.Check(l); !slices.Equal(got, want) {
			t.Errorf("the diagnostics %v; want %v", got, want)
		}
	}
}

// TestP12_1_ManyDiags has hundreds of diagnostics.
func TestP12_1_ManyDiags(t *testing.T) {
	const count = 700
	tells(t, "fn f() { "+strings.Repeat("@a=@b;", count)+" }", strings.Repeat("none a; none b; ", count))
	tells(t, "fn f(a) { "+strings.Repeat("@let a=1;", 600)+" }", strings.Repeat("twice a; ", 600))
	tells(t, "fn f(){}"+strings.Repeat("@fn f(){}", 600), strings.Repeat("twice f; ", 600))
}

// TestP12_1_ManyVariables has hundreds of variables in one block, each of which is visible to its end.
func TestP12_1_ManyVariables(t *testing.T) {
	var declarations, again strings.Builder
	for i := range 240 {
		name := "v" + strconv.Itoa(i)
		declarations.WriteString("let " + name + "=1;")
		again.WriteString("@let " + name + "=@w;")
	}
	text, offsets := unmarked("fn f(){" + declarations.String() + again.String() + "}")
	got := scope.Check(parsed(t, text))
	if len(got) != 480 {
		t.Fatalf("%d diagnostics", len(got))
	}
	for i := range 240 {
		name := "v" + strconv.Itoa(i)
		if want := []api.Diag{{Code: api.DiagNone, At: offsets[2*i+1], Name: "w"}, {Code: api.DiagTwice, At: offsets[2*i], Name: name}}; !slices.Equal(got[2*i:2*i+2], want) {
			t.Errorf("the diagnostics %v; want %v", got[2*i:2*i+2], want)
		}
	}
}
