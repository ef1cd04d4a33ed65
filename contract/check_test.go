package contract_test

import (
	"math"
	"slices"
	"strings"
	"testing"

	"ballcock/api"
	"ballcock/contract"
)

func TestP14_2_Check(t *testing.T) {
	tells(t, "fn f(@a: File imm) { }")
	tells(t, "fn f(@a: File imm, b, c: File imm at Open, @d: Iter pure in Over, @e: Socket share least 2/1 in Live) { }")
	tells(t, "fn f(@a: File imm) { } fn g(@a: File imm, b) { } fn main() { } fn h(c, d: Iter imm at Over) { } fn i(@b: Iter unique at Over, a, @c: Iter full at Over to Over in Over) { }")
	tells(t, "fn z(@z: File imm, @y: File imm) { } fn y(@z: File imm, @y: File imm) { } fn a(@b: File imm, @a: File imm) { }")
	tells(t, "fn f(@a: P imm at Y) { let b = 1; } proto P { final Z; } fn g(@a: P imm at A, c: P imm at Z) { } proto Q { state A; final Z; op end A -> ok Z; } fn h(@a: Q imm at Y, @b: Q share in Z, c: Q share in A) { }")
	// What is wrong with the rest of the program is told by other layers.
	tells(t, "fn main(@a: File imm) { do a.pull; exit; call main(); split b = a full 3/1 in Nowhere|Nowhere { } }")
}

func TestP14_2_CheckNothing(t *testing.T) {
	for _, text := range []string{
		"", "fn main() { }", "fn f(a, b, c) { }", "proto P { final Z; } fn f(a: P imm at Z) { } fn main() { }", "fn f(a: File unique at Open to Shut, b: File full at Open to End in Open|End, c: File share least 1/1 in Open, d: File imm at Shut, e: File pure least 1/2 in End) { }",
		"fn f(a: File imm at Open) { open b File { do b.close; } else { } } fn g(a: File imm at End) { call f(&a); }", "fn f() { open a File { split b = a imm 1/2 in Nowhere|Nowhere|Shut { } } else { } }",
	} {
		tells(t, text)
		if diags := contract.Check(parsed(t, text)); len(diags) != 0 {
			t.Errorf("%s: the diagnostics %v", text, diags)
		}
	}
}

// TestP14_2_CheckMany has as many Params as fit into a text.
func TestP14_2_CheckMany(t *testing.T) {
	var text strings.Builder
	for i := range 20 {
		text.WriteString("fn F" + string(rune('a'+i)) + "(")
		for j := range 13 {
			if j > 0 {
				text.WriteString(",")
			}
			text.WriteString([]string{"", "@"}[(i+j)%2] + "v" + string(rune('a'+j)) + ":File pure in " + []string{"End", "Shut"}[(i+j)%2])
		}
		text.WriteString("){}")
	}
	tells(t, text.String())
	l := parsed(t, strings.ReplaceAll(text.String(), "@", ""))
	if diags := contract.Check(l); len(diags) != 20*13/2 {
		t.Errorf("%d diagnostics", len(diags))
	}
}

// oddTree is a tree whose indices and offsets are not in the order of the children.
func oddTree() []api.Node {
	handle := func(name string, kids []int, at int) api.Node {
		return api.Node{Kind: api.NodeParam, Words: []string{name, "File"}, Nums: []int64{api.Imm, 1, 2}, Kids: kids, At: at}
	}
	return []api.Node{
		{Kids: []int{2, 1}},
		{Kind: api.NodeFn, Words: []string{"g"}, Kids: []int{5, 3, 11}, At: 7},
		{Kind: api.NodeFn, Words: []string{"f"}, Kids: []int{6, 4, 8, 12}, At: 9},
		handle("c", []int{7}, math.MaxInt),
		handle("b", nil, -4),
		handle("d", []int{9}, 0),
		handle("a", nil, math.MinInt),
		{Kind: api.NodeNames, Words: []string{"Open", "Shut"}, Nums: []int64{api.NamesTo}, At: 5},
		handle("e", []int{10}, 3),
		{Kind: api.NodeNames, Words: []string{"End", "End"}, Nums: []int64{api.NamesAt}},
		{Kind: api.NodeNames, Words: []string{"Shut"}, Nums: []int64{api.NamesAt}},
		{Kind: api.NodeBlock},
		{Kind: api.NodeBlock},
	}
}

func TestP14_2_OrderOfChildren(t *testing.T) {
	l := oddTree()
	want := []api.Diag{{Code: 7, At: math.MinInt, Name: "a"}, {Code: 7, At: -4, Name: "b"}, {Code: 7, At: 0, Name: "d"}, {Code: 7, At: math.MaxInt, Name: "c"}}
	if got := contract.Check(l); !slices.Equal(got, want) {
		t.Errorf("the diagnostics %v; want %v", got, want)
	}
	half := api.Rat{N: 1, D: 2}
	of := func(name string, at, to uint32) api.Contract {
		return api.Contract{Name: name, Handle: true, Proto: "File", Kind: 3, Least: half, At: at, To: to}
	}
	for name, want := range map[string][]api.Contract{"f": {of("a", 0, 0), of("b", 0, 0), of("e", 4, 0)}, "g": {of("d", 2, 0), of("c", 0, 5)}} {
		if got, ok := contract.Func(l, name); !ok || !slices.Equal(got, want) {
			t.Errorf("%s: the contracts %v, %v; want %v", name, got, ok, want)
		}
	}
	for at, want := range map[int]api.Contract{3: of("c", 0, 5), 4: of("b", 0, 0), 5: of("d", 2, 0), 6: of("a", 0, 0), 8: of("e", 4, 0), 7: {}, 1: {}, 12: {}} {
		if got, _ := contract.Of(l, at); got != want {
			t.Errorf("at %d the contract %v; want %v", at, got, want)
		}
	}
	for _, at := range []int{0, 1, -1, 6000, math.MaxInt, math.MinInt} {
		l[6].At = at
		want[0].At = at
		if got := contract.Check(l); !slices.Equal(got, want) {
			t.Errorf("the diagnostics %v; want %v", got, want)
		}
		if _, got := contract.Of(l, 6); !slices.Equal(got, want[:1]) {
			t.Errorf("the diagnostics %v; want %v", got, want[:1])
		}
	}
}

// function checks the contracts of a function of a text, or that there is none.
func function(t *testing.T, text, name string, ok bool, want ...api.Contract) {
	t.Helper()
	if got, there := contract.Func(parsed(t, text), name); there != ok || !slices.Equal(got, want) {
		t.Errorf("%.300s: the contracts %v, %v of %s; want %v, %v", text, got, there, name, want, ok)
	}
}

func TestP14_2_Func(t *testing.T) {
	a, b := api.Contract{Name: "a"}, api.Contract{Name: "b"}
	x := api.Contract{Name: "x", Handle: true, Proto: "File", Kind: 3, Least: none, At: 1}
	y := api.Contract{Name: "y", Handle: true, Proto: "Iter", Kind: 0, Least: none, At: 1, To: 2}
	z := api.Contract{Name: "z", Handle: true, Proto: "P", Kind: 4, Least: api.Rat{N: 2, D: 3}, In: 2}
	const (
		p     = "proto P { state A; state B; final C; op go A -> ok B; op go B -> ok C; } "
		xText = "x: File imm at Open"
		yText = "y: Iter unique at Ready to Over"
		zText = "z: P pure least 4/6 in B"
	)
	function(t, "fn f() { }", "f", true)
	function(t, "fn main() { let a = 1; open x File { } else { } }", "main", true)
	function(t, "fn f(a) { }", "f", true, a)
	function(t, "fn f(a, b) { }", "f", true, a, b)
	function(t, "fn f(b, a) { }", "f", true, b, a)
	function(t, "fn f("+xText+") { }", "f", true, x)
	function(t, "fn f(a, "+xText+", b, "+yText+") { let c = a; }", "f", true, a, x, b, y)
	function(t, p+"fn f("+zText+", "+yText+", "+xText+", a) { }", "f", true, z, y, x, a)
	// Two functions and more, each with its own ones.
	const several = "fn f(a, " + xText + ") { } fn g(" + xText + ", b) { } " + p + "fn h() { } fn main(" + zText + ") { } fn x(" + yText + ") { }"
	function(t, several, "f", true, a, x)
	function(t, several, "g", true, x, b)
	function(t, several, "h", true)
	function(t, several, "main", true, z)
	function(t, several, "x", true, y)
}

func TestP14_2_FuncNone(t *testing.T) {
	for _, text := range []string{"", "fn f(x: File imm at Open, a) { let b = 1; } proto P { state A; final Z; op go A -> ok Z; } fn main() { open c File { } else { } }"} {
		for _, name := range []string{"g", "", "F", "ff", "f ", " f", "x", "a", "b", "c", "P", "A", "go", "File", "Open", "mai", "main_", "fn", "f\x00"} {
			function(t, text, name, false)
		}
	}
	for _, l := range [][]api.Node{nil, {}, {{Kind: api.NodeFn, Words: []string{"f"}, Kids: []int{1}}, {Kind: api.NodeBlock}}} {
		if got, ok := contract.Func(l, "f"); ok || len(got) != 0 {
			t.Errorf("the contracts %v, %v of %v", got, ok, l)
		}
	}
}

// TestP14_2_FuncDiags has functions with diagnostics of this layer: their contracts are those of Of.
func TestP14_2_FuncDiags(t *testing.T) {
	const text = "fn f(@x: File full least 3/2 at Nowhere|Open to Shut|Shut, a, @y: Iter share) { } fn g(x) { }"
	tells(t, text)
	unmarkedText, _ := unmarked(text)
	function(t, unmarkedText, "f", true,
		api.Contract{Name: "x", Handle: true, Proto: "File", Kind: 1, Least: api.Rat{N: 3, D: 2}, At: 1, To: 4}, api.Contract{Name: "a"}, api.Contract{Name: "y", Handle: true, Proto: "Iter", Kind: 2, Least: none})
	function(t, unmarkedText, "g", true, api.Contract{Name: "x"})
}

// TestP14_2_FuncOthers has trees with diagnostics of the layers 11 and 12: a function is there all the same, also if another
// one has its name, and a protocol that does not exist has no states.
func TestP14_2_FuncOthers(t *testing.T) {
	a, b := api.Contract{Name: "a"}, api.Contract{Name: "b"}
	x := api.Contract{Name: "x", Handle: true, Proto: "File", Kind: 3, Least: none, At: 1}
	function(t, "fn f(a) { } fn f(b, a) { }", "f", true, a)
	function(t, "fn g(a) { } fn f(b, a) { } fn f(a) { } fn f() { } fn g() { }", "f", true, b, a)
	function(t, "fn f() { } fn f(a) { }", "f", true)
	function(t, "fn f(a, a) { }", "f", true, a, a)
	function(t, "fn f(x: File imm at Open) { } proto Q { } fn g() { call h(); }", "f", true, x)
	function(t, "fn f(a, x: Nope share least 2/4 at Open in Open) { }", "f", true, a, api.Contract{Name: "x", Handle: true, Proto: "Nope", Kind: 2, Least: api.Rat{N: 1, D: 2}})
	function(t, "proto Q { state Open; } fn f(x: Q imm at Open, a) { }", "f", true, api.Contract{Name: "x", Handle: true, Proto: "Q", Kind: 3, Least: none}, a)
	function(t, "fn f(a) { } fn f(b, a) { }", "g", false)
}
