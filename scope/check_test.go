package scope_test

import (
	"slices"
	"strings"
	"testing"

	"ballcock/api"
	"ballcock/scope"
)

// codes are those of the diagnostics of this layer.
var codes = map[string]int{"twice": 2, "none": 3, "sort": 4}

// tells checks the diagnostics of a text, each a code and a name ("twice a; none b"). A mark @ stands ahead of the node of
// each diagnostic: of the first one at the first mark, and so on, unless an order tells which mark is whose.
func tells(t *testing.T, marked, diags string, order ...int) {
	t.Helper()
	text, offsets := unmarked(marked)
	var want []api.Diag
	for i := range offsets {
		code, name, _ := strings.Cut(strings.Split(diags, "; ")[i], " ")
		at := offsets[i]
		if len(order) > 0 {
			at = offsets[order[i]]
		}
		want = append(want, api.Diag{Code: codes[code], At: at, Name: name})
	}
	if got := scope.Check(parsed(t, text)); !slices.Equal(got, want) {
		t.Errorf("%.400s: the diagnostics %v; want %v", marked, got, want)
	}
}

// wraps are statements that have blocks, with a mark % in one of them. The handle h is visible.
var wraps = []string{
	"%", "if 1 { % }", "if 1 { } else { % }", "if 1 { exit; } else { if 2 { % } }", "while 1 { % }", "do h.read { some { % } none { } }", "do h.read { some { } none { % } }",
	"open wrap File { % } else { }", "open wrap File { } else { % }", "split wrap = h imm 1/2 { % }", "split wrap = h pure 1/2 in Open { while 1 { % } }", "let wrap = 1; % exit;", "return 1; %",
}

// in puts a text in the place of each mark % of another one.
func in(outer, inner string) string {
	return strings.ReplaceAll(outer, "%", inner)
}

// outer are functions in which a variable v is visible: a number or a handle. The handle h and the number n are visible, too.
var outer = []struct {
	text   string
	handle bool
}{
	{"fn f(v, n, h: File imm at Open) { % }", false},
	{"fn f(n, h: File imm at Open, v) { % }", false},
	{"fn f(n, h: File imm at Open) { let v = 1; % }", false},
	{"fn f(n, h: File imm at Open) { if 1 { let v = n; % } }", false},
	{"fn f(v: Iter full at Ready to Over in Ready|Over, n, h: File imm at Open) { % }", true},
	{"fn f(n, h: File imm at Open) { open v Socket { % } else { } }", true},
	{"fn f(n, h: File imm at Open) { split v = h pure 1/3 in Open { % } }", true},
}

// uses are statements that use a variable v, as a number or as a handle.
var uses = []struct {
	text   string
	handle bool
}{
	{"@v = 1;", false}, {"n = @v;", false}, {"let w = @v;", false}, {"let w = 1 + @v;", false}, {"let w = @v * 2 - 1;", false}, {"let w = -@v;", false}, {"let w = (1 < -(2 / @v)) == n;", false},
	{"if @v { }", false}, {"if 1 == @v { } else { }", false}, {"while @v { }", false}, {"while @v < 1 { let w = 1; }", false}, {"return @v;", false}, {"return 1 - -@v;", false},
	{"call f(@v);", false}, {"call f(1, &h, 2 * @v);", false}, {"call n = f(n, @v);", false}, {"@call v = f();", false}, {"@call v = f(n, &h);", false},
	{"@do v.read;", true}, {"@do v.read { some { } none { exit; } }", true}, {"@split w = v imm 1/2 { }", true}, {"@split w = v full 1/1 in Open { exit; }", true},
	{"call f(@&v);", true}, {"call f(1, n, @&v);", true}, {"call n = f(@&v, &h);", true},
}

// plain is a text without its marks.
func plain(marked string) string {
	return strings.ReplaceAll(marked, "@", "")
}

func TestP12_1_Nothing(t *testing.T) {
	for _, text := range []string{
		"", "fn main() { }", "proto P { final Z; } fn f(a, b, c: P imm at Z) { } fn g(a, b: P pure in Z) { }", "fn f() { let a = 1; let b = a; a = b; }", "fn f(f) { f = f; call f = f(f); }",
		"fn f(File: File imm at Open) { do File.read; call f(&File); } fn g() { let g = 1; let read = g; call f(read); }",
		"fn f(a) { } fn g() { let a = 1; } fn h() { open a File { } else { } } fn i(b: File imm at Open) { split a = b imm 1/2 { } } fn j(a) { }",
		"fn f(h: File imm at Open) { open a File { open b File { open c File { do a.x; do b.x; do c.x; } else { do b.x; } } else { do a.x; } } else { do h.x; } }",
		"fn f(h: File imm at Open) { split a = h imm 1/2 { split b = a imm 1/2 { split c = b imm 1/2 { do a.x; do b.x; do c.x; do h.x; } do b.x; } do a.x; } do h.x; }",
	} {
		tells(t, text, "")
	}
}

// TestP12_1_OtherLayers has faults that are no diagnostics of this layer.
func TestP12_1_OtherLayers(t *testing.T) {
	for _, text := range []string{
		"proto P { } proto File { final Z; } proto Q { op go A -> ok B; } proto Q { final Z; op go Z -> ok Z; }",
		"fn f() { exit; } fn main(a) { call main(); }",
		"fn f(a: File unique at Nowhere, b: Iter imm least 5/4 at Ready|Ready) { } fn g() { call f(1, 2, 3); call f(); }",
		"fn f(a: File imm least 3/2 at Over in Over) { split b = a full 9/2 in Never { do a.nothing { never { } never { } } do b.close; } }",
		"fn f(a, b: File imm at Open) { call f(&b, a); call f(a, &b); }",
	} {
		tells(t, text, "")
	}
}

func TestP12_1_TwiceFn(t *testing.T) {
	tells(t, "fn f() { } @fn f() { }", "twice f")
	tells(t, "fn f() { } @fn f() { } @fn f() { }", "twice f; twice f")
	tells(t, "fn main() { } fn g() { } @fn main(a) { } fn G() { } @fn g(a, b: File imm at Open) { exit; } fn h() { }", "twice main; twice g")
	tells(t, "fn f() { } proto f { } proto P { final Z; } @fn f() { } proto Q { }", "twice f")
	tells(t, "fn f() { } fn F() { } fn ff() { } fn f_() { } fn _f() { } fn f1() { }", "")
	// A function may have the name of what is none.
	tells(t, "proto f { final Z; } fn f(f) { } fn P() { } proto P { state P; } fn File() { } fn g(Q) { let f = 1; open g File { } else { } } fn Q() { }", "")
	// The function that is told is checked as well.
	tells(t, "fn f() { } @fn f(a, @a) { @b = 1; }", "twice f; twice a; none b")
	// It has no parameters in common with the first one.
	tells(t, "fn f(a) { let b = 1; } @fn f(b) { let a = b; }", "twice f")
	tells(t, "fn f(a) { } @fn f() { @a = 1; }", "twice f; none a")
}

func TestP12_1_TwiceParam(t *testing.T) {
	tells(t, "fn f(a, @a) { }", "twice a")
	tells(t, "fn f(a, b, @a, c, @b, @a) { }", "twice a; twice b; twice a")
	tells(t, "fn f(a, A, aa, a_, _a, a1) { }", "")
	tells(t, "fn f(a) { } fn g(a, b) { } fn h(b, a) { }", "")
	// The earlier one keeps its sort.
	tells(t, "fn f(a, @a: File imm at Open) { a = a; @do a.read; }", "twice a; sort a")
	tells(t, "fn f(a: File imm at Open, @a) { do a.read; @a = 1; }", "twice a; sort a")
	tells(t, "fn f(a: File imm at Open, @a: Iter full at Ready to Over in Ready|Over) { do a.read; }", "twice a")
	tells(t, "fn f(a, @a: File imm at Open, @a: File imm at Open, b) { a = b; @do a.read; @do b.read; }", "twice a; twice a; sort a; sort b")
}

// TestP12_1_TwiceVariable declares a variable where one with its name is visible: the earlier one keeps its sort.
func TestP12_1_TwiceVariable(t *testing.T) {
	for _, o := range outer {
		for _, wrap := range wraps {
			for _, use := range uses {
				for _, declaration := range []string{"@let v = 1; %", "@open v File { % } else { }", "@open v File { } else { % }", "@split v = h imm 1/2 { % }", "@split v = h share 1/2 in Open { if 1 { % } }"} {
					if use.handle == o.handle {
						tells(t, in(o.text, in(wrap, in(declaration, plain(use.text)))), "twice v")
					} else {
						tells(t, in(o.text, in(wrap, in(declaration, use.text))), "twice v; sort v")
					}
				}
			}
		}
	}
}

// TestP12_1_TwiceSeveral tells each variable whose name is visible.
func TestP12_1_TwiceSeveral(t *testing.T) {
	tells(t, "fn f() { let a = 1; @let a = 2; @let a = 3; let b = 4; @let b = 5; @let a = 6; }", "twice a; twice a; twice b; twice a")
	tells(t, "fn f(a) { @open a File { @open a File { @let a = 1; } else { @let a = 2; } } else { } @let a = 3; }", "twice a; twice a; twice a; twice a; twice a")
	tells(t, "fn f(a: File imm at Open) { @split a = a imm 1/2 { @split a = a imm 1/2 { @open a File { } else { } } } do a.read; }", "twice a; twice a; twice a")
	tells(t, "fn f() { open a File { open b File { @let a = 1; @let b = 2; } else { @let a = 1; let b = 2; } let b = 3; } else { let a = 1; let b = 2; } }", "twice a; twice b; twice a")
	tells(t, "fn f() { let a = 1; if a { @let a = 2; let b = 3; } else { @let a = 4; let b = 5; } let b = 6; while b { @let b = 7; } }", "twice a; twice a; twice b")
	// What is told twice is still there when the later block has ended.
	tells(t, "fn f() { let a = 1; @open a File { a = 2; } else { a = 3; } a = 4; @do a.read; @let a = a; }", "twice a; sort a; twice a")
	tells(t, "fn f(h: File imm at Open) { open a File { @split a = h imm 1/2 { do a.read; } do a.read; } else { } }", "twice a")
}

// ended are functions in which a variable v is visible only outside the mark. The handle h and the number n are visible.
var ended = []string{
	"fn f(n, h: File imm at Open) { if 1 { let v = 1; } % }", "fn f(n, h: File imm at Open) { if 1 { } else { let v = 1; } % }", "fn f(n, h: File imm at Open) { if 1 { let v = 1; } else { % } }",
	"fn f(n, h: File imm at Open) { while 1 { let v = 1; } % }", "fn f(n, h: File imm at Open) { while 1 { if 1 { let v = 1; exit; } % } }",
	"fn f(n, h: File imm at Open) { do h.read { some { let v = 1; } none { } } % }", "fn f(n, h: File imm at Open) { do h.read { some { let v = 1; } none { % } } }",
	"fn f(n, h: File imm at Open) { open x File { let v = 1; } else { } % }", "fn f(n, h: File imm at Open) { open x File { let v = 1; } else { % } }", "fn f(n, h: File imm at Open) { open x File { } else { let v = 1; } % }",
	"fn f(n, h: File imm at Open) { split x = h imm 1/2 { let v = 1; } % }",
	"fn f(n, h: File imm at Open) { open v File { } else { } % }", "fn f(n, h: File imm at Open) { open v File { do v.x; } else { % } }", "fn f(n, h: File imm at Open) { open v X_ { } else { % } } proto X_ { final Z; }",
	"fn f(n, h: File imm at Open) { split v = h imm 1/2 { } % }", "fn f(n, h: File imm at Open) { split v = h share 1/2 in Open { do v.x; } % }", "fn f(n, h: File imm at Open) { if 1 { split v = h imm 1/2 { } } else { % } }",
	"fn f(n, h: File imm at Open) { % } fn g(v) { }", "fn g(v) { } fn f(n, h: File imm at Open) { % }", "fn g(v: File imm at Open) { let w = 1; } fn f(n, h: File imm at Open) { % }",
	"fn g() { let v = 1; } fn f(n, h: File imm at Open) { % }", "fn g() { open v File { exit; } else { } } fn f(n, h: File imm at Open) { % }", "fn f(n, h: File imm at Open) { % } fn g() { let v = 1; }",
	"fn f(n, h: File imm at Open) { % let v = 1; }", "fn f(n, h: File imm at Open) { while 1 { % } let v = 1; }", "fn f(n, h: File imm at Open) { % open v File { } else { } }",
	"fn v(n) { } fn f(n, h: File imm at Open) { % } proto v { final Z; }", "fn f(n, h: File imm at Open) { let V = 1; let vv = 2; let v_ = 3; let w1 = 4; % }", "fn f(n, h: File imm at Open) { % }",
}

// TestP12_1_NotTwice declares variables where none with their names is visible any more, or yet.
func TestP12_1_NotTwice(t *testing.T) {
	for _, text := range ended {
		for _, declaration := range []string{"if 1 { let v = 2; v = v; }", "open v File { do v.read; } else { }", "split v = h imm 1/2 { do v.read; }"} {
			tells(t, in(text, declaration), "")
		}
	}
	for _, text := range []string{
		"fn f() { if 1 { let a = 1; } let a = 2; }", "fn f() { if 1 { let a = 1; } else { let a = 2; } while 1 { let a = 3; } let a = 4; }", "fn f() { open a File { } else { let a = 1; } let a = 2; }",
		"fn f(h: File imm at Open) { split a = h imm 1/2 { } split a = h imm 1/2 { } let a = 2; }", "fn f(a) { } fn g() { let a = 1; }", "fn f() { let a = 1; } fn g(a) { }", "fn f() { open a File { } else { open a File { } else { let a = 1; } } open a File { } else { } }",
	} {
		tells(t, text, "")
	}
}

// TestP12_1_NoneVariable uses a variable that is not visible.
func TestP12_1_NoneVariable(t *testing.T) {
	for _, use := range uses {
		for _, text := range ended {
			tells(t, in(text, use.text), "none v")
		}
		for _, wrap := range wraps {
			tells(t, "fn f(n, h: File imm at Open) { "+in(wrap, use.text)+" }", "none v")
		}
	}
}

// TestP12_1_NoneYet uses a variable within its own declaration, or ahead of it.
func TestP12_1_NoneYet(t *testing.T) {
	tells(t, "fn f() { let a = @a; a = 1; }", "none a")
	tells(t, "fn f() { let a = 1 + -(@a * 2); let b = a; }", "none a")
	tells(t, "fn f() { @a = 1; let a = @b; let b = a; @c = b; let c = 1; }", "none a; none b; none c")
	tells(t, "fn f() { @split a = a imm 1/2 { do a.read; } }", "none a")
	tells(t, "fn f() { while @a { let a = 1; } if @a { let a = 1; } else { @a = 2; let a = 3; } }", "none a; none a; none a")
	tells(t, "fn f() { open a File { @b = 1; } else { let b = 1; @do a.read; } @b = 2; @do a.read; }", "none b; none a; none b; none a")
}

// TestP12_1_Sort uses numbers as handles, and handles as numbers.
func TestP12_1_Sort(t *testing.T) {
	for _, o := range outer {
		for _, use := range uses {
			for _, wrap := range wraps {
				if use.handle == o.handle {
					tells(t, in(o.text, in(wrap, plain(use.text))), "")
				} else {
					tells(t, in(o.text, in(wrap, use.text)), "sort v")
				}
			}
		}
	}
}

// TestP12_1_HandleAllTheSame has handles of protocols that do not exist, and handles that are split from none.
func TestP12_1_HandleAllTheSame(t *testing.T) {
	for _, use := range uses {
		text, diags := use.text, "; sort v"
		if use.handle {
			text, diags = plain(text), ""
		}
		tells(t, "fn f(@v: X imm at A, n, h: File imm at Open) { "+text+" }", "none X"+diags)
		tells(t, "fn f(n, h: File imm at Open) { @open v X { "+text+" } else { } }", "none X"+diags)
		tells(t, "fn f(n, h: File imm at Open) { @split v = n imm 1/2 { "+text+" } }", "sort n"+diags)
		tells(t, "fn f(n, h: File imm at Open) { @split v = x imm 1/2 { "+text+" } }", "none x"+diags)
		tells(t, "fn f(n, h: File imm at Open) { @split v = v imm 1/2 { "+text+" } }", "none v"+diags)
		tells(t, "fn f(n, h: File imm at Open) { @split x = n imm 1/2 { split v = x imm 1/2 in Open { "+text+" } } }", "sort n"+diags)
		tells(t, "fn f(n, h: File imm at Open) { @open x X { split v = x imm 1/2 { "+text+" } } else { } }", "none X"+diags)
	}
}

func TestP12_1_NoneProtocol(t *testing.T) {
	const valid = "proto P { state A; final Z; op end A -> ok Z; } proto Q { final Q; } "
	for _, name := range []string{"X", "file", "FILE", "Files", "Fil", "p", "PP", "P1", "A", "Z", "end", "ok", "f", "a", "Open", "main", "_", "Late", "Empty", "Lost", "Stuck", "Odd", "Again"} {
		const wrong = "proto Empty { } proto Lost { op go A -> ok A; } proto Stuck { state A; } proto Odd { final Z; op go Z -> ok Z; } proto Again { } proto Again { final Z; } "
		for _, wrong := range []string{"", wrong} {
			tells(t, valid+wrong+"fn f(@a: "+name+" imm at A) { } fn main() { }", "none "+name)
			tells(t, wrong+"fn f(b: File imm at Open, @a: "+name+" unique at A to Z, c: P imm at Z) { }"+valid, "none "+name)
			tells(t, valid+wrong+"fn f() { @open a "+name+" { } else { } }", "none "+name)
			tells(t, "fn f(a) { while 1 { open b P { @open c "+name+" { } else { } } else { } } } "+valid+wrong, "none "+name)
		}
	}
}

func TestP12_1_Protocols(t *testing.T) {
	// A protocol is there for the whole program, and remains if its name is declared again.
	for _, declarations := range [][2]string{
		{"proto P { state A; final Z; op end A -> ok Z; } ", ""}, {"", " proto P { final Z; }"}, {"proto P { final Z; } proto P { } ", ""}, {"", "proto P { final Z; } proto P { final Z; }"}, {"proto P { final Z; } ", " proto P { state A; } proto File { }"},
	} {
		for _, name := range []string{"File", "Socket", "Iter", "P"} {
			tells(t, declarations[0]+"fn f(a: "+name+" imm at A, b) { open c "+name+" { do c.x; } else { } } fn g() { open a "+name+" { } else { } }"+declarations[1], "")
		}
	}
	// A predefined one remains if it is declared again.
	tells(t, "proto File { } fn f(a: File imm at Open) { open b Iter { } else { } } proto Iter { final Z; }", "")
	tells(t, "fn f(@a: P imm at A, @b: P imm at A, c) { @open d P { } else { @open d P { } else { } } } fn g(@a: P imm at A) { } proto P { }", "none P; none P; none P; none P; none P")
}

func TestP12_1_NoneFunction(t *testing.T) {
	for _, name := range []string{"g", "F", "ff", "f1", "File", "P", "a", "b", "c", "read", "main_", "Main", "_"} {
		tells(t, "proto P { final Z; } fn f(a, b: File imm at Open) { let c = 1; @call "+name+"(); } fn main() { }", "none "+name)
		tells(t, "proto P { final Z; } fn f(a, b: File imm at Open) { let c = 1; if 1 { @call c = "+name+"(a, &b); } } fn main() { }", "none "+name)
		tells(t, "fn main() { } fn f() { @call "+name+"(1); call f(1); @call "+name+"(); call main(); }", "none "+name+"; none "+name)
	}
}

func TestP12_1_Functions(t *testing.T) {
	for _, text := range []string{
		"fn f() { call f(); }", "fn f() { call g(); } fn g() { call f(); }", "fn f(a) { call a = g(); call main(); } proto P { } fn g() { } fn main() { }",
		"fn f(f) { call f(f); } fn g() { let f = 1; call f = f(f); open g File { call g(&g); } else { } }", "fn File() { } fn f() { call File(); }",
	} {
		tells(t, text, "")
	}
	tells(t, "fn f() { call g(); } fn g() { } @fn g() { call g(); call f(); }", "twice g")
}
