package typing_test

import (
	"slices"
	"strings"
	"testing"

	"ballcock/api"
	"ballcock/parse"
	"ballcock/typing"
)

// parsed is the tree of a text.
func parsed(t *testing.T, text string) []api.Node {
	t.Helper()
	l, fault := parse.Parse(text)
	if fault.Err != api.OK {
		t.Fatalf("%.300s: the fault %v at %d", text, fault.Err, fault.At)
	}
	return l
}

// unmarked takes the marks @ out of a text, and tells the offsets of what they stand ahead of.
func unmarked(text string) (string, []int) {
	parts := strings.Split(text, "@")
	var offsets []int
	at := 0
	for _, part := range parts[:len(parts)-1] {
		at += len(part)
		offsets = append(offsets, at)
	}
	return strings.Join(parts, ""), offsets
}

// codes are those of the diagnostics of this layer.
var codes = map[string]int{"sort": 4, "args": 5, "main": 6, "op": 8, "case": 9, "exit": 15}

// tells checks the diagnostics of a text, each a code and a name ("op read; exit f"). A mark @ stands ahead of the node of
// each diagnostic: of the first one at the first mark, and so on, unless an order tells which mark is whose.
func tells(t *testing.T, marked, diags string, order ...int) {
	t.Helper()
	text, offsets := unmarked(marked)
	var want []api.Diag
	for told := range strings.SplitSeq(diags, "; ") {
		code, name, ok := strings.Cut(told, " ")
		if !ok {
			continue
		}
		mark := len(want)
		if len(order) > 0 {
			mark = order[mark]
		}
		want = append(want, api.Diag{Code: codes[code], At: offsets[mark], Name: name})
	}
	if len(want) != len(offsets) {
		t.Fatalf("%.400s: %d marks for %d diagnostics", marked, len(offsets), len(want))
	}
	if got := typing.Check(parsed(t, text)); !slices.Equal(got, want) {
		t.Errorf("%.400s: the diagnostics %v; want %v", marked, got, want)
	}
}

// in puts a text in the place of each mark % of another one.
func in(outer, inner string) string {
	return strings.ReplaceAll(outer, "%", inner)
}

// withMain adds a function main behind a text.
func withMain(text string) string {
	return text + " fn main() { }"
}

// wraps are statements with a place % for others. The handle h of File and the number n are visible.
var wraps = []string{
	"%", "n = 1; % n = 2;", "if n { % }", "if n { } else { % }", "if 1 { return 1; } else { if 2 { % } }", "while n { % }", "do h.read { some { % } none { } }", "do h.read { none { } some { % } }",
	"open wrap File { % } else { }", "open wrap Socket { } else { % }", "split wrap = h imm 1/2 { % }", "split wrap = h pure 1/2 in Open { while 1 { % } }", "return n; %", "let wrap = n; %",
}

func TestP13_1_Unmarked(t *testing.T) {
	if text, offsets := unmarked("a @bc @@d"); text != "a bc d" || !slices.Equal(offsets, []int{2, 5, 5}) {
		t.Errorf("%q, %v", text, offsets)
	}
}

func TestP13_1_Nothing(t *testing.T) {
	for _, text := range []string{
		"fn main() { }", "fn main() { exit; }", "fn f() { } fn main() { } fn g() { }", "fn f(a) { let b = a; b = -a * 2; if b { } while b { } return b; } fn main() { call f(1); }",
		"proto P { state A; final Z; op end A -> ok Z; } fn main() { open h P { do h.end; } else { } }",
		"fn main() { open h File { do h.read { some { do h.size; } none { } } do h.close; } else { exit; } }",
		"fn main() { open h File { split g = h imm 1/2 { do g.size; } call f(1, &h); } else { } } fn f(n, h: File full at Open) { call n = f(n, &h); }",
	} {
		tells(t, text, "")
	}
}

// TestP13_1_OtherLayers has faults that later layers tell, or the machine.
func TestP13_1_OtherLayers(t *testing.T) {
	for _, text := range []string{
		// Contracts.
		"fn f(a: File unique at Nowhere, b: Iter imm least 5/4 at Ready|Ready, c: File full to Open in End) { }",
		// States, permissions, parts, and handles that are left.
		"fn f(a: File imm at Shut) { do a.close; do a.size; do a.close { ok { do a.close; } } call f(&a); }",
		"fn f(a: Iter pure) { split b = a full 9/2 in Never|Over { do b.stop; split c = b share 1/1 { do c.left; } } }",
		"fn f() { open a Socket { do a.peek { none { } some { } } } else { } } fn g() { open a Socket { return 1; } else { } return 2; }",
		// Handles that are lent twice, and functions that call themselves.
		"fn f(a: File imm, b: File unique) { call f(&a, &a); call g(); } fn g() { call g(); }",
	} {
		tells(t, withMain(text), "")
	}
}

func TestP13_1_MainMissing(t *testing.T) {
	for _, text := range []string{
		"", " ", "# fn main() { }", "fn f() { }", "\n\n fn f(a, b: File imm at Open) { let c = a; }", "fn Main() { } fn MAIN() { } fn main_() { } fn mai() { } fn _main() { } fn mainmain() { }",
		"proto main { final Z; }", "proto P { state main; final Z; op main main -> main Z; }", "fn f(main) { let m = main; main = m; }", "fn f() { let main = 1; open n File { } else { } }", "fn f(main: File imm at Open) { do main.size; }",
	} {
		tells(t, "@"+text, "main main")
	}
}

func TestP13_1_MainParams(t *testing.T) {
	for _, params := range []string{"a", "main", "a: File imm at Open", "a, b", "a: Iter unique, b, c: Socket pure least 1/2 at Live to Dead in Live|Dead"} {
		for _, text := range []string{"%", " \n%", "fn f() { } %", "proto P { final Z; } fn f(a) { } %", "% fn f() { } proto main { final Z; }"} {
			tells(t, in(text, "@fn main("+params+") { exit; }"), "main main")
			tells(t, in(text, "fn main() { exit; }"), "")
		}
	}
}

// TestP13_1_MainFirst tells what is wrong with main ahead of what is at earlier offsets, and ahead of all else.
func TestP13_1_MainFirst(t *testing.T) {
	tells(t, "@fn f() { @exit; }", "main main; exit f")
	tells(t, "@proto P { final Z; } fn f() { @exit; } fn g() { @exit; }", "main main; exit f; exit g")
	tells(t, "@ fn f(h: File imm) { @do h.read; @do h.peek; @call f(); }", "main main; case read; op peek; args f")
	tells(t, "fn f() { @exit; } @fn main(a) { }", "main main; exit f", 1, 0)
	tells(t, "fn f(h: File imm) { @do h.read; @call f(); } @fn main(a) { @call f(); } fn g() { @exit; }", "main main; case read; args f; args f; exit g", 2, 0, 1, 3, 4)
}

func TestP13_1_Exit(t *testing.T) {
	for _, wrap := range wraps {
		for _, name := range []string{"f", "Main", "MAIN", "main_", "mai", "_main", "mainmain", "File", "h", "sixteen_letters_"} {
			f := "fn " + name + "(n, h: File imm at Open) { " + in(wrap, "@exit;") + " }"
			tells(t, f+" fn main() { exit; }", "exit "+name)
			tells(t, "fn main() { exit; } "+f, "exit "+name)
		}
		tells(t, "fn f() { } @fn main(n, h: File imm at Open) { "+in(wrap, "exit;")+" } fn g() { }", "main main")
	}
}

func TestP13_1_ExitEach(t *testing.T) {
	tells(t, "fn f() { @exit; @exit; if 1 { @exit; } else { @exit; } @exit; } fn main() { exit; exit; } fn g() { while 1 { @exit; } } fn h() { }", "exit f; exit f; exit f; exit f; exit f; exit g")
	tells(t, "fn f() { @exit; } proto P { final Z; } fn g() { @exit; } fn main() { exit; } proto Q { final Z; } fn h() { @exit; }", "exit f; exit g; exit h")
	tells(t, "fn main() { } fn f() { call g(); } fn g() { @exit; }", "exit g")
}
