package typing_test

import (
	"math"
	"slices"
	"strings"
	"testing"

	"ballcock/api"
	"ballcock/typing"
)

// TestP13_1_OrderOfDo has statements within Cases and behind them: all diagnostics of a Do come ahead of theirs.
func TestP13_1_OrderOfDo(t *testing.T) {
	const f = "fn f(h: File imm, n) { "
	tells(t, withMain(f+"@do h.pull { some { @exit; } none { @exit; } } @exit; }"), "op pull; exit f; exit f; exit f")
	tells(t, withMain(f+"@do h.read { some { @exit; } } @exit; }"), "case none; exit f; exit f")
	tells(t, withMain(f+"do h.read { @all { @exit; } some { } none { @exit; } @some { @exit; } } @exit; }"), "case all; case some; exit f; exit f; exit f; exit f", 0, 3, 1, 2, 4, 5)
	tells(t, withMain(f+"@do h.read { some { @do h.pull; } @some { @exit; } @all { @call f(); } } @do h.push; }"), "case some; case all; case none; op pull; exit f; args f; op push", 2, 4, 0, 1, 3, 5, 6)
	tells(t, withMain(f+"do h.close { ok { @exit; } @no { } } @exit; }"), "case no; exit f; exit f", 1, 0, 2)
	// A Do within a Case.
	tells(t, withMain(f+"@do h.read { @a { @do h.write { @b { @exit; } @c { } } @exit; } @d { } }"+" @do h.read; }"),
		"case a; case d; case some; case b; case c; case ok; exit f; exit f; case read", 1, 7, 0, 3, 5, 2, 4, 6, 8)
}

// TestP13_1_OrderOfCall has statements ahead of calls and behind them.
func TestP13_1_OrderOfCall(t *testing.T) {
	const f = "fn f(a: File imm, b, c: Iter imm) { "
	tells(t, withMain(f+"@exit; call f(@b, @&a, @&a); @exit; @call f(); @call main(b); @exit; }"), "exit f; sort a; sort b; args c; exit f; args f; main main; exit f")
	tells(t, withMain(f+"if b { call f(@b, b, @b); } else { @do a.pull; } @do a.read { some { call f(@&c, @&c, &c); } } call f(&a, @&a, &c); }"), "sort a; sort c; op pull; case none; args a; sort b; sort b")
}

func TestP13_1_OrderOfNodes(t *testing.T) {
	tells(t, withMain("fn f(h: File imm) { @exit; if 1 { @do h.read; @exit; } else { @call f(); } while 1 { @do h.pull; } @exit; }"), "exit f; case read; exit f; args f; op pull; exit f")
	tells(t, withMain("fn f() { open h File { @do h.read; } else { @exit; } open h Iter { @do h.read; } else { @call f(1); } }"), "case read; exit f; op read; args f")
	tells(t, withMain("fn f(h: File imm) { split g = h imm 1/2 { @do g.pull; split k = g imm 1/2 { @exit; } @do h.write; } @exit; }"), "op pull; exit f; case write; exit f")
	tells(t, withMain("fn f(h: File imm) { @exit; @do h.read; } fn a() { @exit; @call f(); } fn g(h: Iter imm) { @do h.next; call f(@&h); }"), "exit f; case read; exit a; args f; case next; args h")
	// Each time, however often it is there.
	tells(t, withMain("fn f(h: File imm) { @do h.read; @do h.read; @do h.pull; @do h.pull; @call f(); @call f(); @exit; @exit; call f(@1); call f(@1); }"),
		"case read; case read; op pull; op pull; args f; args f; exit f; exit f; sort h; sort h")
}

// oddTree is a tree whose indices and offsets are not in the order of the children.
func oddTree() []api.Node {
	return []api.Node{
		{Kids: []int{4, 1}, At: 50},
		{Kind: api.NodeFn, Words: []string{"main"}, Kids: []int{3, 2, 5}, At: 7},
		{Kind: api.NodeParam, Words: []string{"b"}, At: 30},
		{Kind: api.NodeParam, Words: []string{"a", "File"}, Nums: []int64{api.Imm, 0, 0}, At: 99},
		{Kind: api.NodeFn, Words: []string{"f"}, Kids: []int{17, 16, 6}, At: -3},
		{Kind: api.NodeBlock, Kids: []int{9, 8, 7}},
		{Kind: api.NodeBlock, Kids: []int{12, 10}},
		{Kind: api.NodeDo, Words: []string{"a", "read"}, Kids: []int{14, 11}, At: math.MinInt},
		{Kind: api.NodeCall, Words: []string{"f"}, Kids: []int{18, 13}, At: 3},
		{Kind: api.NodeDo, Words: []string{"a", "pull"}, At: math.MaxInt},
		{Kind: api.NodeExit, At: 4},
		{Kind: api.NodeCase, Words: []string{"some"}, Kids: []int{15}, At: 12},
		{Kind: api.NodeExit, At: 5},
		{Kind: api.NodeHandle, Words: []string{"a"}, At: 6},
		{Kind: api.NodeCase, Words: []string{"all"}, Kids: []int{19}, At: 13},
		{Kind: api.NodeBlock},
		{Kind: api.NodeParam, Words: []string{"y"}},
		{Kind: api.NodeParam, Words: []string{"x", "Iter"}, Nums: []int64{api.Full, 0, 0}},
		{Kind: api.NodeVar, Words: []string{"b"}, At: -8},
		{Kind: api.NodeBlock, Kids: []int{20}},
		{Kind: api.NodeCall, Words: []string{"f"}, At: 70},
	}
}

func TestP13_1_OrderOfChildren(t *testing.T) {
	want := []api.Diag{
		{Code: api.DiagMain, At: 7, Name: "main"}, {Code: api.DiagExit, At: 5, Name: "f"}, {Code: api.DiagExit, At: 4, Name: "f"}, {Code: api.DiagOp, At: math.MaxInt, Name: "pull"},
		{Code: api.DiagSort, At: -8, Name: "x"}, {Code: api.DiagSort, At: 6, Name: "y"}, {Code: api.DiagCase, At: 13, Name: "all"}, {Code: api.DiagCase, At: math.MinInt, Name: "none"}, {Code: api.DiagArgs, At: 70, Name: "f"},
	}
	if got := typing.Check(oddTree()); !slices.Equal(got, want) {
		t.Errorf("the diagnostics %v; want %v", got, want)
	}
}

// TestP13_1_Offsets has each diagnostic at offsets that are not those of a text, and at 0 if there is no main.
func TestP13_1_Offsets(t *testing.T) {
	for _, at := range []int{0, 1, -1, 6000, math.MaxInt, math.MinInt} {
		l := oddTree()
		for i := range l {
			l[i].At = at
		}
		for _, name := range []string{"main", "g"} {
			l[1].Words = []string{name}
			want := []api.Diag{
				{Code: api.DiagMain, At: at, Name: "main"}, {Code: api.DiagExit, At: at, Name: "f"}, {Code: api.DiagExit, At: at, Name: "f"}, {Code: api.DiagOp, At: at, Name: "pull"},
				{Code: api.DiagSort, At: at, Name: "x"}, {Code: api.DiagSort, At: at, Name: "y"}, {Code: api.DiagCase, At: at, Name: "all"}, {Code: api.DiagCase, At: at, Name: "none"}, {Code: api.DiagArgs, At: at, Name: "f"},
			}
			if name != "main" {
				want[0].At = 0
			}
			if got := typing.Check(l); !slices.Equal(got, want) {
				t.Errorf("%s at %d: the diagnostics %v; want %v", name, at, got, want)
			}
		}
	}
}

// TestP13_1_Many has hundreds of diagnostics.
func TestP13_1_Many(t *testing.T) {
	tells(t, withMain("fn f(){"+strings.Repeat("@exit;", 900)+"}"), strings.Repeat("exit f; ", 900))
	tells(t, withMain("fn f(h:File imm){"+strings.Repeat("@do h.read;@call f();", 280)+"}"), strings.Repeat("case read; args f; ", 280))
	tells(t, "fn main(){open h File{"+strings.Repeat("@do h.x;", 700)+"}else{}}", strings.Repeat("op x; ", 700))
	tells(t, withMain("fn f(h:File imm){@do h.read{"+strings.Repeat("@x{}", 700)+"}}"), strings.Repeat("case x; ", 700)+"case some", append(counted(1, 700), 0)...)
}

// counted are so many numbers from one on.
func counted(from, count int) []int {
	var l []int
	for i := range count {
		l = append(l, from+i)
	}
	return l
}
