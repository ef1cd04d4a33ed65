package parse_test

import (
	"fmt"
	"slices"
	"strings"
	"testing"

	"ballcock/api"
	"ballcock/parse"
	"ballcock/tree"
)

var kindNames = strings.Fields("Program Proto State Op Fn Param Names Block Let Set Open Do Case Split Call Handle If While Return Exit Num Var Bin Neg")

// told tells a node and all below it: kind@offset, the words, the numbers, and in brackets the children.
// Offsets are counted from a place in the text.
func told(l []api.Node, at, from int) string {
	n := l[at]
	parts := []string{fmt.Sprint(kindNames[n.Kind], "@", n.At-from)}
	parts = append(parts, n.Words...)
	for _, num := range n.Nums {
		parts = append(parts, fmt.Sprint(num))
	}
	var kids []string
	for _, kid := range n.Kids {
		kids = append(kids, told(l, kid, from))
	}
	if len(kids) > 0 {
		parts = append(parts, "["+strings.Join(kids, ", ")+"]")
	}
	return strings.Join(parts, " ")
}

// short is a text as far as it fits in a message.
func short(s string) string {
	if len(s) > 100 {
		return s[:100] + ".."
	}
	return s
}

// preorder tells whether the indices of a list are those of its preorder.
func preorder(l []api.Node) bool {
	next := 0
	var visit func(at int) bool
	visit = func(at int) bool {
		if at != next || at >= len(l) {
			return false
		}
		next++
		for _, kid := range l[at].Kids {
			if !visit(kid) {
				return false
			}
		}
		return true
	}
	return visit(0) && next == len(l)
}

// nodes are those of a text that is a program.
func nodes(t *testing.T, s string) []api.Node {
	t.Helper()
	l, f := parse.Parse(s)
	if f != (api.Fault{}) {
		t.Fatalf("Parse(%q) has the fault %v", short(s), f)
	}
	if !preorder(l) || !tree.Right(l) {
		t.Fatalf("Parse(%q) = %v, which is no valid tree in preorder", short(s), l)
	}
	return l
}

// tells checks the nodes of a whole text.
func tells(t *testing.T, s, want string) {
	t.Helper()
	if got := told(nodes(t, s), 0, 0); got != want {
		t.Errorf("Parse(%q)\n got %s\nwant %s", s, got, want)
	}
}

// tellsIn checks the nodes of a part of a text. They are told with offsets in the part, one behind the other, without those around them.
func tellsIn(t *testing.T, before, s, behind string, parent int, want ...string) {
	t.Helper()
	l := nodes(t, before+s+behind)
	var got []string
	for _, kid := range l[parent].Kids {
		got = append(got, told(l, kid, len(before)))
	}
	if !slices.Equal(got, want) {
		t.Errorf("Parse(%q)\n got %s\nwant %s", before+s+behind, strings.Join(got, "\n     "), strings.Join(want, "\n     "))
	}
}

// items checks the parts of a program.
func items(t *testing.T, s string, want ...string) {
	t.Helper()
	tellsIn(t, "", s, "", 0, want...)
}

// protoParts checks the parts of a protocol.
func protoParts(t *testing.T, s string, want ...string) {
	t.Helper()
	tellsIn(t, "proto P {", s, "}", 1, want...)
}

// params checks the parameters of a function, whose block is told behind them.
func params(t *testing.T, s string, want ...string) {
	t.Helper()
	block := fmt.Sprint("Block@", len(s)+1)
	tellsIn(t, "fn f(", s, "){}", 1, append(want, block)...)
}

// statements checks the statements of a block.
func statements(t *testing.T, s string, want ...string) {
	t.Helper()
	tellsIn(t, "fn f() {", s, "}", 2, want...)
}

// args checks the arguments of a call.
func args(t *testing.T, s string, want ...string) {
	t.Helper()
	tellsIn(t, "fn f() { call g(", s, "); }", 3, want...)
}

// expr checks an expression.
func expr(t *testing.T, s, want string) {
	t.Helper()
	tellsIn(t, "fn f() { return ", s, "; }", 3, want)
}

// fails checks that a text has this fault, and no nodes beside it.
func fails(t *testing.T, s string, err api.Errno, at int) {
	t.Helper()
	if l, f := parse.Parse(s); len(l) != 0 || f != (api.Fault{Err: err, At: at}) {
		t.Errorf("Parse(%q) = %d nodes, %v; want none, %v at %d", short(s), len(l), f, err, at)
	}
}

// marked checks that a text has no program from the place of the mark on, which is taken out.
func marked(t *testing.T, texts ...string) {
	t.Helper()
	for _, s := range texts {
		before, behind, ok := strings.Cut(s, "!")
		if !ok {
			t.Errorf("%q has no mark", s)
		}
		fails(t, before+behind, api.ErrParse, len(before))
	}
}

// place is an offset as told tells it.
func place(at int) string {
	return fmt.Sprint(at)
}
