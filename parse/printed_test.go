package parse_test

import (
	"math/rand"
	"testing"

	"ballcock/api"
	"ballcock/parse"
	"ballcock/show"
	"ballcock/tree"
)

// printed checks that the text that layer 8 prints of a tree is parsed as the same tree, and returns this text.
func printed(t *testing.T, l []api.Node) string {
	t.Helper()
	s := show.Show(l)
	if len(s) > api.MaxText {
		fails(t, s, api.ErrBig, 0)
	} else if !tree.Same(nodes(t, s), l) {
		t.Errorf("%q is parsed as another tree than %v, of which it is the text", short(s), l)
	}
	return s
}

// TestP7_2_ShownIsPrinted holds the texts that are written by hand against layer 8.
func TestP7_2_ShownIsPrinted(t *testing.T) {
	for s, others := range shown() {
		for _, other := range append(others, s) {
			if got := printed(t, nodes(t, other)); got != s {
				t.Errorf("the tree of %q is printed as %q; want %q", other, got, s)
			}
		}
	}
}

// TestP7_2_PrintedWritten has random trees, which are not made by parsing.
func TestP7_2_PrintedWritten(t *testing.T) {
	fit := 0
	for seed := range 2000 {
		w := writer{Rand: rand.New(rand.NewSource(int64(7200 + seed)))}
		l := list(w.program())
		if !tree.Right(l) {
			continue
		}
		if len(printed(t, l)) <= api.MaxText {
			fit++
		}
	}
	if fit < 1500 {
		t.Errorf("only %d texts of at most %d bytes", fit, api.MaxText)
	}
}

// TestP7_2_PrintedAgain prints parsed texts with all kinds of blanks and parentheses.
func TestP7_2_PrintedAgain(t *testing.T) {
	fit := 0
	for seed := range 2000 {
		w := writer{Rand: rand.New(rand.NewSource(int64(2700 + seed))), marks: true}
		w.program()
		l, f := parse.Parse(string(w.text))
		if f != (api.Fault{}) {
			continue
		}
		fit++
		s := printed(t, l)
		if len(s) > api.MaxText {
			continue
		}
		if again := printed(t, nodes(t, s)); again != s {
			t.Errorf("%q is parsed, and printed as %q", s, again)
		}
	}
	if fit < 1500 {
		t.Errorf("only %d programs", fit)
	}
}

// TestP7_2_PrintedBig has the most nodes, and the greatest depth.
func TestP7_2_PrintedBig(t *testing.T) {
	for _, s := range append(sized(1500), "fn f() { a = "+times(19, "-")+"1; }", "fn f() { a = 1"+times(19, "+1")+"; }", "fn f() { a = "+times(19, "1*(")+"1"+times(19, ")")+"; }", "fn f() { "+times(10, "if 1 {")+"exit;"+times(10, "}")+" }", "fn f() { "+times(7, "do h.go { ok {")+times(7, "}}")+" }") {
		printed(t, nodes(t, s))
	}
}
