package show_test

import (
	"math/rand"
	"strings"
	"testing"

	"ballcock/api"
	"ballcock/lex"
	"ballcock/parse"
	"ballcock/show"
	"ballcock/tree"
)

// short is a text as far as it fits in a message.
func short(s string) string {
	if len(s) > 1000 {
		return s[:1000] + ".."
	}
	return s
}

// returns checks that the text of a valid tree is parsed as this tree, if it is short enough, and tells whether it is.
func returns(t *testing.T, l []api.Node) bool {
	t.Helper()
	if !tree.Right(l) {
		t.Fatalf("%d nodes that are no valid tree", len(l))
	}
	s := show.Show(l)
	parsed, f := parse.Parse(s)
	if len(s) > api.MaxText {
		if f != (api.Fault{Err: api.ErrBig}) {
			t.Fatalf("a text of %d bytes has the fault %v", len(s), f)
		}
		return false
	}
	if f != (api.Fault{}) || !tree.Same(parsed, l) {
		t.Fatalf("%q is parsed as another tree, with the fault %v", short(s), f)
	}
	if again := show.Show(parsed); again != s {
		t.Fatalf("%q is parsed, and printed as %q", short(s), short(again))
	}
	return true
}

// settles checks that a parsed text that is printed, parsed and printed again is the same text.
func settles(t *testing.T, s string) {
	t.Helper()
	l, f := parse.Parse(s)
	if f != (api.Fault{}) {
		t.Fatalf("Parse(%q) has the fault %v", short(s), f)
	}
	first := show.Show(l)
	if len(first) > api.MaxText {
		return
	}
	again, f := parse.Parse(first)
	if f != (api.Fault{}) || !tree.Same(again, l) {
		t.Fatalf("%q is printed as %q, which is parsed as another tree, with the fault %v", short(s), short(first), f)
	}
	if second := show.Show(again); second != first {
		t.Fatalf("%q is printed as %q, then as %q", short(s), short(first), short(second))
	}
}

func TestP8_2_EachKind(t *testing.T) {
	for _, b := range append(samples(), inProgram()) {
		returns(t, list(around(b)))
		returns(t, layers(around(b)))
	}
	a, b, c := name("a"), name("b"), name("c")
	for _, outer := range everySign {
		for _, inner := range everySign {
			for _, e := range []branch{
				bin(outer, bin(inner, a, b), c), bin(outer, a, bin(inner, b, c)), bin(outer, neg(bin(inner, a, b)), neg(c)), neg(bin(outer, a, bin(inner, b, c))),
				neg(neg(bin(outer, bin(inner, a, b), neg(c)))), bin(outer, bin(inner, a, b), bin(inner, b, c)),
			} {
				returns(t, list(inBlock(of(api.NodeIf, e, exits), of(api.NodeWhile, e, block), of(api.NodeCall, "f", "x", e, handle, e), of(api.NodeReturn, e), of(api.NodeLet, "x", e), of(api.NodeSet, "x", e))))
			}
		}
	}
}

func TestP8_2_Random(t *testing.T) {
	m := maker{rand.New(rand.NewSource(82))}
	fit := 0
	for range 1500 {
		l := list(m.program())
		if tree.Right(l) && returns(t, l) {
			fit++
			returns(t, m.shuffled(l))
		}
	}
	if fit < 1000 {
		t.Errorf("only %d texts of at most %d bytes", fit, api.MaxText)
	}
}

// TestP8_2_RandomExpressions puts the printed texts of expressions alone into programs.
func TestP8_2_RandomExpressions(t *testing.T) {
	m := maker{rand.New(rand.NewSource(28))}
	for range 2000 {
		b := m.expression(6)
		s := show.Expr(list(inBlock(of(api.NodeReturn, b))), 4)
		if len(s) < 5000 && !reads(s, b) {
			t.Fatalf("%q is read as another expression than %v", s, b)
		}
	}
}

// TestP8_2_Limits has texts of nearly MaxText bytes, and the deepest trees.
func TestP8_2_Limits(t *testing.T) {
	for size := api.MaxText - 30; size <= api.MaxText+30; size++ {
		// A name of 1 to 12 bytes, and lines of 12 bytes.
		count := (size - 11) / 12
		first := of(api.NodeFn, times(size-12*count-10, "n"), block)
		l := list(inProgram(append([]branch{first}, many(count, proto)...)...))
		if s := show.Show(l); len(s) != size {
			t.Fatalf("a text of %d bytes instead of %d", len(s), size)
		}
		if returns(t, l) != (size <= api.MaxText) {
			t.Errorf("a text of %d bytes", size)
		}
	}
	for _, in := range []func(b branch) branch{
		neg,
		func(b branch) branch { return bin(api.BinAdd, one, b) },
		func(b branch) branch { return bin(api.BinLess, b, one) },
		func(b branch) branch { return bin(api.BinMul, b, name("x")) },
	} {
		b := one
		for range 19 {
			b = in(b)
		}
		returns(t, list(inBlock(of(api.NodeReturn, b))))
	}
	blocks := exit
	for range 10 {
		blocks = of(api.NodeIf, one, of(api.NodeBlock, blocks), exits)
	}
	returns(t, list(inBlock(blocks)))
	returns(t, list(inBlock(many(500, exit)...)))
	returns(t, list(inBlock(of(api.NodeCall, "f", many(1496, one)))))
	dos := of(api.NodeDo, "h", "go")
	for range 6 {
		dos = of(api.NodeDo, "h", "go", of(api.NodeCase, "ok", of(api.NodeBlock, dos)))
	}
	returns(t, list(inBlock(dos)))
}

// full is the text of an expression with parentheses around everything, one or more.
func (m maker) full(b branch) string {
	s := ""
	switch b.kind {
	case api.NodeNeg:
		s = "-" + m.full(b.kids[0])
	case api.NodeBin:
		s = m.full(b.kids[0]) + strings.Fields("< == + - * /")[b.nums[0]] + m.full(b.kids[1])
	default:
		s = sparse(b)
	}
	count := 1 + m.Intn(2)
	return times(count, "(") + s + times(count, ")")
}

// loose is a text of the same tokens with other blanks between; one that is too long stays as it is.
func (m maker) loose(s string) string {
	tokens, f := lex.Tokens(s)
	if f != (api.Fault{}) {
		return s
	}
	var b strings.Builder
	for _, token := range tokens {
		b.WriteString(token.S + []string{" ", "  ", "\n", "\t", "\r\n", " # { ;\n"}[m.Intn(6)])
	}
	return b.String()
}

// TestP8_2_Again prints texts with other blanks and more parentheses than the printed ones have.
func TestP8_2_Again(t *testing.T) {
	for _, s := range []string{
		"", " ", "# nothing", "proto P{}", "fn f(){}", "fn f(){do x.go{}}", "fn f(){do x.go{ok{}}}", "fn f(){x=((1));}", "fn f(){x=007;}", "fn f(){x=00;}", "fn f(){x=(-1);}", "fn f(){x=-(1);}",
		"fn f(){x=(1+2)+3;}", "fn f(){x=1+(2+3);}", "fn f(){x=(1*2)+3;}", "fn f(){x=1<(2+3);}", "fn f(){x=(1<2)<3;}", "fn f(){x=-(1*2);}", "fn f(){x=(-1)*2;}", "fn f(){x=-1*2;}",
		"fn f(){split y=x imm 01/002 in A|B{}}", "fn f(a:P imm least 1/2at A|B to C in D,b){call x=f(&a,(b));}", "fn f(){if(x){}else{if(y){}}}", "fn f(){open h P{}else{}}", "proto P{op a b->c d,e f;final Z;state A;}",
	} {
		settles(t, s)
	}
	m := maker{rand.New(rand.NewSource(2))}
	fit := 0
	for range 1500 {
		b := m.program()
		s, other := m.loose(written(b, m.full)), m.loose(written(b, sparse))
		if max(len(s), len(other)) > api.MaxText || !tree.Right(list(b)) {
			continue
		}
		fit++
		settles(t, s)
		settles(t, other)
		// Another text of the same tree is printed as the same text.
		l, _ := parse.Parse(s)
		if !tree.Same(l, list(b)) || show.Show(l) != show.Show(list(b)) {
			t.Fatalf("%q is printed as %q", short(s), short(show.Show(l)))
		}
	}
	if fit < 700 {
		t.Errorf("only %d texts", fit)
	}
}
