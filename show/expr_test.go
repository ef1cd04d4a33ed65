package show_test

import (
	"math"
	"strings"
	"testing"

	"ballcock/api"
	"ballcock/show"
)

func TestP8_1_Numbers(t *testing.T) {
	for n, want := range map[int]string{
		0: "0", 1: "1", 2: "2", 9: "9", 10: "10", 11: "11", 99: "99", 100: "100", 1234567890: "1234567890",
		math.MaxInt32: "2147483647", math.MaxInt32 + 1: "2147483648", math.MaxUint32 + 1: "4294967296", 1<<53 + 1: "9007199254740993",
		100_000_000_000_000_000: "100000000000000000", 999_999_999_999_999_998: "999999999999999998", 999_999_999_999_999_999: "999999999999999999",
	} {
		expression(t, of(api.NodeNum, n), want)
		expression(t, neg(of(api.NodeNum, n)), "-"+want)
		expression(t, bin(api.BinAdd, of(api.NodeNum, n), of(api.NodeNum, n)), want+" + "+want)
	}
}

func TestP8_1_Vars(t *testing.T) {
	for _, s := range []string{"x", "X", "_", "a1", "main", "Exit", "lets", "sixteen_letters_"} {
		expression(t, name(s), s)
		expression(t, neg(name(s)), "-"+s)
	}
}

func TestP8_1_Signs(t *testing.T) {
	for sign, want := range map[int]string{
		api.BinLess: "a < 1", api.BinSame: "a == 1", api.BinAdd: "a + 1", api.BinSub: "a - 1", api.BinMul: "a * 1", api.BinDiv: "a / 1",
	} {
		expression(t, bin(sign, name("a"), one), want)
	}
}

var everySign = [...]int{api.BinLess, api.BinSame, api.BinAdd, api.BinSub, api.BinMul, api.BinDiv}

// lefts has for each sign, and for each sign of its left operand, the text of both.
var lefts = [6][6]string{
	{"(a < b) < c", "(a == b) < c", "a + b < c", "a - b < c", "a * b < c", "a / b < c"},
	{"(a < b) == c", "(a == b) == c", "a + b == c", "a - b == c", "a * b == c", "a / b == c"},
	{"(a < b) + c", "(a == b) + c", "a + b + c", "a - b + c", "a * b + c", "a / b + c"},
	{"(a < b) - c", "(a == b) - c", "a + b - c", "a - b - c", "a * b - c", "a / b - c"},
	{"(a < b) * c", "(a == b) * c", "(a + b) * c", "(a - b) * c", "a * b * c", "a / b * c"},
	{"(a < b) / c", "(a == b) / c", "(a + b) / c", "(a - b) / c", "a * b / c", "a / b / c"},
}

// rights has the same for its right operand.
var rights = [6][6]string{
	{"a < (b < c)", "a < (b == c)", "a < b + c", "a < b - c", "a < b * c", "a < b / c"},
	{"a == (b < c)", "a == (b == c)", "a == b + c", "a == b - c", "a == b * c", "a == b / c"},
	{"a + (b < c)", "a + (b == c)", "a + (b + c)", "a + (b - c)", "a + b * c", "a + b / c"},
	{"a - (b < c)", "a - (b == c)", "a - (b + c)", "a - (b - c)", "a - b * c", "a - b / c"},
	{"a * (b < c)", "a * (b == c)", "a * (b + c)", "a * (b - c)", "a * (b * c)", "a * (b / c)"},
	{"a / (b < c)", "a / (b == c)", "a / (b + c)", "a / (b - c)", "a / (b * c)", "a / (b / c)"},
}

// minus has the text of a minus sign and each sign of its operand.
var minus = [6]string{"-(a < b)", "-(a == b)", "-(a + b)", "-(a - b)", "-(a * b)", "-(a / b)"}

func TestP8_1_Pairs(t *testing.T) {
	a, b, c := name("a"), name("b"), name("c")
	for i, outer := range everySign {
		for j, inner := range everySign {
			expression(t, bin(outer, bin(inner, a, b), c), lefts[i][j])
			expression(t, bin(outer, a, bin(inner, b, c)), rights[i][j])
		}
	}
}

// TestP8_1_BothSides has for each sign each pair of signs in its operands.
func TestP8_1_BothSides(t *testing.T) {
	a, b, c, d := name("a"), name("b"), name("c"), name("d")
	for i, outer := range everySign {
		for j, left := range everySign {
			for k, right := range everySign {
				before, _ := strings.CutSuffix(lefts[i][j], "c")
				_, behind, _ := strings.Cut(rights[i][k], " ")
				_, behind, _ = strings.Cut(behind, " ")
				behind = strings.NewReplacer("b", "c", "c", "d").Replace(behind)
				expression(t, bin(outer, bin(left, a, b), bin(right, c, d)), before+behind)
			}
		}
	}
	// Two of them by hand.
	expression(t, bin(api.BinSub, bin(api.BinAdd, a, b), bin(api.BinSub, c, d)), "a + b - (c - d)")
	expression(t, bin(api.BinSame, bin(api.BinLess, a, b), bin(api.BinMul, c, d)), "(a < b) == c * d")
}

func TestP8_1_Minus(t *testing.T) {
	a, b := name("a"), name("b")
	for i, sign := range everySign {
		inner := bin(sign, a, b)
		expression(t, neg(inner), minus[i])
		expression(t, neg(neg(inner)), "-"+minus[i])
		// Below a minus sign it stands in its own parentheses, and needs no others.
		expression(t, bin(sign, neg(inner), neg(inner)), minus[i]+[...]string{" < ", " == ", " + ", " - ", " * ", " / "}[i]+minus[i])
	}
	expression(t, neg(a), "-a")
	expression(t, neg(neg(a)), "--a")
	expression(t, neg(neg(neg(one))), "---1")
	expression(t, bin(api.BinLess, neg(a), neg(b)), "-a < -b")
	expression(t, bin(api.BinSame, neg(a), neg(b)), "-a == -b")
	expression(t, bin(api.BinAdd, neg(a), neg(b)), "-a + -b")
	expression(t, bin(api.BinSub, neg(a), neg(b)), "-a - -b")
	expression(t, bin(api.BinMul, neg(a), neg(b)), "-a * -b")
	expression(t, bin(api.BinDiv, neg(a), neg(b)), "-a / -b")
	expression(t, bin(api.BinSub, neg(neg(a)), neg(neg(b))), "--a - --b")
	expression(t, neg(bin(api.BinMul, neg(a), neg(bin(api.BinAdd, neg(b), one)))), "-(-a * -(-b + 1))")
}

// TestP8_1_Deep has expressions of several signs, and of the greatest depth.
func TestP8_1_Deep(t *testing.T) {
	a := name("a")
	less, add, sub, mul, div := api.BinLess, api.BinAdd, api.BinSub, api.BinMul, api.BinDiv
	expression(t, bin(add, bin(mul, bin(sub, a, a), one), bin(div, a, bin(mul, one, a))), "(a - a) * 1 + a / (1 * a)")
	expression(t, bin(less, bin(add, a, bin(add, a, bin(add, a, a))), one), "a + (a + (a + a)) < 1")
	expression(t, bin(less, bin(add, bin(add, bin(add, a, a), a), a), one), "a + a + a + a < 1")
	expression(t, bin(mul, bin(mul, bin(mul, a, a), a), bin(mul, a, bin(mul, a, a))), "a * a * a * (a * (a * a))")
	expression(t, bin(less, bin(less, bin(less, a, a), a), bin(less, a, bin(less, a, a))), "((a < a) < a) < (a < (a < a))")
	expression(t, bin(mul, bin(add, bin(less, a, a), bin(less, a, a)), neg(bin(less, a, one))), "((a < a) + (a < a)) * -(a < 1)")
	for _, c := range []struct {
		in             func(b branch) branch
		before, behind string
	}{
		{neg, "-", ""},
		{func(b branch) branch { return bin(add, b, one) }, "", " + 1"},
		{func(b branch) branch { return bin(mul, one, bin(add, b, a)) }, "1 * (", " + a)"},
		{func(b branch) branch { return bin(div, b, one) }, "", " / 1"},
		{func(b branch) branch { return neg(bin(sub, one, b)) }, "-(1 - ", ")"},
		{func(b branch) branch { return neg(bin(mul, b, one)) }, "-(", " * 1)"},
	} {
		most := 19
		if c.in(a).kids[len(c.in(a).kids)-1].kind == api.NodeBin {
			most = 9
		}
		b := a
		for range most {
			b = c.in(b)
		}
		want := times(most, c.before) + "a" + times(most, c.behind)
		prints(t, inBlock(of(api.NodeSet, "x", b)), "fn f() {\n  x = "+want+";\n}\n")
		if s := show.Expr(list(inBlock(of(api.NodeReturn, b))), 4); s != want {
			t.Errorf("Expr = %q; want %q", s, want)
		}
	}
}

// TestP8_1_Places has expressions at each place where one can stand as a whole: no parentheses are around it.
func TestP8_1_Places(t *testing.T) {
	a, b := name("a"), name("b")
	for want, e := range map[string]branch{
		"1": one, "a": a, "-a": neg(a), "--a": neg(neg(a)),
		"a < b": bin(api.BinLess, a, b), "a == b": bin(api.BinSame, a, b), "a + b": bin(api.BinAdd, a, b), "a - b": bin(api.BinSub, a, b), "a * b": bin(api.BinMul, a, b), "a / b": bin(api.BinDiv, a, b),
		"(a < b) + 1": bin(api.BinAdd, bin(api.BinLess, a, b), one), "(a + b) * 1": bin(api.BinMul, bin(api.BinAdd, a, b), one), "-(a < b)": neg(bin(api.BinLess, a, b)),
	} {
		statement(t, of(api.NodeLet, "x", e), "let x = "+want+";")
		statement(t, of(api.NodeSet, "x", e), "x = "+want+";")
		statement(t, of(api.NodeCall, "f", e), "call f("+want+");")
		statement(t, of(api.NodeCall, "f", "x", e, e), "call x = f("+want+", "+want+");")
		statement(t, of(api.NodeCall, "f", handle, e, handle), "call f(&h, "+want+", &h);")
		statement(t, of(api.NodeIf, e, block), "if "+want+" { }")
		statement(t, of(api.NodeIf, e, exits, block), "if "+want+" {", "  exit;", "} else { }")
		statement(t, of(api.NodeWhile, e, exits), "while "+want+" {", "  exit;", "}")
		statement(t, of(api.NodeReturn, e), "return "+want+";")
	}
}

// TestP8_1_EachExpression asks for each node of a tree.
func TestP8_1_EachExpression(t *testing.T) {
	l := list(inBlock(of(api.NodeIf,
		bin(api.BinMul, bin(api.BinAdd, bin(api.BinLess, name("a"), of(api.NodeNum, 7)), one), neg(bin(api.BinSub, name("b"), bin(api.BinSub, name("c"), name("d"))))),
		of(api.NodeBlock, of(api.NodeCall, "g", handle, neg(name("e")))),
	)))
	for at, want := range []string{
		"", "", "", "",
		"((a < 7) + 1) * -(b - (c - d))", "(a < 7) + 1", "a < 7", "a", "7", "1",
		"-(b - (c - d))", "b - (c - d)", "b", "c - d", "c", "d",
		"", "", "", "-e", "e",
	} {
		if s := show.Expr(l, at); s != want {
			t.Errorf("Expr(l, %d) = %q; want %q", at, s, want)
		}
	}
	if len(l) != 21 {
		t.Errorf("%d nodes", len(l))
	}
}

// TestP8_1_NoExpression asks for nodes of each other kind.
func TestP8_1_NoExpression(t *testing.T) {
	for _, b := range samples() {
		for _, l := range [][]api.Node{list(around(b)), layers(around(b))} {
			for at, n := range l {
				s := show.Expr(l, at)
				switch n.Kind {
				case api.NodeNum, api.NodeVar, api.NodeBin, api.NodeNeg:
					if s == "" {
						t.Errorf("Expr(%v, %d) is empty", l, at)
					}
				default:
					if s != "" {
						t.Errorf("Expr(%v, %d) = %q", l, at, s)
					}
				}
			}
		}
	}
}

func TestP8_1_NoNode(t *testing.T) {
	for _, b := range append(samples(), inProgram()) {
		l := list(around(b))
		for _, at := range []int{-1, -2, -len(l), len(l), len(l) + 1, 2 * len(l), 1499, 1500, math.MinInt, math.MaxInt} {
			if s := show.Expr(l, at); s != "" {
				t.Errorf("Expr(%v, %d) = %q", l, at, s)
			}
		}
		// What lies behind the end of a list is none of its nodes.
		more := append(l, node(one), node(name("x")))
		for at := len(l); at < len(more); at++ {
			if s := show.Expr(more[:len(l)], at); s != "" {
				t.Errorf("Expr of a node behind the end = %q", s)
			}
		}
	}
}
