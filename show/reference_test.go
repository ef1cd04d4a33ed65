package show_test

import (
	"fmt"
	"math/rand"
	"strings"
	"testing"

	"ballcock/api"
	"ballcock/parse"
	"ballcock/show"
	"ballcock/tree"
)

// The tests here hold the package against the chapter written as texts with places for their parts.

// reads tells whether a text of an expression is read as this expression.
func reads(s string, b branch) bool {
	l, f := parse.Parse("fn f() { x = " + s + "; }")
	return f == (api.Fault{}) && tree.Same(l, list(inBlock(of(api.NodeSet, "x", b))))
}

// sparse is the text of an expression with as few parentheses as it can be read with.
func sparse(b branch) string {
	switch b.kind {
	case api.NodeVar:
		return b.words[0]
	case api.NodeNum:
		return fmt.Sprint(b.nums[0])
	case api.NodeNeg:
		operand := sparse(b.kids[0])
		if s := "-" + operand; reads(s, b) {
			return s
		}
		return "-(" + operand + ")"
	}
	left, right := sparse(b.kids[0]), sparse(b.kids[1])
	sign := strings.Fields("< == + - * /")[b.nums[0]]
	for _, form := range []string{"%s %s %s", "(%s) %s %s", "%s %s (%s)"} {
		if s := fmt.Sprintf(form, left, sign, right); reads(s, b) {
			return s
		}
	}
	return fmt.Sprintf("(%s) %s (%s)", left, sign, right)
}

// written is the text of a branch by the chapter; expr tells that of an expression.
func written(b branch, expr func(b branch) string) string {
	part := func(i int) string { return written(b.kids[i], expr) }
	parts := func(from, to int) []string {
		var l []string
		for i := from; i < to; i++ {
			l = append(l, part(i))
		}
		return l
	}
	// lines are the children from one on, in braces.
	lines := func() string {
		if len(b.kids) == 0 {
			return "{ }"
		}
		all := strings.Join(parts(0, len(b.kids)), "\n")
		return "{\n  " + strings.ReplaceAll(all, "\n", "\n  ") + "\n}"
	}
	words, last := b.words, len(b.kids)-1
	kind := func() string { return strings.Fields("unique full share imm pure")[b.nums[0]] }
	switch b.kind {
	case api.NodeProgram:
		s := ""
		for _, item := range parts(0, len(b.kids)) {
			s += item + "\n"
		}
		return s
	case api.NodeProto:
		return "proto " + words[0] + " " + lines()
	case api.NodeState:
		return strings.Fields("state final")[b.nums[0]] + " " + words[0] + ";"
	case api.NodeOp:
		s := "op " + words[0] + " " + words[1] + " ->"
		for i := 2; i < len(words); i += 2 {
			s += " " + words[i] + " " + words[i+1] + ","
		}
		return strings.TrimSuffix(s, ",") + ";"
	case api.NodeFn:
		return "fn " + words[0] + "(" + strings.Join(parts(0, last), ", ") + ") " + part(last)
	case api.NodeParam:
		if len(words) == 1 {
			return words[0]
		}
		least := ""
		if b.nums[1] != 0 {
			least = fmt.Sprintf(" least %d/%d", b.nums[1], b.nums[2])
		}
		return words[0] + ": " + words[1] + " " + kind() + least + strings.Join(parts(0, len(b.kids)), "")
	case api.NodeNames:
		return " " + strings.Fields("at to in")[b.nums[0]] + " " + strings.Join(words, "|")
	case api.NodeBlock:
		return lines()
	case api.NodeLet:
		return "let " + words[0] + " = " + part(0) + ";"
	case api.NodeSet:
		return words[0] + " = " + part(0) + ";"
	case api.NodeOpen:
		return "open " + words[0] + " " + words[1] + " " + part(0) + " else " + part(1)
	case api.NodeDo:
		return "do " + words[0] + "." + words[1] + strings.Replace(" "+lines(), " { }", ";", min(1, max(0, 1-len(b.kids))))
	case api.NodeCase:
		return words[0] + " " + part(0)
	case api.NodeSplit:
		return fmt.Sprintf("split %s = %s %s %d/%d%s ", words[0], words[1], kind(), b.nums[1], b.nums[2], strings.Join(parts(0, last), "")) + part(last)
	case api.NodeCall:
		into := ""
		if len(words) > 1 {
			into = words[1] + " = "
		}
		return "call " + into + words[0] + "(" + strings.Join(parts(0, len(b.kids)), ", ") + ");"
	case api.NodeHandle:
		return "&" + words[0]
	case api.NodeIf:
		return "if " + part(0) + " " + strings.Join(parts(1, len(b.kids)), " else ")
	case api.NodeWhile:
		return "while " + part(0) + " " + part(1)
	case api.NodeReturn:
		return "return " + part(0) + ";"
	case api.NodeExit:
		return "exit;"
	}
	return expr(b)
}

// expressions calls a function with each expression below a branch.
func expressions(b branch, visit func(b branch)) {
	if api.NodeNum <= b.kind && b.kind <= api.NodeNeg {
		visit(b)
	}
	for _, kid := range b.kids {
		expressions(kid, visit)
	}
}

func TestP8_1_Reference(t *testing.T) {
	m := maker{rand.New(rand.NewSource(8))}
	counts := make([]int, 24)
	for range 600 {
		b := m.program()
		l := list(b)
		if !tree.Right(l) {
			continue
		}
		for _, n := range l {
			counts[n.Kind]++
		}
		want := written(b, sparse)
		for _, l := range [][]api.Node{l, m.shuffled(l), layers(b)} {
			if s := show.Show(l); s != want {
				t.Fatalf("Show(%v)\n%s\nwant\n%s", l, s, want)
			}
		}
		// The expressions of a list in preorder stand in the order in which they are visited.
		at := 0
		expressions(b, func(b branch) {
			for l[at].Kind < api.NodeNum {
				if s := show.Expr(l, at); s != "" {
					t.Fatalf("Expr(%v, %d) = %q", l, at, s)
				}
				at++
			}
			if s, want := show.Expr(l, at), sparse(b); s != want {
				t.Fatalf("Expr(%v, %d) = %q; want %q", l, at, s, want)
			}
			at++
		})
	}
	for kind, count := range counts {
		if count < 50 {
			t.Errorf("only %d nodes of the kind %d", count, kind)
		}
	}
}

// TestP8_1_Broken has lists that are valid trees but for one thing that was changed, which may leave them valid.
func TestP8_1_Broken(t *testing.T) {
	m := maker{rand.New(rand.NewSource(88))}
	counts := map[bool]int{}
	for range 3000 {
		l := m.shuffled(list(m.program()))
		m.broken(l)
		right := tree.Right(l)
		counts[right]++
		if s := show.Show(l); (s != "") != (right && len(l) > 1) {
			t.Fatalf("Show(%v) = %q", l, s)
		}
		for at, n := range l {
			if s := show.Expr(l, at); (s != "") != (right && api.NodeNum <= n.Kind && n.Kind <= api.NodeNeg) {
				t.Fatalf("Expr(%v, %d) = %q", l, at, s)
			}
		}
	}
	if counts[true] < 300 || counts[false] < 300 {
		t.Errorf("%d changed lists are valid, %d are not", counts[true], counts[false])
	}
}

// TestP8_1_Necessary takes each pair of parentheses out of the texts of expressions: without it, it is read as another one, or not at all.
func TestP8_1_Necessary(t *testing.T) {
	m := maker{rand.New(rand.NewSource(888))}
	pairs := 0
	for range 1500 {
		b := m.expression(5)
		s := show.Expr(list(inBlock(of(api.NodeReturn, b))), 4)
		if !reads(s, b) {
			t.Fatalf("%q is read as another expression than %v", s, b)
		}
		var open []int
		for at, sign := range s {
			switch sign {
			case '(':
				open = append(open, at)
			case ')':
				from := open[len(open)-1]
				open = open[:len(open)-1]
				pairs++
				if without := s[:from] + s[from+1:at] + s[at+1:]; reads(without, b) {
					t.Fatalf("%q has needless parentheses: %q", s, without)
				}
			}
		}
	}
	if pairs < 1000 {
		t.Errorf("only %d pairs", pairs)
	}
}
