package parse_test

import (
	"math/rand"
	"strings"
	"testing"

	"ballcock/api"
	"ballcock/parse"
)

// deep checks that a text has ErrDeep at the place of the mark "!", which is taken out.
func deep(t *testing.T, texts ...string) {
	t.Helper()
	for _, s := range texts {
		before, behind, ok := strings.Cut(s, "!")
		if !ok {
			t.Errorf("%q has no mark", s)
		}
		fails(t, before+behind, api.ErrDeep, len(before))
	}
}

// times is a text again and again.
func times(count int, s string) string {
	return strings.Repeat(s, count)
}

// sized are programs of so many nodes, of different kinds.
func sized(count int) []string {
	l := []string{
		"fn f(a" + times(count-4, ",a") + "){}",
		"fn f(){call g(1" + times(count-5, ",1") + ");}",
		"fn f(){call g(&x" + times(count-5, ",&x") + ");}",
		"fn f(){call g(((x))" + times(count-5, ",y") + ");}",
		"proto P{}fn f(){}fn f(a" + times(count-7, ",a") + "){}",
	}
	// Three nodes again and again, and some more.
	fill := times((count-3)%3, "a,")
	for _, three := range []string{"a=-1;", "if 1{}"} {
		if fill == "" {
			l = append(l, "fn f(){"+times((count-3)/3, three)+"}")
		} else {
			l = append(l, "fn f("+fill[:len(fill)-1]+"){"+times((count-3)/3, three)+"}")
		}
	}
	return l
}

func TestP7_1_Big(t *testing.T) {
	for _, count := range []int{1400, 1498, 1499, 1500} {
		for _, s := range sized(count) {
			if l := nodes(t, s); len(l) != count {
				t.Errorf("Parse(%q) = %d nodes; want %d", short(s), len(l), count)
			}
		}
	}
	for _, count := range []int{1501, 1502, 1503, 1600, 2000} {
		for _, s := range sized(count) {
			fails(t, s, api.ErrBig, 0)
			// Its place is the beginning of the text, not that of the Program.
			fails(t, " \n# big\n"+s, api.ErrBig, 0)
		}
	}
	fails(t, "fn f(){x="+times(2000, "1+")+"1;}", api.ErrBig, 0)
}

// TestP7_1_BigAmongFaults has texts of 1501 nodes with other faults.
func TestP7_1_BigAmongFaults(t *testing.T) {
	for _, s := range sized(1501) {
		fails(t, s+"}", api.ErrParse, len(s))
		fails(t, s[:len(s)-1], api.ErrParse, len(s)-1)
		fails(t, "fn "+s, api.ErrParse, 3)
		fails(t, s+" !", api.ErrLex, len(s)+1)
		// Too many nodes come ahead of one that is too deep, wherever it stands.
		tooDeep := "fn f(){x=" + times(20, "-") + "1;}"
		fails(t, s+tooDeep, api.ErrBig, 0)
		fails(t, tooDeep+s, api.ErrBig, 0)
		// What is nested too much while it is read comes ahead of them.
		deep(t, s+"fn f(){x="+times(200, "(")+"!1"+times(200, ")")+";}")
		deep(t, "fn f(){x="+times(200, "(")+"!1"+times(200, ")")+";}"+s)
	}
}

// TestP7_1_Depth24 has nodes of the greatest depth.
func TestP7_1_Depth24(t *testing.T) {
	for _, s := range []string{
		"fn f() { a = " + times(19, "-") + "1; }",
		"fn f() { a = 1" + times(19, "+1") + "; }",
		"fn f() { a = " + times(19, "1*(") + "1" + times(19, ")") + "; }",
		"fn f() { call g(" + times(19, "-") + "x, &h, " + times(19, "-(") + "y" + times(19, ")") + "); }",
		"fn f() { " + times(10, "if 1 {") + "exit;" + times(10, "}") + " }",
		"fn f() { " + times(10, "while 1 {") + "do h.go; exit;" + times(10, "}") + " }",
		"fn f() { " + times(10, "open h P {") + "exit;" + times(10, "} else {}") + " }",
		"fn f() { " + times(10, "open h P {} else {") + "exit;" + times(10, "}") + " }",
		"fn f() { " + times(10, "split g = h imm 1/2 {") + "exit;" + times(10, "}") + " }",
		"fn f() { " + times(7, "do h.go { ok {") + times(7, "}}") + " }",
		"fn f() { " + times(7, "do h.go { no {} ok {") + times(7, "} no {} }") + " }",
	} {
		if l := nodes(t, s); deepest(l) != 24 {
			t.Errorf("Parse(%q) has the depth %d", s, deepest(l))
		}
	}
}

// deepest is the greatest depth of a node.
func deepest(l []api.Node) int {
	depths, most := make([]int, len(l)), 0
	for at, n := range l {
		depths[at]++
		most = max(most, depths[at])
		for _, kid := range n.Kids {
			depths[kid] = depths[at]
		}
	}
	return most
}

// TestP7_1_Depth25 has one node that is too deep, or more.
func TestP7_1_Depth25(t *testing.T) {
	for more := range 30 {
		deep(t,
			"fn f() { a = "+times(20, "-")+"!"+times(more, "-")+"1; }",
			"fn f() { a = !1"+times(20+more, "+1")+"; }",
			"fn f() { a = (((!1)))"+times(20+more, "*1")+"; }",
			"fn f() { a = "+times(19, "1*(")+"!1"+times(1+more, "*(1")+times(20+more, ")")+"; }",
			"fn f() { "+times(10, "if 1 {")+"if !1 {"+times(more, "if 1 {")+times(11+more, "}")+" }",
			"fn f() { "+times(10, "while 1 {")+"x = !1;"+times(more, "exit;")+times(10, "}")+" }",
			"fn f() { "+times(10, "open h P {")+"open h P !{"+times(more, "exit;")+"} else {}"+times(10, "} else {}")+" }",
			"fn f() { "+times(10, "split g = h imm 1/2 {")+"split g = h imm 1/2 !in A {}"+times(more, "exit;")+times(10, "}")+" }",
			"fn f() { "+times(10, "split g = h imm 1/2 {")+"split g = h imm 1/2 !{}"+times(more, "exit;")+times(10, "}")+" }",
			"fn f() { "+times(7, "do h.go { ok {")+"!exit;"+times(more, "exit;")+times(7, "}}")+" }",
			"fn f() { "+times(7, "do h.go { ok {")+"!do h.go { ok {"+times(more, "exit;")+times(8, "}}")+" }",
			"fn f() { "+times(10, "if 1 {")+"do h.go { !ok {"+times(more, "exit;")+"} }"+times(10, "}")+" }",
			"fn f() { "+times(10, "if 1 {")+"call g(!&h"+times(more, ", x")+");"+times(10, "}")+" }",
		)
	}
}

// TestP7_1_FirstDeep has several nodes that are too deep: the first one in preorder is the fault's.
func TestP7_1_FirstDeep(t *testing.T) {
	for _, first := range []int{20, 21, 35} {
		for _, second := range []int{20, 21, 35} {
			deep(t,
				"fn f() { a = "+times(20, "-")+"!"+times(first-20, "-")+"1; b = "+times(second, "-")+"1; }",
				"fn f() { a = 1; } fn g() { b = "+times(20, "-")+"!"+times(first-20, "-")+"1; } fn h() { a = "+times(second, "-")+"1; }",
				"fn f() { a = 1 < "+times(19, "-")+"!"+times(first-19, "-")+"1; b = "+times(second, "-")+"1; }",
				"fn f() { a = "+times(19, "-")+"!"+times(first-19, "-")+"1 < "+times(second, "-")+"1; }",
			)
		}
		// What is only nearly too deep is passed.
		deep(t,
			"fn f() { a = "+times(19, "-")+"1; b = "+times(20, "-")+"!"+times(first-20, "-")+"1; }",
			"fn f() { a = 1; } fn f() { a = "+times(18, "-")+"1 < "+times(19, "-")+"!"+times(first-19, "-")+"1; }",
			"fn f() { if "+times(18, "-")+"1 { a = 1; } else { a = "+times(18, "-")+"!"+times(first-18, "-")+"1; } }",
		)
	}
}

// TestP7_1_DeepAmongFaults has texts that are too deep, and no programs.
func TestP7_1_DeepAmongFaults(t *testing.T) {
	const before = "fn f() { a = --------------------"
	deep(t, before+"!1; }")
	marked(t, before+"1; !", before+"1; } !}", before+"1 !}", before+"!;", before+"1 !2", "fn !"+before)
	fails(t, before+"1; } ?", api.ErrLex, len(before)+5)
}

// TestP7_1_Parentheses has parentheses around each other, in one block.
func TestP7_1_Parentheses(t *testing.T) {
	for _, count := range []int{1, 20, 100, 198, 199} {
		expr(t, times(count, "(")+"x"+times(count, ")"), "Var@"+place(count)+" x")
		args(t, "&h, "+times(count, "(")+"x"+times(count, ")"), "Handle@0 h", "Var@"+place(4+count)+" x")
		statements(t, "if "+times(count, "(")+"x"+times(count, ")")+" { }", "If@0 [Var@"+place(3+count)+" x, Block@"+place(5+2*count)+"]")
	}
	const most = 200
	for _, before := range []string{"fn f() { a = ", "fn f() { let a=", "fn f() { return 1 + ", "fn f() { call g(1,", "fn f() { if ", "fn f() { while 1 < "} {
		for _, behind := range []string{"1" + times(most, ")") + "; }", "1", "", ";", ")", "(", times(50, "("), "}", "fn", "&x", "0", " # and so on\n"} {
			gap := ""
			if strings.HasPrefix(behind, " ") {
				gap, behind = behind, ""
			}
			deep(t, before+times(most, "(")+gap+"!"+behind, before+times(most-1, "(")+" ( # comment\n"+gap+"!"+behind)
		}
	}
}

// TestP7_1_MinusSigns has minus signs around each other, in one block.
func TestP7_1_MinusSigns(t *testing.T) {
	for count := 20; count < 200; count++ {
		deep(t, "fn f() { a = "+times(20, "-")+"!"+times(count-20, "-")+"1; }")
	}
	for _, behind := range []string{"", ";", "}", "*", "+1", "<", ")", "{", "exit", "->", "==", "&x", "seventeen_letters"} {
		marked(t, "fn f() { a = "+times(199, "- ")+"!"+behind)
	}
	for _, behind := range []string{"1; }", "1", "x", "-", times(50, "-"), "(", "", ";", "}", "*", "exit", "->", "&x"} {
		deep(t, "fn f() { a = "+times(200, "- ")+"!"+behind, "fn f() { a = "+times(199, "- ")+"-\n#\n!"+behind)
	}
}

// TestP7_1_NestedBlocks has blocks around each other. The signs { of a do are no blocks.
func TestP7_1_NestedBlocks(t *testing.T) {
	for _, c := range []struct{ open, shut, first string }{
		{"if 1{!", "}", times(10, "if 1{") + "if !1{"},
		{"if 1{!}else{", "}", times(10, "if 1{}else{") + "if !1{"},
		{"while 1{!", "}", times(10, "while 1{") + "while !1{"},
		{"open h P{!", "}else{}", times(10, "open h P{") + "open h P!{"},
		{"open h P{!}else{", "}", times(10, "open h P{}else{") + "open h P!{"},
		{"split g=h imm 1/2{!", "}", times(10, "split g=h imm 1/2{") + "split g=h imm 1/2!{"},
		{"do h.go{ok{!", "}}", times(7, "do h.go{ok{") + "!do h.go{ok{"},
	} {
		open := strings.Replace(c.open, "!", "", 1)
		before, _, _ := strings.Cut("fn f(){"+c.first, "!")
		for _, count := range []int{12, 100, 198, 199} {
			if whole := "fn f(){" + times(count, open) + times(count, c.shut) + "}"; len(whole) <= api.MaxText {
				fails(t, whole, api.ErrDeep, len(before))
			}
			marked(t, "fn f(){"+times(count, open)+"!;")
		}
		last, rest, _ := strings.Cut(c.open, "!")
		for _, behind := range []string{rest + times(200, c.shut) + "}", "", "}", ";", "exit;", "{", open, "else", "1", ")"} {
			if s := "fn f(){" + times(199, open) + last; len(s)+len(behind)+9 <= api.MaxText {
				deep(t, s+"!"+behind, s+" # deep\n!"+behind)
			}
		}
	}
}

// TestP7_1_Mixed nests parentheses, minus signs and blocks in random orders.
func TestP7_1_Mixed(t *testing.T) {
	dice := rand.New(rand.NewSource(7))
	for range 500 {
		blocks, minus := dice.Intn(200), dice.Intn(200)
		if dice.Intn(2) == 0 {
			blocks, minus = dice.Intn(6), dice.Intn(5)
		}
		blocks, minus = min(blocks, 198), min(minus, 198-min(blocks, 198))
		signs := []byte(times(199-blocks-minus, "(") + times(minus, "-"))
		dice.Shuffle(len(signs), func(i, j int) { signs[i], signs[j] = signs[j], signs[i] })
		before, behind := "fn f(){"+times(blocks, "if 1{")+"x=", ";"+times(blocks, "}")+"}"
		open, shut := string(signs), times(199-blocks-minus, ")")

		// With the block of the function, 200 stand around the last number.
		whole := before + open + "1" + shut + behind
		l, f := parse.Parse(whole)
		switch place := tooDeep(blocks, before, open); {
		case place < 0 && (f != (api.Fault{}) || len(l) != 5+3*blocks+minus):
			t.Errorf("Parse(%q) = %d nodes, %v", whole, len(l), f)
		case place >= 0:
			fails(t, whole, api.ErrDeep, place)
		}
		marked(t, before+open+"!"+behind)
		// One more has a fault behind it, whatever is there.
		for _, more := range []string{"(", "-"} {
			deep(t, before+open+more+"!1"+times(strings.Count(open+more, "("), ")")+behind, before+open+more+"!", before+open+more+"!;", before+open+more+" !(-")
		}
	}
}

// tooDeep is the offset of the first node of the depth 25 in a text with so many blocks
// in that of a function, and a Set with these signs ahead of its number; -1 if there is none.
func tooDeep(blocks int, before, open string) int {
	if blocks > 10 {
		return len("fn f(){") + 10*len("if 1{") + len("if ")
	}
	depth := 4 + 2*blocks
	for i, sign := range open + "1" {
		if sign != '(' {
			depth++
		}
		if depth == 25 {
			return len(before) + i
		}
	}
	return -1
}

// TestP7_1_Beside has parentheses, minus signs and blocks that stand beside each other: they are not nested.
func TestP7_1_Beside(t *testing.T) {
	for _, s := range []string{
		"fn f() { call g(1" + times(700, ",(1)") + "); }",
		"fn f() { call g(1" + times(700, ",-1") + "); }",
		"fn f() { call g(1" + times(300, ",-(-(1))") + "); }",
		"fn f() { " + times(400, "if 1 { }") + " }",
		"fn f() { " + times(200, "do h.go { ok { } }") + " }",
		"fn f() { " + times(100, "if 1 { } else { while (1) { } }") + " }",
		times(300, "fn f(){}"),
		times(200, "fn f(){x=(1);}"),
		"fn f() { " + times(200, "call g(1, (2));") + " }",
		"fn f() { " + times(10, "x="+times(199, "(")+"1"+times(199, ")")+";") + " }",
	} {
		nodes(t, s)
	}
	// A minus sign between operands does not nest them, but the Bins are nodes below each other.
	deep(t, "fn f() { x = !1"+times(500, "-1")+"; }")
	// What is behind the parentheses is in none of them.
	deep(t, "fn f() { x = "+times(199, "(")+"1"+times(199, ")")+" < "+times(200, "(")+"!1")
	marked(t, "fn f() { x = "+times(199, "(")+"1"+times(199, ")")+" < "+times(199, "(")+"!;")
	marked(t, "fn f() { x = "+times(15, "-")+"1 < "+times(199, "(")+"!;", "fn f() { if 1 { exit; } x = "+times(199, "(")+"!;", "fn f() { do h.go { ok { } } x = "+times(199, "(")+"!;")
	// The parentheses of a function and of a call and the signs { of a do and of a protocol do not count.
	marked(t, "fn f() { call g("+times(199, "(")+"!;", "fn f() { do h.go { ok { x = "+times(198, "(")+"!;", "proto P { } fn f(a, b) { x = "+times(199, "(")+"!;")
	deep(t, "fn f() { call g("+times(200, "(")+"!;", "fn f() { do h.go { ok { x = "+times(199, "(")+"!;", "fn f() { call g(1, "+times(200, "-")+"!;")
}
