package parse_test

import (
	"fmt"
	"testing"
)

func TestP7_1_Parts(t *testing.T) {
	expr(t, "0", "Num@0 0")
	expr(t, "00", "Num@0 0")
	expr(t, "007", "Num@0 7")
	expr(t, "1234567890", "Num@0 1234567890")
	expr(t, "999999999999999999", "Num@0 999999999999999999")
	expr(t, "000000000000000010", "Num@0 10")
	expr(t, "x", "Var@0 x")
	expr(t, "_", "Var@0 _")
	expr(t, "sixteen_letters_", "Var@0 sixteen_letters_")
	expr(t, "-1", "Neg@0 [Num@1 1]")
	expr(t, "- x", "Neg@0 [Var@2 x]")
	expr(t, "--1", "Neg@0 [Neg@1 [Num@2 1]]")
	expr(t, "- - - x", "Neg@0 [Neg@2 [Neg@4 [Var@6 x]]]")
	expr(t, "(1)", "Num@1 1")
	expr(t, "((x))", "Var@2 x")
	expr(t, "(((-1)))", "Neg@3 [Num@4 1]")
	expr(t, "-(1)", "Neg@0 [Num@2 1]")
	expr(t, "-(-(x))", "Neg@0 [Neg@2 [Var@4 x]]")
}

func TestP7_1_Signs(t *testing.T) {
	expr(t, "1<2", "Bin@0 0 [Num@0 1, Num@2 2]")
	expr(t, "1==2", "Bin@0 1 [Num@0 1, Num@3 2]")
	expr(t, "1+2", "Bin@0 2 [Num@0 1, Num@2 2]")
	expr(t, "1-2", "Bin@0 3 [Num@0 1, Num@2 2]")
	expr(t, "1*2", "Bin@0 4 [Num@0 1, Num@2 2]")
	expr(t, "1/2", "Bin@0 5 [Num@0 1, Num@2 2]")
}

func TestP7_1_LeftAssociative(t *testing.T) {
	for _, c := range []struct{ first, second, nums string }{
		{"+", "+", "22"}, {"+", "-", "23"}, {"-", "+", "32"}, {"-", "-", "33"},
		{"*", "*", "44"}, {"*", "/", "45"}, {"/", "*", "54"}, {"/", "/", "55"},
	} {
		a, b := c.nums[:1], c.nums[1:]
		expr(t, "x"+c.first+"y"+c.second+"z", "Bin@0 "+b+" [Bin@0 "+a+" [Var@0 x, Var@2 y], Var@4 z]")
		// Parentheses on the left change nothing but offsets; on the right they do.
		expr(t, "(x"+c.first+"y)"+c.second+"z", "Bin@1 "+b+" [Bin@1 "+a+" [Var@1 x, Var@3 y], Var@6 z]")
		expr(t, "x"+c.first+"(y"+c.second+"z)", "Bin@0 "+a+" [Var@0 x, Bin@3 "+b+" [Var@3 y, Var@5 z]]")
	}
	expr(t, "1-2-3-4-5", "Bin@0 3 [Bin@0 3 [Bin@0 3 [Bin@0 3 [Num@0 1, Num@2 2], Num@4 3], Num@6 4], Num@8 5]")
	expr(t, "1/2/3/4", "Bin@0 5 [Bin@0 5 [Bin@0 5 [Num@0 1, Num@2 2], Num@4 3], Num@6 4]")
}

// TestP7_1_BindsCloser has two signs of different rules, in both orders.
func TestP7_1_BindsCloser(t *testing.T) {
	signs := []string{"<", "==", "+", "-", "*", "/"}
	for i, loose := range signs {
		for j, closer := range signs {
			if i/2 >= j/2 {
				continue
			}
			y, z := 1+len(loose), 2+len(loose)+len(closer)
			expr(t, "x"+loose+"y"+closer+"z", fmt.Sprintf("Bin@0 %d [Var@0 x, Bin@%d %d [Var@%d y, Var@%d z]]", i, y, j, y, z))
			expr(t, "(x"+loose+"y)"+closer+"z", fmt.Sprintf("Bin@1 %d [Bin@1 %d [Var@1 x, Var@%d y], Var@%d z]", j, i, y+1, z+2))
			y = 1 + len(closer)
			expr(t, "x"+closer+"y"+loose+"z", fmt.Sprintf("Bin@0 %d [Bin@0 %d [Var@0 x, Var@%d y], Var@%d z]", i, j, y, z))
			expr(t, "x"+closer+"(y"+loose+"z)", fmt.Sprintf("Bin@0 %d [Var@0 x, Bin@%d %d [Var@%d y, Var@%d z]]", j, y+1, i, y+1, z+1))
		}
	}
	expr(t, "1+2*3-4/5<6-7", "Bin@0 0 [Bin@0 3 [Bin@0 2 [Num@0 1, Bin@2 4 [Num@2 2, Num@4 3]], Bin@6 5 [Num@6 4, Num@8 5]], Bin@10 3 [Num@10 6, Num@12 7]]")
	expr(t, "1*2+3*4", "Bin@0 2 [Bin@0 4 [Num@0 1, Num@2 2], Bin@4 4 [Num@4 3, Num@6 4]]")
	// A minus sign binds closer than every other sign.
	expr(t, "-1*2", "Bin@0 4 [Neg@0 [Num@1 1], Num@3 2]")
	expr(t, "-1/2", "Bin@0 5 [Neg@0 [Num@1 1], Num@3 2]")
	expr(t, "-1+2", "Bin@0 2 [Neg@0 [Num@1 1], Num@3 2]")
	expr(t, "-1-2", "Bin@0 3 [Neg@0 [Num@1 1], Num@3 2]")
	expr(t, "-1<2", "Bin@0 0 [Neg@0 [Num@1 1], Num@3 2]")
	expr(t, "-1==2", "Bin@0 1 [Neg@0 [Num@1 1], Num@4 2]")
	expr(t, "-(1*2)", "Neg@0 [Bin@2 4 [Num@2 1, Num@4 2]]")
	expr(t, "1--2", "Bin@0 3 [Num@0 1, Neg@2 [Num@3 2]]")
	expr(t, "1*-2", "Bin@0 4 [Num@0 1, Neg@2 [Num@3 2]]")
	expr(t, "1---2-3", "Bin@0 3 [Bin@0 3 [Num@0 1, Neg@2 [Neg@3 [Num@4 2]]], Num@6 3]")
	expr(t, "1<-2", "Bin@0 0 [Num@0 1, Neg@2 [Num@3 2]]")
}

// TestP7_1_BinOffsets has parentheses ahead of left operands: they are no part of a node.
func TestP7_1_BinOffsets(t *testing.T) {
	expr(t, "(1)+2", "Bin@1 2 [Num@1 1, Num@4 2]")
	expr(t, "((1)+2)*3", "Bin@2 4 [Bin@2 2 [Num@2 1, Num@5 2], Num@8 3]")
	expr(t, "(1+2)<(3+4)", "Bin@1 0 [Bin@1 2 [Num@1 1, Num@3 2], Bin@7 2 [Num@7 3, Num@9 4]]")
	expr(t, "(-(1))-2", "Bin@1 3 [Neg@1 [Num@3 1], Num@7 2]")
	expr(t, "-(1)-2", "Bin@0 3 [Neg@0 [Num@2 1], Num@5 2]")
	expr(t, "( # one\n 1 ) < 2", "Bin@9 0 [Num@9 1, Num@15 2]")
}

func TestP7_1_Comparisons(t *testing.T) {
	expr(t, "(1<2)<3", "Bin@1 0 [Bin@1 0 [Num@1 1, Num@3 2], Num@6 3]")
	expr(t, "1<(2<3)", "Bin@0 0 [Num@0 1, Bin@3 0 [Num@3 2, Num@5 3]]")
	expr(t, "(1==2)==(3<4)", "Bin@1 1 [Bin@1 1 [Num@1 1, Num@4 2], Bin@9 0 [Num@9 3, Num@11 4]]")
	expr(t, "-(1<2)", "Neg@0 [Bin@2 0 [Num@2 1, Num@4 2]]")
	for _, a := range []string{"<", "=="} {
		for _, b := range []string{"<", "=="} {
			marked(t, "fn f() { return 1 "+a+" 2 !"+b+" 3; }", "fn f() { return (1 "+a+" 2 !"+b+" 3); }", "fn f() { return 1 "+a+" (2) + 3 !"+b+" 3; }")
		}
	}
}
