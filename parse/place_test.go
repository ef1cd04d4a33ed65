package parse_test

import (
	"strings"
	"testing"

	"ballcock/api"
)

// The tests here have "!" ahead of the first token with which no program can continue.

func TestP7_1_WrongItems(t *testing.T) {
	marked(t,
		"!x", "!main", "!1", "!;", "!}", "!{", "!(", "!state A;", "!exit;", "!let x = 1;", "!unique", "!->", "!Proto P{}", "!fnf(){}", "!proto_ P{}", "!seventeen_letters",
		"fn f(){}!x", "fn f(){} !}", "fn f(){}!;", "fn f(){}!{}", "proto P{}!;", "proto P{} !x", "proto P{}!}", "fn f(){}proto P{}!exit;", "fn f(){} # fn\n !1",
	)
}

func TestP7_1_WrongProtocols(t *testing.T) {
	marked(t,
		"proto!", "proto !{}", "proto !1", "proto !proto", "proto !state{}", "proto !seventeen_letters{}", "proto !; P",
		"proto P!", "proto P !;", "proto P !Q {}", "proto P !( )", "proto P !final A;", "proto P !}",
		"proto P {!", "proto P { !x", "proto P { !1", "proto P { !;", "proto P { !{", "proto P { !fn", "proto P { !proto", "proto P { !exit;", "proto P { !unique", "proto P { !States A;",
		"proto P { state!", "proto P { state !; }", "proto P { state !1; }", "proto P { state !state; }", "proto P { state !seventeen_letters; }", "proto P { state !}",
		"proto P { state A!", "proto P { state A !}", "proto P { state A !, B; }", "proto P { state A !B; }", "proto P { state A !-> B; }",
		"proto P { final!", "proto P { final !; }", "proto P { final !1; }", "proto P { final !final; }", "proto P { final A!", "proto P { final A !}", "proto P { final A !final B; }",
		"proto P { state A;!", "proto P { state A; !; }", "proto P { state A; !x", "proto P { final A; !fn",
		"proto P { } !}",
	)
}

func TestP7_1_WrongOps(t *testing.T) {
	marked(t,
		"proto P { op!", "proto P { op !; }", "proto P { op !1", "proto P { op !op", "proto P { op !->", "proto P { op !seventeen_letters",
		"proto P { op go!", "proto P { op go !->", "proto P { op go !;", "proto P { op go !to", "proto P { op go !1", "proto P { op go !seventeen_letters",
		"proto P { op go A!", "proto P { op go A !;", "proto P { op go A !ok B; }", "proto P { op go A !-", "proto P { op go A !=", "proto P { op go A !:", "proto P { op go A !, ok B; }",
		"proto P { op go A ->!", "proto P { op go A -> !;", "proto P { op go A -> !,", "proto P { op go A -> !1", "proto P { op go A -> !->", "proto P { op go A -> !fn",
		"proto P { op go A -> ok!", "proto P { op go A -> ok !;", "proto P { op go A -> ok !,", "proto P { op go A -> ok !->", "proto P { op go A -> ok !1", "proto P { op go A -> ok !in",
		"proto P { op go A -> ok B!", "proto P { op go A -> ok B !}", "proto P { op go A -> ok B !no C; }", "proto P { op go A -> ok B !| no C; }", "proto P { op go A -> ok B !->",
		"proto P { op go A -> ok B,!", "proto P { op go A -> ok B, !;", "proto P { op go A -> ok B, !,", "proto P { op go A -> ok B, !1",
		"proto P { op go A -> ok B, no!", "proto P { op go A -> ok B, no !;", "proto P { op go A -> ok B, no !, C", "proto P { op go A -> ok B, no C!", "proto P { op go A -> ok B, no C !}",
	)
}

func TestP7_1_WrongFunctions(t *testing.T) {
	marked(t,
		"fn!", "fn !(", "fn !1", "fn !fn", "fn !let() { }", "fn !seventeen_letters() { }", "fn !{",
		"fn f!", "fn f !{", "fn f !;", "fn f !g", "fn f !1",
		"fn f(!", "fn f(!,", "fn f(!;", "fn f(!1", "fn f(!{", "fn f(!fn", "fn f(!&a", "fn f(!unique", "fn f(!(", "fn f(!seventeen_letters",
		"fn f(a!", "fn f(a !b", "fn f(a !;", "fn f(a !{", "fn f(a != 1", "fn f(a !P", "fn f(a !unique", "fn f(a !at",
		"fn f(a,!", "fn f(a,!)", "fn f(a,!,", "fn f(a, b,!)", "fn f(a, !1", "fn f(a, !in",
		"fn f()!", "fn f() !;", "fn f() !fn", "fn f() !)", "fn f() !(", "fn f() !exit;", "fn f() !->", "fn f() !: P { }",
	)
	fails(t, "fn main( {", api.ErrParse, 9)
}

func TestP7_1_WrongParams(t *testing.T) {
	marked(t,
		"fn f(x:!", "fn f(x: !)", "fn f(x: !,", "fn f(x: !1", "fn f(x: !unique", "fn f(x: !:", "fn f(x: !seventeen_letters imm",
		"fn f(x: P!", "fn f(x: P !)", "fn f(x: P !,", "fn f(x: P !Q", "fn f(x: P !least", "fn f(x: P !at", "fn f(x: P !1", "fn f(x: P !state", "fn f(x: P !Unique",
		"fn f(x: P imm!", "fn f(x: P imm !imm", "fn f(x: P imm !Q", "fn f(x: P imm !1/2", "fn f(x: P imm !{", "fn f(x: P imm !;", "fn f(x: P imm !| A", "fn f(x: P imm !: P",
		"fn f(x: P imm least!", "fn f(x: P imm least !)", "fn f(x: P imm least !a/2", "fn f(x: P imm least !/2", "fn f(x: P imm least !-1/2", "fn f(x: P imm least !(1)", "fn f(x: P imm least !at A",
		"fn f(x: P imm least 1!", "fn f(x: P imm least 1 !)", "fn f(x: P imm least 1 !2", "fn f(x: P imm least 1 !: 2", "fn f(x: P imm least 1 !at A", "fn f(x: P imm least 1 !. 5",
		"fn f(x: P imm least 1/!", "fn f(x: P imm least 1/!)", "fn f(x: P imm least 1/!/", "fn f(x: P imm least 1/!-2", "fn f(x: P imm least 1/!a", "fn f(x: P imm least 1/!least",
		"fn f(x: P imm least 1/2!", "fn f(x: P imm least 1/2 !/3", "fn f(x: P imm least 1/2 !least 1/3", "fn f(x: P imm least 1/2 !3", "fn f(x: P imm least 1/2 !A",
		// No 0 in a fraction.
		"fn f(x: P imm least !0/2) { }", "fn f(x: P imm least 1/!0) { }", "fn f(x: P imm least !0/0) { }", "fn f(x: P imm least !000/1", "fn f(x: P imm least 10/!00", "fn f(x: P imm least !000000000000000000/1",
	)
}

func TestP7_1_WrongNames(t *testing.T) {
	for _, word := range []string{"at", "to", "in"} {
		marked(t,
			"fn f(x: P imm "+word+"!", "fn f(x: P imm "+word+" !)", "fn f(x: P imm "+word+" !|", "fn f(x: P imm "+word+" !1", "fn f(x: P imm "+word+" !"+word, "fn f(x: P imm "+word+" !state", "fn f(x: P imm "+word+" !seventeen_letters", "fn f(x: P imm "+word+" !: A",
			"fn f(x: P imm "+word+" A!", "fn f(x: P imm "+word+" A !B", "fn f(x: P imm "+word+" A !;", "fn f(x: P imm "+word+" A !{", "fn f(x: P imm "+word+" A !"+word+" B", "fn f(x: P imm "+word+" A !least 1/2", "fn f(x: P imm "+word+" A !1", "fn f(x: P imm "+word+" A !& B", "fn f(x: P imm "+word+" A !imm",
			"fn f(x: P imm "+word+" A|!", "fn f(x: P imm "+word+" A|!)", "fn f(x: P imm "+word+" A|!|B", "fn f(x: P imm "+word+" A|!1", "fn f(x: P imm "+word+" A|!in", "fn f(x: P imm "+word+" A|B !C",
		)
	}
	marked(t,
		"fn f(x: P imm to A !at B", "fn f(x: P imm in A !at B", "fn f(x: P imm in A !to B", "fn f(x: P imm at A in B !to C", "fn f(x: P imm at A to B !at C", "fn f(x: P imm at A to B in C !in D", "fn f(x: P imm at A to B in C !least 1/2",
		"fn f() { split y = x imm 1/2 !at A { } }", "fn f() { split y = x imm 1/2 !to A { } }", "fn f() { split y = x imm 1/2 in A !in B { } }",
	)
}

func TestP7_1_WrongBlocks(t *testing.T) {
	marked(t,
		"fn f() {!", "fn f() { !{", "fn f() { !;", "fn f() { !)", "fn f() { !1", "fn f() { !&x", "fn f() { !(", "fn f() { !-", "fn f() { !fn", "fn f() { !proto", "fn f() { !state", "fn f() { !else", "fn f() { !at", "fn f() { !to", "fn f() { !in", "fn f() { !least", "fn f() { !unique", "fn f() { !seventeen_letters = 1;", "fn f() { exit;!", "fn f() { exit; !;", "fn f() { exit; !)", "fn f() { } !}",
	)
}

func TestP7_1_WrongSets(t *testing.T) {
	marked(t,
		"fn f() { let!", "fn f() { let !=", "fn f() { let !1", "fn f() { let !let", "fn f() { let !;", "fn f() { let !seventeen_letters",
		"fn f() { let x!", "fn f() { let x !;", "fn f() { let x !1", "fn f() { let x !== 1", "fn f() { let x !: P", "fn f() { let x !y",
		"fn f() { let x =!", "fn f() { let x = !;", "fn f() { let x = !=", "fn f() { let x = !}", "fn f() { let x = !&y", "fn f() { let x = !let", "fn f() { let x = !*1",
		"fn f() { let x = 1!", "fn f() { let x = 1 !}", "fn f() { let x = 1 !y", "fn f() { let x = 1 !2", "fn f() { let x = 1 != 2", "fn f() { let x = 1 !,", "fn f() { let x = 1 !)", "fn f() { let x = 1 !let",
		"fn f() { x!", "fn f() { x !;", "fn f() { x !}", "fn f() { x !1", "fn f() { x !y", "fn f() { x !== 1", "fn f() { x !.go", "fn f() { x !()", "fn f() { x !+ 1", "fn f() { x !< 1", "fn f() { x !let",
		"fn f() { x =!", "fn f() { x = !;", "fn f() { x = !}", "fn f() { x = !=", "fn f() { x = !&y", "fn f() { x = !exit", "fn f() { x = 1!", "fn f() { x = 1 !}", "fn f() { x = 1 != 2", "fn f() { x = y !z", "fn f() { x = y !=",
	)
}

func TestP7_1_WrongOpens(t *testing.T) {
	marked(t,
		"fn f() { open!", "fn f() { open !;", "fn f() { open !1", "fn f() { open !{", "fn f() { open !open",
		"fn f() { open x!", "fn f() { open x !{", "fn f() { open x !=", "fn f() { open x !: P", "fn f() { open x !1", "fn f() { open x !else",
		"fn f() { open x P!", "fn f() { open x P !;", "fn f() { open x P !imm", "fn f() { open x P !(", "fn f() { open x P !else", "fn f() { open x P !Q",
		"fn f() { open x P {!", "fn f() { open x P { !else", "fn f() { open x P { !{",
		"fn f() { open x P { }!", "fn f() { open x P { } !}", "fn f() { open x P { } !{", "fn f() { open x P { } !;", "fn f() { open x P { } !exit;", "fn f() { open x P { } !if",
		"fn f() { open x P { } else!", "fn f() { open x P { } else !;", "fn f() { open x P { } else !}", "fn f() { open x P { } else !else", "fn f() { open x P { } else !if", "fn f() { open x P { } else !exit;",
		"fn f() { open x P { } else {!", "fn f() { open x P { } else { !else", "fn f() { open x P { } else { }!", "fn f() { open x P { } else { } !else", "fn f() { open x P { } else { } !;",
	)
}

func TestP7_1_WrongDos(t *testing.T) {
	marked(t,
		"fn f() { do!", "fn f() { do !;", "fn f() { do !.", "fn f() { do !1", "fn f() { do !&x", "fn f() { do !do",
		"fn f() { do x!", "fn f() { do x !;", "fn f() { do x !go", "fn f() { do x !->", "fn f() { do x !{", "fn f() { do x !=", "fn f() { do x !,",
		"fn f() { do x.!", "fn f() { do x.!;", "fn f() { do x.!.", "fn f() { do x.!1", "fn f() { do x.!open", "fn f() { do x.!{",
		"fn f() { do x.go!", "fn f() { do x.go !}", "fn f() { do x.go !.", "fn f() { do x.go !(", "fn f() { do x.go !ok", "fn f() { do x.go !,", "fn f() { do x.go !do",
		"fn f() { do x.go {!", "fn f() { do x.go { !;", "fn f() { do x.go { !{", "fn f() { do x.go { !exit;", "fn f() { do x.go { !1", "fn f() { do x.go { !else",
		"fn f() { do x.go { ok!", "fn f() { do x.go { ok !}", "fn f() { do x.go { ok !;", "fn f() { do x.go { ok !=", "fn f() { do x.go { ok !no", "fn f() { do x.go { ok !->", "fn f() { do x.go { ok !:",
		"fn f() { do x.go { ok {!", "fn f() { do x.go { ok { ok !{", "fn f() { do x.go { ok { }!", "fn f() { do x.go { ok { } !;", "fn f() { do x.go { ok { } !,", "fn f() { do x.go { ok { } !{", "fn f() { do x.go { ok { } !else", "fn f() { do x.go { ok { } no !}",
		"fn f() { do x.go { ok { } }!", "fn f() { do x.go { ok { } } !;", "fn f() { do x.go { } !;", "fn f() { do x.go; !;",
	)
}

func TestP7_1_WrongSplits(t *testing.T) {
	marked(t,
		"fn f() { split!", "fn f() { split !=", "fn f() { split !1", "fn f() { split !split", "fn f() { split !&x",
		"fn f() { split y!", "fn f() { split y !x", "fn f() { split y !;", "fn f() { split y !==", "fn f() { split y !imm", "fn f() { split y !:",
		"fn f() { split y =!", "fn f() { split y = !;", "fn f() { split y = !1", "fn f() { split y = !&x", "fn f() { split y = !imm", "fn f() { split y = !(",
		"fn f() { split y = x!", "fn f() { split y = x !;", "fn f() { split y = x !1/2", "fn f() { split y = x !{", "fn f() { split y = x !least", "fn f() { split y = x !P", "fn f() { split y = x !.", "fn f() { split y = x !in",
		"fn f() { split y = x imm!", "fn f() { split y = x imm !{", "fn f() { split y = x imm !a/2", "fn f() { split y = x imm !/", "fn f() { split y = x imm !-1/2", "fn f() { split y = x imm !least 1/2", "fn f() { split y = x imm !in", "fn f() { split y = x imm !full",
		"fn f() { split y = x imm 1!", "fn f() { split y = x imm 1 !{", "fn f() { split y = x imm 1 !2", "fn f() { split y = x imm 1 !* 2", "fn f() { split y = x imm 1 !in",
		"fn f() { split y = x imm 1/!", "fn f() { split y = x imm 1/!{", "fn f() { split y = x imm 1/!a", "fn f() { split y = x imm 1/!(2)", "fn f() { split y = x imm 1/!in",
		"fn f() { split y = x imm 1/2!", "fn f() { split y = x imm 1/2 !;", "fn f() { split y = x imm 1/2 !/3", "fn f() { split y = x imm 1/2 !A", "fn f() { split y = x imm 1/2 !}", "fn f() { split y = x imm 1/2 !imm",
		"fn f() { split y = x imm 1/2 in!", "fn f() { split y = x imm 1/2 in !{", "fn f() { split y = x imm 1/2 in !|", "fn f() { split y = x imm 1/2 in !1", "fn f() { split y = x imm 1/2 in A!", "fn f() { split y = x imm 1/2 in A !;", "fn f() { split y = x imm 1/2 in A !B", "fn f() { split y = x imm 1/2 in A|!{", "fn f() { split y = x imm 1/2 in A|B !}",
		"fn f() { split y = x imm 1/2 {!", "fn f() { split y = x imm 1/2 { }!", "fn f() { split y = x imm 1/2 { } !else", "fn f() { split y = x imm 1/2 { } !;",
		// No 0 in a fraction.
		"fn f() { split y = x imm !0/2 { } }", "fn f() { split y = x imm 1/!0 { } }", "fn f() { split y = x imm !00/0", "fn f() { split y = x imm 1/!000000000000000000",
		// Nothing unique.
		"fn f() { split y = x !unique 1/2 { } }", "fn f() { split y = x !unique", "fn f() { split y = x !unique 0/0",
	)
}

func TestP7_1_WrongCalls(t *testing.T) {
	marked(t,
		"fn f() { call!", "fn f() { call !;", "fn f() { call !(", "fn f() { call !1", "fn f() { call != g();", "fn f() { call !call", "fn f() { call !&x",
		"fn f() { call x!", "fn f() { call x !;", "fn f() { call x !y", "fn f() { call x !== g();", "fn f() { call x !{", "fn f() { call x !.", "fn f() { call x !:",
		"fn f() { call x =!", "fn f() { call x = !;", "fn f() { call x = !1", "fn f() { call x = !(", "fn f() { call x = !=", "fn f() { call x = !&y", "fn f() { call x = !call",
		"fn f() { call x = g!", "fn f() { call x = g !;", "fn f() { call x = g != h();", "fn f() { call x = g !h", "fn f() { call x = g !+",
		"fn f() { call g(!", "fn f() { call g(!,", "fn f() { call g(!;", "fn f() { call g(!}", "fn f() { call g(!call", "fn f() { call g(!=", "fn f() { call g(!<",
		"fn f() { call g(1!", "fn f() { call g(1 !;", "fn f() { call g(1 !2", "fn f() { call g(1 !&x", "fn f() { call g(1 !}", "fn f() { call g(1 !: P", "fn f() { call g(1 !|",
		"fn f() { call g(&!", "fn f() { call g(&!)", "fn f() { call g(&!1", "fn f() { call g(&!&x", "fn f() { call g(&!(x)", "fn f() { call g(&!-x", "fn f() { call g(&!fn",
		"fn f() { call g(&x!", "fn f() { call g(&x !;", "fn f() { call g(&x !+ 1", "fn f() { call g(&x !y", "fn f() { call g(&x !< 1", "fn f() { call g(&x !.go",
		"fn f() { call g(1,!", "fn f() { call g(1,!)", "fn f() { call g(1,!,", "fn f() { call g(&x,!)", "fn f() { call g(1, !;",
		"fn f() { call g(-!&x", "fn f() { call g((!&x", "fn f() { call g(1 + !&x",
		"fn f() { call g()!", "fn f() { call g() !}", "fn f() { call g() !)", "fn f() { call g() !{", "fn f() { call g() !()", "fn f() { call g() !+ 1",
	)
}

func TestP7_1_WrongOthers(t *testing.T) {
	for _, word := range []string{"if", "while"} {
		marked(t,
			"fn f() { "+word+"!", "fn f() { "+word+" !{", "fn f() { "+word+" !;", "fn f() { "+word+" !)", "fn f() { "+word+" !&x", "fn f() { "+word+" !"+word,
			"fn f() { "+word+" 1!", "fn f() { "+word+" 1 !;", "fn f() { "+word+" 1 !}", "fn f() { "+word+" 1 !)", "fn f() { "+word+" 1 !exit;", "fn f() { "+word+" 1 != 1", "fn f() { "+word+" (1) !2",
			"fn f() { "+word+" 1 {!", "fn f() { "+word+" 1 { !else", "fn f() { "+word+" 1 { }!", "fn f() { "+word+" 1 { } !;", "fn f() { "+word+" 1 { } !{",
		)
	}
	marked(t,
		"fn f() { while 1 { } !else", "fn f() { !else { } }",
		"fn f() { if 1 { } else!", "fn f() { if 1 { } else !;", "fn f() { if 1 { } else !}", "fn f() { if 1 { } else !if 2 { } }", "fn f() { if 1 { } else !exit;", "fn f() { if 1 { } else !else", "fn f() { if 1 { } else !1",
		"fn f() { if 1 { } else {!", "fn f() { if 1 { } else { !else", "fn f() { if 1 { } else { }!", "fn f() { if 1 { } else { } !else { } }", "fn f() { if 1 { } else { } !;",
		"fn f() { return!", "fn f() { return !;", "fn f() { return !}", "fn f() { return !&x", "fn f() { return !return", "fn f() { return 1!", "fn f() { return 1 !}", "fn f() { return 1 !,", "fn f() { return 1 !2", "fn f() { return 1 !exit",
		"fn f() { exit!", "fn f() { exit !}", "fn f() { exit !1", "fn f() { exit !exit", "fn f() { exit !(", "fn f() { exit; !;",
	)
}

func TestP7_1_WrongExpressions(t *testing.T) {
	for _, sign := range []string{"<", "==", "+", "-", "*", "/"} {
		marked(t, "fn f() { x = 1 "+sign+"!", "fn f() { x = 1 "+sign+" !;", "fn f() { x = 1 "+sign+" !)", "fn f() { x = 1 "+sign+" !*", "fn f() { x = 1 "+sign+" !+", "fn f() { x = 1 "+sign+" !<", "fn f() { x = 1 "+sign+" !==", "fn f() { x = 1 "+sign+" !&y", "fn f() { x = 1 "+sign+" !fn", "fn f() { x = 1 "+sign+" 2!", "fn f() { x = 1 "+sign+" 2 !3", "fn f() { x = 1 "+sign+" 2 !}", "fn f() { x = 1 "+sign+" 2 !(", "fn f() { x = 1 "+sign+" !seventeen_letters")
		if sign != "-" {
			marked(t, "fn f() { x = !"+sign+" 1; }", "fn f() { x = (!"+sign+" 1); }", "fn f() { x = -!"+sign+" 1; }")
		}
	}
	marked(t,
		"fn f() { x = (!", "fn f() { x = (!)", "fn f() { x = (!;", "fn f() { x = (!&y", "fn f() { x = (1!", "fn f() { x = (1 !;", "fn f() { x = (1 !}", "fn f() { x = (1 !2", "fn f() { x = (1 !,", "fn f() { x = (1 !(",
		"fn f() { x = ((1)!", "fn f() { x = ((1)!;", "fn f() { x = (1)!)", "fn f() { x = (1) !2", "fn f() { x = (1)!(2)",
		"fn f() { x = -!", "fn f() { x = -!;", "fn f() { x = -!)", "fn f() { x = -!&y", "fn f() { x = -!if", "fn f() { x = -1!", "fn f() { x = - -!", "fn f() { x = 1 !-> 2", "fn f() { x = !seventeen_letters;", "fn f() { x = y !z", "fn f() { x = 1 !y", "fn f() { x = y !1", "fn f() { x = y !(1)", "fn f() { x = y !. z", "fn f() { x = 1 !| 2", "fn f() { x = 1 !& 2", "fn f() { x = 1 !: 2",
	)
}

// TestP7_1_EndOfText has blanks and comments behind the last token: the end of the text is the place of the fault.
func TestP7_1_EndOfText(t *testing.T) {
	for _, s := range []string{"proto", "proto P", "proto P {", "fn", "fn f", "fn f(", "fn f(a", "fn f(a,", "fn f()", "fn f() {", "fn f() { x", "fn f() { x = ", "fn f() { x = 1", "fn f() { exit", "fn f() { exit;"} {
		for _, gap := range []string{"", " ", "\n\n", " # fn g() { }", "# }\n", "\t#\n#"} {
			fails(t, s+gap, api.ErrParse, len(s+gap))
		}
	}
}

// TestP7_1_Lex has the faults of layer 5, which come ahead of all others.
func TestP7_1_Lex(t *testing.T) {
	const long = "1234567890123456789"
	fails(t, "!", api.ErrLex, 0)
	fails(t, "\u00e9", api.ErrLex, 0)
	fails(t, "\x00", api.ErrLex, 0)
	fails(t, "fn f() { } >", api.ErrLex, 11)
	fails(t, "fn f() { x = "+long+"; }", api.ErrLex, 13)
	fails(t, "fn f() { x = 1 > 2; }", api.ErrLex, 15)
	fails(t, strings.Repeat(" ", 6001), api.ErrBig, 0)
	fails(t, "fn f() { }"+strings.Repeat("\n", 5991), api.ErrBig, 0)
	tells(t, "fn f() { }"+strings.Repeat("\n", 5990), "Program@0 [Fn@0 f [Block@7]]")
	tells(t, strings.Repeat(" ", 5990)+"fn f() { }", "Program@5990 [Fn@5990 f [Block@5997]]")
	// The first of them, if there are several.
	fails(t, "fn ! f() { $ }", api.ErrLex, 3)
	fails(t, "! "+strings.Repeat(" ", 6000), api.ErrBig, 0)
	// Ahead of ErrParse, wherever that is.
	fails(t, "x !", api.ErrLex, 2)
	fails(t, "fn fn !", api.ErrLex, 6)
	fails(t, "fn f() { ! }", api.ErrLex, 9)
	fails(t, "fn f() { } } "+long, api.ErrLex, 13)
	fails(t, "}"+strings.Repeat(" ", 5998)+"?", api.ErrLex, 5999)
	fails(t, "}"+strings.Repeat(" ", 6000), api.ErrBig, 0)
	fails(t, "fn f() { split y = x imm 0/"+long+" { } }", api.ErrLex, 27)
}

// TestP7_1_FirstPlace has several places that no program can have: the first one is the fault's.
func TestP7_1_FirstPlace(t *testing.T) {
	marked(t,
		"!} fn f( {", "fn !fn f( {", "fn f(!, , ) {", "fn f() { x = !; y = ; }", "proto P { !x } fn f() { ; }", "fn f() { split y = x !unique 0/0 { } }", "fn f() { split y = x imm !0/0 { } }", "fn f(x: P imm least !0/0 at) { }", "fn f() { !else } }",
	)
}
