package parse_test

import (
	"strings"
	"testing"

	"ballcock/tree"
)

// shown are texts as layer 8 prints them, each with other texts of the same tree.
func shown() map[string][]string {
	return map[string][]string{
		"": {" ", "\n", "# nothing", "\t# nothing\n"},
		"proto P { }\n": {
			"proto P{}", "proto P {\n}\n", "# P\nproto#\nP{ # none\n}",
		},
		"proto File {\n  state Open;\n  final Closed;\n  op read Open -> some Open, none Open;\n  op close Open -> ok Closed;\n}\n": {
			"proto File{state Open;final Closed;op read Open->some Open,none Open;op close Open->ok Closed;}",
			"proto File\n{\nstate\nOpen\n;\nfinal\nClosed\n;\nop\nread\nOpen\n->\nsome\nOpen\n,\nnone\nOpen\n;\nop\nclose\nOpen\n->\nok\nClosed\n;\n}",
		},
		"fn main() {\n  exit;\n}\n": {
			"fn main() { exit; }", "fn main(){exit;}", " fn main ( ) { exit ; } ", "fn main() { # exit;\n  exit; # exit;\n}",
		},
		"fn f(a, b: P imm least 1/4 at A|B to C in A|B|C, c: Q unique) { }\n": {
			"fn f(a,b:P imm least 1/4at A|B to C in A|B|C,c:Q unique){}", "fn f(a, b: P imm least 01/0004 at A | B to C in A | B | C, c : Q unique) {\n}\n",
		},
		"fn f() {\n  let x = 1 + 2 * 3 - 4;\n  x = (x + 1) * -(x - 2) < 3;\n  return x;\n}\n": {
			"fn f() { let x = (1 + (2 * 3)) - 4; x = ((x + 1) * (-(x - 2))) < (3); return (((x))); }",
			"fn f(){let x=1+2*3-4;x=(x+1)*-(x-2)<3;return(x);}",
			"fn f() { let x = 001 + 2 * (3) - 04; x = (((x) + (1))) * -((x - 2)) < 3; return x; }",
		},
		"fn f() {\n  x = 1 - (2 - 3);\n  x = 1 * (2 / 3);\n  x = (1 < 2) == 3;\n  x = -(-1 + --2);\n}\n": {
			"fn f(){x=1-(2-3);x=1*(2/3);x=(1<2)==3;x=-(-1+--2);}",
			"fn f() { x = (1) - ((2 - 3)); x = (1 * (2 / 3)); x = ((1 < 2)) == (3); x = -((-1) + (-(-2))); }",
		},
		"fn f() {\n  open f File {\n    do f.read {\n      some {\n        exit;\n      }\n      none { }\n    }\n    do f.close;\n  } else { }\n}\n": {
			"fn f() { open f File { do f.read { some { exit; } none { } } do f.close; } else { } }",
			"fn f(){open f File{do f.read{some{exit;}none{}}do f.close{}}else{}}",
			"fn f() { open f File { do f . read { some { exit; } none { } } do f.close { # no cases\n } } else { } }",
		},
		"fn f(x: P pure) {\n  split y = x imm 1/2 in A|B { }\n  split z = x pure 2/3 {\n    call g(&y, 1, x);\n    call n = g();\n  }\n}\n": {
			"fn f(x:P pure){split y=x imm 1/2in A|B{}split z=x pure 2/3{call g(&y,1,x);call n=g();}}",
			"fn f(x: P pure) { split y = x imm 01 / 2 in A | B { } split z = x pure 2/03 { call g(& y, (1), ((x))); call n = g( ); } }",
		},
		"fn f() {\n  if x {\n    while x < 1 { }\n  } else {\n    if y { }\n  }\n}\nfn g() { }\n": {
			"fn f(){if x{while x<1{}}else{if y{}}}fn g(){}", "fn f() { if (x) { while (x < 1) { } } else { if ((y)) { } } } fn g() { }",
		},
	}
}

func TestP7_2_Shown(t *testing.T) {
	all := map[string]string{}
	for s, others := range shown() {
		l := nodes(t, s)
		for _, other := range others {
			if !tree.Same(l, nodes(t, other)) {
				t.Errorf("%q is another tree than %q", other, s)
			}
		}
		for other := range all {
			if tree.Same(l, nodes(t, other)) {
				t.Errorf("%q is the same tree as %q", s, other)
			}
		}
		all[s] = s
	}
}

// TestP7_2_Blanks takes the blanks out of texts, or puts others in, between all tokens.
func TestP7_2_Blanks(t *testing.T) {
	for s := range shown() {
		l := nodes(t, s)
		for _, gap := range []string{" ", "  ", "\n", "\t", "\r\n", " # }\n"} {
			other := strings.ReplaceAll(strings.ReplaceAll(s, "\n", " "), " ", gap)
			if !tree.Same(l, nodes(t, other)) {
				t.Errorf("%q is another tree than %q", other, s)
			}
		}
	}
}

// TestP7_2_Others has pairs of texts that differ by little, and are not the same tree.
func TestP7_2_Others(t *testing.T) {
	for _, pair := range [][2]string{
		{"fn f() { x = 1 - (2 - 3); }", "fn f() { x = 1 - 2 - 3; }"},
		{"fn f() { x = 1 * (2 * 3); }", "fn f() { x = 1 * 2 * 3; }"},
		{"fn f() { x = (1 + 2) * 3; }", "fn f() { x = 1 + 2 * 3; }"},
		{"fn f() { x = -(1 * 2); }", "fn f() { x = -1 * 2; }"},
		{"fn f() { x = (1 < 2) < 3; }", "fn f() { x = 1 < (2 < 3); }"},
		{"fn f() { x = 1 == 2; }", "fn f() { x = 1 < 2; }"},
		{"fn f() { let x = 1; }", "fn f() { x = 1; }"},
		{"fn f() { if 1 { } }", "fn f() { if 1 { } else { } }"},
		{"fn f() { do x.go; }", "fn f() { do x.go { ok { } } }"},
		{"fn f() { call g(x); }", "fn f() { call g(&x); }"},
		{"fn f() { call g(); }", "fn f() { call g = g(); }"},
		{"fn f() { call a = b(); }", "fn f() { call b = a(); }"},
		{"fn f() { split y = x imm 1/2 { } }", "fn f() { split y = x imm 1/2 in A { } }"},
		{"fn f() { split y = x imm 1/2 { } }", "fn f() { split x = y imm 1/2 { } }"},
		{"fn f(a: P imm at A) { }", "fn f(a: P imm to A) { }"},
		{"fn f(a: P imm) { }", "fn f(a: P imm least 1/1) { }"},
		{"proto P { state A; }", "proto P { final A; }"},
		{"proto P { } fn f() { }", "fn f() { } proto P { }"},
	} {
		if tree.Same(nodes(t, pair[0]), nodes(t, pair[1])) {
			t.Errorf("%q is the same tree as %q", pair[0], pair[1])
		}
	}
}
