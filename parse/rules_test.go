package parse_test

import "testing"

// The tests here take each rule of the grammar with each option taken and left out, and each repetition none, one and several times.

func TestP7_1_Program(t *testing.T) {
	items(t, "")
	items(t, "proto P { }", "Proto@0 P")
	items(t, "fn f() { }", "Fn@0 f [Block@7]")
	items(t, "proto P { } proto Q { }", "Proto@0 P", "Proto@12 Q")
	items(t, "fn f(){}fn g(){}", "Fn@0 f [Block@6]", "Fn@8 g [Block@14]")
	items(t, "fn f(){}proto P{}proto P{}fn f(){}", "Fn@0 f [Block@6]", "Proto@8 P", "Proto@17 P", "Fn@26 f [Block@32]")
	items(t, " # first\n\tproto P{}\n\n  fn f(){}# last", "Proto@10 P", "Fn@23 f [Block@29]")
}

func TestP7_1_ProgramOffset(t *testing.T) {
	tells(t, "", "Program@0")
	tells(t, " ", "Program@1")
	tells(t, "\n\t\r ", "Program@4")
	tells(t, "#", "Program@1")
	tells(t, "# nothing", "Program@9")
	tells(t, "# nothing\n", "Program@10")
	tells(t, "#\n#\n  ", "Program@6")
	tells(t, "proto P{}", "Program@0 [Proto@0 P]")
	tells(t, "\n proto P{} \n", "Program@2 [Proto@2 P]")
	tells(t, "# f\nfn f(){}", "Program@4 [Fn@4 f [Block@10]]")
}

func TestP7_1_Protocols(t *testing.T) {
	protoParts(t, "")
	protoParts(t, " \n")
	protoParts(t, "state A;", "State@0 A 0")
	protoParts(t, "final A;", "State@0 A 1")
	protoParts(t, "op go A -> ok A;", "Op@0 go A ok A")
	protoParts(t, "state A; state B; state A;", "State@0 A 0", "State@9 B 0", "State@18 A 0")
	protoParts(t, "final A; final B;", "State@0 A 1", "State@9 B 1")
	protoParts(t, "op a A->b C;op d E->f G;", "Op@0 a A b C", "Op@12 d E f G")
	protoParts(t, "final Z; op go A -> ok A; state A; op go Z -> ok A; final Y;", "State@0 Z 1", "Op@9 go A ok A", "State@26 A 0", "Op@35 go Z ok A", "State@52 Y 1")
	tells(t, "proto File { final Closed; }", "Program@0 [Proto@0 File [State@13 Closed 1]]")
	tells(t, "proto\nFile\n{\n}", "Program@0 [Proto@0 File]")
}

func TestP7_1_Outcomes(t *testing.T) {
	protoParts(t, "op go A -> ok B;", "Op@0 go A ok B")
	protoParts(t, "op go A -> ok B, no C;", "Op@0 go A ok B no C")
	protoParts(t, "op go A -> ok B, no C, ok B, other D;", "Op@0 go A ok B no C ok B other D")
	protoParts(t, "op go go->go go,go go;", "Op@0 go go go go go go")
}

func TestP7_1_Functions(t *testing.T) {
	tells(t, "fn f() { }", "Program@0 [Fn@0 f [Block@7]]")
	tells(t, "fn main() { }", "Program@0 [Fn@0 main [Block@10]]")
	tells(t, "fn main ( ) { exit; }", "Program@0 [Fn@0 main [Block@12 [Exit@14]]]")
	tells(t, "fn f(a){}", "Program@0 [Fn@0 f [Param@5 a, Block@7]]")
	tells(t, "fn f(a, b){}", "Program@0 [Fn@0 f [Param@5 a, Param@8 b, Block@10]]")
	tells(t, "fn f(a,a: P pure,b ,c){}", "Program@0 [Fn@0 f [Param@5 a, Param@7 a P 4 0 0, Param@17 b, Param@20 c, Block@22]]")
}

func TestP7_1_Params(t *testing.T) {
	params(t, "")
	params(t, "x", "Param@0 x")
	params(t, "x: P unique", "Param@0 x P 0 0 0")
	params(t, "x: P full", "Param@0 x P 1 0 0")
	params(t, "x: P share", "Param@0 x P 2 0 0")
	params(t, "x: P imm", "Param@0 x P 3 0 0")
	params(t, "x: P pure", "Param@0 x P 4 0 0")
	params(t, "x:P imm least 1/4", "Param@0 x P 3 1 4")
	params(t, "x:P imm least 4/1", "Param@0 x P 3 4 1")
	params(t, "x:P unique least 999999999999999999/999999999999999998", "Param@0 x P 0 999999999999999999 999999999999999998")
	params(t, "x:P imm least 001 / 010", "Param@0 x P 3 1 10")
	params(t, "x:P imm at A", "Param@0 x P 3 0 0 [Names@8 A 0]")
	params(t, "x:P imm to A", "Param@0 x P 3 0 0 [Names@8 A 1]")
	params(t, "x:P imm in A", "Param@0 x P 3 0 0 [Names@8 A 2]")
	params(t, "x:P imm at A to B", "Param@0 x P 3 0 0 [Names@8 A 0, Names@13 B 1]")
	params(t, "x:P imm at A in B", "Param@0 x P 3 0 0 [Names@8 A 0, Names@13 B 2]")
	params(t, "x:P imm to A in B", "Param@0 x P 3 0 0 [Names@8 A 1, Names@13 B 2]")
	params(t, "x:P imm at A to B in C", "Param@0 x P 3 0 0 [Names@8 A 0, Names@13 B 1, Names@18 C 2]")
	params(t, "x:P full least 1/2 at A", "Param@0 x P 1 1 2 [Names@19 A 0]")
	params(t, "x:P full least 1/2 to A", "Param@0 x P 1 1 2 [Names@19 A 1]")
	params(t, "x:P full least 1/2at A", "Param@0 x P 1 1 2 [Names@18 A 0]")
	params(t, "x:P full least 2/3 at A to B in C, y", "Param@0 x P 1 2 3 [Names@19 A 0, Names@24 B 1, Names@29 C 2]", "Param@35 y")
	params(t, "x:P imm in A,y:Q pure at B,z", "Param@0 x P 3 0 0 [Names@8 A 2]", "Param@13 y Q 4 0 0 [Names@22 B 0]", "Param@27 z")
}

func TestP7_1_Names(t *testing.T) {
	params(t, "x:P imm at A|B", "Param@0 x P 3 0 0 [Names@8 A B 0]")
	params(t, "x:P imm at A | B | C | A", "Param@0 x P 3 0 0 [Names@8 A B C A 0]")
	params(t, "x:P imm to A|B in C|D|E", "Param@0 x P 3 0 0 [Names@8 A B 1, Names@15 C D E 2]")
	params(t, "x:P imm at # comment\n A|B to C", "Param@0 x P 3 0 0 [Names@8 A B 0, Names@26 C 1]")
}

func TestP7_1_Blocks(t *testing.T) {
	statements(t, "")
	statements(t, "exit;", "Exit@0")
	statements(t, "exit; x = 1; exit;", "Exit@0", "Set@6 x [Num@10 1]", "Exit@13")
	statements(t, "while 1{}while 2{}", "While@0 [Num@6 1, Block@7]", "While@9 [Num@15 2, Block@16]")
	tells(t, "fn f()# a\n{# b\n}", "Program@0 [Fn@0 f [Block@10]]")
}

func TestP7_1_Sets(t *testing.T) {
	statements(t, "let x = 1;", "Let@0 x [Num@8 1]")
	statements(t, "let let_=-y;", "Let@0 let_ [Neg@9 [Var@10 y]]")
	statements(t, "x = 1;", "Set@0 x [Num@4 1]")
	statements(t, "  lets=1<2;", "Set@2 lets [Bin@7 0 [Num@7 1, Num@9 2]]")
}

func TestP7_1_Opens(t *testing.T) {
	statements(t, "open f File { } else { }", "Open@0 f File [Block@12, Block@21]")
	statements(t, "open f File{exit;exit;}else{x=1;}exit;", "Open@0 f File [Block@11 [Exit@12, Exit@17], Block@27 [Set@28 x [Num@30 1]]]", "Exit@33")
	statements(t, "open f P { open g P { } else { exit; } } else { }", "Open@0 f P [Block@9 [Open@11 g P [Block@20, Block@29 [Exit@31]]], Block@46]")
}

func TestP7_1_Dos(t *testing.T) {
	statements(t, "do f.close;", "Do@0 f close")
	statements(t, "do f . close ;", "Do@0 f close")
	statements(t, "do f.read { }", "Do@0 f read")
	statements(t, "do f.read{}exit;", "Do@0 f read", "Exit@11")
	statements(t, "do f.read { some { } }", "Do@0 f read [Case@12 some [Block@17]]")
	statements(t, "do f.read { some { exit; } none{}some { x = 1; exit; } }", "Do@0 f read [Case@12 some [Block@17 [Exit@19]], Case@27 none [Block@31], Case@33 some [Block@38 [Set@40 x [Num@44 1], Exit@47]]]")
	statements(t, "do a.b { c { do d.e { f { do g.h; } } } }", "Do@0 a b [Case@9 c [Block@11 [Do@13 d e [Case@22 f [Block@24 [Do@26 g h]]]]]]")
}

func TestP7_1_Splits(t *testing.T) {
	statements(t, "split g = f full 1/2 { }", "Split@0 g f 1 1 2 [Block@21]")
	statements(t, "split g = f share 1/2 { }", "Split@0 g f 2 1 2 [Block@22]")
	statements(t, "split g = f imm 1/2 { }", "Split@0 g f 3 1 2 [Block@20]")
	statements(t, "split g = f pure 1/2 { }", "Split@0 g f 4 1 2 [Block@21]")
	statements(t, "split g=f imm 07/03{exit;}", "Split@0 g f 3 7 3 [Block@19 [Exit@20]]")
	statements(t, "split g=f imm 999999999999999999/999999999999999999{}", "Split@0 g f 3 999999999999999999 999999999999999999 [Block@51]")
	statements(t, "split g = f imm 1/2 in A { exit; }", "Split@0 g f 3 1 2 [Names@20 A 2, Block@25 [Exit@27]]")
	statements(t, "split g = f imm 1/2 in A|B|C { }", "Split@0 g f 3 1 2 [Names@20 A B C 2, Block@29]")
	statements(t, "split f = f imm 2/1in f{}exit;", "Split@0 f f 3 2 1 [Names@19 f 2, Block@23]", "Exit@25")
}

func TestP7_1_Calls(t *testing.T) {
	statements(t, "call g();", "Call@0 g")
	statements(t, "call x = g();", "Call@0 g x")
	statements(t, "call x=x ( ) ;", "Call@0 x x")
	statements(t, "call g(1);", "Call@0 g [Num@7 1]")
	statements(t, "call x = g(1);", "Call@0 g x [Num@11 1]")
	statements(t, "call g(&f);", "Call@0 g [Handle@7 f]")
	statements(t, "call x = g(1, &f, y);", "Call@0 g x [Num@11 1, Handle@14 f, Var@18 y]")
}

func TestP7_1_Args(t *testing.T) {
	args(t, "")
	args(t, "1", "Num@0 1")
	args(t, "&f", "Handle@0 f")
	args(t, "& # handle\nf", "Handle@0 f")
	args(t, "f", "Var@0 f")
	args(t, "&f,&f,&g", "Handle@0 f", "Handle@3 f", "Handle@6 g")
	args(t, "1, -2, &f, (x), x + 1 < 2, &g", "Num@0 1", "Neg@3 [Num@4 2]", "Handle@7 f", "Var@12 x", "Bin@16 0 [Bin@16 2 [Var@16 x, Num@20 1], Num@24 2]", "Handle@27 g")
}

func TestP7_1_Ifs(t *testing.T) {
	statements(t, "if x { }", "If@0 [Var@3 x, Block@5]")
	statements(t, "if x { } else { }", "If@0 [Var@3 x, Block@5, Block@14]")
	statements(t, "if(x){exit;}else{exit;exit;}exit;", "If@0 [Var@3 x, Block@5 [Exit@6], Block@16 [Exit@17, Exit@22]]", "Exit@28")
	statements(t, "if 1 { if 2 { } } else { }", "If@0 [Num@3 1, Block@5 [If@7 [Num@10 2, Block@12]], Block@23]")
	statements(t, "if 1 { } if 2 { } else { }", "If@0 [Num@3 1, Block@5]", "If@9 [Num@12 2, Block@14, Block@23]")
	statements(t, "if 1 { } else { if 2 { } else { } }", "If@0 [Num@3 1, Block@5, Block@14 [If@16 [Num@19 2, Block@21, Block@30]]]")
	statements(t, "if x < 1 { }", "If@0 [Bin@3 0 [Var@3 x, Num@7 1], Block@9]")
}

func TestP7_1_Others(t *testing.T) {
	statements(t, "while x { }", "While@0 [Var@6 x, Block@8]")
	statements(t, "while x==1{exit;exit;}", "While@0 [Bin@6 1 [Var@6 x, Num@9 1], Block@10 [Exit@11, Exit@16]]")
	statements(t, "return 1;", "Return@0 [Num@7 1]")
	statements(t, "return-x;", "Return@0 [Neg@6 [Var@7 x]]")
	statements(t, "exit;", "Exit@0")
	statements(t, "exit ;", "Exit@0")
}

// TestP7_1_EachKind has nodes of each kind, with offsets.
func TestP7_1_EachKind(t *testing.T) {
	tells(t, `
proto P {
  state A;
  final Z;
  op go A -> ok Z, no A;
}
fn f(x: P imm least 1/4 at A|Z to A in A, n) {
  let a = -n + 2*3;
  a = (a < 1) == 0;
  open h P {
    do h.go { ok { } no { do h.go; } }
  } else {
    exit;
  }
  split y = x pure 1/2 in A|Z { }
  call a = f(&x, a);
  if a { } else { return 0; }
  while a { }
}
`, "Program@1 ["+
		"Proto@1 P [State@13 A 0, State@24 Z 1, Op@35 go A ok Z no A], "+
		"Fn@60 f [Param@65 x P 3 1 4 [Names@84 A Z 0, Names@91 A 1, Names@96 A 2], Param@102 n, Block@105 ["+
		"Let@109 a [Bin@117 2 [Neg@117 [Var@118 n], Bin@122 4 [Num@122 2, Num@124 3]]], "+
		"Set@129 a [Bin@134 1 [Bin@134 0 [Var@134 a, Num@138 1], Num@144 0]], "+
		"Open@149 h P [Block@158 [Do@164 h go [Case@174 ok [Block@177], Case@181 no [Block@184 [Do@186 h go]]]], Block@208 [Exit@214]], "+
		"Split@226 y x 4 1 2 [Names@247 A Z 2, Block@254], "+
		"Call@260 f a [Handle@271 x, Var@275 a], "+
		"If@281 [Var@284 a, Block@286, Block@295 [Return@297 [Num@304 0]]], "+
		"While@311 [Var@317 a, Block@319]]]]")
}
