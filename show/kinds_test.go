package show_test

import (
	"testing"

	"ballcock/api"
)

// The tests here have the text of each kind of node, with each of its parts there and not there.

func TestP8_1_Program(t *testing.T) {
	prints(t, inProgram(), "")
	prints(t, inProgram(proto), "proto P { }\n")
	prints(t, inProgram(fn), "fn f() { }\n")
	prints(t, inProgram(proto, fn), "proto P { }\nfn f() { }\n")
	prints(t, inProgram(fn, proto), "fn f() { }\nproto P { }\n")
	prints(t, inProgram(fn, of(api.NodeProto, "Q", state), of(api.NodeFn, "g", exits), proto, fn, proto),
		"fn f() { }\nproto Q {\n  state s;\n}\nfn g() {\n  exit;\n}\nproto P { }\nfn f() { }\nproto P { }\n")
}

func TestP8_1_Example(t *testing.T) {
	prints(t, inProgram(of(api.NodeFn, "main", exits)), "fn main() {\n  exit;\n}\n")
	prints(t, inProgram(of(api.NodeFn, "main", block)), "fn main() { }\n")
}

func TestP8_1_Protocol(t *testing.T) {
	a, z := of(api.NodeState, "A", 0), of(api.NodeState, "Z", 1)
	op := of(api.NodeOp, "close", "A", "ok", "Z")
	prints(t, inProgram(of(api.NodeProto, "File")), "proto File { }\n")
	prints(t, inProgram(of(api.NodeProto, "File", a)), "proto File {\n  state A;\n}\n")
	prints(t, inProgram(of(api.NodeProto, "File", z)), "proto File {\n  final Z;\n}\n")
	prints(t, inProgram(of(api.NodeProto, "File", op)), "proto File {\n  op close A -> ok Z;\n}\n")
	prints(t, inProgram(of(api.NodeProto, "File", a, z, op)), "proto File {\n  state A;\n  final Z;\n  op close A -> ok Z;\n}\n")
	prints(t, inProgram(of(api.NodeProto, "File", op, z, op, a, a, z)), "proto File {\n  op close A -> ok Z;\n  final Z;\n  op close A -> ok Z;\n  state A;\n  state A;\n  final Z;\n}\n")
}

func TestP8_1_ProtocolParts(t *testing.T) {
	protoPart(t, of(api.NodeState, "A", 0), "state A;")
	protoPart(t, of(api.NodeState, "A", 1), "final A;")
	protoPart(t, of(api.NodeState, "sixteen_letters_", 0), "state sixteen_letters_;")
	protoPart(t, of(api.NodeOp, "go", "A", "ok", "B"), "op go A -> ok B;")
	protoPart(t, of(api.NodeOp, "go", "A", "ok", "B", "no", "C"), "op go A -> ok B, no C;")
	protoPart(t, of(api.NodeOp, "go", "A", "ok", "B", "no", "C", "other", "D"), "op go A -> ok B, no C, other D;")
	protoPart(t, of(api.NodeOp, "a", "b", "c", "d", "e", "f", "g", "h", "i", "j", "k", "l"), "op a b -> c d, e f, g h, i j, k l;")
	protoPart(t, of(api.NodeOp, "x", "x", "x", "x", "x", "x"), "op x x -> x x, x x;")
}

func TestP8_1_Function(t *testing.T) {
	a, b, c := of(api.NodeParam, "a"), of(api.NodeParam, "b", "P", api.Imm, 0, 0), of(api.NodeParam, "c")
	prints(t, inProgram(of(api.NodeFn, "f", block)), "fn f() { }\n")
	prints(t, inProgram(of(api.NodeFn, "f", a, block)), "fn f(a) { }\n")
	prints(t, inProgram(of(api.NodeFn, "f", b, block)), "fn f(b: P imm) { }\n")
	prints(t, inProgram(of(api.NodeFn, "f", a, b, block)), "fn f(a, b: P imm) { }\n")
	prints(t, inProgram(of(api.NodeFn, "f", a, b, c, block)), "fn f(a, b: P imm, c) { }\n")
	prints(t, inProgram(of(api.NodeFn, "f", b, b, a, a, exits)), "fn f(b: P imm, b: P imm, a, a) {\n  exit;\n}\n")
	prints(t, inProgram(of(api.NodeFn, "f", exits)), "fn f() {\n  exit;\n}\n")
	prints(t, inProgram(of(api.NodeFn, "_9", of(api.NodeBlock, many(3, exit)))), "fn _9() {\n  exit;\n  exit;\n  exit;\n}\n")
}

func TestP8_1_Params(t *testing.T) {
	param(t, of(api.NodeParam, "x"), "x")
	for kind, word := range map[int]string{api.Unique: "unique", api.Full: "full", api.Share: "share", api.Imm: "imm", api.Pure: "pure"} {
		param(t, of(api.NodeParam, "x", "P", kind, 0, 0), "x: P "+word)
		param(t, of(api.NodeParam, "x", "P", kind, 1, 4), "x: P "+word+" least 1/4")
	}
	param(t, of(api.NodeParam, "x", "P", api.Imm, 4, 1), "x: P imm least 4/1")
	param(t, of(api.NodeParam, "x", "P", api.Imm, 1, 1), "x: P imm least 1/1")
	param(t, of(api.NodeParam, "x", "P", api.Imm, 10, 20), "x: P imm least 10/20")
	param(t, of(api.NodeParam, "x", "P", api.Unique, 999_999_999_999_999_999, 999_999_999_999_999_998), "x: P unique least 999999999999999999/999999999999999998")
}

func TestP8_1_ParamsNames(t *testing.T) {
	at, to, in := of(api.NodeNames, "A", api.NamesAt), of(api.NodeNames, "B", "C", api.NamesTo), of(api.NodeNames, "D", "E", "F", api.NamesIn)
	for _, c := range []struct {
		names []branch
		want  string
	}{
		{[]branch{at}, " at A"},
		{[]branch{to}, " to B|C"},
		{[]branch{in}, " in D|E|F"},
		{[]branch{at, to}, " at A to B|C"},
		{[]branch{at, in}, " at A in D|E|F"},
		{[]branch{to, in}, " to B|C in D|E|F"},
		{[]branch{at, to, in}, " at A to B|C in D|E|F"},
	} {
		param(t, of(api.NodeParam, "x", "P", api.Share, 0, 0, c.names), "x: P share"+c.want)
		param(t, of(api.NodeParam, "x", "P", api.Full, 2, 3, c.names), "x: P full least 2/3"+c.want)
	}
	for which, word := range []string{" at ", " to ", " in "} {
		for names, want := range map[int]string{1: "s", 2: "s|s", 3: "s|s|s", 9: "s|s|s|s|s|s|s|s|s"} {
			b := of(api.NodeNames, which)
			for range names {
				b.words = append(b.words, "s")
			}
			param(t, of(api.NodeParam, "x", "P", api.Pure, 0, 0, b), "x: P pure"+word+want)
		}
		param(t, of(api.NodeParam, "x", "P", api.Pure, 0, 0, of(api.NodeNames, which, "B", "A", "C", "A")), "x: P pure"+word+"B|A|C|A")
	}
}

func TestP8_1_Sets(t *testing.T) {
	statement(t, of(api.NodeLet, "x", one), "let x = 1;")
	statement(t, of(api.NodeLet, "a9_", name("b")), "let a9_ = b;")
	statement(t, of(api.NodeSet, "x", one), "x = 1;")
	statement(t, of(api.NodeSet, "a9_", name("b")), "a9_ = b;")
}

func TestP8_1_Opens(t *testing.T) {
	statement(t, of(api.NodeOpen, "f", "File", block, block), "open f File { } else { }")
	statement(t, of(api.NodeOpen, "f", "File", exits, block), "open f File {", "  exit;", "} else { }")
	statement(t, of(api.NodeOpen, "f", "File", block, exits), "open f File { } else {", "  exit;", "}")
	statement(t, of(api.NodeOpen, "f", "File", exits, of(api.NodeBlock, of(api.NodeReturn, one), exit)), "open f File {", "  exit;", "} else {", "  return 1;", "  exit;", "}")
}

func TestP8_1_Dos(t *testing.T) {
	statement(t, of(api.NodeDo, "f", "close"), "do f.close;")
	statement(t, of(api.NodeDo, "f", "read", ok), "do f.read {", "  ok { }", "}")
	statement(t, of(api.NodeDo, "f", "read", of(api.NodeCase, "some", exits)), "do f.read {", "  some {", "    exit;", "  }", "}")
	statement(t, of(api.NodeDo, "f", "read", of(api.NodeCase, "some", exits), of(api.NodeCase, "none", block)), "do f.read {", "  some {", "    exit;", "  }", "  none { }", "}")
	statement(t, of(api.NodeDo, "f", "read", ok, of(api.NodeCase, "no", exits), ok, ok), "do f.read {", "  ok { }", "  no {", "    exit;", "  }", "  ok { }", "  ok { }", "}")
	inner := of(api.NodeDo, "c", "d", ok)
	statement(t, of(api.NodeDo, "a", "b", of(api.NodeCase, "e", of(api.NodeBlock, inner, exit)), ok),
		"do a.b {", "  e {", "    do c.d {", "      ok { }", "    }", "    exit;", "  }", "  ok { }", "}")
}

func TestP8_1_Splits(t *testing.T) {
	for kind, word := range map[int]string{api.Full: "full", api.Share: "share", api.Imm: "imm", api.Pure: "pure"} {
		statement(t, of(api.NodeSplit, "g", "f", kind, 1, 2, block), "split g = f "+word+" 1/2 { }")
		statement(t, of(api.NodeSplit, "g", "f", kind, 1, 2, inS, exits), "split g = f "+word+" 1/2 in s {", "  exit;", "}")
	}
	statement(t, of(api.NodeSplit, "g", "f", api.Imm, 2, 1, exits), "split g = f imm 2/1 {", "  exit;", "}")
	statement(t, of(api.NodeSplit, "g", "f", api.Imm, 1, 1, of(api.NodeNames, "A", "B", api.NamesIn), block), "split g = f imm 1/1 in A|B { }")
	statement(t, of(api.NodeSplit, "g", "f", api.Imm, 20, 30, of(api.NodeNames, "B", "A", "C", api.NamesIn), exits), "split g = f imm 20/30 in B|A|C {", "  exit;", "}")
	statement(t, of(api.NodeSplit, "g", "f", api.Pure, 999_999_999_999_999_998, 999_999_999_999_999_999, block), "split g = f pure 999999999999999998/999999999999999999 { }")
}

func TestP8_1_Calls(t *testing.T) {
	for _, c := range []struct {
		args []branch
		want string
	}{
		{nil, ""},
		{[]branch{one}, "1"},
		{[]branch{handle}, "&h"},
		{[]branch{name("h")}, "h"},
		{[]branch{one, name("x")}, "1, x"},
		{[]branch{handle, handle}, "&h, &h"},
		{[]branch{handle, neg(one), of(api.NodeHandle, "g"), name("g")}, "&h, -1, &g, g"},
		{[]branch{bin(api.BinLess, one, name("x")), handle, bin(api.BinMul, one, one)}, "1 < x, &h, 1 * 1"},
	} {
		statement(t, of(api.NodeCall, "g", c.args), "call g("+c.want+");")
		statement(t, of(api.NodeCall, "g", "x", c.args), "call x = g("+c.want+");")
		statement(t, of(api.NodeCall, "g", "g", c.args), "call g = g("+c.want+");")
	}
}

func TestP8_1_Ifs(t *testing.T) {
	statement(t, of(api.NodeIf, one, block), "if 1 { }")
	statement(t, of(api.NodeIf, name("x"), exits), "if x {", "  exit;", "}")
	statement(t, of(api.NodeIf, one, block, block), "if 1 { } else { }")
	statement(t, of(api.NodeIf, one, exits, block), "if 1 {", "  exit;", "} else { }")
	statement(t, of(api.NodeIf, one, block, exits), "if 1 { } else {", "  exit;", "}")
	statement(t, of(api.NodeIf, one, exits, of(api.NodeBlock, exit, exit)), "if 1 {", "  exit;", "} else {", "  exit;", "  exit;", "}")
	// An if alone in the block behind an else stands on a line of its own.
	inner := of(api.NodeIf, name("y"), block, block)
	statement(t, of(api.NodeIf, name("x"), of(api.NodeBlock, inner), of(api.NodeBlock, inner)), "if x {", "  if y { } else { }", "} else {", "  if y { } else { }", "}")
}

func TestP8_1_Others(t *testing.T) {
	statement(t, of(api.NodeWhile, one, block), "while 1 { }")
	statement(t, of(api.NodeWhile, name("x"), of(api.NodeBlock, exit, exit)), "while x {", "  exit;", "  exit;", "}")
	statement(t, of(api.NodeReturn, one), "return 1;")
	statement(t, of(api.NodeReturn, name("x")), "return x;")
	statement(t, exit, "exit;")
}

// TestP8_1_BlocksInBlocks has an inner block at each place where one can stand.
func TestP8_1_BlocksInBlocks(t *testing.T) {
	statement(t, of(api.NodeWhile, one, of(api.NodeBlock, of(api.NodeWhile, one, block))), "while 1 {", "  while 1 { }", "}")
	for _, c := range []struct {
		in     func(b branch) branch
		before []string
		behind []string
	}{
		{func(b branch) branch { return of(api.NodeOpen, "f", "P", b, block) }, []string{"open f P {"}, []string{"} else { }"}},
		{func(b branch) branch { return of(api.NodeOpen, "f", "P", exits, b) }, []string{"open f P {", "  exit;", "} else {"}, []string{"}"}},
		{func(b branch) branch { return of(api.NodeSplit, "g", "f", api.Imm, 1, 2, b) }, []string{"split g = f imm 1/2 {"}, []string{"}"}},
		{func(b branch) branch { return of(api.NodeSplit, "g", "f", api.Imm, 1, 2, inS, b) }, []string{"split g = f imm 1/2 in s {"}, []string{"}"}},
		{func(b branch) branch { return of(api.NodeIf, one, b) }, []string{"if 1 {"}, []string{"}"}},
		{func(b branch) branch { return of(api.NodeIf, one, b, exits) }, []string{"if 1 {"}, []string{"} else {", "  exit;", "}"}},
		{func(b branch) branch { return of(api.NodeIf, one, block, b) }, []string{"if 1 { } else {"}, []string{"}"}},
		{func(b branch) branch { return of(api.NodeWhile, one, b) }, []string{"while 1 {"}, []string{"}"}},
	} {
		for inner, lines := range [][]string{{"exit;"}, {"while 1 {", "  exit;", "}"}, {"do h.go {", "  ok { }", "}"}, {"if 1 { } else {", "  exit;", "}"}} {
			b := []branch{exit, of(api.NodeWhile, one, exits), of(api.NodeDo, "h", "go", ok), of(api.NodeIf, one, block, exits)}[inner]
			want := append([]string{}, c.before...)
			for range 2 {
				for _, line := range lines {
					want = append(want, "  "+line)
				}
			}
			statement(t, c.in(of(api.NodeBlock, b, b)), append(want, c.behind...)...)
		}
	}
}

// TestP8_1_EachDepth nests statements up to the greatest depth of a node.
func TestP8_1_EachDepth(t *testing.T) {
	type nest struct {
		most   int
		in     func(b ...branch) branch
		before []string
		behind []string
	}
	for _, n := range []nest{
		{10, func(b ...branch) branch { return of(api.NodeIf, one, of(api.NodeBlock, b)) }, []string{"if 1 {"}, []string{"}"}},
		{10, func(b ...branch) branch { return of(api.NodeIf, one, exits, of(api.NodeBlock, b)) }, []string{"if 1 {", "  exit;", "} else {"}, []string{"}"}},
		{10, func(b ...branch) branch { return of(api.NodeWhile, one, of(api.NodeBlock, b)) }, []string{"while 1 {"}, []string{"}"}},
		{10, func(b ...branch) branch { return of(api.NodeOpen, "h", "P", of(api.NodeBlock, b), exits) }, []string{"open h P {"}, []string{"} else {", "  exit;", "}"}},
		{10, func(b ...branch) branch { return of(api.NodeSplit, "g", "h", api.Pure, 1, 2, of(api.NodeBlock, b)) }, []string{"split g = h pure 1/2 {"}, []string{"}"}},
		{6, func(b ...branch) branch {
			return of(api.NodeDo, "h", "go", ok, of(api.NodeCase, "no", of(api.NodeBlock, b)))
		}, []string{"do h.go {", "  ok { }", "  no {"}, []string{"  }", "}"}},
	} {
		b, lines := exit, []string{"exit;"}
		for range n.most {
			b = n.in(b, exit)
			inner := append(lines, "exit;")
			blanks := "  "
			if b.kind == api.NodeDo {
				blanks = "    "
			}
			lines = append([]string{}, n.before...)
			for _, line := range inner {
				lines = append(lines, blanks+line)
			}
			lines = append(lines, n.behind...)
			prints(t, inBlock(b, exit), "fn f() {\n"+indented("  ", lines)+"  exit;\n}\n")
		}
	}
}

// TestP8_1_Long has programs with texts that are too long to be parsed, and of the most nodes.
func TestP8_1_Long(t *testing.T) {
	prints(t, inProgram(many(1499, proto)...), times(1499, "proto P { }\n"))
	prints(t, inBlock(many(1497, exit)...), "fn f() {\n"+times(1497, "  exit;\n")+"}\n")
	prints(t, inBlock(of(api.NodeCall, "g", many(1496, handle))), "fn f() {\n  call g(&h"+times(1495, ", &h")+");\n}\n")
	op := of(api.NodeOp, "go", "s")
	for range 5000 {
		op.words = append(op.words, "ok", "s")
	}
	prints(t, inProgram(of(api.NodeProto, "P", op)), "proto P {\n  op go s -> ok s"+times(4999, ", ok s")+";\n}\n")
	names := of(api.NodeNames, api.NamesTo)
	for range 10_000 {
		names.words = append(names.words, "sixteen_letters_")
	}
	prints(t, inProgram(of(api.NodeFn, "f", of(api.NodeParam, "p", "P", api.Imm, 0, 0, names), block)), "fn f(p: P imm to sixteen_letters_"+times(9999, "|sixteen_letters_")+") { }\n")
	long, want := neg(name("sixteen_letters_")), "-sixteen_letters_"
	long, want = bin(api.BinSub, long, long), want+" - "+want
	for range 6 {
		long, want = bin(api.BinSub, long, long), want+" - ("+want+")"
	}
	expression(t, long, want)
}

// TestP8_1_All has all of it in one program.
func TestP8_1_All(t *testing.T) {
	x := name("x")
	prints(t, inProgram(
		of(api.NodeProto, "P", of(api.NodeState, "A", 0), of(api.NodeState, "Z", 1), of(api.NodeOp, "go", "A", "ok", "A", "no", "Z")),
		of(api.NodeFn, "f", of(api.NodeParam, "n"), of(api.NodeParam, "h", "P", api.Imm, 1, 4, of(api.NodeNames, "A", "Z", api.NamesAt), of(api.NodeNames, "Z", api.NamesTo)), of(api.NodeBlock,
			of(api.NodeLet, "x", bin(api.BinMul, bin(api.BinAdd, one, x), neg(x))),
			of(api.NodeOpen, "w", "P", of(api.NodeBlock,
				of(api.NodeDo, "w", "go", of(api.NodeCase, "ok", of(api.NodeBlock, of(api.NodeDo, "w", "go"))), of(api.NodeCase, "no", block)),
			), of(api.NodeBlock, exit)),
			of(api.NodeSplit, "g", "h", api.Pure, 1, 2, of(api.NodeNames, "A", api.NamesIn), of(api.NodeBlock,
				of(api.NodeCall, "f", "x", x, of(api.NodeHandle, "g")),
			)),
			of(api.NodeIf, bin(api.BinSame, x, one), of(api.NodeBlock, of(api.NodeReturn, x)), of(api.NodeBlock, of(api.NodeWhile, x, block))),
			of(api.NodeSet, "x", bin(api.BinSub, x, bin(api.BinSub, x, one))),
		)),
		of(api.NodeFn, "main", block),
	), `proto P {
  state A;
  final Z;
  op go A -> ok A, no Z;
}
fn f(n, h: P imm least 1/4 at A|Z to Z) {
  let x = (1 + x) * -x;
  open w P {
    do w.go {
      ok {
        do w.go;
      }
      no { }
    }
  } else {
    exit;
  }
  split g = h pure 1/2 in A {
    call x = f(x, &g);
  }
  if x == 1 {
    return x;
  } else {
    while x { }
  }
  x = x - (x - 1);
}
fn main() { }
`)
}
