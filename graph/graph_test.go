package graph_test

import (
	"math"
	"slices"
	"strconv"
	"strings"
	"testing"

	"ballcock/api"
	"ballcock/graph"
	"ballcock/parse"
)

// parsed is the tree of a text.
func parsed(t *testing.T, text string) []api.Node {
	t.Helper()
	l, fault := parse.Parse(text)
	if fault.Err != api.OK {
		t.Fatalf("%.300s: the fault %v at %d", text, fault.Err, fault.At)
	}
	return l
}

// unmarked takes the marks @ out of a text, and tells the offsets of what they stand ahead of.
func unmarked(text string) (string, []int) {
	parts := strings.Split(text, "@")
	var offsets []int
	at := 0
	for _, part := range parts[:len(parts)-1] {
		at += len(part)
		offsets = append(offsets, at)
	}
	return strings.Join(parts, ""), offsets
}

// ops are the names of instructions in these tests, by the numbers of package api.
var ops = []string{"let", "open", "shut", "do", "split", "join", "call", "if", "return", "exit", "jump"}

// place is an index as a text; - for -1.
func place(i int) string {
	if i == -1 {
		return "-"
	}
	return strconv.Itoa(i)
}

// written is an instruction as a text: whose it is, its Op, Var, Old, Next, Else, and its Outs with their Cases.
func written(whose string, in api.Instr) string {
	l := []string{whose, "op" + strconv.Itoa(in.Op), place(in.Var), place(in.Old), place(in.Next), place(in.Else)}
	if in.Op >= 0 && in.Op < len(ops) {
		l[1] = ops[in.Op]
	}
	for i := range max(len(in.Outs), len(in.Cases)) {
		out, at := "missing", "missing"
		if i < len(in.Outs) {
			out = in.Outs[i]
		}
		if i < len(in.Cases) {
			at = place(in.Cases[i])
		}
		l = append(l, out+":"+at)
	}
	return strings.Join(l, " ")
}

// letters tells each statement at a mark by a letter: the first one by a, and so on.
func letters(t *testing.T, l []api.Node, offsets []int) map[int]string {
	t.Helper()
	named := map[int]string{-1: "-"}
	for i, offset := range offsets {
		// Of all nodes at the offset of a statement, the statement is the first one.
		at := slices.IndexFunc(l, func(n api.Node) bool { return n.At == offset && n.Kind >= api.NodeLet && n.Kind <= api.NodeExit })
		if at < 0 {
			t.Fatalf("there is no statement at the offset %d", offset)
		}
		named[at] = string(rune('a' + i))
	}
	return named
}

// makes checks the instructions of the function f of a text (of main if there is no f), each of them written as above and
// told by the letter of its statement. A mark @ stands ahead of each statement.
func makes(t *testing.T, marked string, want ...string) {
	t.Helper()
	text, offsets := unmarked(marked)
	l := parsed(t, text)
	named := letters(t, l, offsets)
	all(t, l)
	code, ok := graph.Func(l, "f")
	if !ok {
		code, ok = graph.Func(l, "main")
	}
	var got []string
	for _, in := range code.Ins {
		whose, known := named[in.Node]
		if !known {
			whose = "node" + strconv.Itoa(in.Node)
		}
		got = append(got, written(whose, in))
	}
	if !ok || !slices.Equal(got, want) {
		t.Errorf("%.400s, %v: the instructions\n%s; want\n%s", marked, ok, strings.Join(got, "\n"), strings.Join(want, "\n"))
	}
}

// in puts a text in the place of each mark % of another one.
func in(outer, inner string) string {
	return strings.ReplaceAll(outer, "%", inner)
}

// inF is a program whose function f has some statements. It has the parameters n, h, s and i with the slots 0 to 3.
func inF(statements string) string {
	return in("fn f(n, h: File imm at Open, s: Socket share in Live, i: Iter full at Ready) { % } fn main() { } fn zero() { } fn one(a) { }", statements)
}

// inMain is a program whose function main has some statements, and neither parameters nor a function f beside it.
func inMain(statements string) string {
	return in("fn zero() { } fn main() { % } fn one(a) { }", statements)
}

// slots are those of a code as a text: numbers ("a") and handles with their protocols ("b:File").
func slots(c api.Code) string {
	var l []string
	for _, s := range c.Slots {
		text := s.Name
		if s.Handle {
			text += ":" + s.Proto
		} else if s.Proto != "" {
			text += " has the protocol " + s.Proto
		}
		l = append(l, text)
	}
	return strings.Join(l, " ")
}

// codeOf is the code of a function that has to be there.
func codeOf(t *testing.T, l []api.Node, name string) api.Code {
	t.Helper()
	code, ok := graph.Func(l, name)
	if !ok {
		t.Fatalf("there is no function %s", name)
	}
	return code
}

// isNone tells whether a code is the zero Code.
func isNone(c api.Code) bool {
	return c.Name == "" && c.Node == 0 && c.Params == 0 && len(c.Slots) == 0 && len(c.Ins) == 0
}

// missing checks that a tree has no function of some names.
func missing(t *testing.T, what string, l []api.Node, names ...string) {
	t.Helper()
	for _, name := range names {
		if code, ok := graph.Func(l, name); ok || !isNone(code) {
			t.Errorf("%.300s: Func(%.40q) = %v, %v", what, name, code, ok)
		}
	}
}

func TestP16_1_Unmarked(t *testing.T) {
	if text, offsets := unmarked("a @bc @@d"); text != "a bc d" || !slices.Equal(offsets, []int{2, 5, 5}) {
		t.Errorf("%q, %v", text, offsets)
	}
}

// several is a program of functions with different codes, whose nodes and instructions are told below.
const several = "fn first(a) { let b = 1; } proto P { state A; final Z; op end A -> ok Z; } fn second(x: P unique at A to Z, y) { do x.end; } fn main() { exit; } proto Q { final Z; } fn fourth() { return 1; } fn File() { if 1 { } }"

// functions are those of several: the name, the number of parameters, the slots, and the first instruction's Op.
var functions = []struct {
	name   string
	params int
	slots  string
	first  int
	count  int
}{
	{"first", 1, "a b", api.InLet, 2},
	{"second", 2, "x:P y", api.InDo, 2},
	{"main", 0, "", api.InExit, 2},
	{"fourth", 0, "", api.InReturn, 2},
	{"File", 0, "", api.InIf, 3},
}

// isFunction holds a code against one of the functions above.
func isFunction(t *testing.T, l []api.Node, i int, code api.Code) {
	t.Helper()
	want := functions[i]
	if code.Name != want.name || code.Params != want.params || slots(code) != want.slots || len(code.Ins) != want.count || code.Ins[0].Op != want.first {
		t.Errorf("%s has the code %v", want.name, code)
	}
	if n := l[code.Node]; n.Kind != api.NodeFn || n.Words[0] != want.name {
		t.Errorf("%s has the node %d", want.name, code.Node)
	}
}

func TestP16_1_Func(t *testing.T) {
	l := parsed(t, several)
	for i, f := range functions {
		isFunction(t, l, i, codeOf(t, l, f.name))
		isFunction(t, l, i, codeOf(t, l, string([]byte(f.name))))
	}
	missing(t, several, l, "", " ", "third", "First", "firs", "firsts", "P", "Q", "Z", "end", "a", "b", "x", "y", "fn", "main ", " main", "main\x00", "?", "\xff", strings.Repeat("main", 1000), "Socket", "0")
}

func TestP16_1_All(t *testing.T) {
	l := parsed(t, several)
	all := graph.All(l)
	if len(all) != len(functions) {
		t.Fatalf("%d codes", len(all))
	}
	for i, code := range all {
		isFunction(t, l, i, code)
	}
	// One function, in all of its places.
	for _, text := range []string{"fn main() { exit; }", "proto P { final Z; } fn main() { exit; }", "fn main() { exit; } proto P { final Z; }"} {
		l := parsed(t, text)
		if all := graph.All(l); len(all) != 1 {
			t.Errorf("%s: %d codes", text, len(all))
		} else {
			isFunction(t, l, 2, all[0])
		}
		isFunction(t, l, 2, codeOf(t, l, "main"))
		missing(t, text, l, "f", "P", "")
	}
}

// TestP16_1_AllOfMany has more and more functions, in an order that is not that of their names, with main at each place.
func TestP16_1_AllOfMany(t *testing.T) {
	for _, count := range []int{2, 3, 10, 26, 490} {
		var names []string
		for i := range count {
			names = append(names, "f"+strconv.Itoa(i*7919%1000))
		}
		names[count/2] = "main"
		l := parsed(t, "fn "+strings.Join(names, "(){}fn ")+"(){}")
		all := graph.All(l)
		if len(all) != count {
			t.Fatalf("%d codes of %d functions", len(all), count)
		}
		for i, code := range all {
			if code.Name != names[i] || code.Node != 2*i+1 || len(code.Ins) != 1 {
				t.Fatalf("the function %d of %d is %v", i, count, code)
			}
		}
		for _, i := range []int{0, 1, count / 2, count - 1} {
			if code := codeOf(t, l, names[i]); code.Name != names[i] || code.Node != 2*i+1 {
				t.Errorf("%s of %d: %v", names[i], count, code)
			}
		}
	}
}

// TestP16_1_NoFunction has no function at all, which is a diagnostic of layer 13.
func TestP16_1_NoFunction(t *testing.T) {
	for _, text := range []string{"", " # nothing", "proto P { final Z; }", "proto main { final main; }"} {
		l := parsed(t, text)
		missing(t, text, l, "main", "P", "Z", "")
		if all := graph.All(l); len(all) != 0 {
			t.Errorf("%s: the codes %v", text, all)
		}
	}
}

// TestP16_1_TwoOfOneName has two functions of one name, which is a diagnostic of layer 12.
func TestP16_1_TwoOfOneName(t *testing.T) {
	for _, text := range []string{"fn f() { } fn main() { } fn f() { }", "fn f() { } fn f(a) { exit; } fn main() { }", "fn main() { } fn main() { exit; }", "fn main() { } fn g() { } fn main(a) { }", "fn g() { } fn g() { } fn g() { } fn main() { }"} {
		l := parsed(t, text)
		missing(t, text, l, "f", "g", "main", "h", "")
		if all := graph.All(l); len(all) != 0 {
			t.Errorf("%s: the codes %v", text, all)
		}
	}
}

func TestP16_1_Slots(t *testing.T) {
	for _, c := range []struct {
		f      string
		params int
		want   string
	}{
		{"fn f() { }", 0, ""},
		{"fn f(a) { }", 1, "a"},
		{"fn f(a, b, c) { }", 3, "a b c"},
		{"fn f(c: File imm at Open, a, b: Iter share in Ready) { }", 3, "c:File a b:Iter"},
		{"fn f(a: P unique at A to Z, b: Socket full least 1/2 at Live to Dead in Live|Dead) { } proto P { state A; final Z; op end A -> ok Z; }", 2, "a:P b:Socket"},
		// A contract that is wrong is layer 14's.
		{"fn f(a: File pure least 3/2 at Nowhere to Shut|Shut in Shut) { }", 1, "a:File"},
		// Lets.
		{"fn f() { let b = 1; let a = b; }", 0, "b a"},
		{"fn f(b, a) { let d = 1; let c = a + b; }", 2, "b a d c"},
		{"fn f(h: File imm at Open) { let a = 1; a = 2; let b = a; call a = f(&h); }", 1, "h:File a b"},
		// Opens.
		{"fn f() { open b File { } else { } open a Iter { } else { } }", 0, "b:File a:Iter"},
		{"fn f(x) { open b P { } else { } } proto P { final Z; }", 1, "x b:P"},
		// Splits, also of splits, and of parts of different handles.
		{"fn f(h: File imm at Open) { split b = h imm 1/2 { } split a = h pure 1/3 in Open { } }", 1, "h:File b:File a:File"},
		{"fn f(h: Iter imm at Ready) { split b = h imm 1/2 { split a = b imm 1/2 { split c = h imm 1/2 { split d = a imm 1/3 { } } } } }", 1, "h:Iter b:Iter a:Iter c:Iter d:Iter"},
		{"fn f(h: Iter imm at Ready, s: Socket pure in Live) { split b = s pure 1/2 { split a = h imm 1/2 { split c = b pure 1/2 { } } } open o File { split p = o imm 1/2 { } } else { } }", 2, "h:Iter s:Socket b:Socket a:Iter c:Socket o:File p:File"},
		// No variables of others.
		{"fn f(a) { call g(1, 2, 3); } fn g(x, y, z) { let v = 1; }", 1, "a"},
		{"fn g(x) { let a = 1; } fn f(b) { let c = 1; } fn h(d) { let e = 1; }", 1, "b c"},
	} {
		code := codeOf(t, parsed(t, c.f+" fn main() { }"), "f")
		if got := slots(code); got != c.want || code.Params != c.params {
			t.Errorf("%s: %d parameters, the slots %s; want %d, %s", c.f, code.Params, got, c.params, c.want)
		}
	}
}

// TestP16_1_SlotsInBlocks has variables of each kind within each kind of Block, and one variable ahead of it and one behind it.
func TestP16_1_SlotsInBlocks(t *testing.T) {
	for _, b := range blocks {
		for declared, want := range map[string]string{
			"let x = 1;":                 "x",
			"open x Socket { } else { }": "x:Socket",
			"split x = h imm 1/2 { }":    "x:File",
			"split x = s pure 1/2 in Live { let y = 1; open z Iter { } else { } }":                         "x:Socket y z:Iter",
			"let x = 1; let y = x; open z File { split u = z imm 1/2 { } let v = 2; } else { let w = 3; }": "x y z:File u:File v w",
		} {
			code := codeOf(t, parsed(t, inF("let ahead = 1; "+in(b.text, declared)+" let behind = 2;")), "f")
			all := "n h:File s:Socket i:Iter ahead " + in(b.slots, want) + " behind"
			if got := slots(code); got != strings.Join(strings.Fields(all), " ") || code.Params != 4 {
				t.Errorf("%s in %s: the slots %s, %d parameters", declared, b.text, got, code.Params)
			}
		}
	}
}

// TestP16_1_SlotsOrder has variables in all Blocks of one function: they come in the order in which they occur.
func TestP16_1_SlotsOrder(t *testing.T) {
	code := codeOf(t, parsed(t, inF("let a = 1; if a { let b = 1; open c File { let d = 1; } else { let e = 1; } } else { let g = 1; } "+
		"do s.peek { some { let j = 1; split k = s pure 1/2 { let l = 1; } let m = 1; } none { let o = 1; } } while a { let p = 1; } let q = 1; open r Iter { split t = r imm 1/2 { } } else { open u Socket { } else { } } let v = 1;")), "f")
	if got := slots(code); got != "n h:File s:Socket i:Iter a b c:File d e g j k:Socket l m o p q r:Iter t:Iter u:Socket v" {
		t.Errorf("the slots %s", got)
	}
}

// TestP16_1_SlotsOfOneName has names that come back when they may: each variable has a slot of its own.
func TestP16_1_SlotsOfOneName(t *testing.T) {
	code := codeOf(t, parsed(t, inF("if 1 { let x = 1; } else { let x = 2; } while 1 { let x = 3; } open x File { } else { open x Iter { } else { let x = 4; } } split x = s pure 1/2 { } let x = 5;")), "f")
	if got := slots(code); got != "n h:File s:Socket i:Iter x x x x:File x:Iter x x:Socket x" {
		t.Errorf("the slots %s", got)
	}
	makes(t, inF("@if 1 { @let x = 1; @x = 2; } else { @let x = 3; @x = 4; } @let x = 5; @x = 6; @call x = zero();"),
		"a if - - 1 4", "b let 4 - 2 -", "c let 4 - 3 -", "a jump - - 6 -", "d let 5 - 5 -", "e let 5 - 6 -", "f let 6 - 7 -", "g let 6 - 8 -", "h call 6 - 9 -", "- return - - - -")
	makes(t, inF("@open x File { @do x.size; } else { @open x Iter { @do x.left; } else { } } @split x = s pure 1/2 { @do x.close; @split y = x pure 1/2 { } } @split x = h imm 1/2 { @do x.size; }"),
		"a open 4 - 1 3", "b do 4 - - - ok:2", "a shut 4 - 6 -", "c open 5 - 4 6", "d do 5 - - - ok:5", "c shut 5 - 6 -",
		"e split 6 2 7 -", "f do 6 - - - ok:8", "g split 7 6 9 -", "g join 7 6 10 -", "e join 6 2 11 -", "h split 8 1 12 -", "i do 8 - - - ok:13", "h join 8 1 14 -", "- return - - - -")
}

// oddTree is a tree whose indices and offsets are not in the order of the children.
func oddTree() []api.Node {
	return []api.Node{
		{Kids: []int{3, 1}, At: 50},
		{Kind: api.NodeFn, Words: []string{"main"}, Kids: []int{2}, At: -7},
		{Kind: api.NodeBlock, At: 2},
		{Kind: api.NodeFn, Words: []string{"g"}, Kids: []int{6, 5, 4}, At: math.MaxInt},
		{Kind: api.NodeBlock, Kids: []int{19, 8, 7}},
		{Kind: api.NodeParam, Words: []string{"a"}, At: 30},
		{Kind: api.NodeParam, Words: []string{"b", "File"}, Nums: []int64{api.Imm, 0, 0}, Kids: []int{22}, At: 40},
		{Kind: api.NodeOpen, Words: []string{"e", "Socket"}, Kids: []int{12, 9}, At: 9},
		{Kind: api.NodeDo, Words: []string{"b", "read"}, Kids: []int{15, 11}, At: math.MinInt},
		{Kind: api.NodeBlock, Kids: []int{10}},
		{Kind: api.NodeOpen, Words: []string{"k", "File"}, Kids: []int{17, 14}, At: 1},
		{Kind: api.NodeCase, Words: []string{"some"}, Kids: []int{13}, At: 3},
		{Kind: api.NodeBlock}, {Kind: api.NodeBlock},
		{Kind: api.NodeBlock, Kids: []int{24}},
		{Kind: api.NodeCase, Words: []string{"none"}, Kids: []int{16}, At: 99},
		{Kind: api.NodeBlock, Kids: []int{18}},
		{Kind: api.NodeBlock, Kids: []int{20}},
		{Kind: api.NodeSplit, Words: []string{"d", "b"}, Nums: []int64{api.Imm, 1, 2}, Kids: []int{21}, At: 12},
		{Kind: api.NodeLet, Words: []string{"c"}, Kids: []int{23}, At: 60},
		{Kind: api.NodeSet, Words: []string{"a"}, Kids: []int{25}, At: 8},
		{Kind: api.NodeBlock},
		{Kind: api.NodeNames, Words: []string{"Open"}, Nums: []int64{api.NamesAt}},
		{Kind: api.NodeNum, Nums: []int64{1}},
		{Kind: api.NodeCall, Words: []string{"g", "c"}, Kids: []int{27, 26}, At: 70},
		{Kind: api.NodeNum, Nums: []int64{2}},
		{Kind: api.NodeNum, Nums: []int64{3}},
		{Kind: api.NodeHandle, Words: []string{"b"}},
	}
}

// TestP16_1_OddOrder has trees whose indices and offsets are not in the order of the children.
func TestP16_1_OddOrder(t *testing.T) {
	l := oddTree()
	all := all(t, l)
	if len(all) != 2 || all[0].Name != "g" || all[0].Node != 3 || all[1].Name != "main" || all[1].Node != 1 {
		t.Fatalf("the codes %v", all)
	}
	if slots(all[0]) != "b:File a c d:File e:Socket k:File" || all[0].Params != 2 || slots(all[1]) != "" || all[1].Params != 0 {
		t.Errorf("the slots %s and %s", slots(all[0]), slots(all[1]))
	}
	var got []string
	for _, in := range all[0].Ins {
		got = append(got, written(place(in.Node), in))
	}
	want := []string{
		"19 let 2 - 1 -", "8 do 0 - - - none:2 some:5", "18 split 3 0 3 -", "18 join 3 0 4 -", "8 jump - - 6 -", "8 jump - - 6 -",
		"7 open 4 - 7 8", "7 shut 4 - 12 -", "10 open 5 - 9 11", "20 let 1 - 10 -", "10 shut 5 - 12 -", "24 call 2 - 12 -", end,
	}
	if !slices.Equal(got, want) {
		t.Errorf("the instructions\n%s; want\n%s", strings.Join(got, "\n"), strings.Join(want, "\n"))
	}
}
