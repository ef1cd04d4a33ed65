package graph_test

import (
	"slices"
	"strings"
	"testing"

	"ballcock/api"
	"ballcock/tree"
)

// blocks are statements with a place % for others in a Block of each kind, and the slots that they have. The handles h and s
// and the number n are visible.
var blocks = []struct{ text, slots string }{
	{"%", "%"},
	{"if n { % }", "%"},
	{"if n { % } else { }", "%"},
	{"if n { } else { % }", "%"},
	{"if n { let p = 1; n = p; } else { % }", "p %"},
	{"while n { % }", "%"},
	{"open o Iter { % } else { }", "o:Iter %"},
	{"open o Iter { % } else { let p = 1; }", "o:Iter % p"},
	{"open o Iter { } else { % }", "o:Iter %"},
	{"open o Iter { do o.left; } else { % }", "o:Iter %"},
	{"do h.read { some { % } none { } }", "%"},
	{"do h.read { some { } none { % } }", "%"},
	{"do s.recv { lost { let p = 1; } none { % } some { let p = 2; } }", "p % p"},
	{"do h.size { ok { % } }", "%"},
	{"split o = h imm 1/2 { % }", "o:File %"},
	{"split o = s share 1/2 in Live|Dead { % }", "o:Socket %"},
}

// statements are those of each kind, with full and with empty Blocks.
var statements = []string{
	"let x = n;", "n = 1;", "call zero();", "call n = one(n);", "return n;", "exit;",
	"open x File { do x.size; } else { n = 1; }", "open x File { } else { n = 1; }", "open x File { do x.size; } else { }", "open x File { } else { }",
	"do h.read { none { n = 1; } some { n = 2; } }", "do h.read { none { } some { n = 2; } }", "do h.read { some { n = 1; } none { } }", "do s.recv { lost { } some { } none { } }", "do s.close;", "do h.size { ok { } }",
	"split x = s share 1/2 { do x.close; }", "split x = s pure 1/2 in Live { }",
	"if n { n = 1; } else { n = 2; }", "if n { } else { n = 2; }", "if n { n = 1; } else { }", "if n { } else { }", "if n { n = 1; }", "if n { }", "while n { n = 1; }", "while n { }",
}

// inMainOf is a program whose function main has some statements in which the number n and the handles h, s and i are visible.
func inMainOf(statements string) string {
	return inMain(in("let n = 1; open h File { open s Socket { open i Iter { % } else { } } else { } } else { }", statements))
}

// nested checks the codes of a program that has some statements in main and, if there is no Exit, in a function with parameters.
func nested(t *testing.T, statements string) {
	t.Helper()
	all(t, parsed(t, inMainOf(statements)))
	if !strings.Contains(statements, "exit") {
		all(t, parsed(t, inF(statements)))
	}
}

// TestP16_1_InBlocks has each statement in each kind of Block, as the only, the last, the first one and one between, while the
// Block itself is the last one or not.
func TestP16_1_InBlocks(t *testing.T) {
	for _, b := range blocks {
		for _, statement := range statements {
			for _, place := range []string{"%", "% n = 7;", "n = 7; %", "n = 7; % n = 8;"} {
				nested(t, in(b.text, in(place, statement)))
				nested(t, in(b.text, in(place, statement))+" n = 9;")
			}
		}
	}
}

// TestP16_1_InBlocksOfBlocks has each statement in each kind of Block in each kind of Block.
func TestP16_1_InBlocksOfBlocks(t *testing.T) {
	for _, outer := range blocks {
		for _, inner := range blocks {
			inner := strings.NewReplacer("o.left", "m.left", " o ", " m ", " p ", " q ", " p;", " q;").Replace(inner.text)
			nested(t, in(outer.text, in(inner, "let x = 1; do h.size; x = 2;")))
			nested(t, in(outer.text, "n = 6; "+in(inner, "return 1;")+" n = 7;")+" n = 8;")
		}
	}
}

// TestP16_1_OneBehindTheOther has each statement behind each other one.
func TestP16_1_OneBehindTheOther(t *testing.T) {
	for _, first := range statements {
		for _, second := range statements {
			if strings.HasPrefix(first, "let") {
				second = strings.ReplaceAll(second, "x", "y")
			}
			if second == "eyit;" {
				second = "exit;"
			}
			nested(t, first+" "+second)
		}
	}
}

// TestP16_1_Where has statements in Blocks, with all that their instructions are.
func TestP16_1_Where(t *testing.T) {
	makes(t, inF("@while n { @if n { @return 1; } else { @do h.read { none { @split a = h imm 1/2 { @call n = zero(); } } some { } } } @n = 1; } @n = 2;"),
		"a if - - 1 12", "b if - - 2 4", "c return - - - -", "b jump - - 10 -", "d do 1 - - - none:5 some:9", "e split 4 1 6 -", "f call 0 - 7 -", "e join 4 1 8 -", "d jump - - 10 -", "d jump - - 10 -",
		"g let 0 - 11 -", "a jump - - 0 -", "h let 0 - 13 -", end)
	makes(t, inMain("@open a File { @while 1 { @open b Iter { @exit; } else { @let c = 1; } } } else { @if 1 { } } @let d = 1;"),
		"a open 0 - 1 8", "b if - - 2 7", "c open 1 - 3 5", "d exit - - - -", "c shut 1 - 6 -", "e let 2 - 6 -", "b jump - - 1 -", "a shut 0 - 10 -", "f if - - 9 10", "f jump - - 10 -", "g let 3 - 11 -", end)
}

// TestP16_1_Deep has trees as deep as they may be, through each kind of Block.
func TestP16_1_Deep(t *testing.T) {
	for _, b := range []string{"if n{%}", "if n{}else{%}", "while n{%}", "open @ Iter{%}else{}", "open @ Iter{}else{%}", "do h.size{ok{%}}", "split @ = h imm 1/2{%}"} {
		text, deepest := "%", 0
		for i := range 12 {
			text = in(strings.ReplaceAll(b, "@", "v"+string(rune('a'+i))), text)
			l := parsed(t, inF(strings.ReplaceAll(text, "%", "")))
			if deepest = tree.Deep(l); deepest > api.MaxNest-2 {
				break
			}
			all(t, l)
		}
		if deepest < api.MaxNest-3 {
			t.Errorf("%s: the depth is only %d", b, deepest)
		}
	}
}

// TestP16_1_Great has a tree with as many nodes as there may be, and one with a node more.
func TestP16_1_Great(t *testing.T) {
	for _, count := range []int{api.MaxNodes - 1, api.MaxNodes, api.MaxNodes + 1} {
		l := []api.Node{{Kids: []int{1}}, {Kind: api.NodeFn, Words: []string{"main"}, Kids: []int{2}}, {Kind: api.NodeBlock}}
		for len(l) < count {
			l[2].Kids = append(l[2].Kids, len(l))
			l = append(l, api.Node{Kind: api.NodeExit, At: len(l)})
		}
		if count > api.MaxNodes {
			missing(t, "a great tree", l, "main")
			continue
		}
		code := all(t, l)[0]
		if len(code.Ins) != count-2 || code.Ins[count-4].Node != count-1 {
			t.Errorf("%d nodes have %d instructions", count, len(code.Ins))
		}
	}
}

// TestP16_1_ManyVariables has hundreds of variables that are visible at once, and hundreds that are one after the other.
func TestP16_1_ManyVariables(t *testing.T) {
	var text strings.Builder
	names := []string{}
	for i := range 240 {
		name := string([]byte{'a' + byte(i%26), 'a' + byte(i/26), '_'})
		names = append(names, name)
		text.WriteString("let " + name + "=1;")
	}
	for _, name := range slices.Backward(names) {
		text.WriteString(name + "=2;")
	}
	code := all(t, parsed(t, inMain(text.String())))[1]
	for i := range names {
		if code.Ins[i].Var != i || code.Ins[2*len(names)-1-i].Var != i {
			t.Errorf("the variable %s has the slots %d and %d", names[i], code.Ins[i].Var, code.Ins[2*len(names)-1-i].Var)
		}
	}
	code = all(t, parsed(t, inMain(strings.Repeat("if 1{let a=1;a=2;}", 150))))[1]
	for i := range 150 {
		if code.Ins[4*i+1].Var != i || code.Ins[4*i+2].Var != i {
			t.Errorf("the variable %d has the slots %d and %d", i, code.Ins[4*i+1].Var, code.Ins[4*i+2].Var)
		}
	}
}
