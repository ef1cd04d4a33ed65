package graph_test

import (
	"testing"
)

// end is the instruction at the end of each function.
const end = "- return - - - -"

func TestP16_1_Empty(t *testing.T) {
	makes(t, inF(""), end)
	makes(t, inMain(""), end)
}

func TestP16_1_Let(t *testing.T) {
	makes(t, inF("@let a = 1;"), "a let 4 - 1 -", end)
	makes(t, inMain("@let a = 1;"), "a let 0 - 1 -", end)
	makes(t, inF("@let b = -(1 + 2) * 3 < 4; @let a = n + b; @let c = 0;"), "a let 4 - 1 -", "b let 5 - 2 -", "c let 6 - 3 -", end)
}

func TestP16_1_Set(t *testing.T) {
	makes(t, inF("@n = 1;"), "a let 0 - 1 -", end)
	makes(t, inF("@let a = 1; @n = a; @a = n; @n = n + a;"), "a let 4 - 1 -", "b let 0 - 2 -", "c let 4 - 3 -", "d let 0 - 4 -", end)
	makes(t, "fn f(a, b, c) { @c = a; @a = b; @b = c; @b = b; } fn main() { }", "a let 2 - 1 -", "b let 0 - 2 -", "c let 1 - 3 -", "d let 1 - 4 -", end)
	makes(t, inMain("@let a = 1; @let b = 2; @a = 3; @b = 4;"), "a let 0 - 1 -", "b let 1 - 2 -", "c let 0 - 3 -", "d let 1 - 4 -", end)
}

func TestP16_1_Call(t *testing.T) {
	makes(t, inF("@call zero();"), "a call - - 1 -", end)
	makes(t, inF("@call n = zero();"), "a call 0 - 1 -", end)
	makes(t, inF("@call zero(); @call one(n); @let a = 1; @call a = one(n * 2); @call n = one(-a); @call one(a);"),
		"a call - - 1 -", "b call - - 2 -", "c let 4 - 3 -", "d call 4 - 4 -", "e call 0 - 5 -", "f call - - 6 -", end)
	// Of itself, of handles, and of functions ahead and behind.
	makes(t, inF("@call f(1, &h, &s, &i); @call n = f(n, &h, &s, &i);"), "a call - - 1 -", "b call 0 - 2 -", end)
	makes(t, inMain("@let a = 1; @let b = 1; @call b = zero(); @call a = one(b);"), "a let 0 - 1 -", "b let 1 - 2 -", "c call 1 - 3 -", "d call 0 - 4 -", end)
}

func TestP16_1_Return(t *testing.T) {
	makes(t, inF("@return 1;"), "a return - - - -", end)
	makes(t, inF("@return n + 1; @n = 1;"), "a return - - - -", "b let 0 - 2 -", end)
	makes(t, inMain("@return 1; @return 2; @return 3;"), "a return - - - -", "b return - - - -", "c return - - - -", end)
}

func TestP16_1_Exit(t *testing.T) {
	makes(t, inMain("@exit;"), "a exit - - - -", end)
	makes(t, "fn main() { @exit; }", "a exit - - - -", end)
	makes(t, inMain("@exit; @let a = 1; @exit; @exit;"), "a exit - - - -", "b let 0 - 2 -", "c exit - - - -", "d exit - - - -", end)
}

func TestP16_1_Open(t *testing.T) {
	// Both Blocks full, and each of them empty.
	makes(t, inF("@open a File { @do a.size; } else { @n = 1; }"), "a open 4 - 1 3", "b do 4 - - - ok:2", "a shut 4 - 4 -", "c let 0 - 4 -", end)
	makes(t, inF("@open a File { } else { @n = 1; }"), "a open 4 - 1 2", "a shut 4 - 3 -", "b let 0 - 3 -", end)
	makes(t, inF("@open a File { @n = 1; } else { }"), "a open 4 - 1 3", "b let 0 - 2 -", "a shut 4 - 3 -", end)
	makes(t, inF("@open a File { } else { }"), "a open 4 - 1 2", "a shut 4 - 2 -", end)
	// The same with another statement behind it.
	makes(t, inF("@open a File { @do a.size; @n = 1; } else { @n = 2; @n = 3; } @n = 4;"),
		"a open 4 - 1 4", "b do 4 - - - ok:2", "c let 0 - 3 -", "a shut 4 - 6 -", "d let 0 - 5 -", "e let 0 - 6 -", "f let 0 - 7 -", end)
	makes(t, inF("@open a File { } else { @n = 1; @n = 2; } @n = 4;"), "a open 4 - 1 2", "a shut 4 - 4 -", "b let 0 - 3 -", "c let 0 - 4 -", "d let 0 - 5 -", end)
	makes(t, inF("@open a File { @n = 1; @n = 2; } else { } @n = 4;"), "a open 4 - 1 4", "b let 0 - 2 -", "c let 0 - 3 -", "a shut 4 - 4 -", "d let 0 - 5 -", end)
	makes(t, inF("@open a File { } else { } @n = 4;"), "a open 4 - 1 2", "a shut 4 - 2 -", "b let 0 - 3 -", end)
	makes(t, inF("@open a File { } else { } @open b Iter { } else { } @open a Socket { } else { }"),
		"a open 4 - 1 2", "a shut 4 - 2 -", "b open 5 - 3 4", "b shut 5 - 4 -", "c open 6 - 5 6", "c shut 6 - 6 -", end)
}

// TestP16_1_OpenIn has Opens in both Blocks of Opens.
func TestP16_1_OpenIn(t *testing.T) {
	makes(t, inMain("@open a File { @open b Iter { @do b.left; @do a.size; } else { @exit; } } else { @open c Socket { } else { @exit; } }"),
		"a open 0 - 1 7", "b open 1 - 2 5", "c do 1 - - - ok:3", "d do 0 - - - ok:4", "b shut 1 - 6 -", "e exit - - - -", "a shut 0 - 10 -",
		"f open 2 - 8 9", "f shut 2 - 10 -", "g exit - - - -", end)
	makes(t, inMain("@open a File { @open b File { @open c File { } else { } } else { } } else { }"),
		"a open 0 - 1 6", "b open 1 - 2 5", "c open 2 - 3 4", "c shut 2 - 4 -", "b shut 1 - 5 -", "a shut 0 - 6 -", end)
	makes(t, inMain("@open a File { } else { @open b File { } else { @open c File { } else { } } }"),
		"a open 0 - 1 2", "a shut 0 - 6 -", "b open 1 - 3 4", "b shut 1 - 6 -", "c open 2 - 5 6", "c shut 2 - 6 -", end)
}

func TestP16_1_DoWithCases(t *testing.T) {
	// Full and empty Blocks of several Cases.
	makes(t, inF("@do s.peek { some { @n = 1; } none { @n = 2; } }"), "a do 2 - - - some:1 none:3", "b let 0 - 2 -", "a jump - - 5 -", "c let 0 - 4 -", "a jump - - 5 -", end)
	makes(t, inF("@do s.peek { some { } none { @n = 2; } }"), "a do 2 - - - some:1 none:2", "a jump - - 4 -", "b let 0 - 3 -", "a jump - - 4 -", end)
	makes(t, inF("@do s.peek { some { @n = 1; } none { } }"), "a do 2 - - - some:1 none:3", "b let 0 - 2 -", "a jump - - 4 -", "a jump - - 4 -", end)
	makes(t, inF("@do s.peek { some { } none { } }"), "a do 2 - - - some:1 none:2", "a jump - - 3 -", "a jump - - 3 -", end)
	// The outcomes in the order of the Cases.
	makes(t, inF("@do s.peek { none { } some { } }"), "a do 2 - - - none:1 some:2", "a jump - - 3 -", "a jump - - 3 -", end)
	makes(t, inF("@do s.recv { lost { @n = 1; } some { } none { @n = 2; @n = 3; } } @n = 4;"),
		"a do 2 - - - lost:1 some:3 none:4", "b let 0 - 2 -", "a jump - - 7 -", "a jump - - 7 -", "c let 0 - 5 -", "d let 0 - 6 -", "a jump - - 7 -", "e let 0 - 8 -", end)
	makes(t, inF("@do s.recv { some { } none { } lost { } } @do s.recv { none { } lost { } some { } }"),
		"a do 2 - - - some:1 none:2 lost:3", "a jump - - 4 -", "a jump - - 4 -", "a jump - - 4 -", "b do 2 - - - none:5 lost:6 some:7", "b jump - - 8 -", "b jump - - 8 -", "b jump - - 8 -", end)
	// A single Case.
	makes(t, inF("@do h.size { ok { } }"), "a do 1 - - - ok:1", "a jump - - 2 -", end)
	makes(t, inF("@do h.size { ok { @n = 1; @n = 2; } } @n = 3;"), "a do 1 - - - ok:1", "b let 0 - 2 -", "c let 0 - 3 -", "a jump - - 4 -", "d let 0 - 5 -", end)
	// A Do within Cases.
	makes(t, inF("@do s.peek { some { @do s.send { lost { } ok { @n = 1; } } } none { @do i.next { item { } done { } } } } @n = 2;"),
		"a do 2 - - - some:1 none:6", "b do 2 - - - lost:2 ok:3", "b jump - - 5 -", "c let 0 - 4 -", "b jump - - 5 -", "a jump - - 10 -",
		"d do 3 - - - item:7 done:8", "d jump - - 9 -", "d jump - - 9 -", "a jump - - 10 -", "e let 0 - 11 -", end)
}

func TestP16_1_DoWithoutCases(t *testing.T) {
	makes(t, inF("@do h.size;"), "a do 1 - - - ok:1", end)
	makes(t, inF("@do h.size { }"), "a do 1 - - - ok:1", end)
	makes(t, inF("@do h.close; @do s.close; @do i.left; @do i.stop;"), "a do 1 - - - ok:1", "b do 2 - - - ok:2", "c do 3 - - - ok:3", "d do 3 - - - ok:4", end)
	// The outcome is the one that the operation has, whatever its name, from one state or from several.
	const declared = "proto P { state A; state B; final Z; op go A -> went B; op go B -> went Z; op stay B -> ok_ B; op end A -> Z Z; op ok B -> go A; } "
	makes(t, declared+"fn f(p: P imm at A, n) { @do p.go; @do p.stay; @do p.end { } @do p.ok; @n = 1; } fn main() { }",
		"a do 0 - - - went:1", "b do 0 - - - ok_:2", "c do 0 - - - Z:3", "d do 0 - - - go:4", "e let 1 - 5 -", end)
	// Of a handle that is opened, and of one that is split, also from one that is split.
	makes(t, declared+"fn main() { @open p P { @do p.go; @split q = p imm 1/2 { @do q.stay; @split r = q imm 1/2 { @do r.ok; } } } else { } }",
		"a open 0 - 1 9", "b do 0 - - - went:2", "c split 1 0 3 -", "d do 1 - - - ok_:4", "e split 2 1 5 -", "f do 2 - - - go:6", "e join 2 1 7 -", "c join 1 0 8 -", "a shut 0 - 9 -", end)
	// Operations of one name, of different protocols.
	makes(t, "proto Q { state A; final Z; op close A -> gone Z; } fn f(q: Q imm at A, h: File imm at Open) { @do q.close; @do h.close; @do q.close; } fn main() { }",
		"a do 0 - - - gone:1", "b do 1 - - - ok:2", "c do 0 - - - gone:3", end)
}

func TestP16_1_Split(t *testing.T) {
	makes(t, inF("@split a = h imm 1/2 { }"), "a split 4 1 1 -", "a join 4 1 2 -", end)
	makes(t, inF("@split a = h imm 1/2 { @do a.size; }"), "a split 4 1 1 -", "b do 4 - - - ok:2", "a join 4 1 3 -", end)
	// With names, and another statement behind it.
	makes(t, inF("@split a = s pure 2/3 in Live|Dead { @n = 1; @n = 2; } @n = 3;"), "a split 4 2 1 -", "b let 0 - 2 -", "c let 0 - 3 -", "a join 4 2 4 -", "d let 0 - 5 -", end)
	makes(t, inF("@split a = i share 1/2 in Ready { } @n = 1;"), "a split 4 3 1 -", "a join 4 3 2 -", "b let 0 - 3 -", end)
	// Of parts, and one behind the other.
	makes(t, inF("@split a = s share 1/2 { @split b = a share 1/2 { @split c = s share 1/2 { @do c.close; } @do b.close; } } @split b = h imm 1/2 { }"),
		"a split 4 2 1 -", "b split 5 4 2 -", "c split 6 2 3 -", "d do 6 - - - ok:4", "c join 6 2 5 -", "e do 5 - - - ok:6", "b join 5 4 7 -", "a join 4 2 8 -", "f split 7 1 9 -", "f join 7 1 10 -", end)
	makes(t, inMain("@open a File { @split b = a full 1/2 in Open { } } else { }"), "a open 0 - 1 4", "b split 1 0 2 -", "b join 1 0 3 -", "a shut 0 - 4 -", end)
}

func TestP16_1_If(t *testing.T) {
	// Without a second Block, with a full one, and with an empty one.
	makes(t, inF("@if n { @n = 1; }"), "a if - - 1 3", "b let 0 - 2 -", "a jump - - 3 -", end)
	makes(t, inF("@if n { @n = 1; } else { @n = 2; }"), "a if - - 1 3", "b let 0 - 2 -", "a jump - - 4 -", "c let 0 - 4 -", end)
	makes(t, inF("@if n { @n = 1; } else { }"), "a if - - 1 3", "b let 0 - 2 -", "a jump - - 3 -", end)
	// The same with an empty first Block.
	makes(t, inF("@if n { }"), "a if - - 1 2", "a jump - - 2 -", end)
	makes(t, inF("@if n { } else { @n = 2; }"), "a if - - 1 2", "a jump - - 3 -", "b let 0 - 3 -", end)
	makes(t, inF("@if n { } else { }"), "a if - - 1 2", "a jump - - 2 -", end)
	// With another statement behind it.
	makes(t, inF("@if n { @n = 1; @n = 2; } @n = 5;"), "a if - - 1 4", "b let 0 - 2 -", "c let 0 - 3 -", "a jump - - 4 -", "d let 0 - 5 -", end)
	makes(t, inF("@if n { @n = 1; @n = 2; } else { @n = 3; @n = 4; @n = 5; } @n = 6;"),
		"a if - - 1 4", "b let 0 - 2 -", "c let 0 - 3 -", "a jump - - 7 -", "d let 0 - 5 -", "e let 0 - 6 -", "f let 0 - 7 -", "g let 0 - 8 -", end)
	makes(t, inF("@if n { } @n = 1;"), "a if - - 1 2", "a jump - - 2 -", "b let 0 - 3 -", end)
	makes(t, inF("@if n { } else { @n = 1; } @n = 2;"), "a if - - 1 2", "a jump - - 3 -", "b let 0 - 3 -", "c let 0 - 4 -", end)
	// One in the other.
	makes(t, inMain("@if 1 { @if 2 { @exit; } else { } } else { @if 3 { } else { @exit; } }"),
		"a if - - 1 5", "b if - - 2 4", "c exit - - - -", "b jump - - 4 -", "a jump - - 8 -", "d if - - 6 7", "d jump - - 8 -", "e exit - - - -", end)
}

func TestP16_1_While(t *testing.T) {
	makes(t, inF("@while n { @n = 1; }"), "a if - - 1 3", "b let 0 - 2 -", "a jump - - 0 -", end)
	makes(t, inF("@while n { }"), "a if - - 1 2", "a jump - - 0 -", end)
	makes(t, inF("@n = 3; @while n { @n = 1; @n = 2; } @n = 4;"), "a let 0 - 1 -", "b if - - 2 5", "c let 0 - 3 -", "d let 0 - 4 -", "b jump - - 1 -", "e let 0 - 6 -", end)
	makes(t, inF("@while n { } @while 1 { }"), "a if - - 1 2", "a jump - - 0 -", "b if - - 3 4", "b jump - - 2 -", end)
	makes(t, inMain("@while 1 { @while 2 { @while 3 { @exit; } } @exit; }"),
		"a if - - 1 8", "b if - - 2 6", "c if - - 3 5", "d exit - - - -", "c jump - - 2 -", "b jump - - 1 -", "e exit - - - -", "a jump - - 0 -", end)
}

// TestP16_1_AllStatements has each kind of statement in a row, the last ones behind a Return.
func TestP16_1_AllStatements(t *testing.T) {
	makes(t, inF("@let a = 1; @a = 2; @open b File { @do b.close; } else { @return a; } @do s.send { ok { } lost { @call zero(); } } @split c = s share 1/2 { @do c.close; } @call n = one(a); @if a { @a = 3; } else { @a = 4; } @while n { @n = 0; } @return n; @let d = 5; @d = 6;"),
		"a let 4 - 1 -", "b let 4 - 2 -", "c open 5 - 3 5", "d do 5 - - - ok:4", "c shut 5 - 6 -", "e return - - - -",
		"f do 2 - - - ok:7 lost:8", "f jump - - 10 -", "g call - - 9 -", "f jump - - 10 -", "h split 6 2 11 -", "i do 6 - - - ok:12", "h join 6 2 13 -",
		"j call 0 - 14 -", "k if - - 15 17", "l let 4 - 16 -", "k jump - - 18 -", "m let 4 - 18 -", "n if - - 19 21", "o let 0 - 20 -", "n jump - - 18 -",
		"p return - - - -", "q let 7 - 23 -", "r let 7 - 24 -", end)
}

// TestP16_1_EndOfEach has statements at the end of functions, which an InReturn with no node follows all the same.
func TestP16_1_EndOfEach(t *testing.T) {
	for _, name := range []string{"first", "f", "last"} {
		l := parsed(t, in("fn % (n) { return n; } fn main() { exit; } fn zero() { return 0; }", name))
		for _, code := range all(t, l) {
			if len(code.Ins) != 2 || written("-", code.Ins[1]) != end || code.Ins[1].Node != -1 || code.Ins[0].Next != -1 {
				t.Errorf("%s: the instructions %v", code.Name, code.Ins)
			}
		}
	}
}
