package typing_test

import (
	"slices"
	"strings"
	"testing"
)

// declared are protocols that the texts of these tests declare. Moves has operations with several outcomes from one state
// and from different ones, Alike has operations of predefined protocols with other outcomes.
const declared = "proto Moves { state A; state B; final Z; op go A -> x A, y B; op go B -> z Z, x A; op end A -> ok Z; op end B -> ok Z; op part A -> one B; op part B -> two Z; op Go A -> x A; } " +
	"proto Alike { state A; final Z; op read A -> all A; op close A -> done Z, not A; op go A -> ok A; } proto Still { final Z; } "

// protocol has operations with their outcomes, as the document or the declaration lists them.
type protocol struct {
	name string
	ops  []operation
}

type operation struct {
	name     string
	outcomes []string
}

// protocols are the predefined and the declared ones.
func protocols() []protocol {
	var l []protocol
	for _, text := range []string{
		"File; read some none; write ok over; size ok; close ok",
		"Socket; connect ok fail; send ok lost; recv some none lost; peek some none; close ok",
		"Iter; next item done; stop ok; left ok",
		"Moves; go x y z; end ok; part one two; Go x",
		"Alike; read all; close done not; go ok",
		"Still",
	} {
		parts := strings.Split(text, "; ")
		p := protocol{name: parts[0]}
		for _, part := range parts[1:] {
			words := strings.Fields(part)
			p.ops = append(p.ops, operation{words[0], words[1:]})
		}
		l = append(l, p)
	}
	return l
}

// outcomes are those of an operation; none if the protocol has no such operation.
func (p protocol) outcomes(op string) []string {
	for _, o := range p.ops {
		if o.name == op {
			return o.outcomes
		}
	}
	return nil
}

// handles are functions in which a handle v of a protocol $ is visible at the place %.
var handles = []string{
	"fn f(v: $ imm at A) { % }",
	"fn f(n, w: Iter imm at A, v: $ full least 1/2 at A to B in A|B, u: Socket unique) { % }",
	"fn f() { open v $ { % } else { } }",
	"fn f() { open u Iter { open v $ { open w Socket { % } else { } } else { } } else { } }",
	"fn f(w: $ imm) { split v = w imm 1/2 { % } }",
	"fn f(w: $ unique, t: Iter imm) { split u = w imm 1/2 { split s = t imm 1/2 { split v = u pure 1/3 in A { if 1 { % } } } } }",
	"fn f() { open w $ { split u = w share 1/2 { split v = u share 1/2 { while 1 { % } } } } else { } }",
	// Other variables have the name, elsewhere.
	"fn f() { open v Iter { } else { let v = 1; } if 1 { let v = 1; } open v $ { % } else { } open v File { } else { } }",
	"fn v(v: Socket imm) { } fn f(w: $ imm) { split v = w imm 1/2 { % } split v = w imm 1/2 { } let v = 1; } fn g(v: Iter imm) { }",
	"fn f(w: Iter imm) { split v = w imm 1/2 { } open w2 $ { split v = w2 imm 1/2 { % } } else { } }",
}

// onEach calls a function with each protocol, and with a text of each kind of handle of it.
func onEach(hold func(p protocol, text string)) {
	for _, p := range protocols() {
		for _, text := range handles {
			text = strings.ReplaceAll(text, "$", p.name)
			hold(p, withMain(declared+text))
			hold(p, withMain(text+" "+declared))
		}
	}
}

// names are those of all operations, and others that are none.
func names() []string {
	l := []string{"none", "ok", "A", "Z", "Open", "File", "v", "f", "main", "Read", "READ", "reads", "rea", "_read", "g", "gO", "GO", "sixteen_letters_"}
	for _, p := range protocols() {
		for _, o := range p.ops {
			l = append(l, o.name)
		}
	}
	slices.Sort(l)
	return slices.Compact(l)
}

func TestP13_1_Op(t *testing.T) {
	onEach(func(p protocol, text string) {
		for _, op := range names() {
			if len(p.outcomes(op)) > 0 {
				continue
			}
			// Nothing else is told of the Do itself, whatever its Cases.
			for _, cases := range []string{";", " { }", " { ok { } }", " { some { } none { } }", " { ok { } ok { } other { } }", " { x { } y { } z { } }", " { " + op + " { } }"} {
				tells(t, in(text, "@do v."+op+cases), "op "+op)
			}
		}
	})
}

// TestP13_1_WithoutCases has a Do of each operation without Cases.
func TestP13_1_WithoutCases(t *testing.T) {
	onEach(func(p protocol, text string) {
		for _, o := range p.ops {
			for _, cases := range []string{";", " { }"} {
				if len(o.outcomes) == 1 {
					tells(t, in(text, "do v."+o.name+cases), "")
				} else {
					tells(t, in(text, "@do v."+o.name+cases), "case "+o.name)
				}
			}
		}
	})
}

// TestP13_1_Cases has a Do of each operation with Cases in both orders, without one of them, and with a first or last one
// that it has already, or that is none.
func TestP13_1_Cases(t *testing.T) {
	written := func(outcomes ...string) string {
		return strings.Join(outcomes, " { } ") + " { } "
	}
	onEach(func(p protocol, text string) {
		for _, o := range p.ops {
			all, turned := written(o.outcomes...), slices.Clone(o.outcomes)
			slices.Reverse(turned)
			do := "do v." + o.name + " { "
			tells(t, in(text, do+all+"}"), "")
			tells(t, in(text, do+written(turned...)+"}"), "")
			for i, outcome := range o.outcomes {
				tells(t, in(text, do+all+"@"+outcome+" { } }"), "case "+outcome)
				tells(t, in(text, do+"@other_ { } "+all+"}"), "case other_")
				if without := slices.Delete(slices.Clone(o.outcomes), i, i+1); len(without) > 0 {
					tells(t, in(text, "@"+do+written(without...)+"}"), "case "+outcome)
				}
				tells(t, in(text, "@"+do+"@other_ { } }"), "case other_; case "+o.outcomes[0], 1, 0)
			}
		}
	})
}

func TestP13_1_CasesEach(t *testing.T) {
	for _, c := range []struct {
		do, diags string
		order     []int
	}{
		// Of an operation with three outcomes, from two states.
		{"do v.go { x { } y { } z { } }", "", nil},
		{"do v.go { y { } z { } x { } }", "", nil},
		{"@do v.go { x { } y { } }", "case z", nil},
		{"@do v.go { z { } y { } }", "case x", nil},
		{"@do v.go { z { } x { } }", "case y", nil},
		// Only the first outcome without a Case, in the order of the protocol.
		{"@do v.go { x { } }", "case y", nil},
		{"@do v.go { y { } }", "case x", nil},
		{"@do v.go { z { } }", "case x", nil},
		{"@do v.go { @w { } }", "case w; case x", []int{1, 0}},
		// Cases of no outcome: each of them, as often as it is there.
		{"do v.go { x { } y { } @w { } z { } }", "case w", nil},
		{"do v.go { @a { } x { } @b { } y { } @c { } z { } @d { } }", "case a; case b; case c; case d", nil},
		{"do v.go { x { } @w { } y { } @w { } z { } @w { } }", "case w; case w; case w", nil},
		{"@do v.go { @w { } z { } @w { } }", "case w; case w; case x", []int{1, 2, 0}},
		{"do v.go { @X { } x { } @xx { } y { } @y_ { } z { } @_z { } }", "case X; case xx; case y_; case _z", nil},
		// Outcomes of other operations, and names of other things.
		{"do v.go { @ok { } @one { } @two { } x { } y { } z { } @some { } }", "case ok; case one; case two; case some", nil},
		{"do v.go { @go { } @A { } @Z { } @v { } @f { } @Moves { } x { } y { } z { } @main { } }", "case go; case A; case Z; case v; case f; case Moves; case main", nil},
		// Cases that are there again.
		{"do v.go { x { } @x { } y { } z { } }", "case x", nil},
		{"do v.go { x { } y { } z { } @x { } @y { } @z { } }", "case x; case y; case z", nil},
		{"do v.go { x { } @x { } @x { } z { } y { } @x { } }", "case x; case x; case x", nil},
		{"@do v.go { y { } @y { } @y { } }", "case y; case y; case x", []int{1, 2, 0}},
		// All of it.
		{"@do v.go { z { } @w { } @z { } y { } @w { } @y { } }", "case w; case z; case w; case y; case x", []int{1, 2, 3, 4, 0}},
		// Of operations with two outcomes, from two states and with one outcome from either, or from one.
		{"do v.part { two { } one { } }", "", nil},
		{"@do v.part { one { } }", "case two", nil},
		{"@do v.part { two { } @two { } }", "case two; case one", []int{1, 0}},
		{"@do w.read { none { } @all { } }", "case all; case some", []int{1, 0}},
		{"do w.read { none { } some { } @none { } }", "case none", nil},
		// Of operations with one outcome, from two states or from one.
		{"do v.end { ok { } }", "", nil},
		{"do v.Go { x { } }", "", nil},
		{"do w.size { ok { } @ok { } @no { } }", "case ok; case no", nil},
		{"@do v.end { @no { } }", "case no; case ok", []int{1, 0}},
		{"@do v.Go { @y { } @z { } }", "case y; case z; case x", []int{1, 2, 0}},
	} {
		for _, wrap := range wraps {
			text := declared + "fn f(v: Moves imm at A, w: File imm at Open, h: File imm at Open, n) { " + in(wrap, c.do) + " }"
			tells(t, withMain(text), c.diags, c.order...)
		}
	}
}

// TestP13_1_DoInMain has a Do of each diagnostic in main.
func TestP13_1_DoInMain(t *testing.T) {
	for _, c := range []struct{ do, diags string }{
		{"do v.close;", ""}, {"@do v.pull;", "op pull"}, {"@do v.read;", "case read"}, {"@do v.read { some { } }", "case none"}, {"do v.read { some { } none { } @all { exit; } }", "case all"},
	} {
		tells(t, "fn main() { open v File { "+c.do+" } else { } }", c.diags)
		tells(t, "fn main() { open w File { split v = w imm 1/2 { "+c.do+" } } else { } }", c.diags)
	}
}

// TestP13_1_ManyOutcomes has an operation with many outcomes, from as many states as a protocol can start moves from.
func TestP13_1_ManyOutcomes(t *testing.T) {
	var parts, cases, twice, told []string
	var order []int
	for i, letter := range strings.Split("abcdefghijklmno", "") {
		parts = append(parts, "op go S"+letter+" -> o"+letter+" Z, p"+letter+" S"+letter+"; state S"+letter+";")
		cases = append(cases, "o"+letter+" { } p"+letter+" { }")
		twice = append(twice, "o"+letter+" { } @o"+letter+" { }")
		told = append(told, "case o"+letter)
		order = append(order, i+1)
	}
	text := withMain("proto P { " + strings.Join(parts, " ") + " final Z; } fn f(v: P imm) { % }")
	all := strings.Join(cases, " ")
	slices.Reverse(cases)
	turned := strings.Join(cases, " ")
	tells(t, in(text, "@do v.go;"), "case go")
	tells(t, in(text, "do v.go { "+all+" }"), "")
	tells(t, in(text, "do v.go { "+turned+" }"), "")
	tells(t, in(text, "do v.go { "+all+" @oa { } @po { } }"), "case oa; case po")
	tells(t, in(text, "@do v.go { "+strings.Replace(strings.Replace(turned, "pg { }", "", 1), "om { }", "", 1)+" }"), "case pg")
	tells(t, in(text, "@do v.go { "+strings.Join(twice, " ")+" }"), strings.Join(told, "; ")+"; case pa", append(order, 0)...)
}
