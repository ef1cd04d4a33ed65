package decl_test

import (
	"slices"
	"strconv"
	"strings"
	"testing"

	"ballcock/api"
	"ballcock/auto"
	"ballcock/decl"
	"ballcock/parse"
	"ballcock/std"
	"ballcock/tree"
)

// proto is a protocol with these states, where ! marks a final one, and moves: "op from outcome to outcome to".
func proto(name, states string, moves ...string) api.Proto {
	p := api.Proto{Name: name}
	for _, state := range strings.Fields(states) {
		state, final := strings.CutSuffix(state, "!")
		p.States = append(p.States, api.State{Name: state, Final: final})
	}
	for _, text := range moves {
		words := strings.Fields(text)
		m := api.Move{Op: words[0], From: number(words[1])}
		for i := 2; i < len(words); i += 2 {
			m.Outs = append(m.Outs, api.Out{Name: words[i], To: number(words[i+1])})
		}
		p.Moves = append(p.Moves, m)
	}
	return p
}

func number(s string) int {
	n, err := strconv.Atoi(s)
	if err != nil {
		panic(err)
	}
	return n
}

func sameMove(a, b api.Move) bool {
	return a.Op == b.Op && a.From == b.From && slices.Equal(a.Outs, b.Outs)
}

// same tells whether two protocols are equal; nil and empty lists are.
func same(a, b api.Proto) bool {
	return a.Name == b.Name && slices.Equal(a.States, b.States) && slices.EqualFunc(a.Moves, b.Moves, sameMove)
}

// parsed is the tree of a text.
func parsed(t *testing.T, text string) []api.Node {
	t.Helper()
	l, fault := parse.Parse(text)
	if fault.Err != api.OK {
		t.Fatalf("%s: the fault %v at %d", text, fault.Err, fault.At)
	}
	return l
}

// made is the book of a valid tree, and its diagnostics.
func made(t *testing.T, l []api.Node) (*decl.Book, []api.Diag) {
	t.Helper()
	b, diags := decl.New(l)
	if b == nil {
		t.Fatalf("New(%.200s) = nil, %v", shown(l), diags)
	}
	return b, diags
}

// right is the book of a text without diagnostics.
func right(t *testing.T, text string) *decl.Book {
	t.Helper()
	b, diags := made(t, parsed(t, text))
	if len(diags) != 0 {
		t.Errorf("%s: the diagnostics %v", text, diags)
	}
	return b
}

// found is the protocol of a name in a book.
func found(t *testing.T, b *decl.Book, name string) api.Proto {
	t.Helper()
	a, ok := b.Find(name)
	if a == nil || !ok {
		t.Fatalf("Find(%q): an automaton is %v, %v", name, a != nil, ok)
	}
	return a.Proto()
}

// declares tells whether the tree of a text has no diagnostics and declares these protocols.
func declares(t *testing.T, text string, want ...api.Proto) {
	t.Helper()
	holds(t, right(t, text), text, want...)
}

// holds tells whether a book has the predefined protocols and behind them these.
func holds(t *testing.T, b *decl.Book, of string, want ...api.Proto) {
	t.Helper()
	want = append(std.All(), want...)
	var names []string
	for _, p := range want {
		names = append(names, p.Name)
	}
	if got := b.Names(); !slices.Equal(got, names) {
		t.Errorf("%.200s: the names are %.200q; want %.200q", of, got, names)
	}
	for _, p := range want {
		if got := found(t, b, p.Name); !same(got, p) {
			t.Errorf("%.200s: Find(%s) has the protocol %v; want %v", of, p.Name, got, p)
		}
	}
}

func TestP11_1_NamesWithoutDeclarations(t *testing.T) {
	for _, text := range []string{"", "# nothing", "fn main() { }", "fn f(x: File imm at Open) { } fn main() { open f File { do f.close; } else { } }", "fn P(P) { let Q = P; } fn main() { open f P { } else { } }"} {
		if names := right(t, text).Names(); !slices.Equal(names, []string{"File", "Socket", "Iter"}) {
			t.Errorf("%s: the names are %q", text, names)
		}
		declares(t, text)
	}
}

func TestP11_1_NamesOfOne(t *testing.T) {
	declares(t, "proto P { state A; final Z; op end A -> ok Z; }", proto("P", "A Z!", "end 0 ok 1"))
	declares(t, "proto _ { final Z; }", proto("_", "Z!"))
	declares(t, "fn main() { } proto P { final Z; }", proto("P", "Z!"))
	declares(t, "proto P { final Z; } fn main() { }", proto("P", "Z!"))
	declares(t, "proto sixteen_letters_ { final sixteen_letters0; }", proto("sixteen_letters_", "sixteen_letters0!"))
}

func TestP11_1_NamesOfSeveral(t *testing.T) {
	p, q, r := proto("P", "Z!"), proto("Q", "Y!"), proto("R", "A Z!", "end 0 ok 1")
	ps, qs, rs := "proto P { final Z; }", "proto Q { final Y; }", "proto R { state A; final Z; op end A -> ok Z; }"
	declares(t, ps+qs, p, q)
	declares(t, qs+ps, q, p)
	declares(t, ps+qs+rs, p, q, r)
	declares(t, rs+ps+qs, r, p, q)
	declares(t, rs+qs+ps, r, q, p)
	declares(t, "fn P() { }"+qs+"fn R() { }"+ps+"fn main() { }"+rs+"fn Q() { }", q, p, r)
}

// TestP11_1_NamesLikeOthers has names that only resemble others, or are in use for something else.
func TestP11_1_NamesLikeOthers(t *testing.T) {
	for _, name := range []string{"file", "FILE", "FIle", "Fil", "Files", "File_", "_File", "File1", "socket", "Sockets", "iter", "Iterator", "ITER", "p", "P1", "P_", "PP", "Open", "Shut", "read", "main", "x", "final_", "Proto"} {
		declares(t, "proto P { final Z; } proto "+name+" { final Z; } proto Q { final Z; }", proto("P", "Z!"), proto(name, "Z!"), proto("Q", "Z!"))
	}
	declares(t, "fn P() { } fn File() { } fn main() { } proto P { final Z; } proto main { final Z; } fn P() { }", proto("P", "Z!"), proto("main", "Z!"))
	declares(t, "proto P { state P; final Q; op P P -> P P, Q Q; } proto Q { state P; final Q; op Q P -> P Q; }",
		proto("P", "P Q!", "P 0 P 0 Q 1"), proto("Q", "P Q!", "Q 0 P 1"))
}

func TestP11_1_FindStates(t *testing.T) {
	declares(t, "proto P { final A; }", proto("P", "A!"))
	declares(t, "proto P { final A; final B; }", proto("P", "A! B!"))
	declares(t, "proto P { final B; final A; }", proto("P", "B! A!"))
	declares(t, "proto P { state A; final B; op end A -> ok B; }", proto("P", "A B!", "end 0 ok 1"))
	declares(t, "proto P { final B; state A; op end A -> ok B; }", proto("P", "B! A", "end 1 ok 0"))
	declares(t, "proto P { state C; final A; state B; op a C -> ok B; op a B -> ok A; }", proto("P", "C A! B", "a 0 ok 2", "a 2 ok 1"))
	declares(t, "proto P { final Z; final a; final z; final A; final Z1; final Z_; }", proto("P", "Z! a! z! A! Z1! Z_!"))
}

func TestP11_1_FindManyStates(t *testing.T) {
	for count := 1; count <= api.MaxStates; count++ {
		p := chain("P", count)
		declares(t, written(p), p)
	}
}

// chain is a protocol of so many states, each of which leads to the next; the last one is final.
func chain(name string, count int) api.Proto {
	p := api.Proto{Name: name}
	for i := range count {
		p.States = append(p.States, api.State{Name: "S" + strconv.Itoa(i), Final: i == count-1})
		if i < count-1 {
			p.Moves = append(p.Moves, api.Move{Op: "go", From: i, Outs: []api.Out{{Name: "ok", To: i + 1}}})
		}
	}
	return p
}

// written is the text of the declaration of a protocol.
func written(p api.Proto) string {
	var s strings.Builder
	s.WriteString("proto " + p.Name + " { ")
	for _, state := range p.States {
		word := "state "
		if state.Final {
			word = "final "
		}
		s.WriteString(word + state.Name + "; ")
	}
	for _, m := range p.Moves {
		s.WriteString("op " + m.Op + " " + p.States[m.From].Name)
		for i, o := range m.Outs {
			s.WriteString([]string{" -> ", ", "}[min(i, 1)] + o.Name + " " + p.States[o.To].Name)
		}
		s.WriteString("; ")
	}
	return s.String() + "}"
}

func TestP11_1_FindMoves(t *testing.T) {
	declares(t, "proto P { state A; state B; final Z; op b A -> ok B; op a A -> ok A; op a B -> no A, ok Z; op b B -> ok Z; }",
		proto("P", "A B Z!", "b 0 ok 1", "a 0 ok 0", "a 1 no 0 ok 2", "b 1 ok 2"))
	declares(t, "proto P { state A; final Z; op a A -> d Z, c A, b Z, a A, e Z; }", proto("P", "A Z!", "a 0 d 1 c 0 b 1 a 0 e 1"))
	declares(t, "proto P { state A; final Z; op stay A -> ok A; op end A -> ok Z; op END A -> OK Z; op ok A -> end Z; }",
		proto("P", "A Z!", "stay 0 ok 0", "end 0 ok 1", "END 0 OK 1", "ok 0 end 1"))
	// Moves of one operation stay apart, also those with the same outcomes.
	declares(t, "proto P { state A; state B; final Z; op end A -> ok Z; op end B -> ok Z; op go A -> ok Z; }",
		proto("P", "A B Z!", "end 0 ok 2", "end 1 ok 2", "go 0 ok 2"))
}

// TestP11_1_FindMixed has States between and behind the Ops that name them.
func TestP11_1_FindMixed(t *testing.T) {
	declares(t, "proto P { op end A -> ok Z; state A; final Z; }", proto("P", "A Z!", "end 0 ok 1"))
	declares(t, "proto P { op b B -> ok Z, no A; final Z; op a A -> ok B; state B; op c A -> no Z; state A; op c B -> yes A; }",
		proto("P", "Z! B A", "b 1 ok 0 no 2", "a 2 ok 1", "c 2 no 0", "c 1 yes 2"))
}

// TestP11_1_FindOfEach has protocols with the same states and operations, each of which has its own.
func TestP11_1_FindOfEach(t *testing.T) {
	declares(t, "proto P { state A; final Z; op go A -> ok Z; } proto Q { final Z; state A; op go A -> no A, ok Z; } proto R { final A; final Z; } proto S { state Open; final Shut; op close Open -> ok Shut; }",
		proto("P", "A Z!", "go 0 ok 1"), proto("Q", "Z! A", "go 1 no 1 ok 0"), proto("R", "A! Z!"), proto("S", "Open Shut!", "close 0 ok 1"))
}

func TestP11_1_FindAutomaton(t *testing.T) {
	b := right(t, "proto P { state A; state B; final Z; op go A -> ok B, no A; op stay B -> ok B; op go B -> ok Z; }")
	a, ok := b.Find("P")
	if !ok || a == nil {
		t.Fatal("Find(P) = false")
	}
	if ops, outcomes := a.Ops(), a.Outcomes("go"); !slices.Equal(ops, []string{"go", "stay"}) || !slices.Equal(outcomes, []string{"ok", "no"}) {
		t.Errorf("the operations are %q, the outcomes of go %q", ops, outcomes)
	}
	if a.Finals() != 4 || a.Enabled("go") != 3 || a.Keeps("stay") != 2 || a.Step(3, "go", "ok") != 6 {
		t.Errorf("the sets are %b, %b, %b, %b", a.Finals(), a.Enabled("go"), a.Keeps("stay"), a.Step(3, "go", "ok"))
	}
	if at, ok := a.State("B"); at != 1 || !ok {
		t.Errorf("State(B) = %d, %v", at, ok)
	}
	// The name is asked for by its bytes, wherever they lie.
	if again, ok := b.Find(string([]byte("P"))); !ok || again == nil || !same(again.Proto(), a.Proto()) {
		t.Errorf("Find(P) in other memory: %v", ok)
	}
}

// TestP11_1_FindPredefined has the protocols of layer 10 in each book, whatever the tree declares.
func TestP11_1_FindPredefined(t *testing.T) {
	for _, text := range []string{"", "proto P { final Z; }", "proto File { final Z; } proto Iter { }", "proto Socket { state A; final Z; op end A -> ok Z; } proto Socket { final Z; }"} {
		b, _ := made(t, parsed(t, text))
		for _, p := range std.All() {
			if got := found(t, b, p.Name); !same(got, p) {
				t.Errorf("%s: Find(%s) has the protocol %v; want %v", text, p.Name, got, p)
			}
			a, _ := b.Find(p.Name)
			want, _ := std.Auto(p.Name)
			alike(t, text+": "+p.Name, a, want)
		}
	}
}

// alike tells whether an automaton answers as another one does, for each state, operation, outcome and set.
func alike(t *testing.T, of string, a, want *auto.Auto) {
	t.Helper()
	p := want.Proto()
	for _, s := range append(p.States, api.State{Name: "Missing"}) {
		at, ok := a.State(s.Name)
		if wantAt, wantOk := want.State(s.Name); at != wantAt || ok != wantOk {
			t.Errorf("%s: State(%s) = %d, %v; want %d, %v", of, s.Name, at, ok, wantAt, wantOk)
		}
	}
	if !slices.Equal(a.Ops(), want.Ops()) || a.Finals() != want.Finals() {
		t.Errorf("%s: the operations are %q, the final states %b; want %q, %b", of, a.Ops(), a.Finals(), want.Ops(), want.Finals())
	}
	for _, op := range append(want.Ops(), "missing") {
		outcomes := want.Outcomes(op)
		if !slices.Equal(a.Outcomes(op), outcomes) || a.Enabled(op) != want.Enabled(op) || a.Keeps(op) != want.Keeps(op) {
			t.Errorf("%s: %s has the outcomes %q, is enabled in %b and keeps %b", of, op, a.Outcomes(op), a.Enabled(op), a.Keeps(op))
		}
		for state := range len(p.States) + 1 {
			if got, outs := a.Outs(state, op), want.Outs(state, op); !slices.Equal(got, outs) {
				t.Errorf("%s: Outs(%d, %s) = %v; want %v", of, state, op, got, outs)
			}
		}
		for _, outcome := range append(outcomes, "missing") {
			for set := range uint32(2) << len(p.States) {
				if got, step := a.Step(set, op, outcome), want.Step(set, op, outcome); got != step {
					t.Errorf("%s: Step(%b, %s, %s) = %b; want %b", of, set, op, outcome, got, step)
				}
			}
		}
	}
}

// TestP11_1_PredefinedSteps steps through the predefined protocols as the document lists them.
func TestP11_1_PredefinedSteps(t *testing.T) {
	for _, text := range []string{"", "fn main() { }", "proto File { } proto Socket { final Z; } proto P { state A; final Z; op read A -> some Z; }"} {
		b, _ := made(t, parsed(t, text))
		for _, c := range []struct {
			name, op, outcome string
			set, want         uint32
		}{
			{"File", "read", "some", 0b111, 0b001}, {"File", "read", "none", 0b001, 0b010}, {"File", "read", "none", 0b110, 0}, {"File", "write", "over", 0b011, 0b010},
			{"File", "size", "ok", 0b111, 0b011}, {"File", "close", "ok", 0b011, 0b100}, {"File", "next", "item", 0b111, 0}, {"File", "read", "ok", 0b111, 0},
			{"Socket", "connect", "ok", 0b0001, 0b0010}, {"Socket", "connect", "fail", 0b1111, 0b0100}, {"Socket", "send", "lost", 0b0010, 0b0100}, {"Socket", "peek", "none", 0b1111, 0b0010},
			{"Socket", "recv", "lost", 0b0111, 0b0100}, {"Socket", "close", "ok", 0b0100, 0b1000}, {"Socket", "close", "ok", 0b1000, 0},
			{"Iter", "next", "item", 0b11, 0b01}, {"Iter", "next", "done", 0b01, 0b10}, {"Iter", "stop", "ok", 0b01, 0b10}, {"Iter", "left", "ok", 0b11, 0b01}, {"Iter", "left", "ok", 0b10, 0},
		} {
			a, ok := b.Find(c.name)
			if !ok {
				t.Fatalf("%s: Find(%s) = false", text, c.name)
			}
			if got := a.Step(c.set, c.op, c.outcome); got != c.want {
				t.Errorf("%s: %s: Step(%b, %s, %s) = %b; want %b", text, c.name, c.set, c.op, c.outcome, got, c.want)
			}
		}
	}
}

func TestP11_1_NotFound(t *testing.T) {
	text := "fn main(x) { let y = x; open z Q { } else { } } proto P { state A; final Z; op go A -> ok Z; } proto Late { final Z; } " +
		"proto Empty { } proto Lost { op go A -> ok A; } proto Stuck { state A; } proto Odd { final Z; op go Z -> ok Z; } proto Same { final Z; final Z; }"
	b, diags := made(t, parsed(t, text))
	if len(diags) != 5 {
		t.Errorf("%s: the diagnostics %v", text, diags)
	}
	names := []string{
		"", " ", "\x00", "p", "late", "LATE", "lAte", "Lat", "Latee", "ate", " P", "P ", "P\x00", "P\n", "PP", "Q", "Late\xff", "Ląte", strings.Repeat("P", 10000), "P Late", "P,Late",
		"file", "FILE", "FilE", "Fil", "Files", " File", "File ", "socket", "SOCKET", "iter", "ITER", "Ite", "File Socket Iter",
		"A", "Z", "go", "ok", "main", "x", "y", "z", "Open", "End", "Shut", "Fresh", "Ready", "read", "close", "some", "done",
		"Empty", "Lost", "Stuck", "Odd", "Same", "proto", "state", "final", "op", "0", "1", "3",
	}
	for _, name := range names {
		if a, ok := b.Find(name); a != nil || ok {
			t.Errorf("Find(%.40q): an automaton is %v, %v", name, a != nil, ok)
		}
	}
	// Names that are none have no effect on those that are.
	holds(t, b, text, proto("P", "A Z!", "go 0 ok 1"), proto("Late", "Z!"))
	for _, text := range []string{"", "fn main() { }", "proto Q { final Z; }", "proto P { }"} {
		b, _ := made(t, parsed(t, text))
		if a, ok := b.Find("P"); a != nil || ok {
			t.Errorf("%s: Find(P): an automaton is %v, %v", text, a != nil, ok)
		}
	}
}

// TestP11_1_NilBook asks what New returns for a list that is no tree: it has no protocols.
func TestP11_1_NilBook(t *testing.T) {
	b, _ := decl.New(nil)
	for _, name := range []string{"", "File", "P"} {
		if a, ok := b.Find(name); a != nil || ok {
			t.Errorf("Find(%q): an automaton is %v, %v", name, a != nil, ok)
		}
	}
	if names := b.Names(); len(names) != 0 {
		t.Errorf("the names are %q", names)
	}
}

// TestP11_1_Order has trees whose indices are not in the order of the children.
func TestP11_1_Order(t *testing.T) {
	l := []api.Node{
		{Kids: []int{9, 1, 8}},
		{Kind: api.NodeProto, Words: []string{"P"}, Kids: []int{7, 5, 2, 6, 4, 3}},
		{Kind: api.NodeState, Words: []string{"A"}, Nums: []int64{0}},
		{Kind: api.NodeState, Words: []string{"Y"}, Nums: []int64{1}},
		{Kind: api.NodeOp, Words: []string{"go", "A", "ok", "Z", "no", "Y"}},
		{Kind: api.NodeState, Words: []string{"Z"}, Nums: []int64{1}},
		{Kind: api.NodeOp, Words: []string{"stay", "B", "ok", "Z"}},
		{Kind: api.NodeState, Words: []string{"B"}, Nums: []int64{0}},
		{Kind: api.NodeProto, Words: []string{"Q"}, Kids: []int{11}},
		{Kind: api.NodeProto, Words: []string{"R"}, Kids: []int{10}},
		{Kind: api.NodeState, Words: []string{"Z"}, Nums: []int64{1}},
		{Kind: api.NodeState, Words: []string{"Y"}, Nums: []int64{1}},
	}
	b, diags := made(t, l)
	if len(diags) != 0 {
		t.Errorf("the diagnostics %v", diags)
	}
	holds(t, b, "an odd order", proto("R", "Z!"), proto("P", "B Z! A Y!", "stay 0 ok 1", "go 2 ok 1 no 3"), proto("Q", "Y!"))
}

// TestP11_1_ManyProtocols has as many protocols as a tree has room for.
func TestP11_1_ManyProtocols(t *testing.T) {
	var want []api.Proto
	root := of(api.NodeProgram)
	for i := range (api.MaxNodes - 2) / 2 {
		p := proto("P"+strconv.Itoa(i), "Z!")
		want = append(want, p)
		root.kids = append(root.kids, branchOf(p))
	}
	root.kids = append(root.kids, of(api.NodeProto, "Last"))
	l := list(root)
	b, diags := made(t, l)
	if last := len(l) - 1; len(l) != api.MaxNodes || !slices.Equal(diags, []api.Diag{{Code: api.DiagProto, At: l[last].At, Name: "Last"}}) {
		t.Errorf("%d nodes have the diagnostics %v", len(l), diags)
	}
	holds(t, b, "many protocols", want...)
}

// TestP11_1_EachIsValid holds what is found against layer 9.
func TestP11_1_EachIsValid(t *testing.T) {
	for _, text := range []string{"", "proto P { state A; final Z; op end A -> ok Z; } proto Q { } proto R { state A; }", "proto P { final Z; op go Z -> ok Z; } proto Q { final Z; final Z; }"} {
		l := parsed(t, text)
		if !tree.Right(l) {
			t.Fatalf("%s is no valid tree", text)
		}
		b, _ := made(t, l)
		for _, name := range b.Names() {
			if rule, at := auto.Wrong(found(t, b, name)); rule != 0 || at != 0 {
				t.Errorf("%s: the protocol %s violates the rule %d at %d", text, name, rule, at)
			}
		}
	}
}
