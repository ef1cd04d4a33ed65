package decl_test

import (
	"math"
	"slices"
	"strconv"
	"strings"
	"testing"

	"ballcock/api"
)

// codes are those of the diagnostics of this layer.
var codes = map[string]int{"proto": 1, "twice": 2, "none": 3}

// unmarked takes the marks @ out of a text, and tells the offsets of what they stand ahead of.
func unmarked(text string) (string, []int) {
	parts := strings.Split(text, "@")
	var offsets []int
	at := 0
	for _, part := range parts[:len(parts)-1] {
		at += len(part)
		offsets = append(offsets, at)
	}
	return strings.Join(parts, ""), offsets
}

// tells checks the diagnostics of a text, each a code and a name ("twice P; none Q"), and the names of the protocols that
// it declares ("R S"). A mark @ stands ahead of the node of each diagnostic, in their order.
func tells(t *testing.T, marked, diags, names string) {
	t.Helper()
	text, offsets := unmarked(marked)
	var want []api.Diag
	for i, at := range offsets {
		code, name, _ := strings.Cut(strings.Split(diags, "; ")[i], " ")
		want = append(want, api.Diag{Code: codes[code], At: at, Name: name})
	}
	b, got := made(t, parsed(t, text))
	if !slices.Equal(got, want) {
		t.Errorf("%.300s: the diagnostics %v; want %v", marked, got, want)
	}
	all := append([]string{"File", "Socket", "Iter"}, strings.Fields(names)...)
	if got := b.Names(); !slices.Equal(got, all) {
		t.Errorf("%.300s: the names %q; want %q", marked, got, all)
	}
	for _, d := range got {
		if a, ok := b.Find(d.Name); ok != slices.Contains(all, d.Name) || (a != nil) != ok {
			t.Errorf("%.300s: Find(%s): an automaton is %v, %v", marked, d.Name, a != nil, ok)
		}
	}
}

func TestP11_1_Unmarked(t *testing.T) {
	if text, offsets := unmarked("a @bc @@d"); text != "a bc d" || !slices.Equal(offsets, []int{2, 5, 5}) {
		t.Errorf("%q, %v", text, offsets)
	}
	if text, offsets := unmarked("abc"); text != "abc" || len(offsets) != 0 {
		t.Errorf("%q, %v", text, offsets)
	}
}

func TestP11_1_TwicePredefined(t *testing.T) {
	for _, name := range []string{"File", "Socket", "Iter"} {
		tells(t, "@proto "+name+" { final Z; }", "twice "+name, "")
		tells(t, "proto P { final Z; } @proto "+name+" { final Z; } proto Q { final Z; }", "twice "+name, "P Q")
		tells(t, "@proto "+name+" { final Z; } @proto "+name+" { final Z; }", "twice "+name+"; twice "+name, "")
	}
	tells(t, "@proto Iter { final Z; } @proto File { final Z; } proto file { final Z; } @proto Socket { final Z; }", "twice Iter; twice File; twice Socket", "file")
	// Not even one that is the same is declared again.
	tells(t, "@"+written(proto("Iter", "Ready Over!", "next 0 item 0 done 1", "stop 0 ok 1", "left 0 ok 0")), "twice Iter", "")
}

func TestP11_1_TwiceAfterValid(t *testing.T) {
	tells(t, "proto P { final Z; } @proto P { final Z; }", "twice P", "P")
	tells(t, "proto P { final Z; } @proto P { final Y; } @proto P { final X; }", "twice P; twice P", "P")
	tells(t, "proto P { final Z; } proto Q { final Z; } @proto P { final Y; }", "twice P", "P Q")
	tells(t, "proto Q { final Z; } proto P { final Z; } fn P() { } @proto Q { final Y; } @proto P { final Y; } proto R { final Z; }", "twice Q; twice P", "Q P R")
	// The first one remains.
	for _, text := range []string{"proto P { final A; } proto P { final B; }", "proto P { final A; } proto P { }", "proto P { final A; } proto P { op go X -> ok Y; }", "proto P { final A; } proto P { final B; } proto P { final C; }"} {
		b, _ := made(t, parsed(t, text))
		holds(t, b, text, proto("P", "A!"))
	}
}

func TestP11_1_TwiceAfterInvalid(t *testing.T) {
	tells(t, "@proto P { } @proto P { final Z; }", "proto P; twice P", "")
	tells(t, "proto P { @state A; } @proto P { final Z; }", "proto P; twice P", "")
	tells(t, "proto P { final Z; @final Z; } @proto P { final Z; }", "proto P; twice P", "")
	tells(t, "proto P { final Z; @op go Z -> ok Z; } @proto P { final Z; }", "proto P; twice P", "")
	tells(t, "proto P { final Z; @op go A -> ok Z; } @proto P { final Z; }", "none P; twice P", "")
	tells(t, "@proto P { } @proto P { } @proto P { final Z; } proto Q { final Z; }", "proto P; twice P; twice P", "Q")
	tells(t, "@proto P { } proto Q { final Z; } @proto P { final Z; } @proto Q { final Z; }", "proto P; twice P; twice Q", "Q")
}

func TestP11_1_NoneFrom(t *testing.T) {
	tells(t, "proto P { state A; final Z; @op end B -> ok Z; }", "none P", "")
	tells(t, "proto P { state A; final Z; @op end a -> ok Z; op go A -> ok Z; }", "none P", "")
	tells(t, "proto P { state A; final Z; op go A -> ok Z; @op end AA -> ok Z; }", "none P", "")
	tells(t, "proto P { @op end A -> ok Z; final Z; }", "none P", "")
	tells(t, "proto P { final Z; @op end A -> ok Z; }", "none P", "")
}

func TestP11_1_NoneTo(t *testing.T) {
	tells(t, "proto P { state A; final Z; @op end A -> ok X; }", "none P", "")
	tells(t, "proto P { state A; final Z; @op end A -> ok X, no Z, so A; }", "none P", "")
	tells(t, "proto P { state A; final Z; @op end A -> ok Z, no X, so A; }", "none P", "")
	tells(t, "proto P { state A; final Z; @op end A -> ok Z, no A, so X; }", "none P", "")
	tells(t, "proto P { state A; final Z; op go A -> ok Z; @op end A -> ok z; }", "none P", "")
	tells(t, "proto P { state A; final Z; @op end A -> Z ok; }", "none P", "")
}

// TestP11_1_NoneNames has texts that are names of something else than a state of the protocol.
func TestP11_1_NoneNames(t *testing.T) {
	for _, name := range []string{"P", "Q", "X", "Open", "File", "end", "ok", "main", "a", "AZ", "A_", "Ready", "Z0"} {
		tells(t, "proto Q { state X; final Y; op go X -> ok Y; } proto P { state A; final Z; @op end "+name+" -> ok Z; } fn main() { }", "none P", "Q")
		tells(t, "proto P { state A; final Z; @op end A -> ok "+name+"; } proto Q { state X; final Y; op go X -> ok Y; } fn main() { }", "none P", "Q")
		tells(t, "proto P { state A; final Z; @op end A -> no Z, ok "+name+"; }", "none P", "")
	}
}

func TestP11_1_NoneFirst(t *testing.T) {
	tells(t, "proto P { state A; final Z; @op end A -> ok X; op go X -> ok Z; }", "none P", "")
	tells(t, "proto P { state A; final Z; @op end X -> ok Z; op go A -> ok X; op end X -> ok X; }", "none P", "")
	tells(t, "proto P { state A; op a A -> ok Z; op b A -> no A; @op c B -> ok Z; op d A -> ok C; final Z; }", "none P", "")
	tells(t, "proto P { @op a X -> ok Y; op b Y -> ok Z; }", "none P", "")
}

// TestP11_1_NoneLate has names of states that stand behind the Op.
func TestP11_1_NoneLate(t *testing.T) {
	tells(t, "proto P { op end A -> ok Z; op go B -> ok A; state A; state B; final Z; }", "", "P")
	tells(t, "proto P { op end A -> ok Z; @op go C -> ok A; state A; state B; final Z; }", "none P", "")
}

func TestP11_1_ProtoWithoutStates(t *testing.T) {
	tells(t, "@proto P { }", "proto P", "")
	tells(t, "fn main() { } # no state\n @proto P {\n}", "proto P", "")
	tells(t, "@proto P { } @proto Q { } proto R { final Z; } @proto S { }", "proto P; proto Q; proto S", "R")
}

// statesText is the text of so many final states.
func statesText(count int) string {
	var s strings.Builder
	for i := range count {
		s.WriteString("final S" + strconv.Itoa(i) + "; ")
	}
	return s.String()
}

func TestP11_1_ProtoTooManyStates(t *testing.T) {
	for _, count := range []int{17, 18, 31, 32, 33, 64, 65, 100, 255, 256, 257} {
		tells(t, "proto P { @"+statesText(count)+"}", "proto P", "")
		tells(t, "proto P { op go S16 -> ok S0; op go S16 -> ok S16; @"+statesText(count)+"}", "proto P", "")
	}
	tells(t, "proto P { "+statesText(15)+"}", "", "P")
	tells(t, "proto P { "+statesText(16)+"}", "", "P")
	// With too many states, the rule about their names is the same one, and its place the first state.
	tells(t, "proto P { @state A; final A; final A; "+statesText(14)+"}", "proto P", "")
	tells(t, "proto P { state A; @final A; final A; "+statesText(13)+"}", "proto P", "")
}

func TestP11_1_ProtoMostStates(t *testing.T) {
	root := of(api.NodeProgram, of(api.NodeProto, "P"))
	for i := range api.MaxNodes - 2 {
		root.kids[0].kids = append(root.kids[0].kids, of(api.NodeState, "S"+strconv.Itoa(i), 1))
	}
	l := list(root)
	if _, diags := made(t, l); len(l) != api.MaxNodes || !slices.Equal(diags, []api.Diag{{Code: api.DiagProto, At: l[2].At, Name: "P"}}) {
		t.Errorf("%d nodes have the diagnostics %v", len(l), diags)
	}
}

func TestP11_1_ProtoStateTwice(t *testing.T) {
	tells(t, "proto P { final A; @final A; }", "proto P", "")
	tells(t, "proto P { state A; @final A; }", "proto P", "")
	tells(t, "proto P { final A; @state A; }", "proto P", "")
	tells(t, "proto P { final A; final B; final C; @final B; final C; final A; }", "proto P", "")
	tells(t, "proto P { final A; @final A; final A; }", "proto P", "")
	tells(t, "proto P { final A; final a; final B; @final A; }", "proto P", "")
	// The index is that among the states.
	tells(t, "proto P { state A; op a A -> ok A; op b A -> ok Z; final Z; op c A -> ok Z; @final A; op d A -> ok Z; }", "proto P", "")
	tells(t, "proto P { op a A -> ok A; final A; @final A; }", "proto P", "")
	// The same name in two protocols is none twice.
	tells(t, "proto P { final A; } proto Q { final A; }", "", "P Q")
}

func TestP11_1_ProtoStuck(t *testing.T) {
	tells(t, "proto P { @state A; }", "proto P", "")
	tells(t, "proto P { @state A; state B; }", "proto P", "")
	tells(t, "proto P { final Z; @state A; }", "proto P", "")
	tells(t, "proto P { final Z; @state A; op go A -> ok A; }", "proto P", "")
	tells(t, "proto P { @state A; state B; op go A -> ok B; op go B -> ok A; }", "proto P", "")
	tells(t, "proto P { state A; final Z; @state B; op go A -> ok B, end Z; }", "proto P", "")
	tells(t, "proto P { state A; state B; @state C; state D; final Z; op go A -> ok B; op go B -> ok Z; op go C -> ok D; }", "proto P", "")
	// The index is that among the states.
	tells(t, "proto P { op a A -> ok Z; final Z; op b A -> ok B; state A; op c A -> ok A; @state B; op d B -> ok B; state C; }", "proto P", "")
	// It is enough that some outcome leads on.
	tells(t, "proto P { state A; state B; final Z; op go A -> no A, ok B; op go B -> no A, end Z; }", "", "P")
}

func TestP11_1_ProtoMoveTwice(t *testing.T) {
	tells(t, "proto P { state A; final Z; op go A -> ok Z; @op go A -> ok Z; }", "proto P", "")
	tells(t, "proto P { state A; final Z; op go A -> ok Z; @op go A -> no A; op go A -> so Z; }", "proto P", "")
	tells(t, "proto P { state A; final Z; op a A -> ok Z; op b A -> ok Z; op c A -> ok Z; @op b A -> ok Z; op a A -> ok Z; }", "proto P", "")
	// The index is that among the Ops.
	tells(t, "proto P { op go A -> ok Z; state A; final Z; @op go A -> ok Z; final Y; }", "proto P", "")
	tells(t, "proto P { state A; state B; final Z; op go A -> ok Z; op go B -> ok Z; op Go A -> ok Z; }", "", "P")
}

func TestP11_1_ProtoOutcomeTwice(t *testing.T) {
	tells(t, "proto P { state A; final Z; @op go A -> ok Z, ok Z; }", "proto P", "")
	tells(t, "proto P { state A; final Z; @op go A -> ok Z, ok A; }", "proto P", "")
	tells(t, "proto P { state A; final Z; op a A -> ok Z; @op b A -> ok Z, no A, no Z; op c A -> ok A, ok Z; }", "proto P", "")
	tells(t, "proto P { op a A -> ok Z; final Z; @op b A -> a Z, b A, c Z, a A; state A; }", "proto P", "")
	tells(t, "proto P { state A; final Z; op go A -> ok Z, OK Z, o A; op end A -> ok Z; }", "", "P")
}

func TestP11_1_ProtoFinal(t *testing.T) {
	tells(t, "proto P { final Z; @op go Z -> ok Z; }", "proto P", "")
	tells(t, "proto P { state A; final Z; op end A -> ok Z; @op end Z -> ok Z; }", "proto P", "")
	tells(t, "proto P { state A; final Z; op end A -> ok Z; @op back Z -> ok A; op end Z -> ok Z; }", "proto P", "")
	tells(t, "proto P { op end A -> ok Z; state A; @op a Z -> ok A; final Z; op b Z -> ok A; }", "proto P", "")
}

// TestP11_1_TwiceAhead has names in use of declarations with other faults.
func TestP11_1_TwiceAhead(t *testing.T) {
	for _, parts := range []string{
		"", "state A;", "final Z; final Z;", "final Z; op go Z -> ok Z;", "state A; final Z; op go A -> ok Z, ok A;", "state A; final Z; op go A -> ok Z; op go A -> ok Z;",
		"op go A -> ok A;", "final Z; op go A -> ok Z;", "state A; final Z; op go A -> ok X;", "final A; final A; op a X -> ok X; op go A -> ok X, ok X;", statesText(17),
	} {
		tells(t, "@proto File { "+parts+" }", "twice File", "")
		tells(t, "proto P { final Z; } @proto P { "+parts+" }", "twice P", "P")
		tells(t, "@proto P { } @proto P { "+parts+" }", "proto P; twice P", "")
	}
}

// TestP11_1_NoneAhead has Ops that name no state in declarations that also violate a rule of layer 9.
func TestP11_1_NoneAhead(t *testing.T) {
	for _, parts := range []string{
		"", "state A;", "final Z; final Z;", "final Z; op go Z -> ok Z;", "state A; final Z; op go A -> ok Z, ok A;", "state A; final Z; op go A -> ok Z; op go A -> ok Z;", statesText(17),
	} {
		tells(t, "proto P { "+parts+" @op last X -> ok X; }", "none P", "")
		tells(t, "proto P { @op first X -> ok X; "+parts+" }", "none P", "")
		tells(t, "proto P { "+parts+" @op last X -> ok X, ok X; op last X -> ok X; }", "none P", "")
	}
}

// TestP11_1_ProtoRules has declarations that violate several rules of layer 9: the first of them is told.
func TestP11_1_ProtoRules(t *testing.T) {
	// The state S is stuck, and these Ops violate the rules about twofold moves and final states.
	const stuck, twice, final = "state S;", "op b A -> ok Z, ok Z;", "op a Z -> ok Z;"
	for _, ops := range []string{"", stuck, twice, final, stuck + twice, stuck + final, twice + final, final + twice, stuck + final + twice} {
		tells(t, "proto P { "+ops+" state A; final Z; op go A -> ok Z; @final Z; }", "proto P", "")
	}
	for _, ops := range []string{"", stuck, final, stuck + final} {
		tells(t, "proto P { "+ops+" state A; final Z; op go A -> ok Z; @"+twice+" }", "proto P", "")
		tells(t, "proto P { @"+twice+" state A; final Z; op go A -> ok Z; "+ops+" }", "proto P", "")
		tells(t, "proto P { "+ops+" state A; final Z; op go A -> ok Z; @op go A -> no A; "+final+" }", "proto P", "")
	}
	tells(t, "proto P { "+stuck+" final Z; @"+final+" }", "proto P", "")
	tells(t, "proto P { @"+final+" final Z; "+stuck+" }", "proto P", "")
	tells(t, "proto P { final Z; @"+stuck+" }", "proto P", "")
}

// TestP11_1_SeveralDiags has several declarations, with one diagnostic each at most, in their order.
func TestP11_1_SeveralDiags(t *testing.T) {
	tells(t, "proto A { final Z; @op go X -> ok Z; } @proto B { } @proto A { final Z; } proto C { final Z; } @proto C { } proto D { @state S; } @proto File { }",
		"none A; proto B; twice A; twice C; proto D; twice File", "C")
	tells(t, "@proto Z { } fn f() { } proto Y { final A; @final A; final A; final A; } fn Z() { } @proto Y { } proto X { final A; op a A -> ok A; @op a A -> ok A; } proto W { final A; }",
		"proto Z; proto Y; twice Y; proto X", "W")
	tells(t, "proto P { @op go A -> ok A; op go B -> ok B; op go A -> ok A; } proto Q { final Z; @op go A -> ok Z; } proto R { state A; @op go A -> ok B; }", "none P; none Q; none R", "")
}

// TestP11_1_DiagOrder has a tree whose indices and offsets are not in the order of the children.
func TestP11_1_DiagOrder(t *testing.T) {
	l := []api.Node{
		{Kids: []int{5, 2, 4, 1, 3}, At: 99},
		{Kind: api.NodeProto, Words: []string{"P"}, At: 3, Kids: []int{9, 7, 8, 6}},
		{Kind: api.NodeProto, Words: []string{"Q"}, At: math.MaxInt, Kids: []int{11, 10}},
		{Kind: api.NodeProto, Words: []string{"P"}, At: math.MinInt},
		{Kind: api.NodeProto, Words: []string{"R"}, At: 0},
		{Kind: api.NodeProto, Words: []string{"Iter"}, At: 40},
		{Kind: api.NodeState, Words: []string{"A"}, Nums: []int64{0}, At: 5},
		{Kind: api.NodeState, Words: []string{"B"}, Nums: []int64{0}, At: -6},
		{Kind: api.NodeState, Words: []string{"Z"}, Nums: []int64{1}, At: 7},
		{Kind: api.NodeState, Words: []string{"A"}, Nums: []int64{0}, At: 8},
		{Kind: api.NodeOp, Words: []string{"a", "Z", "ok", "Z"}, At: 1},
		{Kind: api.NodeOp, Words: []string{"b", "Z", "ok", "Z"}, At: 2},
	}
	b, diags := made(t, l)
	want := []api.Diag{
		{Code: api.DiagTwice, At: 40, Name: "Iter"}, {Code: api.DiagNone, At: 2, Name: "Q"}, {Code: api.DiagProto, At: 0, Name: "R"},
		{Code: api.DiagProto, At: 5, Name: "P"}, {Code: api.DiagTwice, At: math.MinInt, Name: "P"},
	}
	if !slices.Equal(diags, want) {
		t.Errorf("the diagnostics %v; want %v", diags, want)
	}
	holds(t, b, "an odd order")
}

// TestP11_1_DiagOffsets has a diagnostic of each code at offsets that are not those of a text, 0 among them.
func TestP11_1_DiagOffsets(t *testing.T) {
	for _, at := range []int{0, 1, -1, 6000, math.MaxInt, math.MinInt} {
		l := parsed(t, "proto File { } proto P { op go A -> ok A; } proto Q { } proto R { state A; } proto S { final Z; op go Z -> ok Z; }")
		for i := range l {
			l[i].At = at
		}
		b, diags := made(t, l)
		want := []api.Diag{{Code: 2, At: at, Name: "File"}, {Code: 3, At: at, Name: "P"}, {Code: 1, At: at, Name: "Q"}, {Code: 1, At: at, Name: "R"}, {Code: 1, At: at, Name: "S"}}
		if !slices.Equal(diags, want) {
			t.Errorf("the diagnostics %v; want %v", diags, want)
		}
		holds(t, b, "diagnostics")
	}
}

// TestP11_1_OtherLayers has faults that are no diagnostics of this layer.
func TestP11_1_OtherLayers(t *testing.T) {
	tells(t, "fn f(x, x) { y = z; } fn f(x: Q full to Y in X) { }", "", "")
	tells(t, "fn g(x: Pipe imm at Open) { open f Q { do f.close; do g.go; exit; } else { } } proto P { final Z; }", "", "P")
}
