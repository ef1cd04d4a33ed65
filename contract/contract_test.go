package contract_test

import (
	"slices"
	"strings"
	"testing"

	"ballcock/api"
	"ballcock/contract"
	"ballcock/parse"
	"ballcock/tree"
)

// declared are protocols of a program. A Door has states with names of a File in other places and final ones in the middle; a
// Wide has as many states as it may have; a Gone has only a final one.
const declared = "proto Door { state Shut; final Lost; state Open; state Ajar; final End; op push Shut -> ok Open, stuck Ajar; op leave Open -> ok End; op lose Ajar -> ok Lost; } " +
	"proto Wide { state S0; state S1; state S2; state S3; state S4; state S5; state S6; state S7; state S8; state S9; state S10; state S11; state S12; state S13; state S14; final S15; " +
	"op go S0 -> ok S1; op go S1 -> ok S2; op go S2 -> ok S3; op go S3 -> ok S4; op go S4 -> ok S5; op go S5 -> ok S6; op go S6 -> ok S7; op go S7 -> ok S8; op go S8 -> ok S9; op go S9 -> ok S10; op go S10 -> ok S11; op go S11 -> ok S12; op go S12 -> ok S13; op go S13 -> ok S14; op go S14 -> ok S15; } " +
	"proto Gone { final Z; } "

// kinds are the words of the kinds, in the order of their numbers.
var kinds = []string{"unique", "full", "share", "imm", "pure"}

// protocol is the name of one, and its states in order.
type protocol struct {
	name   string
	states []string
	finals uint32
}

func protocols() []protocol {
	split := func(s string) []string { return strings.Split(s, " ") }
	return []protocol{
		{"File", split("Open End Shut"), 4},
		{"Socket", split("Fresh Live Dead Closed"), 8},
		{"Iter", split("Ready Over"), 2},
		{"Door", split("Shut Lost Open Ajar End"), 2 | 16},
		{"Wide", split("S0 S1 S2 S3 S4 S5 S6 S7 S8 S9 S10 S11 S12 S13 S14 S15"), 1 << 15},
		{"Gone", split("Z"), 1},
	}
}

// names are the states of a set, as in Names.
func (p protocol) names(set uint32) string {
	var l []string
	for i, state := range p.states {
		if set>>i&1 == 1 {
			l = append(l, state)
		}
	}
	return strings.Join(l, "|")
}

// parsed is the tree of a text.
func parsed(t *testing.T, text string) []api.Node {
	t.Helper()
	l, fault := parse.Parse(text)
	if fault.Err != api.OK {
		t.Fatalf("%.300s: the fault %v at %d", text, fault.Err, fault.At)
	}
	return l
}

// unmarked takes the marks @ out of a text, and tells the offsets of what they stand ahead of.
func unmarked(text string) (string, []int) {
	parts := strings.Split(text, "@")
	var offsets []int
	at := 0
	for _, part := range parts[:len(parts)-1] {
		at += len(part)
		offsets = append(offsets, at)
	}
	return strings.Join(parts, ""), offsets
}

// params are the places of the Params of a tree, in preorder.
func params(l []api.Node) []int {
	return slices.DeleteFunc(tree.Walk(l), func(at int) bool { return l[at].Kind != api.NodeParam })
}

// tells checks that a text has a diagnostic at each Param behind a mark @ and at no other one, by Check and by Of at each Param.
func tells(t *testing.T, marked string) {
	t.Helper()
	text, offsets := unmarked(marked)
	shown := strings.ReplaceAll(marked, declared, "")
	l := parsed(t, text)
	var want []api.Diag
	for _, at := range params(l) {
		var wantOf []api.Diag
		if slices.Contains(offsets, l[at].At) {
			wantOf = []api.Diag{{Code: 7, At: l[at].At, Name: l[at].Words[0]}}
		}
		if _, got := contract.Of(l, at); !slices.Equal(got, wantOf) {
			t.Errorf("%.400s: at %d the diagnostics %v; want %v", shown, at, got, wantOf)
		}
		want = append(want, wantOf...)
	}
	if len(want) != len(offsets) {
		t.Fatalf("%.400s: %d marks, %d of them at Params", shown, len(offsets), len(want))
	}
	if got := contract.Check(l); !slices.Equal(got, want) {
		t.Errorf("%.400s: the diagnostics %v; want %v", shown, got, want)
	}
}

// beside are programs with a place % for a Param.
var beside = []string{
	declared + "fn f(%) { }",
	declared + "fn f(p1, %, p2: Iter imm at Ready) { let p3 = p1; }",
	"fn g(p0) { } fn f(@p1: Door imm at Nowhere, %) { } " + declared + "fn h(@p2: Gone pure) { }",
}

// has checks a Param, which is marked if it has a diagnostic, and its contract by Of and by Func, alone and beside other Params.
func has(t *testing.T, param string, want api.Contract) {
	t.Helper()
	for i, program := range beside {
		marked := strings.ReplaceAll(program, "%", param)
		tells(t, marked)
		text, _ := unmarked(marked)
		l := parsed(t, text)
		at := slices.IndexFunc(l, func(n api.Node) bool { return n.Kind == api.NodeParam && n.Words[0] == want.Name })
		if got, _ := contract.Of(l, at); got != want {
			t.Errorf("%s: the contract %v; want %v", param, got, want)
		}
		// In each program but the first one there is another Param ahead of it.
		if got, ok := contract.Func(l, "f"); !ok || len(got) <= min(i, 1) || got[min(i, 1)] != want {
			t.Errorf("%s: the contracts %v, %v of the function; want %v among them", param, got, ok, want)
		}
	}
}

// none is the least fraction of a handle that has none.
var none = api.Rat{N: 0, D: 1}

func TestP14_1_Unmarked(t *testing.T) {
	if text, offsets := unmarked("a @bc @@d"); text != "a bc d" || !slices.Equal(offsets, []int{2, 5, 5}) {
		t.Errorf("%q, %v", text, offsets)
	}
	for i, word := range kinds {
		if l := parsed(t, "fn f(x: File "+word+") { }"); l[2].Nums[0] != int64(i) {
			t.Errorf("%s is the kind %d", word, l[2].Nums[0])
		}
	}
	for _, p := range protocols() {
		if names := p.names(1<<len(p.states) - 1); names != strings.Join(p.states, "|") {
			t.Errorf("%s has the states %s", p.name, names)
		}
	}
}

func TestP14_1_Number(t *testing.T) {
	for _, name := range []string{"a", "x", "File", "Door", "Open", "main", "f", "g", "sixteen_letters_", "_"} {
		has(t, name, api.Contract{Name: name})
	}
}

func TestP14_1_Handle(t *testing.T) {
	for param, want := range map[string]api.Contract{
		"x: File unique at Open to Shut":                              {Kind: 0, Proto: "File", At: 1, To: 4},
		"x: File unique at Shut to Shut":                              {Kind: 0, Proto: "File", At: 4, To: 4},
		"x: Socket unique at Fresh|Live to Closed|Dead":               {Kind: 0, Proto: "Socket", At: 3, To: 12},
		"x: Door unique at Shut|Lost|Open|Ajar|End to Open":           {Kind: 0, Proto: "Door", At: 31, To: 4},
		"x: Gone unique at Z to Z":                                    {Kind: 0, Proto: "Gone", At: 1, To: 1},
		"x: File full at Open to End in Open|End":                     {Kind: 1, Proto: "File", At: 1, To: 2, In: 3},
		"x: Socket full at Live to Live|Dead in Dead|Fresh|Live":      {Kind: 1, Proto: "Socket", At: 2, To: 6, In: 7},
		"x: Door full at Ajar to Ajar in Ajar":                        {Kind: 1, Proto: "Door", At: 8, To: 8, In: 8},
		"x: Iter full at Ready to Ready in Ready":                     {Kind: 1, Proto: "Iter", At: 1, To: 1, In: 1},
		"x: File share in End":                                        {Kind: 2, Proto: "File", In: 2},
		"x: Door share in Open|Ajar":                                  {Kind: 2, Proto: "Door", In: 12},
		"x: Wide share in S0|S1|S2|S3|S4|S5|S6|S7|S8|S9|S10|S14":      {Kind: 2, Proto: "Wide", In: 0x47FF},
		"x: File imm at Open":                                         {Kind: 3, Proto: "File", At: 1},
		"x: Door imm at Open":                                         {Kind: 3, Proto: "Door", At: 4},
		"x: Door imm at Shut":                                         {Kind: 3, Proto: "Door", At: 1},
		"x: Door imm at End|Lost":                                     {Kind: 3, Proto: "Door", At: 18},
		"x: Wide imm at S15":                                          {Kind: 3, Proto: "Wide", At: 0x8000},
		"x: Gone imm at Z":                                            {Kind: 3, Proto: "Gone", At: 1},
		"x: Socket pure in Fresh":                                     {Kind: 4, Proto: "Socket", In: 1},
		"x: Iter pure in Ready":                                       {Kind: 4, Proto: "Iter", In: 1},
		"x: Door pure in Ajar|Shut|Open":                              {Kind: 4, Proto: "Door", In: 13},
		"x: Wide pure in S14|S13|S12|S11|S10|S9|S8|S7|S6|S5|S4|S3|S2": {Kind: 4, Proto: "Wide", In: 0x7FFC},
	} {
		want.Name, want.Handle, want.Least = "x", true, none
		has(t, param, want)
		// The name is the Param's own, also if something else is called so.
		for _, name := range []string{"f", "main", "File", "Door", "Open", "sixteen_letters_"} {
			want.Name = name
			has(t, name+strings.TrimPrefix(param, "x"), want)
		}
	}
}

// TestP14_1_Sets has each set of the states of a protocol in each of the Names, in their order and turned round.
func TestP14_1_Sets(t *testing.T) {
	for _, p := range protocols() {
		if len(p.states) > 5 {
			continue
		}
		for set := uint32(1); set < 1<<len(p.states); set++ {
			for _, c := range []api.Contract{
				{Kind: 3, At: set}, {Kind: 2, In: set}, {Kind: 4, In: set}, {Kind: 0, At: set, To: 1}, {Kind: 0, At: 1, To: set}, {Kind: 1, At: set, To: set, In: set},
			} {
				c.Name, c.Handle, c.Proto, c.Least = "x", true, p.name, none
				for _, turn := range []bool{false, true} {
					mark := ""
					if c.In&p.finals != 0 {
						mark = "@"
					}
					has(t, mark+p.written(c, turn), c)
				}
			}
		}
	}
}

// written is a Param with a contract of the protocol, with the states of its Names turned round or not.
func (p protocol) written(c api.Contract, turn bool) string {
	text := c.Name + ": " + p.name + " " + kinds[c.Kind]
	for _, part := range []struct {
		word string
		set  uint32
	}{{"at", c.At}, {"to", c.To}, {"in", c.In}} {
		if part.set == 0 {
			continue
		}
		l := strings.Split(p.names(part.set), "|")
		if turn {
			slices.Reverse(l)
		}
		text += " " + part.word + " " + strings.Join(l, "|")
	}
	return text
}

// TestP14_1_EachState has each state of each protocol alone, and all but it.
func TestP14_1_EachState(t *testing.T) {
	for _, p := range protocols() {
		all := uint32(1<<len(p.states) - 1)
		for i := range p.states {
			for _, set := range []uint32{1 << i, all &^ (1 << i), all} {
				if set != 0 {
					has(t, "x: "+p.name+" imm at "+p.names(set), api.Contract{Name: "x", Handle: true, Proto: p.name, Kind: 3, Least: none, At: set})
				}
			}
		}
	}
}

func TestP14_1_Least(t *testing.T) {
	const most = 999_999_999_999_999_999
	for text, want := range map[string]api.Rat{
		"1/1": {N: 1, D: 1}, "2/2": {N: 1, D: 1}, "1/2": {N: 1, D: 2}, "2/4": {N: 1, D: 2}, "12/18": {N: 2, D: 3}, "7/9": {N: 7, D: 9}, "50/100": {N: 1, D: 2}, "1/1000": {N: 1, D: 1000}, "030/0045": {N: 2, D: 3},
		"999999999999999999/999999999999999999": {N: 1, D: 1}, "1/999999999999999999": {N: 1, D: most}, "999999999999999998/999999999999999999": {N: most - 1, D: most}, "333333333333333333/999999999999999999": {N: 1, D: 3},
	} {
		leastOf(t, "@", "", " least "+text, want)
	}
	for text, want := range map[string]api.Rat{
		"2/1": {N: 2, D: 1}, "4/2": {N: 2, D: 1}, "3/2": {N: 3, D: 2}, "6/4": {N: 3, D: 2}, "101/100": {N: 101, D: 100}, "999999999999999999/1": {N: most, D: 1}, "999999999999999999/999999999999999998": {N: most, D: most - 1}, "300/10": {N: 30, D: 1},
	} {
		leastOf(t, "@", "@", " least "+text, want)
	}
	leastOf(t, "", "", "", none)
}

// leastOf checks a least fraction, as it is written or not at all, of each kind, with the marks of unique and full ones and
// of the others.
func leastOf(t *testing.T, whole, mark, text string, want api.Rat) {
	t.Helper()
	has(t, whole+"x: File unique"+text+" at Open to Shut", api.Contract{Name: "x", Handle: true, Proto: "File", Kind: 0, Least: want, At: 1, To: 4})
	has(t, whole+"x: File full"+text+" at Open to End in Open|End", api.Contract{Name: "x", Handle: true, Proto: "File", Kind: 1, Least: want, At: 1, To: 2, In: 3})
	has(t, mark+"x: Door share"+text+" in Open", api.Contract{Name: "x", Handle: true, Proto: "Door", Kind: 2, Least: want, In: 4})
	has(t, mark+"x: File imm"+text+" at Shut", api.Contract{Name: "x", Handle: true, Proto: "File", Kind: 3, Least: want, At: 4})
	has(t, mark+"x: Socket pure"+text+" in Fresh|Dead", api.Contract{Name: "x", Handle: true, Proto: "Socket", Kind: 4, Least: want, In: 5})
}
