package contract_test

import (
	"slices"
	"strings"
	"testing"

	"ballcock/api"
)

// right are Params without diagnostics, each kind's with the Names that it requires.
var right = []string{
	"x: File unique at Open|End to Shut|End", "x: File full at Open|End to End|Open in End|Open", "x: File share in Open|End", "x: File imm at Open|End", "x: File pure in Open|End",
}

// wrong checks that a Param has a diagnostic, and what its contract contains.
func wrong(t *testing.T, param string, want api.Contract) {
	t.Helper()
	want.Name, want.Handle, want.Proto = "x", true, "File"
	if want.Least == (api.Rat{}) {
		want.Least = none
	}
	has(t, "@"+param, want)
}

func TestP14_1_Right(t *testing.T) {
	for _, param := range right {
		tells(t, "fn f("+param+") { }")
		tells(t, "fn f(y: File imm at Shut, @"+strings.Replace(param, "Open", "Nowhere", 1)+", z) { } fn g("+param+") { }")
	}
}

// TestP14_1_Names has each choice of Names for each kind; there is nothing else wrong with any of them.
func TestP14_1_Names(t *testing.T) {
	for kind, required := range []string{"at to", "at to in", "in", "at", "in"} {
		for choice := range 8 {
			c := api.Contract{Name: "x", Handle: true, Proto: "File", Kind: kind, Least: none}
			text, words := "x: File "+kinds[kind], []string(nil)
			for i, part := range []struct {
				word, names string
				place       *uint32
				set         uint32
			}{{"at", "Open", &c.At, 1}, {"to", "End", &c.To, 2}, {"in", "End|Open", &c.In, 3}} {
				if choice>>i&1 == 1 {
					words = append(words, part.word)
					text += " " + part.word + " " + part.names
					*part.place = part.set
				}
			}
			if strings.Join(words, " ") != required {
				text = "@" + text
			}
			has(t, text, c)
		}
	}
}

// TestP14_1_NamesWhere has one Names too few and one too many beside a least fraction, and for protocols that are declared.
func TestP14_1_NamesWhere(t *testing.T) {
	for _, param := range []string{
		"share least 1/2", "imm least 1/2", "pure least 1/2", "share least 1/2 at Open", "imm least 1/2 in Open", "pure least 1/2 to Open", "share least 1/2 at Open in Open", "imm least 1/2 at Open in Open", "pure least 1/2 to Open in Open", "unique", "full",
		"full at Open to Open", "full at Open in Open", "full to Open in Open", "unique to Open", "unique at Open", "unique to Open in Open", "imm at Open to Open in Open",
	} {
		for _, name := range []string{"File", "Door"} {
			tells(t, declared+"fn f(@x: "+name+" "+param+") { }")
		}
	}
}

// TestP14_1_NoState has a name that is no state of the protocol in each place of each Names of each kind.
func TestP14_1_NoState(t *testing.T) {
	for kind, param := range right {
		words := strings.Split(param, " ")
		for i, names := range words {
			if i < 3 || words[i-1] != "at" && words[i-1] != "to" && words[i-1] != "in" {
				continue
			}
			for _, name := range []string{"Nowhere", "Lost", "Live", "Over", "shut", "OPEN", "Opened", "Ope", "File", "x", "f", "read", "some", "Z"} {
				parts := strings.Split(names, "|")
				for j := range len(parts) + 1 {
					changed := slices.Clone(words)
					changed[i] = strings.Join(slices.Insert(slices.Clone(parts), j, name), "|")
					// Its set is as without it.
					c := api.Contract{Kind: kind}
					set(&c, words)
					wrong(t, strings.Join(changed, " "), c)
				}
				changed := slices.Clone(words)
				changed[i] = name
				c := api.Contract{Kind: kind}
				set(&c, changed)
				wrong(t, strings.Join(changed, " "), c)
				changed[i] = name + "|" + name + "|" + name
				wrong(t, strings.Join(changed, " "), c)
			}
		}
	}
}

// set sets the sets of a contract by the words of a Param with File.
func set(c *api.Contract, words []string) {
	places := map[string]*uint32{"at": &c.At, "to": &c.To, "in": &c.In}
	for i, word := range words {
		if place, ok := places[word]; ok {
			for name := range strings.SplitSeq(words[i+1], "|") {
				*place |= map[string]uint32{"Open": 1, "End": 2, "Shut": 4}[name]
			}
		}
	}
}

// TestP14_1_OtherProtocols has names that are states of other protocols of the program only.
func TestP14_1_OtherProtocols(t *testing.T) {
	l := protocols()
	for _, p := range l {
		for _, other := range l {
			for _, state := range other.states {
				param := "x: " + p.name + " imm at " + state
				if !slices.Contains(p.states, state) {
					param = "@" + param
				}
				tells(t, declared+"fn f("+param+") { }")
			}
		}
	}
}

// TestP14_1_StateTwice has a state twice in each Names of each kind, side by side and apart, and more often.
func TestP14_1_StateTwice(t *testing.T) {
	for kind, param := range right {
		words := strings.Split(param, " ")
		c := api.Contract{Kind: kind}
		set(&c, words)
		for i, names := range words {
			if !strings.Contains(names, "|") {
				continue
			}
			first, second, _ := strings.Cut(names, "|")
			for _, twice := range []string{first + "|" + first + "|" + second, first + "|" + second + "|" + second, first + "|" + second + "|" + first, names + "|" + names, second + "|" + first + "|" + first + "|" + first} {
				changed := slices.Clone(words)
				changed[i] = twice
				wrong(t, strings.Join(changed, " "), c)
			}
		}
	}
	wrong(t, "x: File imm at Open|Open", api.Contract{Kind: 3, At: 1})
	wrong(t, "x: File imm at Shut|Shut", api.Contract{Kind: 3, At: 4})
	wrong(t, "x: File pure in Open|Open", api.Contract{Kind: 4, In: 1})
	tells(t, declared+"fn f(@x: Wide imm at S15|S0|S1|S2|S3|S4|S5|S6|S7|S8|S9|S10|S11|S12|S13|S14|S15) { }")
	tells(t, declared+"fn f(x: Wide imm at S15|S0|S1|S2|S3|S4|S5|S6|S7|S8|S9|S10|S11|S12|S13|S14) { }")
}

// TestP14_1_StateInTwo has a state in two different Names, and in the Names of two Params.
func TestP14_1_StateInTwo(t *testing.T) {
	tells(t, "fn f(x: File unique at Open to Open) { }")
	tells(t, "fn f(x: File unique at Open|End|Shut to Shut|End|Open) { }")
	tells(t, "fn f(x: File full at Open to Open in Open) { }")
	tells(t, "fn f(x: File full at End|Open to Open|End in Open|End) { }")
	tells(t, "fn f(x: File imm at Open, y: File imm at Open, z: File pure in Open) { } fn g(x: File imm at Open) { }")
}

// TestP14_1_LeastKinds has least fractions at each kind; what they are is told by TestP14_1_Least.
func TestP14_1_LeastKinds(t *testing.T) {
	for kind, param := range right {
		for _, least := range []string{"1/1", "1/2", "1/999999999999999999", "3/3", "2/3"} {
			text := strings.Replace(param, kinds[kind], kinds[kind]+" least "+least, 1)
			if kind < 2 {
				text = "@" + text
			}
			tells(t, "fn f("+text+") { }")
		}
		for _, least := range []string{"2/1", "3/2", "999999999999999999/999999999999999998", "4/3", "999999999999999999/1"} {
			tells(t, "fn f(@"+strings.Replace(param, kinds[kind], kinds[kind]+" least "+least, 1)+") { }")
		}
	}
}

// TestP14_1_InFinal has final states in each of the Names: only in may have none.
func TestP14_1_InFinal(t *testing.T) {
	for _, p := range protocols() {
		for i, state := range p.states {
			mark := ""
			if p.finals>>i&1 == 1 {
				mark = "@"
			}
			for _, kind := range []string{"share in ", "pure in ", "full at " + state + " to " + state + " in "} {
				tells(t, declared+"fn f("+mark+"x: "+p.name+" "+kind+state+") { }")
				if i > 0 {
					// The first state of a protocol that has a second one is none of its final ones.
					tells(t, declared+"fn f("+mark+"x: "+p.name+" "+kind+p.states[0]+"|"+state+") { }")
					tells(t, declared+"fn f("+mark+"x: "+p.name+" "+kind+state+"|"+p.states[0]+") { }")
				}
			}
			tells(t, declared+"fn f(x: "+p.name+" imm at "+state+", y: "+p.name+" unique at "+state+" to "+state+") { }")
		}
	}
}

// TestP14_1_FullSets has each choice of sets of a full File.
func TestP14_1_FullSets(t *testing.T) {
	file := protocols()[0]
	for choice := range 7 * 7 * 7 {
		c := api.Contract{Name: "x", Handle: true, Proto: "File", Kind: 1, Least: none, At: uint32(choice%7 + 1), To: uint32(choice/7%7 + 1), In: uint32(choice/49 + 1)}
		within := c.At&c.In == c.At && c.To&c.In == c.To
		text := file.written(c, choice%2 == 1)
		if !within || c.In&4 != 0 {
			text = "@" + text
		}
		has(t, text, c)
	}
}

// TestP14_1_FullOutside has one state of at or of to that is not in in, alone and beside others.
func TestP14_1_FullOutside(t *testing.T) {
	const all = "S0|S1|S2|S3|S4|S5|S6|S7|S8|S9|S10|S11|S12|S13|S14"
	for i, state := range strings.Split(all, "|") {
		rest := strings.Join(slices.Delete(strings.Split(all, "|"), i, i+1), "|")
		tells(t, declared+"fn f(x: Wide full at "+state+" to "+state+" in "+all+") { }")
		tells(t, declared+"fn f(x: Wide full at "+rest+" to "+rest+" in "+rest+") { }")
		for _, sets := range []string{state + " to S0|S1 in ", "S0|S1 to " + state + " in ", all + " to S0 in ", "S0 to " + all + " in ", all + " to " + all + " in "} {
			tells(t, declared+"fn f(@x: Wide full at "+sets+rest+") { }")
			tells(t, declared+"fn f(x: Wide full at "+sets+all+") { }")
		}
	}
	tells(t, "fn f(@x: File full at Open|Shut to Open in Open) { }")
	tells(t, "fn f(@x: File full at Open to Open|Shut in Open) { }")
}

// TestP14_1_NotFullOutside has at and to that differ at unique: in is not there, and nothing is wrong.
func TestP14_1_NotFullOutside(t *testing.T) {
	for set := range 7 * 7 {
		c := api.Contract{Name: "x", Handle: true, Proto: "File", Least: none, At: uint32(set%7 + 1), To: uint32(set/7 + 1)}
		has(t, protocols()[0].written(c, false), c)
	}
}

// TestP14_1_Several has several reasons at once: there is still one diagnostic.
func TestP14_1_Several(t *testing.T) {
	most := api.Rat{N: 9, D: 2}
	wrong(t, "x: File unique least 9/2 in Shut|Shut|Nowhere", api.Contract{Kind: 0, Least: most, In: 4})
	wrong(t, "x: File unique least 1/2 at Nowhere to Nowhere|Open|Open in Open|Shut", api.Contract{Kind: 0, Least: api.Rat{N: 1, D: 2}, To: 1, In: 5})
	wrong(t, "x: File full least 9/2 at Open|Open to Nowhere|Shut", api.Contract{Kind: 1, Least: most, At: 1, To: 4})
	wrong(t, "x: File full least 18/4 at Shut to Nowhere in End|End|Shut", api.Contract{Kind: 1, Least: most, At: 4, In: 6})
	wrong(t, "x: File full least 1/1 at Open to End in Shut", api.Contract{Kind: 1, Least: api.Rat{N: 1, D: 1}, At: 1, To: 2, In: 4})
	wrong(t, "x: File share least 9/2 at Nowhere to Nowhere in Shut|Nowhere", api.Contract{Kind: 2, Least: most, In: 4})
	wrong(t, "x: File share least 9/2", api.Contract{Kind: 2, Least: most})
	wrong(t, "x: File imm least 9/2 in Shut", api.Contract{Kind: 3, Least: most, In: 4})
	wrong(t, "x: File imm least 9/2 at Open|End|Open|Nowhere to Shut", api.Contract{Kind: 3, Least: most, At: 3, To: 4})
	wrong(t, "x: File pure least 9/2 to Open|Open in Shut|Shut|Nowhere", api.Contract{Kind: 4, Least: most, To: 1, In: 4})
	wrong(t, "x: File pure in Nowhere|Elsewhere|Nowhere", api.Contract{Kind: 4})
	tells(t, declared+"fn f(@x: Wide full least 7/5 at S0|S1|S1|Nowhere to S2|S3|S2 in S4|S15|S4|S16) { }")
}

// TestP14_1_OtherLayers has faults that other layers tell, later ones or layer 13.
func TestP14_1_OtherLayers(t *testing.T) {
	tells(t, "fn f(x: File imm at Open) { do x.read; do x.pull; exit; call f(1); }")
	tells(t, "fn main(x: File unique at Open to Shut) { call main(&x); return 1; }")
	tells(t, "fn f(x: File unique at Open to Shut) { split g = x imm 3/2 { split h = g full 1/2 in Nowhere|Shut { do h.close; } } }")
	tells(t, "fn f() { open x File { } else { } }")
	tells(t, "")
}
