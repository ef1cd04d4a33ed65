package contract_test

import (
	"math/big"
	"math/rand"
	"slices"
	"strconv"
	"strings"
	"testing"

	"ballcock/api"
	"ballcock/contract"
)

// The tests here write random Params, and hold what the package tells of them against the chapter written out on words.

// written is a Param as it is written: its words, and the names of its Names.
type written struct {
	name, proto, kind, above, below string
	at, to, in                      []string
}

// text is that of a Param in the grammar of chapter 7.
func (w written) text() string {
	if w.proto == "" {
		return w.name
	}
	text := w.name + ": " + w.proto + " " + w.kind
	if w.above != "" {
		text += " least " + w.above + "/" + w.below
	}
	for i, names := range [][]string{w.at, w.to, w.in} {
		if len(names) > 0 {
			text += " " + []string{"at", "to", "in"}[i] + " " + strings.Join(names, "|")
		}
	}
	return text
}

// fraction is the least fraction of a Param; false: there is none.
func (w written) fraction() (*big.Rat, bool) {
	if w.above == "" {
		return new(big.Rat), false
	}
	f, ok := new(big.Rat).SetString(strings.TrimLeft(w.above, "0") + "/" + strings.TrimLeft(w.below, "0"))
	return f, ok
}

// contract is that of a Param with a protocol.
func (w written) contract(p protocol) api.Contract {
	if w.proto == "" {
		return api.Contract{Name: w.name}
	}
	f, _ := w.fraction()
	set := func(names []string) uint32 {
		var set uint32
		for i, state := range p.states {
			if slices.Contains(names, state) {
				set += 1 << i
			}
		}
		return set
	}
	return api.Contract{
		Name: w.name, Handle: true, Proto: w.proto, Kind: slices.Index(kinds, w.kind), Least: api.Rat{N: f.Num().Int64(), D: f.Denom().Int64()}, At: set(w.at), To: set(w.to), In: set(w.in),
	}
}

// reasons are those of the chapter for a diagnostic: the number of the item, and which part of it.
func (w written) reasons(p protocol) []string {
	if w.proto == "" {
		return nil
	}
	var l []string
	add := func(holds bool, reason string) {
		if holds && !slices.Contains(l, reason) {
			l = append(l, reason)
		}
	}
	for i, names := range [][]string{w.at, w.to, w.in} {
		which := []string{" at", " to", " in"}[i]
		for j, name := range names {
			state := slices.Index(p.states, name)
			add(state < 0, "1 none"+which)
			add(slices.Contains(names[:j], name), "1 twice"+which)
			add(which == " in" && state >= 0 && p.finals>>state&1 == 1, "4 final")
			add(which != " in" && state >= 0 && w.kind == "full" && !slices.Contains(w.in, name), "4 outside"+which)
		}
	}
	required := map[string][3]bool{"unique": {true, true, false}, "full": {true, true, true}, "share": {false, false, true}, "pure": {false, false, true}, "imm": {true, false, false}}
	add(required[w.kind] != [3]bool{len(w.at) > 0, len(w.to) > 0, len(w.in) > 0}, "2")
	f, ok := w.fraction()
	add(ok && (w.kind == "unique" || w.kind == "full"), "3 whole")
	add(ok && f.Cmp(big.NewRat(1, 1)) > 0, "3 above")
	return l
}

// maker makes random Params and programs.
type maker struct {
	*rand.Rand
}

func (m maker) pick(l ...string) string { return l[m.Intn(len(l))] }

// slip tells whether something is to be done once in so many times.
func (m maker) slip(times int) bool { return m.Intn(times) == 0 }

// names are some states of a protocol, out of those that fit, and now and then others.
func (m maker) names(p protocol, fit []string) []string {
	l := slices.Clone(fit)
	m.Shuffle(len(l), func(i, j int) { l[i], l[j] = l[j], l[i] })
	l = l[:1+m.Intn(len(l))]
	for m.slip(12) {
		l = slices.Insert(l, m.Intn(len(l)+1), m.pick(append(p.states, "Nowhere", "Open", "Ready", "S3", p.name)...))
	}
	return l
}

// param is one that is often right, or nearly so.
func (m maker) param(name string) written {
	if m.slip(5) {
		return written{name: name}
	}
	p := protocols()[m.Intn(len(protocols()))]
	w := written{name: name, proto: p.name, kind: m.pick(kinds...)}
	var open []string
	for i, state := range p.states {
		if p.finals>>i&1 == 0 || m.slip(8) {
			open = append(open, state)
		}
	}
	if len(open) == 0 {
		open = p.states
	}
	fit := open
	if w.kind == "unique" || w.kind == "imm" {
		fit = p.states
	}
	has := map[string]string{"unique": "at to", "full": "at to in", "share": "in", "imm": "at", "pure": "in"}[w.kind]
	if m.slip(8) {
		has = m.pick("", "at", "to", "in", "at to", "at in", "to in", "at to in")
	}
	if strings.Contains(has, "in") {
		if w.in = m.names(p, fit); w.kind == "full" && !m.slip(6) {
			fit = w.in
		}
	}
	if strings.Contains(has, "at") {
		w.at = m.names(p, fit)
	}
	if strings.Contains(has, "to") {
		w.to = m.names(p, fit)
	}
	if w.kind == "unique" || w.kind == "full" {
		if !m.slip(10) {
			return w
		}
	}
	if m.slip(2) {
		above, below := m.number(), m.number()
		if above > below && !m.slip(4) {
			above, below = below, above
		}
		w.above, w.below = strconv.FormatInt(above, 10), m.pick("", "0", "00")+strconv.FormatInt(below, 10)
		w.below = w.below[max(0, len(w.below)-18):]
	}
	return w
}

// number is one of a fraction.
func (m maker) number() int64 {
	if m.slip(4) {
		return 1 + m.Int63n(999_999_999_999_999_999)
	}
	return 1 + m.Int63n(9)
}

// program writes functions with Params that are marked if there is a reason.
func (m maker) program(functions ...[]written) string {
	text := []string{"", declared}[m.Intn(2)]
	last := ""
	if text == "" {
		last = declared
	}
	for i, params := range functions {
		var texts []string
		for _, w := range params {
			mark := ""
			if len(w.reasons(of(w.proto))) > 0 {
				mark = "@"
			}
			texts = append(texts, mark+w.text())
		}
		text += " fn f" + strconv.Itoa(i) + "(" + strings.Join(texts, ", ") + ") { }"
	}
	return text + last
}

// of is the protocol with a name, or none.
func of(name string) protocol {
	if i := slices.IndexFunc(protocols(), func(p protocol) bool { return p.name == name }); i >= 0 {
		return protocols()[i]
	}
	return protocol{}
}

func TestP14_1_Reference(t *testing.T) {
	m := maker{rand.New(rand.NewSource(1411))}
	counts := map[string]int{}
	for range 2000 {
		functions := make([][]written, 1+m.Intn(3))
		for i := range functions {
			for j := range m.Intn(4) {
				w := m.param("p" + strconv.Itoa(j))
				functions[i] = append(functions[i], w)
				reasons := w.reasons(of(w.proto))
				counts[strings.Join(reasons, ", ")]++
				if len(reasons) == 0 {
					counts["right "+w.kind]++
				}
			}
		}
		marked := m.program(functions...)
		tells(t, marked)
		text, _ := unmarked(marked)
		l := parsed(t, text)
		var wants []api.Contract
		for i, function := range functions {
			var want []api.Contract
			for _, w := range function {
				want = append(want, w.contract(of(w.proto)))
			}
			if got, ok := contract.Func(l, "f"+strconv.Itoa(i)); !ok || !slices.Equal(got, want) {
				t.Fatalf("%s: the contracts %v, %v; want %v", text, got, ok, want)
			}
			wants = append(wants, want...)
		}
		for i, at := range params(l) {
			if got, _ := contract.Of(l, at); got != wants[i] {
				t.Fatalf("%s: at %d the contract %v; want %v", text, at, got, wants[i])
			}
		}
	}
	// Each reason by itself, and Params of each kind without any.
	for _, reason := range []string{"1 none at", "1 none to", "1 none in", "1 twice at", "1 twice to", "1 twice in", "2", "3 whole", "3 above", "4 final", "4 outside at", "4 outside to"} {
		if counts[reason] < 8 {
			t.Errorf("only %d Params with the reason %s alone", counts[reason], reason)
		}
	}
	for _, kind := range append(kinds, "") {
		if counts["right "+kind] < 100 {
			t.Errorf("only %d Params of %s without a reason", counts["right "+kind], kind)
		}
	}
}
