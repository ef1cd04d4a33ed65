package parse_test

import (
	"math/rand"
	"regexp"
	"slices"
	"strings"
	"testing"

	"ballcock/api"
	"ballcock/lex"
	"ballcock/parse"
)

// grammar is the chapter's, with the numbers of fractions as ABOVE0, and the kinds of a split as a rule of their own.
const grammar = `
program  = ( proto | fn )*
proto    = "proto" NAME "{" ( "state" NAME ";" | "final" NAME ";" | "op" NAME NAME "->" out ( "," out )* ";" )* "}"
out      = NAME NAME
fn       = "fn" NAME "(" [ param ( "," param )* ] ")" block
param    = NAME [ ":" NAME kind [ "least" ABOVE0 "/" ABOVE0 ] [ "at" names ] [ "to" names ] [ "in" names ] ]
kind     = "unique" | partkind
partkind = "full" | "share" | "imm" | "pure"
names    = NAME ( "|" NAME )*
block    = "{" statement* "}"
statement= "let" NAME "=" expr ";" | NAME "=" expr ";" | "open" NAME NAME block "else" block | "do" NAME "." NAME ( ";" | "{" ( NAME block )* "}" ) | "split" NAME "=" NAME partkind ABOVE0 "/" ABOVE0 [ "in" names ] block | "call" [ NAME "=" ] NAME "(" [ arg ( "," arg )* ] ")" ";" | "if" expr block [ "else" block ] | "while" expr block | "return" expr ";" | "exit" ";"
arg      = expr | "&" NAME
expr     = sum [ ( "<" | "==" ) sum ]
sum      = product ( ( "+" | "-" ) product )*
product  = part ( ( "*" | "/" ) part )*
part     = NUM | NAME | "-" part | "(" expr ")"
`

// rules are those of the grammar without options, repetitions and parentheses: each of these became a rule with a name of its own.
type rules map[string][][]string

// reading reads a line of the grammar.
type reading struct {
	rules
	name  string
	parts []string
}

func grammarRules() rules {
	made := rules{}
	form := regexp.MustCompile(`"[^"]+"|\w+|[()\[\]*|=]`)
	for _, line := range strings.Split(strings.TrimSpace(grammar), "\n") {
		parts := form.FindAllString(line, -1)
		r := reading{made, parts[0], parts[2:]}
		made[parts[0]] = r.choices("")
	}
	return made
}

// choices reads sequences with "|" between, up to the end of a part.
func (r *reading) choices(end string) [][]string {
	all := [][]string{nil}
	for len(r.parts) > 0 {
		part := r.parts[0]
		r.parts = r.parts[1:]
		last := &all[len(all)-1]
		switch part {
		case end:
			return all
		case "|":
			all = append(all, nil)
		case "(":
			*last = append(*last, r.rule(r.choices(")")))
		case "[":
			*last = append(*last, r.rule(append(r.choices("]"), nil)))
		case "*":
			// None, or one more behind as many as there are.
			name := r.rule([][]string{nil})
			r.rules[name] = append(r.rules[name], []string{name, (*last)[len(*last)-1]})
			(*last)[len(*last)-1] = name
		default:
			*last = append(*last, part)
		}
	}
	return all
}

// rule makes a rule with a name of its own.
func (r *reading) rule(choices [][]string) string {
	name := r.name + "'"
	for r.rules[name] != nil {
		name += "'"
	}
	r.rules[name] = choices
	return name
}

// state is how far a rule's choice was read, from a token on.
type state struct {
	rule         string
	choice, done int
	from         int
}

// chart is Earley's: the states ahead of each token that was read.
type chart struct {
	rules
	sets [][]state
}

func newChart(r rules) *chart {
	c := &chart{rules: r}
	c.close([]state{{rule: "program"}})
	return c
}

// symbol is what a state reads next; empty if it is done.
func (c *chart) symbol(s state) string {
	if choice := c.rules[s.rule][s.choice]; s.done < len(choice) {
		return choice[s.done]
	}
	return ""
}

// close adds a set, with all states that follow from those of it.
func (c *chart) close(set []state) {
	at := len(c.sets)
	c.sets = append(c.sets, nil)
	has := map[state]struct{}{}
	empty := map[string]struct{}{}
	add := func(s state) {
		if _, ok := has[s]; !ok {
			has[s] = struct{}{}
			c.sets[at] = append(c.sets[at], s)
		}
	}
	for _, s := range set {
		add(s)
	}
	for i := 0; i < len(c.sets[at]); i++ {
		s := c.sets[at][i]
		symbol := c.symbol(s)
		if symbol != "" {
			for choice := range c.rules[symbol] {
				add(state{symbol, choice, 0, at})
			}
			// What was read in no tokens may be read here once more.
			if _, ok := empty[symbol]; ok {
				add(state{s.rule, s.choice, s.done + 1, s.from})
			}
			continue
		}
		if s.from == at {
			empty[s.rule] = struct{}{}
		}
		for _, before := range slices.Clone(c.sets[s.from]) {
			if c.symbol(before) == s.rule {
				add(state{before.rule, before.choice, before.done + 1, before.from})
			}
		}
	}
}

// fits tells whether a token is one of a kind of the grammar.
func fits(symbol string, token api.Token) bool {
	switch symbol {
	case "NAME":
		return lex.Name(token.S)
	case "NUM":
		return token.Kind == api.TokNum
	case "ABOVE0":
		return token.Kind == api.TokNum && strings.Trim(token.S, "0") != ""
	}
	return token.Kind != api.TokEnd && symbol == `"`+token.S+`"`
}

// allows tells whether a program can continue with a token.
func (c *chart) allows(token api.Token) bool {
	return slices.ContainsFunc(c.sets[len(c.sets)-1], func(s state) bool {
		if token.Kind == api.TokEnd {
			return s.rule == "program" && s.from == 0 && c.symbol(s) == ""
		}
		return fits(c.symbol(s), token)
	})
}

// read goes on with a token that is allowed.
func (c *chart) read(token api.Token) {
	var set []state
	for _, s := range c.sets[len(c.sets)-1] {
		if fits(c.symbol(s), token) {
			set = append(set, state{s.rule, s.choice, s.done + 1, s.from})
		}
	}
	c.close(set)
}

// faultOf is the fault of a text that layer 5 can read, without those of the limits.
func faultOf(r rules, s string) api.Fault {
	tokens, _ := lex.Tokens(s)
	c := newChart(r)
	for _, token := range tokens {
		if !c.allows(token) {
			return api.Fault{Err: api.ErrParse, At: token.At}
		}
		if token.Kind != api.TokEnd {
			c.read(token)
		}
	}
	return api.Fault{}
}

// everyToken has a text for each token that makes a difference.
func everyToken() []string {
	l := strings.Fields("proto state final op fn least at to in let open else do split call if while return exit unique full share imm pure")
	l = append(l, strings.Fields("== -> { } ( ) ; , . : = < + - * / | &")...)
	return append(l, "x", "sixteen_letters_", "seventeen_letters", "0", "000", "1", "999999999999999999")
}

// samples are programs that have all rules of the grammar, each option and each repetition.
func samples() []string {
	return []string{
		"",
		"proto P { }",
		"proto P { state A ; final B ; op go A -> ok B ; op go B -> ok A , no B , or A ; state C ; }",
		"fn f ( ) { } fn g ( a ) { } proto P { } fn h ( a , b , c ) { exit ; }",
		"fn f ( a : P unique , b : P full least 1 / 2 , c : P share at A , d : P imm to A , e : P pure in A ) { }",
		"fn f ( a : P imm least 1 / 2 at A | B to A in C | D | E , b , c : P pure at A in B , d : P pure to A in B ) { }",
		"fn f ( ) { let x = 1 ; x = y ; return x ; exit ; return ( 1 ) ; }",
		"fn f ( ) { open x P { } else { } open x P { exit ; } else { exit ; exit ; } }",
		"fn f ( ) { do x . go ; do x . go { } do x . go { ok { } } do x . go { ok { exit ; } no { } or { exit ; } } }",
		"fn f ( ) { split y = x full 1 / 2 { } split y = x share 1 / 2 in A { exit ; } split y = x imm 1 / 2 in A | B | C { } split y = x pure 1 / 2 { } }",
		"fn f ( ) { call g ( ) ; call x = g ( ) ; call g ( 1 ) ; call g ( & x ) ; call x = g ( & x , 1 + x , - x , & y ) ; }",
		"fn f ( ) { if x { } if x { } else { } if x < 1 { exit ; } else { if y { } } while x == 1 { exit ; } while ( x ) { } }",
		"fn f ( ) { x = 1 + 2 - 3 * 4 / 5 < - 6 ; x = - ( 1 == 2 ) ; x = 1 * ( 2 + 3 ) / - - 4 - ( ( x ) ) ; x = ( 1 < 2 ) == ( 3 < 4 ) ; }",
	}
}

// TestP7_1_ReferenceTokens puts each token in the place of each token of the samples, and ahead of it, and ends the text there.
func TestP7_1_ReferenceTokens(t *testing.T) {
	r := grammarRules()
	allowed, faults := 0, 0
	for _, sample := range samples() {
		tokens := strings.Fields(sample)
		c := newChart(r)
		for i := range len(tokens) + 1 {
			before := strings.Join(append(slices.Clone(tokens[:i]), ""), " ")
			for _, next := range append(everyToken(), "") {
				read, _ := lex.Tokens(next)
				for _, rest := range [][]string{tokens[i:], tokens[min(i+1, len(tokens)):], nil} {
					s := before + next + " " + strings.Join(rest, " ")
					if next == "" {
						s = before
					}
					l, f := parse.Parse(s)
					at := len(before)
					if c.allows(read[0]) {
						allowed++
						if f != (api.Fault{}) && f.At <= at {
							t.Fatalf("Parse(%q): %v", s, f)
						}
						continue
					}
					faults++
					if len(l) != 0 || f != (api.Fault{Err: api.ErrParse, At: at}) {
						t.Fatalf("Parse(%q): %v; want ErrParse at %d", s, f, at)
					}
				}
			}
			if i < len(tokens) {
				read, _ := lex.Tokens(tokens[i])
				if !c.allows(read[0]) {
					t.Fatalf("%q is no program", sample)
				}
				c.read(read[0])
			}
		}
		nodes(t, sample)
	}
	if allowed < 1000 || faults < 10_000 {
		t.Errorf("%d allowed, %d faults", allowed, faults)
	}
}

// sentence is a random text of a rule.
func sentence(dice *rand.Rand, r rules, symbol string, deep int) []string {
	choices, ok := r[symbol]
	if !ok {
		switch symbol {
		case "NAME":
			return []string{[]string{"x", "go", "A", "sixteen_letters_"}[dice.Intn(4)]}
		case "NUM":
			return []string{[]string{"0", "1", "007"}[dice.Intn(3)]}
		case "ABOVE0":
			return []string{[]string{"1", "02", "30"}[dice.Intn(3)]}
		}
		return []string{strings.Trim(symbol, `"`)}
	}
	choice := choices[dice.Intn(len(choices))]
	if deep <= 0 {
		// The shortest choices end.
		choice = slices.MinFunc(choices, func(a, b []string) int { return len(a) - len(b) })
	}
	var l []string
	for _, part := range choice {
		l = append(l, sentence(dice, r, part, deep-1)...)
	}
	return l
}

// TestP7_1_ReferenceRandom has random programs, of which tokens are taken out, put in, changed and swapped.
func TestP7_1_ReferenceRandom(t *testing.T) {
	r := grammarRules()
	dice := rand.New(rand.NewSource(71))
	programs, faults := 0, 0
	for range 3000 {
		tokens := sentence(dice, r, "program", 8+dice.Intn(14))
		if len(tokens) > 120 {
			continue
		}
		for range dice.Intn(3) {
			tokens = changed(dice, tokens)
		}
		s := strings.Join(tokens, " ")
		l, f := parse.Parse(s)
		want := faultOf(r, s)
		if f.Err == api.ErrDeep && want.Err == api.OK {
			continue
		}
		if f != want {
			t.Fatalf("Parse(%q): %v; want %v", s, f, want)
		}
		if want.Err == api.OK {
			programs++
			nodes(t, s)
		} else {
			faults++
			if len(l) != 0 {
				t.Fatalf("Parse(%q) has nodes beside %v", s, f)
			}
		}
	}
	if programs < 500 || faults < 500 {
		t.Errorf("%d programs, %d faults", programs, faults)
	}
}

// changed changes one thing of a list of tokens.
func changed(dice *rand.Rand, tokens []string) []string {
	every := everyToken()
	other := every[dice.Intn(len(every))]
	if len(tokens) == 0 {
		return []string{other}
	}
	l, at := slices.Clone(tokens), dice.Intn(len(tokens))
	switch dice.Intn(4) {
	case 0:
		return slices.Delete(l, at, at+1)
	case 1:
		return slices.Insert(l, at, other)
	case 2:
		l[at] = other
	case 3:
		i := dice.Intn(len(l))
		l[at], l[i] = l[i], l[at]
	}
	return l
}
