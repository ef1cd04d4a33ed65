package lex_test

import (
	"math/rand"
	"regexp"
	"slices"
	"strings"
	"testing"

	"ballcock/api"
	"ballcock/lex"
)

// The tests here hold the package against the chapter written as regular expressions.

var (
	blankForm = regexp.MustCompile(`^([ \t\n\r]|#[^\n]*)+`)
	wordForm  = regexp.MustCompile(`^[A-Za-z_][A-Za-z_0-9]*`)
	numForm   = regexp.MustCompile(`^[0-9]+`)
	signForm  = regexp.MustCompile(`^(==|->|[{}();,.:=<+\-*/|&])`)
	nameForm  = regexp.MustCompile(`^[A-Za-z_][A-Za-z_0-9]{0,15}$`)
)

// expected are the tokens and the fault of a text that is not too long.
func expected(s string) ([]api.Token, api.Fault) {
	var l []api.Token
	for at := 0; ; {
		at += len(blankForm.FindString(s[at:]))
		if at == len(s) {
			return append(l, end(at)), api.Fault{}
		}
		token := api.Token{Kind: api.TokWord, S: wordForm.FindString(s[at:]), At: at}
		if token.S == "" {
			token.Kind, token.S = api.TokNum, numForm.FindString(s[at:])
		}
		if token.S == "" {
			token.Kind, token.S = api.TokSign, signForm.FindString(s[at:])
		}
		if token.S == "" || token.Kind == api.TokNum && len(token.S) > 18 {
			return nil, api.Fault{Err: api.ErrLex, At: at}
		}
		l = append(l, token)
		at += len(token.S)
	}
}

// agrees checks what the package says of a text; false if that is not so.
func agrees(t *testing.T, s string) bool {
	t.Helper()
	l, f := lex.Tokens(s)
	want, fault := expected(s)
	if f != fault || !slices.Equal(l, want) {
		t.Errorf("Tokens(%q) = %v, %v; want %v, %v", s, l, f, want, fault)
		return false
	}
	named := nameForm.MatchString(s) && !slices.Contains(allKeywords(), s)
	if lex.Key(s) != slices.Contains(allKeywords(), s) || lex.Name(s) != named {
		t.Errorf("Key(%q) = %v, Name = %v", s, lex.Key(s), lex.Name(s))
		return false
	}
	return true
}

func TestP5_ReferenceShort(t *testing.T) {
	const alphabet = "aZ_07=->{.&# \t\n\r!\xc3\xa9\x00"
	texts := []string{""}
	for range 5 {
		var longer []string
		for _, s := range texts {
			if !agrees(t, s) {
				return
			}
			for i := range len(alphabet) {
				longer = append(longer, s+alphabet[i:i+1])
			}
		}
		texts = longer
	}
}

func TestP5_ReferenceLong(t *testing.T) {
	dice := rand.New(rand.NewSource(5))
	parts := slices.Concat(allSigns(), allKeywords(), gaps(), []string{" ", "\n", "#", "x", "_9", "main", "0", "12", strings.Repeat("8", 9), strings.Repeat("b", 8)})
	for range 5000 {
		var text strings.Builder
		for range dice.Intn(60) {
			text.WriteString(parts[dice.Intn(len(parts))])
		}
		s := text.String()
		// Now and then a byte is another one, so that there are faults behind many tokens.
		if at := dice.Intn(200); at < len(s) {
			s = s[:at] + string([]byte{byte(dice.Intn(256))}) + s[at+1:]
		}
		if !agrees(t, s) {
			return
		}
	}
}
