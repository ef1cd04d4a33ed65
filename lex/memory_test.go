package lex_test

import (
	"slices"
	"strings"
	"testing"
	"unsafe"

	"ballcock/api"
	"ballcock/lex"
)

func TestP5_1_NewMemory(t *testing.T) {
	for _, s := range []string{"", " ", "a", "fn main() { }", "a->b # c\n1", strings.Repeat("+", 6000)} {
		first, _ := lex.Tokens(s)
		kept := slices.Clone(first)
		second, _ := lex.Tokens(s)
		// Whatever is done to one result, in its spare capacity too, the others do not change.
		for i := range first[:cap(first)] {
			first[:cap(first)][i] = word("other", 99)
		}
		if !slices.Equal(second, kept) {
			t.Errorf("Tokens(%q): two results share memory", short(s))
		}
		reads(t, s, kept...)
	}
}

// TestP5_1_ArgumentNotKept lays a text in memory that changes after the call,
// which shows whether the texts of tokens are parts of the argument.
func TestP5_1_ArgumentNotKept(t *testing.T) {
	const text = "fn main(x) { return 12 -> x; } # end"
	memory := []byte(text)
	l, f := lex.Tokens(unsafe.String(&memory[0], len(memory)))
	if string(memory) != text {
		t.Errorf("Tokens changed its argument to %q", memory)
	}
	for i := range memory {
		memory[i] = '?'
	}
	want, _ := lex.Tokens(text)
	if f != (api.Fault{}) || !slices.Equal(l, want) {
		t.Errorf("Tokens keeps its argument: %v", l)
	}
}

func TestP5_1_SameEachTime(t *testing.T) {
	texts := []string{"", "a->b", "a ! b", strings.Repeat(" ", 6001), "1 1234567890123456789", "fn main() { }"}
	for _, s := range texts {
		first, fault := lex.Tokens(s)
		for _, other := range texts {
			lex.Tokens(other)
			lex.Key(other)
			lex.Name(other)
		}
		if l, f := lex.Tokens(s); f != fault || !slices.Equal(l, first) {
			t.Errorf("Tokens(%q) = %v, %v, then %v, %v", short(s), first, fault, l, f)
		}
	}
}
