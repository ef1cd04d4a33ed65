package lex_test

import (
	"strings"
	"testing"

	"ballcock/lex"
)

// allKeywords are the keywords of the chapter.
func allKeywords() []string {
	return strings.Split("proto state final op fn least at to in let open else do split call if while return exit unique full share imm pure", " ")
}

func TestP5_2_Keywords(t *testing.T) {
	keywords := map[string]int{}
	for _, s := range allKeywords() {
		keywords[s]++
	}
	if len(keywords) != 24 {
		t.Fatalf("there are %d keywords", len(keywords))
	}
	for _, s := range allKeywords() {
		if !lex.Key(s) || lex.Name(s) {
			t.Errorf("%q is no keyword, or a name", s)
		}
		for _, near := range []string{s + "s", s + "_", s + "1", "_" + s, "x" + s, s + s, strings.ToUpper(s), strings.ToUpper(s[:1]) + s[1:], s[1:], s[:len(s)-1]} {
			if keywords[near] > 0 {
				continue
			}
			if lex.Key(near) || !lex.Name(near) {
				t.Errorf("%q is a keyword, or no name", near)
			}
		}
		for _, wrong := range []string{" " + s, s + " ", s + "\n", s + "\x00", s + "#", s + ";"} {
			if lex.Key(wrong) || lex.Name(wrong) {
				t.Errorf("%q is a keyword or a name", wrong)
			}
		}
	}
}

func TestP5_2_NoKeywords(t *testing.T) {
	for _, s := range []string{"", " ", "main", "File", "x", "_", "for", "func", "none", "names", "by", "1", "->", "==", "{", "#", "proto state", "fn main", "\u00e9", strings.Repeat("in", 4000)} {
		if lex.Key(s) {
			t.Errorf("Key(%q)", short(s))
		}
	}
}

func TestP5_2_Names(t *testing.T) {
	for _, s := range []string{
		"a", "z", "A", "Z", "_", "__", "a1", "_1", "Fn", "FN", "x_y_Z_0", "main", "File", "least_", "outcome",
		"abcdefghijklmnop", "ABCDEFGHIJKLMNOP", "________________", "a123456789012345", "protoprotoprotop",
	} {
		if !lex.Name(s) {
			t.Errorf("%q is no name", s)
		}
	}
	for _, s := range []string{
		"", " ", "1", "1a", "9_", "0", "12", "a b", " a", "a ", "a\n", "a-b", "a.b", "a#", "#a", "a;", "->", "==", "-", "{", "&a",
		"\u00e9", "a\u00e9", "\u00e9a", "a\x00", "\x00", "a\xff", "\xffa", "@", "[", "`", "a@", "a[", "a`", "a{", "a/", "a:",
		"abcdefghijklmnopq", "_________________", "a1234567890123456", "1bcdefghijklmnop", "abcdefghijklmno-", "abcdefghijklmno\u00e9",
		strings.Repeat("a", 32), strings.Repeat("a", 6000), strings.Repeat("a", 6001), strings.Repeat("a", 100000),
	} {
		if lex.Name(s) {
			t.Errorf("%q is a name", short(s))
		}
	}
}

func TestP5_2_NameBytes(t *testing.T) {
	const letters = "ABCDEFGHIJKLMNOPQRSTUVWXYZabcdefghijklmnopqrstuvwxyz_"
	for b := range 256 {
		s := string([]byte{byte(b)})
		if want := strings.Contains(letters, s); lex.Name(s) != want || lex.Name(s+"a") != want {
			t.Errorf("Name: the first byte %q", s)
		}
		// Behind each of the first bytes of the longest name, too.
		for size := 1; size < 16; size++ {
			before := strings.Repeat("q", size)
			want := strings.Contains(letters+"0123456789", s)
			if lex.Name(before+s) != want {
				t.Errorf("Name(%q) = %v", before+s, !want)
			}
			if size < 15 && lex.Name(before+s+"q") != want {
				t.Errorf("Name(%q) = %v", before+s+"q", !want)
			}
		}
		if lex.Name(strings.Repeat("q", 16) + s) {
			t.Errorf("Name: 17 bytes, the last one %q", s)
		}
	}
}
