package lex_test

import (
	"slices"
	"strings"
	"testing"

	"ballcock/api"
	"ballcock/lex"
)

func word(s string, at int) api.Token { return api.Token{Kind: api.TokWord, S: s, At: at} }

func num(s string, at int) api.Token { return api.Token{Kind: api.TokNum, S: s, At: at} }

func sign(s string, at int) api.Token { return api.Token{Kind: api.TokSign, S: s, At: at} }

func end(at int) api.Token { return api.Token{Kind: api.TokEnd, At: at} }

// allSigns are the signs of the chapter.
func allSigns() []string {
	return strings.Split("== -> { } ( ) ; , . : = < + - * / | &", " ")
}

// gaps are texts of blanks alone, of each kind.
func gaps() []string {
	return []string{" ", "\t", "\n", "\r", "\r\n", "  ", " \t\n\r", "#\n", "# all of it\n", "#\n#\n", "# a # b\n", " # a == 1 ; -> \n\t", "#\r\n", "#\xc3\xa9\x00!\n"}
}

// short is a text as far as it fits in a message.
func short(s string) string {
	if len(s) > 80 {
		return s[:80] + ".."
	}
	return s
}

// reads checks that a text has these tokens, and no fault.
func reads(t *testing.T, s string, want ...api.Token) {
	t.Helper()
	l, f := lex.Tokens(s)
	if f != (api.Fault{}) {
		t.Errorf("Tokens(%q) has the fault %v", short(s), f)
	}
	if len(l) > 30 && len(want) > 30 && !slices.Equal(l, want) {
		t.Errorf("Tokens(%q) has %d tokens; want %d, or others", short(s), len(l), len(want))
	} else if !slices.Equal(l, want) {
		t.Errorf("Tokens(%q) = %v; want %v", short(s), l, want)
	}
}

// fails checks that a text has this fault, and no tokens beside it.
func fails(t *testing.T, s string, err api.Errno, at int) {
	t.Helper()
	if l, f := lex.Tokens(s); len(l) != 0 || f != (api.Fault{Err: err, At: at}) {
		t.Errorf("Tokens(%q) = %v, %v; want no tokens, %v at %d", short(s), l, f, err, at)
	}
}

// single checks that a text is one token, by itself and between blanks.
func single(t *testing.T, kind int, s string) {
	t.Helper()
	reads(t, s, api.Token{Kind: kind, S: s}, end(len(s)))
	for _, gap := range gaps() {
		reads(t, gap+s+gap, api.Token{Kind: kind, S: s, At: len(gap)}, end(len(gap)+len(s)+len(gap)))
	}
}

func TestP5_1_Words(t *testing.T) {
	for _, s := range []string{
		"a", "Z", "_", "__", "a1", "_1", "A0_z9", "x_y", "main", "fn", "proto", "pure", "Fn",
		"ABCDEFGHIJKLMNOPQRSTUVWXYZ", "abcdefghijklmnopqrstuvwxyz", "_0123456789", "abcdefghijklmnop", "abcdefghijklmnopq",
		"a123456789012345678901234567890", strings.Repeat("word", 300),
	} {
		single(t, api.TokWord, s)
	}
	for c := 'a'; c <= 'z'; c++ {
		single(t, api.TokWord, string(c))
		single(t, api.TokWord, strings.ToUpper(string(c)))
		single(t, api.TokWord, "_"+string(c)+strings.ToUpper(string(c)))
	}
	for c := '0'; c <= '9'; c++ {
		single(t, api.TokWord, "a"+string(c))
	}
}

func TestP5_1_Numbers(t *testing.T) {
	for _, s := range []string{
		"0", "1", "9", "00", "007", "10", "1234567890", "12345678901234567",
		"123456789012345678", "000000000000000000", "999999999999999999", "000000000000000001",
	} {
		single(t, api.TokNum, s)
	}
	for c := '0'; c <= '9'; c++ {
		single(t, api.TokNum, string(c))
	}
}

func TestP5_1_LongNumbers(t *testing.T) {
	for _, s := range []string{
		"1234567890123456789", "0000000000000000000", "0000000000000000001", "9999999999999999999",
		"00000000000000000000", strings.Repeat("7", 36), strings.Repeat("1", 6000),
	} {
		fails(t, s, api.ErrLex, 0)
	}
	const long = "1234567890123456789"
	for _, behind := range []string{"a", " ", ";", ".5", "#", "!", "\n1", "_1"} {
		fails(t, long+behind, api.ErrLex, 0)
	}
	fails(t, "x 1234567890123456789", api.ErrLex, 2)
	fails(t, "# 1\n\t-1234567890123456789", api.ErrLex, 6)
	fails(t, "123456789012345678 1234567890123456789", api.ErrLex, 19)
	fails(t, "1/"+long+"/"+long, api.ErrLex, 2)
	// In a word and in a comment, digits are no number.
	reads(t, "a"+long, word("a"+long, 0), end(20))
	reads(t, "#"+long, end(20))
	// A number ends at everything that is no digit.
	reads(t, "123456789012345678.123456789012345678", num("123456789012345678", 0), sign(".", 18), num("123456789012345678", 19), end(37))
	reads(t, "123456789012345678x1", num("123456789012345678", 0), word("x1", 18), end(20))
	reads(t, "123456789012345678 1", num("123456789012345678", 0), num("1", 19), end(20))
	reads(t, "123456789012345678#1", num("123456789012345678", 0), end(20))
}

func TestP5_1_Signs(t *testing.T) {
	for _, s := range allSigns() {
		single(t, api.TokSign, s)
	}
}

func TestP5_1_LongestSigns(t *testing.T) {
	reads(t, "=", sign("=", 0), end(1))
	reads(t, "==", sign("==", 0), end(2))
	reads(t, "===", sign("==", 0), sign("=", 2), end(3))
	reads(t, "====", sign("==", 0), sign("==", 2), end(4))
	reads(t, "=====", sign("==", 0), sign("==", 2), sign("=", 4), end(5))
	reads(t, "= =", sign("=", 0), sign("=", 2), end(3))
	reads(t, "=#\n=", sign("=", 0), sign("=", 3), end(4))
	reads(t, "<=", sign("<", 0), sign("=", 1), end(2))
	reads(t, "=<", sign("=", 0), sign("<", 1), end(2))
	reads(t, "-", sign("-", 0), end(1))
	reads(t, "->", sign("->", 0), end(2))
	reads(t, "--", sign("-", 0), sign("-", 1), end(2))
	reads(t, "-->", sign("-", 0), sign("->", 1), end(3))
	reads(t, "->->", sign("->", 0), sign("->", 2), end(4))
	reads(t, "->-", sign("->", 0), sign("-", 2), end(3))
	reads(t, "=->=", sign("=", 0), sign("->", 1), sign("=", 3), end(4))
	reads(t, "==->==", sign("==", 0), sign("->", 2), sign("==", 4), end(6))
	reads(t, "-=", sign("-", 0), sign("=", 1), end(2))
	reads(t, "||&&", sign("|", 0), sign("|", 1), sign("&", 2), sign("&", 3), end(4))
	fails(t, "- >", api.ErrLex, 2)
	fails(t, "->>", api.ErrLex, 2)
	fails(t, "=>", api.ErrLex, 1)
	fails(t, ">", api.ErrLex, 0)
	fails(t, "a > b", api.ErrLex, 2)
}

func TestP5_1_SideBySide(t *testing.T) {
	reads(t, "a->b", word("a", 0), sign("->", 1), word("b", 3), end(4))
	reads(t, "1a", num("1", 0), word("a", 1), end(2))
	reads(t, "1a2", num("1", 0), word("a2", 1), end(3))
	reads(t, "a1", word("a1", 0), end(2))
	reads(t, "1_", num("1", 0), word("_", 1), end(2))
	reads(t, "12 34", num("12", 0), num("34", 3), end(5))
	reads(t, "ab cd", word("ab", 0), word("cd", 3), end(5))
	reads(t, "fnmain", word("fnmain", 0), end(6))
	reads(t, "1.5", num("1", 0), sign(".", 1), num("5", 2), end(3))
	reads(t, "-1", sign("-", 0), num("1", 1), end(2))
	reads(t, "a==b=c=-1", word("a", 0), sign("==", 1), word("b", 3), sign("=", 4), word("c", 5), sign("=", 6), sign("-", 7), num("1", 8), end(9))
	reads(t, "do f.read{some{}}", word("do", 0), word("f", 3), sign(".", 4), word("read", 5), sign("{", 9), word("some", 10), sign("{", 14), sign("}", 15), sign("}", 16), end(17))
	reads(t, " ab 12;", word("ab", 1), num("12", 4), sign(";", 6), end(7))
}

// kindOf is the kind of a token by its text.
func kindOf(s string) int {
	switch {
	case slices.Contains(allSigns(), s):
		return api.TokSign
	case '0' <= s[0] && s[0] <= '9':
		return api.TokNum
	}
	return api.TokWord
}

// grown are the pairs whose texts, side by side, are not these two tokens.
func grown(a, b string) bool {
	switch kindOf(a) {
	case api.TokWord:
		return kindOf(b) != api.TokSign
	case api.TokNum:
		return kindOf(b) == api.TokNum
	}
	return a == "=" && (b == "=" || b == "==")
}

func TestP5_1_Pairs(t *testing.T) {
	texts := append(allSigns(), "a", "Z9", "_", "fn", "0", "42")
	for _, a := range texts {
		for _, b := range texts {
			for _, gap := range append(gaps(), "") {
				if gap == "" && grown(a, b) {
					continue
				}
				at := len(a) + len(gap)
				reads(t, a+gap+b, api.Token{Kind: kindOf(a), S: a}, api.Token{Kind: kindOf(b), S: b, At: at}, end(at+len(b)))
			}
		}
	}
}

func TestP5_1_Blanks(t *testing.T) {
	reads(t, "", end(0))
	for _, gap := range gaps() {
		reads(t, gap, end(len(gap)))
		reads(t, gap+gap, end(2*len(gap)))
		reads(t, gap+"a", word("a", len(gap)), end(len(gap)+1))
		reads(t, "a"+gap, word("a", 0), end(len(gap)+1))
	}
	for b := range 256 {
		s := "a" + string([]byte{byte(b)}) + "b"
		switch {
		case strings.Contains(" \t\n\r", s[1:2]):
			reads(t, s, word("a", 0), word("b", 2), end(3))
		case b == '\v' || b == '\f' || b == 0 || b == 0x85 || b == 0xa0 || b == 0x7f:
			fails(t, s, api.ErrLex, 1)
		}
	}
	// Blanks of other alphabets are none.
	fails(t, "a\u00a0b", api.ErrLex, 1)
	fails(t, "\u2003", api.ErrLex, 0)
	fails(t, "\ufeffa", api.ErrLex, 0)
}

func TestP5_1_Comments(t *testing.T) {
	reads(t, "#", end(1))
	reads(t, "##", end(2))
	reads(t, "# a", end(3))
	reads(t, "#\n", end(2))
	reads(t, "a#", word("a", 0), end(2))
	reads(t, "a#b", word("a", 0), end(3))
	reads(t, "a#b\n", word("a", 0), end(4))
	reads(t, "a#b\nc", word("a", 0), word("c", 4), end(5))
	reads(t, "a#b#c\nd", word("a", 0), word("d", 6), end(7))
	reads(t, "a##\nd", word("a", 0), word("d", 4), end(5))
	reads(t, "#a\n#b\nc", word("c", 6), end(7))
	reads(t, "1#\n2", num("1", 0), num("2", 3), end(4))
	reads(t, "# \n  # \n;", sign(";", 8), end(9))
	// Only a line feed ends a line.
	reads(t, "a#b\rc", word("a", 0), end(5))
	reads(t, "a#b\r\nc", word("a", 0), word("c", 5), end(6))
	reads(t, "a#b\vc\fd\x85e\u2028f\u2029g", word("a", 0), end(17))
	// In a comment every byte is allowed, and numbers may be of any length.
	for b := range 256 {
		if b != '\n' {
			s := "#" + string([]byte{byte(b)})
			reads(t, s, end(2))
			reads(t, s+"x\ny", word("y", 4), end(5))
		}
	}
	reads(t, "# 12345678901234567890 !\n1", num("1", 25), end(26))
}

func TestP5_1_Offsets(t *testing.T) {
	const text = "fn main() { # begins\n\tlet x = -12;\r\n}\n"
	reads(t, text,
		word("fn", 0), word("main", 3), sign("(", 7), sign(")", 8), sign("{", 10),
		word("let", 22), word("x", 26), sign("=", 28), sign("-", 30), num("12", 31), sign(";", 33), sign("}", 36), end(38))
	reads(t, "a->b", word("a", 0), sign("->", 1), word("b", 3), end(4))
	reads(t, "    ", end(4))
	// A place is counted in bytes, not in characters.
	reads(t, "# \u00e9\u20ac\nx", word("x", 8), end(9))
}

func TestP5_1_Length(t *testing.T) {
	for _, s := range []string{" ", "\n", "#", "a", "+", "\xff"} {
		fails(t, strings.Repeat(s, 6001), api.ErrBig, 0)
		fails(t, strings.Repeat(s, 60000), api.ErrBig, 0)
	}
	reads(t, strings.Repeat(" ", 6000), end(6000))
	reads(t, strings.Repeat(" ", 5999), end(5999))
	reads(t, strings.Repeat("#", 6000), end(6000))
	reads(t, strings.Repeat("x", 6000), word(strings.Repeat("x", 6000), 0), end(6000))
	reads(t, strings.Repeat(" ", 5999)+"x", word("x", 5999), end(6000))
	reads(t, "#"+strings.Repeat("\u00e9", 2999)+"\n", end(6000))
	var many []api.Token
	for at := range 6000 {
		many = append(many, sign("+", at))
	}
	reads(t, strings.Repeat("+", 6000), append(many, end(6000))...)
	fails(t, strings.Repeat(" ", 5999)+"!", api.ErrLex, 5999)
	// Bytes are counted, not characters, and blanks count as well.
	fails(t, "#"+strings.Repeat("\u00e9", 3000), api.ErrBig, 0)
	fails(t, "x"+strings.Repeat(" ", 6000), api.ErrBig, 0)
	fails(t, "x"+strings.Repeat("\n", 6000), api.ErrBig, 0)
	// It comes ahead of every other fault.
	fails(t, "!"+strings.Repeat(" ", 6000), api.ErrBig, 0)
	fails(t, strings.Repeat("1", 6001), api.ErrBig, 0)
}

// begins tells whether a byte begins a token or is a blank.
func begins(b byte) bool {
	return strings.IndexByte("ABCDEFGHIJKLMNOPQRSTUVWXYZabcdefghijklmnopqrstuvwxyz_0123456789{}();,.:=<+-*/|& \t\n\r#", b) >= 0
}

func TestP5_1_OtherBytes(t *testing.T) {
	faults := 0
	for b := range 256 {
		s := string([]byte{byte(b)})
		if begins(byte(b)) {
			if _, f := lex.Tokens(s); f != (api.Fault{}) {
				t.Errorf("Tokens(%q) has the fault %v", s, f)
			}
			continue
		}
		faults++
		fails(t, s, api.ErrLex, 0)
		fails(t, s+s, api.ErrLex, 0)
		fails(t, s+"a", api.ErrLex, 0)
		fails(t, " "+s, api.ErrLex, 1)
		fails(t, "# "+s+"\n"+s, api.ErrLex, 4)
		for _, before := range append(allSigns(), "a", "fn", "7", "123456789012345678", "a ->\n") {
			if before != "-" || s != ">" {
				fails(t, before+s, api.ErrLex, len(before))
				fails(t, before+s+before, api.ErrLex, len(before))
			}
			fails(t, before+" "+s+" a", api.ErrLex, len(before)+1)
		}
	}
	if faults != 256-84 {
		t.Errorf("%d bytes begin no token", faults)
	}
	fails(t, "\u00e9", api.ErrLex, 0)
	fails(t, "a\u00e9", api.ErrLex, 1)
	fails(t, "\u0661", api.ErrLex, 0) // a digit of another alphabet
	fails(t, "\"a\"", api.ErrLex, 0)
	fails(t, "a != b", api.ErrLex, 2)
}

func TestP5_1_FirstFault(t *testing.T) {
	const long = "1234567890123456789"
	fails(t, "!?", api.ErrLex, 0)
	fails(t, "a ! ?", api.ErrLex, 2)
	fails(t, "a ! "+long, api.ErrLex, 2)
	fails(t, "a "+long+" !", api.ErrLex, 2)
	fails(t, long+"!", api.ErrLex, 0)
	fails(t, "!"+long, api.ErrLex, 0)
	fails(t, "#!\n"+long+"!", api.ErrLex, 3)
	fails(t, "let x = 1; @ $", api.ErrLex, 11)
}
