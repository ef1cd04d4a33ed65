package typing_test

import (
	"slices"
	"strconv"
	"strings"
	"testing"
)

// sort is that of a parameter or an argument: the protocol of a handle, or nothing for a number.
type sort string

// params are parameters of each sort, with a place % for their names.
func params() map[sort][]string {
	return map[sort][]string{
		"":      {"%"},
		"File":  {"%: File imm", "%: File unique least 1/2 at Open to Shut in Open|Shut"},
		"Iter":  {"%: Iter full at Ready"},
		"Still": {"%: Still pure"},
	}
}

// arguments are those of each sort, where the variables of caller are visible.
func arguments() map[sort][]string {
	return map[sort][]string{
		"":      {"1", "n", "m", "-n", "n < 2", "m * (1 + n)", "-(2 == 3)"},
		"File":  {"&h", "&i", "&j", "&k"},
		"Iter":  {"&o", "&p"},
		"Still": {"&s"},
	}
}

// caller is a function in which handles of each kind and numbers are visible at the place %: a parameter, the handle of an
// Open, and those of Splits.
const caller = "fn caller(n, h: File imm, s: Still imm) { let m = n; open i File { split j = i imm 1/2 { split k = j imm 1/2 { open o Iter { split p = o pure 1/2 { % } } else { } } } } else { } }"

// wrongArgument is what an argument of one sort has in the place of a parameter of another one, a code and a space.
func wrongArgument(is, toBe sort) string {
	switch {
	case is == toBe:
		return ""
	case is == "" || toBe == "":
		return "sort "
	}
	return "args "
}

// calls checks a function and a call of it, which stands in the caller, with the function ahead and behind.
func calls(t *testing.T, function, call, diags string) {
	t.Helper()
	still := "proto Still { final Z; } "
	tells(t, still+withMain(function+" "+in(caller, call)), diags)
	tells(t, withMain(in(caller, call))+" "+function+" "+still, diags)
}

func TestP13_1_Argument(t *testing.T) {
	for toBe, params := range params() {
		for _, param := range params {
			for is, arguments := range arguments() {
				for _, argument := range arguments {
					for _, into := range []string{"", "n = "} {
						function := "fn f(" + in(param, "par") + ") { }"
						if wrong := wrongArgument(is, toBe); wrong != "" {
							calls(t, function, "call "+into+"f(@"+argument+");", wrong+"par")
						} else {
							calls(t, function, "call "+into+"f("+argument+");", "")
						}
					}
				}
			}
		}
	}
}

// TestP13_1_Arguments has each choice of sorts of two parameters and two arguments.
func TestP13_1_Arguments(t *testing.T) {
	sorts := []sort{"", "File", "Iter", "Still"}
	// Each digit of a number is a choice.
	for choice := range 4 * 4 * 4 * 4 {
		var texts, ins, diags []string
		for i, name := range []string{"one", "two"} {
			toBe, is := sorts[choice>>(4*i)&3], sorts[choice>>(4*i+2)&3]
			argument := arguments()[is][i%len(arguments()[is])]
			if wrong := wrongArgument(is, toBe); wrong != "" {
				argument = "@" + argument
				diags = append(diags, wrong+name)
			}
			texts, ins = append(texts, argument), append(ins, in(params()[toBe][0], name))
		}
		calls(t, "fn f("+strings.Join(ins, ", ")+") { }", "call f("+strings.Join(texts, ", ")+");", strings.Join(diags, "; "))
	}
}

func TestP13_1_ArgumentsEach(t *testing.T) {
	const f = "fn f(a, b: File imm, c, d: Iter imm, e: File imm) { }"
	calls(t, f, "call f(1, &h, n, &o, &i);", "")
	calls(t, f, "call f(@&h, &h, @&h, @&h, &h);", "sort a; sort c; args d")
	calls(t, f, "call f(1, @1, 1, @1, @1);", "sort b; sort d; sort e")
	calls(t, f, "call f(@&s, @&s, @&s, @&s, @&s);", "sort a; args b; sort c; args d; args e")
	calls(t, f, "call n = f(@&o, @&o, @&o, &o, @&o);", "sort a; args b; sort c; args e")
	// A handle may be there more than once, and each time it is wrong is told.
	calls(t, "fn f(a: Iter imm, b: Iter imm, c: Iter imm) { }", "call f(@&h, @&h, &o);", "args a; args b")
	// The name is that of the parameter of the function that is called.
	calls(t, "fn f(n: File imm, h, i: Iter imm) { } fn g(x: File imm, y, z: Iter imm) { }", "call f(@1, @&h, @&i); call g(@1, @&h, @&i);", "sort n; sort h; args i; sort x; sort y; args z")
	calls(t, "fn f(f: File imm) { } fn g(Still: Still imm) { }", "call f(@&s); call g(@&h);", "args f; args Still")
}

// TestP13_1_ArgumentPlace has arguments with other arguments, calls and names around them, and expressions whose first token
// is not their own.
func TestP13_1_ArgumentPlace(t *testing.T) {
	const f = "fn f(a: File imm) { }"
	calls(t, f, "call f(@1 + 2 * 3);", "sort a")
	calls(t, f, "call f(@-n);", "sort a")
	calls(t, f, "call f((@n + 1) * 2);", "sort a")
	calls(t, f, "call f( \n (@1));", "sort a")
	calls(t, f, "call f( # a remark, 1\n @& s);", "args a")
}

// TestP13_1_Args has too few and too many arguments, of the wrong sorts or the right ones.
func TestP13_1_Args(t *testing.T) {
	for count := range 5 {
		for _, param := range []string{"%", "%: File imm", "%: Iter imm"} {
			var ins []string
			for i := range count {
				ins = append(ins, in(param, "p"+strconv.Itoa(i)))
			}
			for _, argument := range []string{"1", "&h", "&o", "n < 1"} {
				for given := range 7 {
					if given == count {
						continue
					}
					text := strings.Join(slices.Repeat([]string{argument}, given), ", ")
					calls(t, "fn fun("+strings.Join(ins, ", ")+") { }", "@call fun("+text+");", "args fun")
					calls(t, "fn n("+strings.Join(ins, ", ")+") { }", "@call n = n("+text+");", "args n")
				}
			}
		}
	}
}

// TestP13_1_ArgsSorts has one argument too few and one too many, while the others are all wrong, or all right.
func TestP13_1_ArgsSorts(t *testing.T) {
	const f = "fn f(a, b: File imm, c: Iter imm) { }"
	for _, list := range []string{"", "1", "&h", "1, &h", "&h, 1", "&o, &o", "1, &h, &o, 1", "1, &h, &o, &h", "&s, &s, &s, &s", "&h, 1, 1, 1"} {
		calls(t, f, "@call f("+list+");", "args f")
		calls(t, f, "@call n = f("+list+");", "args f")
	}
}

// TestP13_1_CallAnywhere calls functions from each other and from themselves, wherever they stand.
func TestP13_1_CallAnywhere(t *testing.T) {
	const statements = "@call f(); call f(n, &h); call f(@&h, @n); call g(&h); @call g(); call n = g(@n);"
	const diags = "args f; sort n; sort h; args g; sort i"
	for _, wrap := range wraps {
		tells(t, "fn f(n, h: File imm) { "+in(wrap, statements)+" } fn g(i: File imm) { } fn main() { }", diags)
		tells(t, "fn g(i: File imm) { } fn main() { } fn f(n, h: File imm) { "+in(wrap, statements)+" }", diags)
	}
	tells(t, "fn main() { let n = 1; open h File { "+statements+" } else { call g(@n); } } fn f(n, h: File imm) { } fn g(i: File imm) { }", diags+"; sort i")
}

// TestP13_1_CallMain tells nothing else of a call of main, whatever its arguments.
func TestP13_1_CallMain(t *testing.T) {
	for _, call := range []string{"main()", "n = main()", "main(1)", "main(&h)", "n = main(&h, n, 1 + 2, &h)"} {
		for _, wrap := range wraps {
			statement := in(wrap, "@call "+call+";")
			f := "fn f(n, h: File imm at Open) { " + statement + " }"
			tells(t, f+" fn main() { }", "main main")
			tells(t, "fn main() { } "+f, "main main")
			tells(t, f+" @fn main(a) { }", "main main; main main", 1, 0)
			tells(t, "@fn main(a: File imm, b, c, d: Iter imm) { } "+f, "main main; main main")
			tells(t, "@fn main(n, h: File imm at Open) { "+statement+" }", "main main; main main")
			tells(t, "fn main() { let n = 1; open h File { "+statement+" } else { } }", "main main")
		}
	}
}

// TestP13_1_CallNearlyMain calls functions whose names are like main.
func TestP13_1_CallNearlyMain(t *testing.T) {
	for _, name := range []string{"Main", "MAIN", "main_", "mai", "_main", "mainmain", "f"} {
		f := "fn " + name + "(main, n: File imm) { "
		tells(t, f+"call "+name+"(main, &n); @call "+name+"(); call main = "+name+"(@&n, @main); } fn main() { }", "args "+name+"; sort main; sort n")
	}
}
