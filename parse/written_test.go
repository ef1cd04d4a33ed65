package parse_test

import (
	"fmt"
	"math/rand"
	"slices"
	"strings"
	"testing"

	"ballcock/api"
	"ballcock/parse"
)

// branch is a node with all below it, as a writer wrote it.
type branch struct {
	api.Node
	kids []branch
}

// list is the list of the nodes of a branch in preorder.
func list(b branch) []api.Node {
	var l []api.Node
	var add func(b branch) int
	add = func(b branch) int {
		at := len(l)
		l = append(l, b.Node)
		for _, kid := range b.kids {
			place := add(kid)
			l[at].Kids = append(l[at].Kids, place)
		}
		return at
	}
	add(b)
	return l
}

// writer writes random programs, with random blanks between the tokens, and tells the nodes that they have to have.
type writer struct {
	*rand.Rand
	text []byte
	// marks tells whether blanks, parentheses and forms are chosen at random; without, the text is plain.
	marks bool
}

func wordByte(b byte) bool {
	return b == '_' || '0' <= b && b <= '9' || 'a' <= b && b <= 'z' || 'A' <= b && b <= 'Z'
}

// token writes a token and returns its offset.
func (w *writer) token(s string) int {
	gap := " "
	if w.marks {
		gap = []string{"", "", "", " ", "\n", "\t  ", "\r\n", "# comment {\n", " # ; \n "}[w.Intn(9)]
	}
	if last := len(w.text) - 1; gap == "" && last >= 0 && (wordByte(w.text[last]) && wordByte(s[0]) || w.text[last] == '=' && s[0] == '=') {
		gap = " "
	}
	w.text = append(w.text, gap...)
	w.text = append(w.text, s...)
	return len(w.text) - len(s)
}

// name writes a name and returns it.
func (w *writer) name() (string, int) {
	s := []string{"a", "B", "_", "go", "file9", "sixteen_letters_", "fn_", "Exit", "ins"}[w.Intn(9)]
	return s, w.token(s)
}

// words writes a name with tokens ahead of it, and adds it to the words of a node.
func (w *writer) words(b *branch, before ...string) {
	for _, s := range before {
		w.token(s)
	}
	s, _ := w.name()
	b.Words = append(b.Words, s)
}

// number writes a number that is not below the least one, and returns it.
func (w *writer) number(least int64) (int64, int) {
	n := max(least, []int64{0, 1, 2, 7, 10, 999_999_999_999_999_999}[w.Intn(6)])
	s := fmt.Sprint(n)
	if w.marks && w.Intn(4) == 0 {
		s = strings.Repeat("0", w.Intn(19-len(s))) + s
	}
	return n, w.token(s)
}

// some does something up to so many times, with a token between.
func (w *writer) some(least, most int, between string, each func()) {
	for i := range least + w.Intn(most-least+1) {
		if i > 0 && between != "" {
			w.token(between)
		}
		each()
	}
}

func (w *writer) program() branch {
	b := branch{Node: api.Node{Kind: api.NodeProgram, At: -1}}
	w.some(0, 4, "", func() {
		kid := w.item()
		b.kids = append(b.kids, kid)
	})
	// Blanks behind the last token.
	if w.marks && w.Intn(2) == 0 {
		w.text = append(w.text, " # end\n"...)
	}
	b.At = len(w.text)
	if len(b.kids) > 0 {
		b.At = b.kids[0].At
	}
	return b
}

func (w *writer) item() branch {
	if w.Intn(3) > 0 {
		b := branch{Node: api.Node{Kind: api.NodeFn, At: w.token("fn")}}
		w.words(&b)
		w.token("(")
		w.some(0, 3, ",", func() { b.kids = append(b.kids, w.param()) })
		w.token(")")
		b.kids = append(b.kids, w.block(6))
		return b
	}
	b := branch{Node: api.Node{Kind: api.NodeProto, At: w.token("proto")}}
	w.words(&b)
	w.token("{")
	w.some(0, 4, "", func() { b.kids = append(b.kids, w.protoPart()) })
	w.token("}")
	return b
}

func (w *writer) protoPart() branch {
	which := w.Intn(3)
	b := branch{Node: api.Node{Kind: api.NodeState, At: w.token([]string{"state", "final", "op"}[which])}}
	if which < 2 {
		b.Nums = []int64{int64(which)}
		w.words(&b)
	} else {
		b.Kind = api.NodeOp
		w.words(&b)
		w.words(&b)
		w.token("->")
		w.some(1, 3, ",", func() { w.words(&b); w.words(&b) })
	}
	w.token(";")
	return b
}

func (w *writer) param() branch {
	s, at := w.name()
	b := branch{Node: api.Node{Kind: api.NodeParam, Words: []string{s}, At: at}}
	if w.Intn(3) == 0 {
		return b
	}
	w.words(&b, ":")
	b.Nums = []int64{w.kind(0), 0, 0}
	if w.Intn(2) == 0 {
		w.token("least")
		b.Nums[1], b.Nums[2] = w.fraction()
	}
	for which, word := range []string{"at", "to", "in"} {
		if w.Intn(2) == 0 {
			b.kids = append(b.kids, w.names(which, word))
		}
	}
	return b
}

func (w *writer) kind(least int) int64 {
	kind := least + w.Intn(5-least)
	w.token([]string{"unique", "full", "share", "imm", "pure"}[kind])
	return int64(kind)
}

func (w *writer) fraction() (int64, int64) {
	n, _ := w.number(1)
	w.token("/")
	d, _ := w.number(1)
	return n, d
}

func (w *writer) names(which int, word string) branch {
	b := branch{Node: api.Node{Kind: api.NodeNames, Nums: []int64{int64(which)}, At: w.token(word)}}
	w.some(1, 3, "|", func() { w.words(&b) })
	return b
}

func (w *writer) block(deep int) branch {
	b := branch{Node: api.Node{Kind: api.NodeBlock, At: w.token("{")}}
	if deep > 0 {
		w.some(0, 3, "", func() { b.kids = append(b.kids, w.statement(deep-1)) })
	}
	w.token("}")
	return b
}

func (w *writer) statement(deep int) branch {
	var b branch
	// kids writes blocks and expressions one after the other.
	kids := func(makes ...func() branch) {
		for _, make := range makes {
			b.kids = append(b.kids, make())
		}
	}
	block, expr := func() branch { return w.block(deep) }, func() branch { return w.expr(0, min(deep, 4)) }
	begin := func(kind int, word string) { b.Kind, b.At = kind, w.token(word) }
	switch w.Intn(10) {
	case 0:
		begin(api.NodeLet, "let")
		w.words(&b)
		w.token("=")
		kids(expr)
		w.token(";")
	case 1:
		s, at := w.name()
		b.Node = api.Node{Kind: api.NodeSet, Words: []string{s}, At: at}
		w.token("=")
		kids(expr)
		w.token(";")
	case 2:
		begin(api.NodeOpen, "open")
		w.words(&b)
		w.words(&b)
		kids(block, func() branch { w.token("else"); return block() })
	case 3:
		begin(api.NodeDo, "do")
		w.words(&b)
		w.words(&b, ".")
		w.cases(&b, block)
	case 4:
		begin(api.NodeSplit, "split")
		w.words(&b)
		w.words(&b, "=")
		b.Nums = []int64{w.kind(1), 0, 0}
		b.Nums[1], b.Nums[2] = w.fraction()
		if w.Intn(2) == 0 {
			kids(func() branch { return w.names(2, "in") })
		}
		kids(block)
	case 5:
		begin(api.NodeCall, "call")
		w.words(&b)
		if w.Intn(2) == 0 {
			w.words(&b, "=")
			slices.Reverse(b.Words)
		}
		w.token("(")
		w.some(0, 3, ",", func() { kids(func() branch { return w.arg(expr) }) })
		w.token(")")
		w.token(";")
	case 6:
		begin(api.NodeIf, "if")
		kids(expr, block)
		if w.Intn(2) == 0 {
			w.token("else")
			kids(block)
		}
	case 7:
		begin(api.NodeWhile, "while")
		kids(expr, block)
	case 8:
		begin(api.NodeReturn, "return")
		kids(expr)
		w.token(";")
	case 9:
		begin(api.NodeExit, "exit")
		w.token(";")
	}
	return b
}

// cases writes the cases of a do.
func (w *writer) cases(b *branch, block func() branch) {
	count := w.Intn(4)
	if count == 0 && (!w.marks || w.Intn(2) == 0) {
		w.token(";")
		return
	}
	w.token("{")
	for range count {
		s, at := w.name()
		b.kids = append(b.kids, branch{api.Node{Kind: api.NodeCase, Words: []string{s}, At: at}, []branch{block()}})
	}
	w.token("}")
}

func (w *writer) arg(expr func() branch) branch {
	if w.Intn(2) == 0 {
		return expr()
	}
	b := branch{Node: api.Node{Kind: api.NodeHandle, At: w.token("&")}}
	w.words(&b)
	return b
}

// expr writes an expression that may stand where one binds at least so much: 0 anywhere, 1 a sum, 2 a product, 3 a part.
func (w *writer) expr(level, deep int) branch {
	if w.marks && w.Intn(6) == 0 {
		w.token("(")
		defer w.token(")")
		level = 0
	}
	if deep > 0 && w.Intn(2) == 0 {
		return w.joined(level, deep-1)
	}
	switch {
	case deep > 0 && w.Intn(3) == 0:
		b := branch{Node: api.Node{Kind: api.NodeNeg, At: w.token("-")}}
		b.kids = append(b.kids, w.expr(3, deep-1))
		return b
	case w.Intn(2) == 0:
		s, at := w.name()
		return branch{Node: api.Node{Kind: api.NodeVar, Words: []string{s}, At: at}}
	}
	n, at := w.number(0)
	return branch{Node: api.Node{Kind: api.NodeNum, Nums: []int64{n}, At: at}}
}

// joined writes a Bin, in parentheses where it binds less than it has to.
func (w *writer) joined(level, deep int) branch {
	sign := w.Intn(6)
	own := sign / 2
	if own < level {
		w.token("(")
		defer w.token(")")
	}
	// A comparison has sums as operands; other Bins may begin with one that binds like themselves.
	left := w.expr(max(own, 1), deep)
	w.token([]string{"<", "==", "+", "-", "*", "/"}[sign])
	right := w.expr(own+1, deep)
	return branch{api.Node{Kind: api.NodeBin, Nums: []int64{int64(sign)}, At: left.At}, []branch{left, right}}
}

// TestP7_1_Written has random programs with random blanks, and parentheses where none are necessary.
func TestP7_1_Written(t *testing.T) {
	counts := make([]int, 24)
	fit := 0
	for seed := range 3000 {
		w := writer{Rand: rand.New(rand.NewSource(int64(seed))), marks: seed%3 > 0}
		want := list(w.program())
		if len(w.text) > api.MaxText || len(want) > api.MaxNodes || deepest(want) > api.MaxNest {
			continue
		}
		fit++
		for _, n := range want {
			counts[n.Kind]++
		}
		l, f := parse.Parse(string(w.text))
		if f != (api.Fault{}) || !equal(l, want) {
			t.Fatalf("Parse(%q), seed %d: %v\n got %v\nwant %v", w.text, seed, f, l, want)
		}
	}
	if fit < 2000 || slices.Min(counts) < 100 {
		t.Errorf("%d programs, with these numbers of nodes of each kind: %v", fit, counts)
	}
}

// equal tells whether two lists have the same nodes, with offsets; nil and empty lists are equal.
func equal(a, b []api.Node) bool {
	return slices.EqualFunc(a, b, func(a, b api.Node) bool {
		return a.Kind == b.Kind && a.At == b.At && slices.Equal(a.Words, b.Words) && slices.Equal(a.Nums, b.Nums) && slices.Equal(a.Kids, b.Kids)
	})
}
