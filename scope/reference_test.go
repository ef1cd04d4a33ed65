package scope_test

import (
	"cmp"
	"math/rand"
	"slices"
	"strconv"
	"strings"
	"testing"

	"ballcock/api"
	"ballcock/decl"
	"ballcock/scope"
	"ballcock/tree"
)

// The tests here hold the package against the chapter written out plainly: what is visible at a node is told by the way
// from the root to it.

// wayTo is the way from the root of a tree to a node.
func wayTo(l []api.Node, at int) []int {
	way := []int{at}
	for at > 0 {
		at = slices.IndexFunc(l, func(n api.Node) bool { return slices.Contains(n.Kids, at) })
		way = append(way, at)
	}
	slices.Reverse(way)
	return way
}

// declarersAt are the nodes whose variables are visible at a node, unless an earlier one has the name.
func declarersAt(l []api.Node, at int) []int {
	var declarers []int
	way := wayTo(l, at)
	for i, up := range way[:len(way)-1] {
		kids := l[up].Kids
		place := slices.Index(kids, way[i+1])
		before := kids[:place]
		switch l[up].Kind {
		case api.NodeFn, api.NodeBlock:
			for _, kid := range before {
				if l[kid].Kind == api.NodeParam || l[kid].Kind == api.NodeLet {
					declarers = append(declarers, kid)
				}
			}
		case api.NodeOpen:
			if place == 0 {
				declarers = append(declarers, up)
			}
		case api.NodeSplit:
			if place == len(kids)-1 {
				declarers = append(declarers, up)
			}
		}
	}
	return declarers
}

// declarerOf is the node of the visible variable with a name, or -1.
func declarerOf(l []api.Node, at int, name string) int {
	for _, declarer := range declarersAt(l, at) {
		if l[declarer].Words[0] == name {
			return declarer
		}
	}
	return -1
}

func isHandle(n api.Node) bool {
	return n.Kind == api.NodeOpen || n.Kind == api.NodeSplit || n.Kind == api.NodeParam && len(n.Words) == 2
}

// referenceSort is what Sort has to tell of a valid tree.
func referenceSort(l []api.Node, at int, name string) (string, bool) {
	declarer := declarerOf(l, at, name)
	if declarer < 0 {
		return "", false
	}
	switch n := l[declarer]; {
	case n.Kind == api.NodeSplit:
		proto, _ := referenceSort(l, declarer, n.Words[1])
		return proto, true
	case isHandle(n):
		return n.Words[1], true
	}
	return "", true
}

// reference is what Check has to tell of a valid tree.
func reference(l []api.Node) []api.Diag {
	type placed struct {
		place int
		d     api.Diag
	}
	var all []placed
	book, _ := decl.New(l)
	for place, at := range tree.Walk(l) {
		for _, d := range faults(l, at, book.Names()) {
			all = append(all, placed{place, d})
		}
		if n := l[at]; slices.Contains([]int{api.NodeParam, api.NodeLet, api.NodeOpen, api.NodeSplit}, n.Kind) && declarerOf(l, at, n.Words[0]) >= 0 {
			if n.Kind == api.NodeLet {
				// It is told behind all nodes of its expression.
				place += len(tree.Build(l, at)) - 1
			}
			all = append(all, placed{place, api.Diag{Code: 2, At: n.At, Name: n.Words[0]}})
		}
	}
	// The last node of a Let's expression may have diagnostics of its own, which are told first.
	slices.SortStableFunc(all, func(a, b placed) int {
		return cmp.Or(cmp.Compare(a.place, b.place), cmp.Compare(isLetTwice(l, a.d), isLetTwice(l, b.d)))
	})
	var diags []api.Diag
	for _, p := range all {
		diags = append(diags, p.d)
	}
	return diags
}

// isLetTwice is 1 for the diagnostic of the variable of a Let, which is found by its offset.
func isLetTwice(l []api.Node, d api.Diag) int {
	if d.Code == 2 && slices.ContainsFunc(l, func(n api.Node) bool { return n.Kind == api.NodeLet && n.At == d.At }) {
		return 1
	}
	return 0
}

// faults are the diagnostics of a node, without that of the variable that it declares.
func faults(l []api.Node, at int, protocols []string) []api.Diag {
	var diags []api.Diag
	n := l[at]
	tell := func(wrong bool, code int, name string) {
		if wrong {
			diags = append(diags, api.Diag{Code: code, At: n.At, Name: name})
		}
	}
	use := func(name string, handle bool) {
		declarer := declarerOf(l, at, name)
		tell(declarer < 0, 3, name)
		tell(declarer >= 0 && isHandle(l[declarer]) != handle, 4, name)
	}
	fn := func(name string) int {
		return slices.IndexFunc(l[0].Kids, func(kid int) bool { return l[kid].Kind == api.NodeFn && l[kid].Words[0] == name })
	}
	switch n.Kind {
	case api.NodeFn:
		tell(l[0].Kids[fn(n.Words[0])] != at, 2, n.Words[0])
	case api.NodeParam, api.NodeOpen:
		if len(n.Words) == 2 {
			tell(!slices.Contains(protocols, n.Words[1]), 3, n.Words[1])
		}
	case api.NodeSet, api.NodeVar:
		use(n.Words[0], false)
	case api.NodeDo, api.NodeHandle:
		use(n.Words[0], true)
	case api.NodeSplit:
		use(n.Words[1], true)
	case api.NodeCall:
		tell(fn(n.Words[0]) < 0, 3, n.Words[0])
		if len(n.Words) == 2 {
			use(n.Words[1], false)
		}
	}
	return diags
}

// maker makes random texts of programs.
type maker struct{ *rand.Rand }

func (m maker) pick(l ...string) string { return l[m.Intn(len(l))] }

func (m maker) variable() string { return m.pick("a", "b", "c", "d", "e", "n", "f") }

func (m maker) protocol() string { return m.pick("File", "Socket", "Iter", "P", "P", "Q", "X", "a") }

func (m maker) expression(deep int) string {
	if deep == 0 {
		return m.pick("1", "0", m.variable(), m.variable())
	}
	return m.pick(m.variable(), "2", "-"+m.expression(deep-1), "("+m.expression(deep-1)+m.pick(" < ", " == ", " + ", " - ", " * ", " / ")+m.expression(deep-1)+")")
}

func (m maker) block(deep int) string {
	var s strings.Builder
	s.WriteString("{ ")
	for range m.Intn(5) {
		if deep > 0 {
			s.WriteString(m.statement(deep-1) + " ")
		}
	}
	return s.String() + "}"
}

func (m maker) statement(deep int) string {
	v, w, e := m.variable(), m.variable(), m.expression(2)
	switch m.Intn(12) {
	case 0, 1:
		return "let " + v + " = " + e + ";"
	case 2:
		return v + " = " + e + ";"
	case 3, 4:
		return "open " + v + " " + m.protocol() + " " + m.block(deep) + " else " + m.block(deep)
	case 5:
		return "do " + v + ".read" + m.pick(";", " { some "+m.block(deep)+" none "+m.block(deep)+" }")
	case 6, 7:
		return "split " + v + " = " + w + " imm 1/2 " + m.pick("", "in a|Open ") + m.block(deep)
	case 8:
		return "call " + m.pick("", v+" = ") + m.pick("f", "g", "main", "a", "P") + "(" + m.pick("", "&"+w, e, e+", &"+w+", "+m.variable()) + ");"
	case 9:
		return "if " + e + " " + m.block(deep) + m.pick("", " else "+m.block(deep))
	case 10:
		return "while " + e + " " + m.block(deep)
	}
	return m.pick("return "+e+";", "exit;")
}

func (m maker) item() string {
	switch m.Intn(6) {
	case 0:
		return "proto " + m.pick("P", "Q", "f") + " { " + m.pick("final Z; ", "state A; ", "") + "}"
	default:
		var params []string
		for range m.Intn(4) {
			params = append(params, m.variable()+m.pick("", "", ": "+m.protocol()+" full least 1/2 at a to b in a|b", ": "+m.protocol()+" imm"))
		}
		return "fn " + m.pick("f", "g", "main") + "(" + strings.Join(params, ", ") + ") " + m.block(4)
	}
}

func (m maker) program() string {
	var items []string
	for range m.Intn(5) {
		items = append(items, m.item())
	}
	return strings.Join(items, "\n")
}

// random is the tree of a random text that is not too long.
func (m maker) random(t *testing.T) []api.Node {
	for {
		if text := m.program(); len(text) < 1500 {
			return parsed(t, text)
		}
	}
}

// shuffled gives the nodes of a tree other indices, so that each child still stands behind its parent, and other offsets.
func (m maker) shuffled(l []api.Node) []api.Node {
	open, order := []int{0}, []int(nil)
	for len(open) > 0 {
		i := m.Intn(len(open))
		order = append(order, open[i])
		open = append(slices.Delete(open, i, i+1), l[order[len(order)-1]].Kids...)
	}
	moved := make([]api.Node, len(l))
	offsets := m.Perm(len(l))
	for place, at := range order {
		moved[place] = copied(l[at : at+1])[0]
		moved[place].At = offsets[place] - len(l)/2
		for i, kid := range moved[place].Kids {
			moved[place].Kids[i] = slices.Index(order, kid)
		}
	}
	return moved
}

// asReference compares Check, and Sort at each node, with the reference, and counts the diagnostics of each code.
func asReference(t *testing.T, l []api.Node, counts map[int]int) {
	t.Helper()
	want := reference(l)
	if got := scope.Check(l); !slices.Equal(got, want) {
		t.Fatalf("%v: the diagnostics %v; want %v", l, got, want)
	}
	for _, d := range want {
		counts[d.Code]++
	}
	for at := range l {
		for _, name := range []string{"a", "b", "c", "d", "e", "n", "f", "g", "P"} {
			proto, ok := referenceSort(l, at, name)
			if got, gotOk := scope.Sort(l, at, name); got != proto || gotOk != ok {
				t.Fatalf("%v: Sort(%d, %s) = %q, %v; want %q, %v", l, at, name, got, gotOk, proto, ok)
			}
			if proto != "" {
				counts[100]++
			}
		}
	}
}

func TestP12_2_Reference(t *testing.T) {
	m := maker{rand.New(rand.NewSource(1212))}
	counts := map[int]int{}
	for range 150 {
		l := m.random(t)
		asReference(t, l, counts)
		asReference(t, m.shuffled(l), counts)
	}
	for _, code := range []int{2, 3, 4, 100} {
		if counts[code] < 500 {
			t.Errorf("only %d answers of the code %d", counts[code], code)
		}
	}
}

// TestP12_1_Reference has more and smaller programs.
func TestP12_1_Reference(t *testing.T) {
	m := maker{rand.New(rand.NewSource(1211))}
	right := 0
	for range 3000 {
		text := "proto P { final Z; } fn f(a, b: P imm at Z) " + m.block(3) + " fn g(" + m.variable() + ") " + m.block(2)
		if len(text) > 500 {
			continue
		}
		l := parsed(t, text)
		want := reference(l)
		if got := scope.Check(l); !slices.Equal(got, want) {
			t.Fatalf("%s: the diagnostics %v; want %v", text, got, want)
		}
		if len(want) == 0 {
			right++
		}
	}
	if right < 100 {
		t.Errorf("only %d programs have nothing wrong", right)
	}
}

// TestP12_1_ReferenceFuncs compares Funcs and Func with the children of the root.
func TestP12_1_ReferenceFuncs(t *testing.T) {
	m := maker{rand.New(rand.NewSource(1213))}
	several := 0
	for range 1000 {
		l := m.shuffled(m.random(t))
		want := slices.DeleteFunc(slices.Clone(l[0].Kids), func(kid int) bool { return l[kid].Kind != api.NodeFn })
		if got := scope.Funcs(l); !slices.Equal(got, want) {
			t.Fatalf("%v: Funcs = %v; want %v", l, got, want)
		}
		for _, name := range []string{"f", "g", "main", "P", "a"} {
			i := slices.IndexFunc(want, func(at int) bool { return l[at].Words[0] == name })
			at, ok := scope.Func(l, name)
			if ok != (i >= 0) || ok && at != want[i] || !ok && at != 0 {
				t.Fatalf("%v: Func(%s) = %d, %v", l, name, at, ok)
			}
		}
		if len(want) > 2 {
			several++
		}
	}
	if several < 100 {
		t.Error("only " + strconv.Itoa(several) + " programs have several functions")
	}
}
