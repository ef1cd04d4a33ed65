package graph_test

import (
	"math/rand"
	"reflect"
	"slices"
	"strconv"
	"strings"
	"testing"

	"ballcock/api"
	"ballcock/graph"
	"ballcock/show"
	"ballcock/tree"
)

// The tests here hold codes against the chapter written out plainly: as the length of what a statement becomes is known
// ahead, each instruction is written at once with all of its places. A name is looked up by where its declarations reach.

// reader is one of a function of a valid tree.
type reader struct {
	l       []api.Node
	parents map[int]int
	order   map[int]int
	// declared are the nodes that declare the variables, in order.
	declared []int
}

// expected is the code of the function at a node.
func expected(l []api.Node, function int) api.Code {
	r := reader{l: l, parents: map[int]int{}, order: map[int]int{}}
	for rank, at := range tree.Walk(l) {
		r.order[at] = rank
		for _, kid := range l[at].Kids {
			r.parents[kid] = at
		}
		declares := slices.Contains([]int{api.NodeParam, api.NodeLet, api.NodeOpen, api.NodeSplit}, l[at].Kind)
		if declares && r.below(at, function) {
			r.declared = append(r.declared, at)
		}
	}
	params := len(l[function].Kids) - 1
	code := api.Code{Name: l[function].Words[0], Node: function, Params: params, Ins: r.block(l[function].Kids[params], 0)}
	for _, at := range r.declared {
		proto := r.proto(at)
		code.Slots = append(code.Slots, api.Slot{Name: l[at].Words[0], Proto: proto, Handle: proto != ""})
	}
	code.Ins = append(code.Ins, api.Instr{Op: api.InReturn, Node: -1, Var: -1, Old: -1, Next: -1, Else: -1})
	return code
}

// below tells whether a node is another one or below it.
func (r reader) below(at, other int) bool {
	for at != other && at > 0 {
		at = r.parents[at]
	}
	return at == other
}

// reaches tells whether the variable that a node declares is visible at another node.
func (r reader) reaches(declares, at int) bool {
	n := r.l[declares]
	switch n.Kind {
	case api.NodeLet:
		return r.below(at, r.parents[declares])
	case api.NodeOpen:
		return r.below(at, n.Kids[0])
	case api.NodeSplit:
		return r.below(at, n.Kids[len(n.Kids)-1])
	}
	return true
}

// slot is that of the variable with a name that is visible at a node.
func (r reader) slot(at int, name string) int {
	return slices.IndexFunc(r.declared, func(declares int) bool {
		return r.l[declares].Words[0] == name && r.order[declares] < r.order[at] && r.reaches(declares, at)
	})
}

// proto is the protocol of the variable that a node declares; nothing for a number.
func (r reader) proto(declares int) string {
	n := r.l[declares]
	switch {
	case n.Kind == api.NodeSplit:
		return r.proto(r.declared[r.slot(declares, n.Words[1])])
	case len(n.Words) == 2:
		return n.Words[1]
	}
	return ""
}

// outcome is the only one of an operation.
func (r reader) outcome(proto, op string) string {
	for _, n := range r.l {
		if n.Kind == api.NodeProto && n.Words[0] == proto {
			for _, kid := range n.Kids {
				if words := r.l[kid].Words; words[0] == op && len(words) > 1 {
					return words[2]
				}
			}
		}
	}
	// Those of the predefined protocols are all called ok.
	return "ok"
}

// size is how many instructions a statement becomes, or those in a Block or a Case.
func (r reader) size(at int) int {
	n := r.l[at]
	size := 0
	for _, kid := range n.Kids {
		if k := r.l[kid].Kind; k == api.NodeBlock || k == api.NodeCase || n.Kind == api.NodeBlock {
			size += r.size(kid)
		}
	}
	switch n.Kind {
	case api.NodeBlock:
		return size
	case api.NodeOpen, api.NodeSplit, api.NodeIf, api.NodeWhile:
		return size + 2
	}
	return size + 1
}

// block is what the statements of a Block become from an index on.
func (r reader) block(at, from int) []api.Instr {
	var l []api.Instr
	for _, kid := range r.l[at].Kids {
		l = append(l, r.statement(kid, from)...)
		from += r.size(kid)
	}
	return l
}

// statement is what a statement becomes from an index on.
func (r reader) statement(at, from int) []api.Instr {
	n, behind := r.l[at], from+r.size(at)
	self := slices.Index(r.declared, at)
	one := func(op, slot, old, next, other int) []api.Instr {
		return []api.Instr{{Op: op, Node: at, Var: slot, Old: old, Next: next, Else: other}}
	}
	blocks := slices.DeleteFunc(slices.Clone(n.Kids), func(kid int) bool { return r.l[kid].Kind != api.NodeBlock })
	middle := from + 2
	if len(blocks) > 0 {
		middle += r.size(blocks[0])
	}
	switch n.Kind {
	case api.NodeLet:
		return one(api.InLet, self, -1, behind, -1)
	case api.NodeSet:
		return one(api.InLet, r.slot(at, n.Words[0]), -1, behind, -1)
	case api.NodeCall:
		if len(n.Words) == 1 {
			return one(api.InCall, -1, -1, behind, -1)
		}
		return one(api.InCall, r.slot(at, n.Words[1]), -1, behind, -1)
	case api.NodeReturn:
		return one(api.InReturn, -1, -1, -1, -1)
	case api.NodeExit:
		return one(api.InExit, -1, -1, -1, -1)
	case api.NodeOpen:
		return slices.Concat(one(api.InOpen, self, -1, from+1, middle), r.block(blocks[0], from+1), one(api.InShut, self, -1, behind, -1), r.block(blocks[1], middle))
	case api.NodeSplit:
		old := r.slot(at, n.Words[1])
		return slices.Concat(one(api.InSplit, self, old, from+1, -1), r.block(blocks[0], from+1), one(api.InJoin, self, old, behind, -1))
	case api.NodeWhile:
		return slices.Concat(one(api.InIf, -1, -1, from+1, middle), r.block(blocks[0], from+1), one(api.InJump, -1, -1, from, -1))
	case api.NodeIf:
		l := slices.Concat(one(api.InIf, -1, -1, from+1, middle), r.block(blocks[0], from+1), one(api.InJump, -1, -1, behind, -1))
		for _, second := range blocks[1:] {
			l = append(l, r.block(second, middle)...)
		}
		return l
	}
	l := one(api.InDo, r.slot(at, n.Words[0]), -1, -1, -1)
	if len(n.Kids) == 0 {
		l[0].Outs, l[0].Cases = []string{r.outcome(r.proto(r.declared[l[0].Var]), n.Words[1])}, []int{from + 1}
	}
	from++
	for _, kid := range n.Kids {
		l[0].Outs, l[0].Cases = append(l[0].Outs, r.l[kid].Words[0]), append(l[0].Cases, from)
		l = slices.Concat(l, r.block(r.l[kid].Kids[0], from), one(api.InJump, -1, -1, behind, -1))
		from += r.size(kid)
	}
	return l
}

// plain is a code with nil for each empty list.
func plain(c api.Code) api.Code {
	if len(c.Slots) == 0 {
		c.Slots = nil
	}
	c.Ins = slices.Clone(c.Ins)
	for i, in := range c.Ins {
		if len(in.Outs) == 0 {
			c.Ins[i].Outs = nil
		}
		if len(in.Cases) == 0 {
			c.Ins[i].Cases = nil
		}
	}
	return c
}

// all are the codes of all functions of a tree, each of which is as the chapter says, has only indices of its own, and is
// found by its name.
func all(t *testing.T, l []api.Node) []api.Code {
	t.Helper()
	var want []api.Code
	for _, at := range l[0].Kids {
		if l[at].Kind == api.NodeFn {
			want = append(want, expected(l, at))
		}
	}
	got := graph.All(l)
	if len(got) != len(want) || len(got) == 0 {
		t.Fatalf("%.400s has %d codes, and %d functions", show.Show(l), len(got), len(want))
	}
	for i, code := range got {
		isIndexed(t, l, code)
		alone, ok := graph.Func(l, code.Name)
		if !ok || !reflect.DeepEqual(plain(alone), plain(want[i])) || !reflect.DeepEqual(plain(code), plain(want[i])) {
			t.Fatalf("%s: the function %d has the codes %v and %v; want %v", show.Show(l), i, code, alone, want[i])
		}
	}
	return got
}

// isIndexed checks that each place in a code is an index of it, or -1 where the chapter says so.
func isIndexed(t *testing.T, l []api.Node, c api.Code) {
	t.Helper()
	wrong := func(what string, at int) { t.Errorf("%s: the wrong %s at %d of %v", show.Show(l), what, at, c) }
	// index checks a place that has to be there, or must not be.
	index := func(what string, at, place, count int, has bool) {
		if has && (place < 0 || place >= count) || !has && place != -1 {
			wrong(what, at)
		}
	}
	last := len(c.Ins) - 1
	for at, in := range c.Ins {
		is := func(ops ...int) bool { return slices.Contains(ops, in.Op) }
		index("Next", at, in.Next, len(c.Ins), !is(api.InDo, api.InReturn, api.InExit))
		index("Else", at, in.Else, len(c.Ins), is(api.InOpen, api.InIf))
		index("Var", at, in.Var, len(c.Slots), is(api.InLet, api.InOpen, api.InShut, api.InDo, api.InSplit, api.InJoin) || is(api.InCall) && in.Var != -1)
		index("Old", at, in.Old, len(c.Slots), is(api.InSplit, api.InJoin))
		index("Node", at, in.Node, len(l), at < last)
		for _, place := range in.Cases {
			index("Case", at, place, len(c.Ins), true)
		}
		if len(in.Outs) != len(in.Cases) || is(api.InDo) != (len(in.Cases) > 0) {
			wrong("Outs or Cases", at)
		}
	}
	if last < 0 || c.Ins[last].Op != api.InReturn || c.Ins[last].Node != -1 || c.Params > len(c.Slots) {
		wrong("end", last)
	}
}

// variable is one that is visible: a handle of a protocol, or a number.
type variable struct {
	name, proto string
}

// maker writes random programs without diagnostics of the layers 11 to 13.
type maker struct {
	*rand.Rand
	text      strings.Builder
	visible   []variable
	functions [][]variable
	names     []string
	current   string
}

// declaredText are protocols of random programs; operations are those of all their protocols, as words: the operation, and
// its outcomes.
const declaredText = "proto Moves { state A; state B; final Z; op go A -> x A, y B; op go B -> z Z, x A; op part A -> one B; op part B -> one Z; op end A -> done Z; op end B -> done Z; } proto Still { final Z; } "

var operations = map[string][]string{
	"File":   {"read some none", "write ok over", "size ok", "close ok"},
	"Socket": {"connect ok fail", "send ok lost", "recv some none lost", "peek some none", "close ok"},
	"Iter":   {"next item done", "stop ok", "left ok"},
	"Moves":  {"go x y z", "part one", "end done"},
	"Still":  {},
}

func (m *maker) pick(l ...string) string { return l[m.Intn(len(l))] }

func (m *maker) write(parts ...string) {
	for _, part := range parts {
		m.text.WriteString(part)
	}
}

// visibleOf are the visible handles of a protocol, or numbers.
func (m *maker) visibleOf(proto string) []variable {
	return slices.DeleteFunc(slices.Clone(m.visible), func(v variable) bool { return v.proto != proto })
}

// fresh is a name that no visible variable has. Names come back as soon as they may.
func (m *maker) fresh() string {
	for i := m.Intn(4); ; i++ {
		name := []string{"a", "f", "main", "File"}[i%4]
		if i >= 4 {
			name = "v" + strconv.Itoa(i)
		}
		if !slices.ContainsFunc(m.visible, func(v variable) bool { return v.name == name }) {
			return name
		}
	}
}

// number is an expression.
func (m *maker) number() string {
	numbers := m.visibleOf("")
	if len(numbers) == 0 || m.Intn(2) == 0 {
		return m.pick("1", "-2", "(3 < 4) * 5")
	}
	return m.pick("", "-", "7 + ") + numbers[m.Intn(len(numbers))].name
}

// block writes a Block with the variables that are visible in it from its beginning.
func (m *maker) block(deep int, declared ...variable) {
	outside := len(m.visible)
	m.visible = append(m.visible, declared...)
	m.write("{ ")
	if deep > 0 {
		for range m.Intn(5) {
			m.statement(deep - 1)
			m.write(m.pick(" ", "\n"))
		}
	}
	m.write("}")
	m.visible = m.visible[:outside]
}

func (m *maker) statement(deep int) {
	handles := slices.DeleteFunc(slices.Clone(m.visible), func(v variable) bool { return v.proto == "" })
	numbers := m.visibleOf("")
	switch kind := m.Intn(16); {
	case kind < 2:
		v := variable{name: m.fresh()}
		m.write("let ", v.name, " = ", m.number(), ";")
		m.visible = append(m.visible, v)
	case kind < 4 && len(numbers) > 0:
		m.write(numbers[m.Intn(len(numbers))].name, " = ", m.number(), ";")
	case kind == 4 && m.current == "main":
		m.write("exit;")
	case kind == 5:
		m.write("return ", m.number(), ";")
	case kind == 6:
		m.write("while ", m.number(), " ")
		m.block(deep)
	case kind == 7:
		m.write("if ", m.number(), " ")
		m.block(deep)
		if m.Intn(2) == 0 {
			m.write(" else ")
			m.block(deep)
		}
	case kind < 10:
		m.call()
	case kind < 14 && len(handles) > 0:
		v := handles[m.Intn(len(handles))]
		if m.Intn(3) == 0 {
			part := variable{m.fresh(), v.proto}
			m.write("split ", part.name, " = ", v.name, m.pick(" imm 1/2 ", " pure 1/3 in Nowhere "))
			m.block(deep, part)
		} else {
			m.do(v, deep)
		}
	default:
		v := variable{m.fresh(), m.pick("File", "Socket", "Iter", "Moves", "Still")}
		m.write("open ", v.name, " ", v.proto, " ")
		m.block(deep, v)
		m.write(" else ")
		m.block(deep)
	}
}

// do writes a Do of an operation of a handle, if its protocol has any.
func (m *maker) do(v variable, deep int) {
	if len(operations[v.proto]) == 0 {
		return
	}
	words := strings.Fields(m.pick(operations[v.proto]...))
	m.write("do ", v.name, ".", words[0])
	outcomes := words[1:]
	if len(outcomes) == 1 && m.Intn(2) == 0 {
		m.write(m.pick(";", " { }"))
		return
	}
	m.Shuffle(len(outcomes), func(i, j int) { outcomes[i], outcomes[j] = outcomes[j], outcomes[i] })
	m.write(" { ")
	for _, outcome := range outcomes {
		m.write(outcome, " ")
		m.block(deep)
		m.write(" ")
	}
	m.write("}")
}

// call writes a Call of a function, if there are handles for its parameters.
func (m *maker) call() {
	i := m.Intn(len(m.names))
	var arguments []string
	for _, param := range m.functions[i] {
		if param.proto == "" {
			arguments = append(arguments, m.number())
			continue
		}
		fit := m.visibleOf(param.proto)
		if len(fit) == 0 {
			return
		}
		arguments = append(arguments, "&"+fit[m.Intn(len(fit))].name)
	}
	if m.names[i] == "main" {
		return
	}
	m.write("call ")
	if numbers := m.visibleOf(""); len(numbers) > 0 && m.Intn(2) == 0 {
		m.write(numbers[m.Intn(len(numbers))].name, " = ")
	}
	m.write(m.names[i], "(", strings.Join(arguments, ", "), ");")
}

// program writes a program: the declared protocols and some functions.
func (m *maker) program() {
	m.text.Reset()
	m.functions, m.names = nil, []string{"f", "main", "File", "a"}[:2+m.Intn(3)]
	m.names = slices.Clone(m.names)
	m.Shuffle(len(m.names), func(i, j int) { m.names[i], m.names[j] = m.names[j], m.names[i] })
	for _, name := range m.names {
		m.visible = nil
		if name != "main" {
			for range m.Intn(4) {
				m.visible = append(m.visible, variable{m.fresh(), m.pick("", "File", "Socket", "Moves")})
			}
		}
		m.functions = append(m.functions, m.visible)
	}
	before := m.Intn(len(m.names))
	for i, name := range m.names {
		if i == before {
			m.write(declaredText)
		}
		m.function(name, m.functions[i])
	}
}

func (m *maker) function(name string, declared []variable) {
	m.current, m.visible = name, nil
	var params []string
	for _, v := range declared {
		if v.proto != "" {
			v.name += ": " + v.proto + m.pick(" imm", " pure in A", " full least 1/2 at A in A|B")
		}
		params = append(params, v.name)
	}
	m.write(" \nfn ", name, "(", strings.Join(params, ", "), ") ")
	m.block(5, declared...)
}

// random is the tree of a random program that is not too long.
func (m *maker) random(t *testing.T) []api.Node {
	t.Helper()
	for {
		m.program()
		if m.text.Len() < 2500 {
			return parsed(t, m.text.String())
		}
	}
}

// shuffled gives the nodes of a tree other indices, so that each child still stands behind its parent, and other offsets.
func (m *maker) shuffled(l []api.Node) []api.Node {
	open, places := []int{0}, map[int]int{}
	for len(open) > 0 {
		i := m.Intn(len(open))
		at := open[i]
		places[at] = len(places)
		open = append(slices.Delete(open, i, i+1), l[at].Kids...)
	}
	moved, offsets := make([]api.Node, len(l)), m.Perm(len(l))
	for at, n := range copied(l) {
		for i, kid := range n.Kids {
			n.Kids[i] = places[kid]
		}
		n.At = offsets[at] - len(l)/2
		moved[places[at]] = n
	}
	return moved
}

func TestP16_1_Reference(t *testing.T) {
	m := &maker{Rand: rand.New(rand.NewSource(1611))}
	instructions, longest := map[int]int{}, 0
	for range 600 {
		l := m.random(t)
		for _, code := range all(t, l) {
			for _, in := range code.Ins {
				instructions[in.Op]++
			}
			longest = max(longest, len(code.Ins))
		}
		all(t, m.shuffled(l))
	}
	for op, name := range ops {
		if instructions[op] < 200 {
			t.Errorf("only %d instructions %s", instructions[op], name)
		}
	}
	if longest < 60 {
		t.Errorf("the longest code has only %d instructions", longest)
	}
}
