package typing_test

import (
	"math/rand"
	"slices"
	"strconv"
	"strings"
	"testing"

	"ballcock/api"
	"ballcock/typing"
)

// The tests here write random programs whose names are all right, and write down beside each statement what the chapter
// says of it: the writer itself knows which protocol each of its handles has.

// variable is one that is visible: a handle of a protocol, or a number.
type variable struct {
	name, proto string
}

// function is one of a random program.
type function struct {
	name   string
	params []variable
}

// maker writes random programs with their diagnostics. A careful one writes programs that have none.
type maker struct {
	*rand.Rand
	careful   bool
	text      strings.Builder
	visible   []variable
	functions []function
	current   string
	// diags are in their order; those of Cases are placed when the Cases are written.
	diags []*api.Diag
}

// made is a random program: its text, its tree, its diagnostics.
type made struct {
	text  string
	l     []api.Node
	diags []api.Diag
}

func (m *maker) pick(l ...string) string { return l[m.Intn(len(l))] }

// slip tells whether something wrong is to be written, once in so many times.
func (m *maker) slip(times int) bool { return !m.careful && m.Intn(times) == 0 }

func (m *maker) write(parts ...string) {
	for _, part := range parts {
		m.text.WriteString(part)
	}
}

// tell tells a diagnostic at the end of what is written.
func (m *maker) tell(code int, name string) *api.Diag {
	d := &api.Diag{Code: code, At: m.text.Len(), Name: name}
	m.diags = append(m.diags, d)
	return d
}

// visibleOf are the names of the visible handles, or numbers.
func (m *maker) visibleOf(handle bool) []variable {
	return slices.DeleteFunc(slices.Clone(m.visible), func(v variable) bool { return (v.proto != "") != handle })
}

// fresh is a name that no visible variable has. Names come back as soon as they may.
func (m *maker) fresh() string {
	l := []string{"a", "b", "c", "d", "e", "f", "main", "h0", "h1", "h2", "h3", "h4", "h5", "h6"}
	m.Shuffle(len(l), func(i, j int) { l[i], l[j] = l[j], l[i] })
	for _, name := range l {
		if !slices.ContainsFunc(m.visible, func(v variable) bool { return v.name == name }) {
			return name
		}
	}
	return "v" + strconv.Itoa(len(m.visible))
}

// number writes an expression.
func (m *maker) number(deep int) {
	numbers := m.visibleOf(false)
	switch {
	case deep == 0 || m.Intn(3) == 0:
		if len(numbers) > 0 && m.Intn(2) == 0 {
			m.write(numbers[m.Intn(len(numbers))].name)
		} else {
			m.write(strconv.Itoa(m.Intn(3)))
		}
	case m.Intn(3) == 0:
		m.write("-(")
		m.number(deep - 1)
		m.write(")")
	default:
		m.number(0)
		m.write(m.pick(" + ", " * ", " - ", " / "))
		m.number(0)
	}
}

// block writes a Block with the variables that are visible in it from its beginning.
func (m *maker) block(deep int, declared ...variable) {
	outside := len(m.visible)
	m.visible = append(m.visible, declared...)
	m.write("{ ")
	if deep > 0 {
		for range m.Intn(4) {
			m.statement(deep - 1)
			m.write(m.pick(" ", "\n"))
		}
	}
	m.write("}")
	m.visible = m.visible[:outside]
}

func (m *maker) statement(deep int) {
	handles := m.visibleOf(true)
	kind := m.Intn(12)
	if kind >= 6 && len(handles) > 0 {
		v := handles[m.Intn(len(handles))]
		if kind == 11 {
			m.split(v, deep)
		} else {
			m.do(v, deep)
		}
		return
	}
	switch kind {
	case 0:
		v := variable{name: m.fresh()}
		m.write("let ", v.name, " = ")
		m.number(2)
		m.write(";")
		m.visible = append(m.visible, v)
	case 1:
		m.exit()
	case 2:
		m.write(m.pick("if ", "while "))
		m.number(1)
		m.write(" ")
		m.block(deep)
	case 3, 4:
		m.call()
	default:
		v := variable{m.fresh(), protocols()[m.Intn(6)].name}
		m.write("open ", v.name, " ", v.proto, " ")
		m.block(deep, v)
		m.write(" else ")
		m.block(deep)
	}
}

func (m *maker) exit() {
	if m.current != "main" {
		if m.careful {
			return
		}
		m.tell(api.DiagExit, m.current)
	}
	m.write("exit;")
}

func (m *maker) split(old variable, deep int) {
	v := variable{m.fresh(), old.proto}
	m.write("split ", v.name, " = ", old.name, " pure 1/2 ")
	m.block(deep, v)
}

// do writes a Do of an operation that the protocol of the handle often has, with Cases that are often right.
func (m *maker) do(v variable, deep int) {
	p := protocols()[slices.IndexFunc(protocols(), func(p protocol) bool { return p.name == v.proto })]
	if len(p.ops) == 0 && m.careful {
		return
	}
	op := m.pick(names()...)
	if len(p.ops) > 0 && !m.slip(6) {
		op = p.ops[m.Intn(len(p.ops))].name
	}
	outcomes := p.outcomes(op)
	at := m.text.Len()
	do := "do " + v.name + "." + op
	if m.slip(3) || len(outcomes) == 1 && m.Intn(2) == 0 {
		if len(outcomes) == 0 {
			m.tell(api.DiagOp, op)
		} else if len(outcomes) > 1 {
			m.tell(api.DiagCase, op)
		}
		m.write(do, ";")
		return
	}
	cases := slices.Clone(outcomes)
	m.Shuffle(len(cases), func(i, j int) { cases[i], cases[j] = cases[j], cases[i] })
	if m.slip(2) || len(cases) == 0 {
		for range 1 + m.Intn(2) {
			cases = slices.Insert(cases, m.Intn(len(cases)+1), m.pick(append(outcomes, "ok", "some", "x")...))
		}
	}
	if len(cases) > 1 && m.slip(3) {
		cases = cases[1:]
	}
	told := m.tellCases(op, at, outcomes, cases)
	m.write(do, " { ")
	for i, outcome := range cases {
		if told[i] != nil {
			told[i].At = m.text.Len()
		}
		m.write(outcome, " ")
		m.block(deep)
		m.write(" ")
	}
	m.write("}")
}

// tellCases tells what is wrong with a Do that has Cases. The diagnostics of Cases, each in the place of its Case, still lack
// their offsets.
func (m *maker) tellCases(op string, at int, outcomes, cases []string) []*api.Diag {
	told := make([]*api.Diag, len(cases))
	if len(outcomes) == 0 {
		m.tell(api.DiagOp, op)
		return told
	}
	for i, outcome := range cases {
		if !slices.Contains(outcomes, outcome) || slices.Contains(cases[:i], outcome) {
			told[i] = m.tell(api.DiagCase, outcome)
		}
	}
	for _, outcome := range outcomes {
		if !slices.Contains(cases, outcome) {
			m.tell(api.DiagCase, outcome).At = at
			break
		}
	}
	return told
}

// call writes a Call with as many arguments as parameters, or not, that are often right.
func (m *maker) call() {
	f := m.functions[m.Intn(len(m.functions))]
	if m.careful && !m.callable(f) {
		return
	}
	count := len(f.params)
	if m.slip(5) {
		count = m.Intn(4)
	}
	if f.name == "main" {
		m.tell(api.DiagMain, "main")
	} else if count != len(f.params) {
		m.tell(api.DiagArgs, f.name)
	}
	m.write("call ")
	if numbers := m.visibleOf(false); len(numbers) > 0 && m.Intn(3) == 0 {
		m.write(numbers[0].name, " = ")
	}
	m.write(f.name, "(")
	for i := range count {
		if i > 0 {
			m.write(", ")
		}
		if f.name == "main" || count != len(f.params) {
			m.argument(variable{}, false)
		} else {
			m.argument(f.params[i], true)
		}
	}
	m.write(");")
}

// callable tells whether nothing has to be wrong with a call of a function.
func (m *maker) callable(f function) bool {
	return f.name != "main" && !slices.ContainsFunc(f.params, func(param variable) bool {
		return param.proto != "" && !slices.ContainsFunc(m.visible, func(v variable) bool { return v.proto == param.proto })
	})
}

// argument writes an argument for a parameter, and tells what is wrong with it, if that is told.
func (m *maker) argument(param variable, tells bool) {
	handles := m.visibleOf(true)
	if fit := slices.DeleteFunc(slices.Clone(handles), func(v variable) bool { return v.proto != param.proto }); len(fit) > 0 && !m.slip(4) {
		handles = fit
	}
	asHandle := m.slip(5) != (param.proto != "")
	if len(handles) == 0 || !asHandle {
		if tells && param.proto != "" {
			m.tell(api.DiagSort, param.name)
		}
		m.number(1)
		return
	}
	v := handles[m.Intn(len(handles))]
	if tells && param.proto == "" {
		m.tell(api.DiagSort, param.name)
	} else if tells && param.proto != v.proto {
		m.tell(api.DiagArgs, param.name)
	}
	m.write("&", v.name)
}

// program writes a program: the declared protocols and some functions.
func (m *maker) program() {
	m.text.Reset()
	m.visible, m.functions, m.diags = nil, nil, nil
	for _, name := range []string{"f", "g", "main", "h0", "File", "k"} {
		if m.slip(6) {
			continue
		}
		f := function{name: name}
		if name != "main" || m.slip(6) {
			for range m.Intn(4) {
				m.visible = append(m.visible, variable{name: m.fresh(), proto: m.pick("", "File", "File", "Iter", "Socket", "Moves", "Alike", "Still")})
			}
		}
		f.params, m.visible = m.visible, nil
		m.functions = append(m.functions, f)
	}
	m.Shuffle(len(m.functions), func(i, j int) { m.functions[i], m.functions[j] = m.functions[j], m.functions[i] })
	m.tellMain()
	before := m.Intn(len(m.functions) + 1)
	for i, f := range m.functions {
		if i == before {
			m.write(declared)
		}
		m.function(f)
	}
	if before == len(m.functions) {
		m.write(declared)
	}
}

// tellMain tells that main is not there. That it has parameters is placed when it is written.
func (m *maker) tellMain() {
	i := slices.IndexFunc(m.functions, func(f function) bool { return f.name == "main" })
	if i < 0 || len(m.functions[i].params) > 0 {
		m.tell(api.DiagMain, "main").At = 0
	}
}

func (m *maker) function(f function) {
	m.current = f.name
	m.write(" \n")
	if f.name == "main" && len(f.params) > 0 {
		m.diags[0].At = m.text.Len()
	}
	var params []string
	for _, v := range f.params {
		if v.proto != "" {
			v.name += ": " + v.proto + m.pick(" imm", " pure", " share at A", " full least 1/2 in A|B")
		}
		params = append(params, v.name)
	}
	m.write("fn ", f.name, "(", strings.Join(params, ", "), ") ")
	m.block(4, f.params...)
}

// random is a random program that is not too long.
func (m *maker) random(t *testing.T) made {
	t.Helper()
	for {
		if m.program(); len(m.functions) == 0 || m.text.Len() > 2500 {
			continue
		}
		p := made{text: m.text.String()}
		for _, d := range m.diags {
			p.diags = append(p.diags, *d)
		}
		p.l = parsed(t, p.text)
		return p
	}
}

// shuffled gives the nodes of a tree other indices, so that each child still stands behind its parent, and other offsets:
// those of the outermost nodes but the Program are told by their offsets before.
func (m *maker) shuffled(l []api.Node) ([]api.Node, map[int]int) {
	open, order := []int{0}, []int(nil)
	for len(open) > 0 {
		i := m.Intn(len(open))
		order = append(order, open[i])
		open = append(slices.Delete(open, i, i+1), l[order[len(order)-1]].Kids...)
	}
	moved := make([]api.Node, len(l))
	places, offsets := map[int]int{}, m.Perm(len(l))
	for place, at := range order {
		places[at] = place
		moved[place] = copied(l[at : at+1])[0]
		moved[place].At = offsets[place] - len(l)/2
	}
	placed := map[int]int{}
	for at, n := range l {
		for i, kid := range n.Kids {
			moved[places[at]].Kids[i] = places[kid]
		}
		// A parsed tree is in preorder: an expression stands ahead of what it begins with.
		if _, ok := placed[n.At]; !ok && at > 0 {
			placed[n.At] = moved[places[at]].At
		}
	}
	return moved, placed
}

func TestP13_1_Reference(t *testing.T) {
	m := &maker{Rand: rand.New(rand.NewSource(1311))}
	counts := map[int]int{}
	for i := range 2500 {
		m.careful = i%5 == 0
		p := m.random(t)
		if got := typing.Check(p.l); !slices.Equal(got, p.diags) {
			t.Fatalf("%s: the diagnostics %v; want %v", p.text, got, p.diags)
		}
		l, placed := m.shuffled(p.l)
		want := slices.Clone(p.diags)
		for i, d := range want {
			if i > 0 || d.Code != api.DiagMain || d.At > 0 {
				want[i].At = placed[d.At]
			}
			counts[d.Code]++
		}
		if got := typing.Check(l); !slices.Equal(got, want) {
			t.Fatalf("%v: the diagnostics %v; want %v", l, got, want)
		}
		if len(want) == 0 {
			counts[0]++
		} else if m.careful {
			t.Fatalf("%s: a careful program is wrong", p.text)
		}
	}
	for _, code := range []int{0, api.DiagSort, api.DiagArgs, api.DiagMain, api.DiagOp, api.DiagCase, api.DiagExit} {
		if counts[code] < 400 {
			t.Errorf("only %d programs or diagnostics of the code %d", counts[code], code)
		}
	}
}
