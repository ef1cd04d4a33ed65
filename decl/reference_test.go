package decl_test

import (
	"math/rand"
	"slices"
	"strconv"
	"testing"

	"ballcock/api"
	"ballcock/auto"
	"ballcock/parse"
	"ballcock/show"
)

// The tests here hold the package against the chapter written out plainly.

// reference is what New has to tell of a valid tree: the protocols that it declares, and the diagnostics.
func reference(l []api.Node) ([]api.Proto, []api.Diag) {
	var protocols []api.Proto
	var diags []api.Diag
	used := []string{"File", "Socket", "Iter"}
	for _, kid := range l[0].Kids {
		if l[kid].Kind != api.NodeProto {
			continue
		}
		name := l[kid].Words[0]
		if code, at := fault(l, kid, used); code != 0 {
			diags = append(diags, api.Diag{Code: code, At: l[at].At, Name: name})
		} else {
			protocols = append(protocols, declaredBy(l, kid))
		}
		used = append(used, name)
	}
	return protocols, diags
}

// fault is the code and the node of the diagnostic of a Proto.
func fault(l []api.Node, at int, used []string) (code, node int) {
	if slices.Contains(used, l[at].Words[0]) {
		return 2, at
	}
	states, ops := kidsOf(l, at, api.NodeState), kidsOf(l, at, api.NodeOp)
	for _, op := range ops {
		for i, word := range l[op].Words {
			if i%2 == 1 && stateOf(l, states, word) < 0 {
				return 3, op
			}
		}
	}
	rule, index := auto.Wrong(declaredBy(l, at))
	switch {
	case rule == 0:
		return 0, 0
	case rule >= 2 && rule <= 4:
		return 1, ops[index]
	case len(states) == 0:
		return 1, at
	}
	return 1, states[index]
}

// declaredBy is the protocol that a Proto declares, which names only states that it has.
func declaredBy(l []api.Node, at int) api.Proto {
	p := api.Proto{Name: l[at].Words[0]}
	states := kidsOf(l, at, api.NodeState)
	for _, state := range states {
		p.States = append(p.States, api.State{Name: l[state].Words[0], Final: l[state].Nums[0] != 0})
	}
	for _, op := range kidsOf(l, at, api.NodeOp) {
		words := l[op].Words
		m := api.Move{Op: words[0], From: stateOf(l, states, words[1])}
		for i := 2; i < len(words); i += 2 {
			m.Outs = append(m.Outs, api.Out{Name: words[i], To: stateOf(l, states, words[i+1])})
		}
		p.Moves = append(p.Moves, m)
	}
	return p
}

func kidsOf(l []api.Node, at, kind int) []int {
	return slices.DeleteFunc(slices.Clone(l[at].Kids), func(kid int) bool { return l[kid].Kind != kind })
}

func stateOf(l []api.Node, states []int, name string) int {
	return slices.IndexFunc(states, func(state int) bool { return l[state].Words[0] == name })
}

// maker makes random programs.
type maker struct{ *rand.Rand }

func (m maker) pick(l ...string) string { return l[m.Intn(len(l))] }

func (m maker) rarely() bool { return m.Intn(30) == 0 }

// op is an Op between these states, or another one.
func (m maker) op(states []string) branch {
	state := func() string {
		if len(states) == 0 || m.Intn(40) == 0 {
			return m.pick("S0", "A", "Open", "s0", "S9")
		}
		return states[m.Intn(len(states))]
	}
	b := of(api.NodeOp, m.pick("go", "end", "S0", "a", "b", "c", "d", "e"), state())
	outcomes := []string{"ok", "no", "S0", "go"}
	m.Shuffle(len(outcomes), func(i, j int) { outcomes[i], outcomes[j] = outcomes[j], outcomes[i] })
	for i := range 1 + m.Intn(3) {
		if m.rarely() {
			outcomes[i] = "ok"
		}
		b.words = append(b.words, outcomes[i], state())
	}
	return b
}

func (m maker) proto() branch {
	b := of(api.NodeProto, m.pick("P", "Q", "R", "S", "T", "U", "V", "W", "file", "File", "Socket", "Iter"))
	count := m.Intn(6)
	if m.rarely() {
		count = 15 + m.Intn(4)
	}
	var all, starts []string
	for i := range count {
		name, final := "S"+strconv.Itoa(i), m.Intn(5)/3
		if m.rarely() {
			name = "S0"
		}
		if all = append(all, name); final == 0 || m.rarely() {
			starts = append(starts, name)
		}
		b.kids = append(b.kids, of(api.NodeState, name, final))
	}
	for range m.Intn(2 * (count + 1)) {
		op := m.op(all)
		if len(starts) > 0 {
			op.words[1] = starts[m.Intn(len(starts))]
		}
		b.kids = append(b.kids, op)
	}
	if m.Intn(2) == 0 {
		m.Shuffle(len(b.kids), func(i, j int) { b.kids[i], b.kids[j] = b.kids[j], b.kids[i] })
	}
	return b
}

func (m maker) fn() branch {
	name := m.pick("P", "main", "File")
	return of(api.NodeFn, name, of(api.NodeParam, name), of(api.NodeBlock, of(api.NodeLet, m.pick("P", "Q"), of(api.NodeNum, m.Intn(3)))))
}

func (m maker) program() branch {
	b := of(api.NodeProgram)
	for range m.Intn(7) {
		item := m.proto()
		if m.Intn(6) == 0 {
			item = m.fn()
		}
		b.kids = append(b.kids, item)
	}
	return b
}

// shuffled gives the nodes of a tree other indices and offsets, so that each child still stands behind its parent.
func (m maker) shuffled(l []api.Node) []api.Node {
	open, order := []int{0}, []int(nil)
	for len(open) > 0 {
		i := m.Intn(len(open))
		at := open[i]
		order = append(order, at)
		open = append(slices.Delete(open, i, i+1), l[at].Kids...)
	}
	places := make([]int, len(l))
	for place, at := range order {
		places[at] = place
	}
	moved := make([]api.Node, len(l))
	for place, at := range order {
		moved[place] = copied(l[at : at+1])[0]
		moved[place].At = m.Intn(1000) - 500
		for i, kid := range moved[place].Kids {
			moved[place].Kids[i] = places[kid]
		}
	}
	return moved
}

// asReference compares New with the reference, and tells how many protocols and diagnostics of each code there are.
func asReference(t *testing.T, l []api.Node, counts *[4]int) {
	t.Helper()
	protocols, want := reference(l)
	b, diags := made(t, l)
	if !slices.Equal(diags, want) {
		t.Fatalf("%s: the diagnostics %v; want %v", shown(l), diags, want)
	}
	holds(t, b, shown(l), protocols...)
	for _, name := range []string{"P", "Q", "R", "S", "T", "U", "V", "W", "file", "S0", "go", "ok", "main"} {
		declared := slices.ContainsFunc(protocols, func(p api.Proto) bool { return p.Name == name })
		if a, ok := b.Find(name); ok != declared || (a != nil) != declared {
			t.Fatalf("%s: Find(%s): an automaton is %v, %v", shown(l), name, a != nil, ok)
		}
	}
	counts[0] += len(protocols)
	for _, d := range want {
		counts[d.Code]++
	}
}

func TestP11_1_Reference(t *testing.T) {
	m := maker{rand.New(rand.NewSource(1111))}
	var counts [4]int
	for range 6000 {
		l := list(m.program())
		asReference(t, l, &counts)
		asReference(t, m.shuffled(l), &counts)
	}
	for code, count := range counts {
		if count < 1000 {
			t.Errorf("only %d protocols or diagnostics of the code %d", count, code)
		}
	}
}

// TestP11_1_ReferenceOfTexts has the offsets that the parser gives.
func TestP11_1_ReferenceOfTexts(t *testing.T) {
	m := maker{rand.New(rand.NewSource(1112))}
	var counts [4]int
	for range 1500 {
		text := show.Show(list(m.program()))
		if l, fault := parse.Parse(text); fault.Err == api.OK {
			asReference(t, l, &counts)
		}
	}
	for code, count := range counts {
		if count < 100 {
			t.Errorf("only %d protocols or diagnostics of the code %d", count, code)
		}
	}
}
