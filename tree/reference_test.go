package tree_test

import (
	"fmt"
	"math/rand"
	"regexp"
	"slices"
	"strings"
	"testing"

	"ballcock/api"
	"ballcock/lex"
	"ballcock/tree"
)

// The tests here hold the package against the chapter's table written as regular expressions.
// A node is written as a w for each of its words, its numbers, and the kinds of its children
// as letters, A for the first kind and X for the last; behind Names stands their number.

var table = [...]string{
	api.NodeProgram: `;;[BE]*`,
	api.NodeProto:   `w;;[CD]*`,
	api.NodeState:   `w;[01],;`,
	api.NodeOp:      `ww(ww)+;;`,
	api.NodeFn:      `w;;F*H`,
	api.NodeParam:   `w;;|ww;[0-4],(0,0,|[1-9]\d*,[1-9]\d*,);(G0)?(G1)?(G2)?`,
	api.NodeNames:   `w+;[012],;`,
	api.NodeBlock:   `;;[IJKLNOQRST]*`,
	api.NodeLet:     `w;;[UVWX]`,
	api.NodeSet:     `w;;[UVWX]`,
	api.NodeOpen:    `ww;;HH`,
	api.NodeDo:      `ww;;M*`,
	api.NodeCase:    `w;;H`,
	api.NodeSplit:   `ww;[1-4],[1-9]\d*,[1-9]\d*,;(G2)?H`,
	api.NodeCall:    `ww?;;[PUVWX]*`,
	api.NodeHandle:  `w;;`,
	api.NodeIf:      `;;[UVWX]HH?`,
	api.NodeWhile:   `;;[UVWX]H`,
	api.NodeReturn:  `;;[UVWX]`,
	api.NodeExit:    `;;`,
	api.NodeNum:     `;\d{1,18},;`,
	api.NodeVar:     `w;;`,
	api.NodeBin:     `;[0-5],;[UVWX][UVWX]`,
	api.NodeNeg:     `;;[UVWX]`,
}

// written is a node as the table's regular expressions match it.
func written(l []api.Node, n api.Node) string {
	var s strings.Builder
	for _, word := range n.Words {
		if lex.Name(word) {
			s.WriteString("w")
		} else {
			s.WriteString("!")
		}
	}
	s.WriteString(";")
	for _, num := range n.Nums {
		fmt.Fprintf(&s, "%d,", num)
	}
	s.WriteString(";")
	for _, kid := range n.Kids {
		fmt.Fprintf(&s, "%c", 'A'+l[kid].Kind)
		if l[kid].Kind == api.NodeNames && len(l[kid].Nums) == 1 {
			fmt.Fprint(&s, l[kid].Nums[0])
		}
	}
	return s.String()
}

var forms = func() []*regexp.Regexp {
	var l []*regexp.Regexp
	for _, form := range table {
		l = append(l, regexp.MustCompile(`^(`+form+`)$`))
	}
	return l
}()

// expected are the indices in preorder and the depth of a list; none if it is no valid tree.
func expected(l []api.Node) ([]int, int) {
	if len(l) == 0 || len(l) > 1500 || l[0].Kind != api.NodeProgram {
		return nil, 0
	}
	parents := make([]int, len(l))
	for at, n := range l {
		for _, kid := range n.Kids {
			if kid <= at || kid >= len(l) {
				return nil, 0
			}
			parents[kid]++
		}
	}
	parents[0]++
	for at, n := range l {
		if parents[at] != 1 || n.Kind < 0 || n.Kind > 23 || !forms[n.Kind].MatchString(written(l, n)) {
			return nil, 0
		}
		for _, num := range n.Nums {
			if num >= 1_000_000_000_000_000_000 {
				return nil, 0
			}
		}
	}
	// A tree without recursion: the nodes that are still to come, the next one last.
	type place struct{ at, depth int }
	todo, most := []place{{0, 1}}, 0
	var order []int
	for len(todo) > 0 {
		next := todo[len(todo)-1]
		todo = todo[:len(todo)-1]
		order, most = append(order, next.at), max(most, next.depth)
		for _, kid := range slices.Backward(l[next.at].Kids) {
			todo = append(todo, place{kid, next.depth + 1})
		}
	}
	if most > 24 {
		return nil, 0
	}
	return order, most
}

// agrees checks what the package says of a list, and reports whether the list is a valid tree.
func agrees(t *testing.T, l []api.Node) bool {
	t.Helper()
	order, depth := expected(l)
	right := order != nil
	if tree.Right(l) != right || !slices.Equal(tree.Walk(l), order) || tree.Same(l, l) != right || right && tree.Deep(l) != depth {
		t.Fatalf("%s: Right = %v, Walk = %v, Deep = %d; want %v, %d", text(l), tree.Right(l), tree.Walk(l), tree.Deep(l), order, depth)
	}
	for at := range min(len(l), 20) {
		if b := tree.Build(l, at); right != (len(b) > 0) || right && !follows(l, order, at, b) {
			t.Fatalf("Build(%s, %d) = %s", text(l), at, text(b))
		}
	}
	return right
}

// follows tells whether b has the node at and all below it, in preorder.
func follows(l []api.Node, order []int, at int, b []api.Node) bool {
	from := slices.Index(order, at)
	old := order[from : from+len(b)]
	next := 1
	for place, n := range b {
		was := l[old[place]]
		if n.Kind != was.Kind || n.At != was.At || !slices.Equal(n.Words, was.Words) || !slices.Equal(n.Nums, was.Nums) || len(n.Kids) != len(was.Kids) {
			return false
		}
		for i, kid := range n.Kids {
			if kid <= place || kid >= len(b) || old[kid] != was.Kids[i] {
				return false
			}
		}
		next += len(n.Kids)
	}
	return next == len(b)
}

// maker makes random branches.
type maker struct{ *rand.Rand }

func (m maker) name() string {
	return []string{"a", "b", "file", "_", "x9", "sixteen_letters_"}[m.Intn(6)]
}

func (m maker) num(least int) int {
	return []int{0, 1, 2, 3, 7, 999_999_999_999_999_999}[max(least, m.Intn(6))]
}

func (m maker) some(most int, make func() branch) []branch {
	var l []branch
	for range m.Intn(most + 1) {
		l = append(l, make())
	}
	return l
}

func (m maker) expression(deep int) branch {
	switch k := m.Intn(6); {
	case k == 0 && deep > 0:
		return of(api.NodeNeg, m.expression(deep-1))
	case k <= 2 && deep > 0:
		return of(api.NodeBin, m.Intn(6), m.expression(deep-1), m.expression(deep-1))
	case k == 3:
		return of(api.NodeVar, m.name())
	}
	return of(api.NodeNum, m.num(0))
}

func (m maker) names(which int) branch {
	b := of(api.NodeNames, m.name(), which)
	for range m.Intn(3) {
		b.words = append(b.words, m.name())
	}
	return b
}

func (m maker) block(deep int) branch {
	if deep <= 0 {
		return block
	}
	return of(api.NodeBlock, m.some(3, func() branch { return m.statement(deep - 1) }))
}

func (m maker) statement(deep int) branch {
	expression, inner := m.expression(min(deep, 3)), func() branch { return m.block(deep) }
	switch m.Intn(11) {
	case 0:
		return of(api.NodeLet, m.name(), expression)
	case 1:
		return of(api.NodeSet, m.name(), expression)
	case 2:
		return of(api.NodeOpen, m.name(), m.name(), inner(), inner())
	case 3:
		return of(api.NodeDo, m.name(), m.name(), m.some(2, func() branch { return of(api.NodeCase, m.name(), inner()) }))
	case 4:
		b := of(api.NodeSplit, m.name(), m.name(), 1+m.Intn(4), m.num(1), m.num(1))
		if m.Intn(2) == 0 {
			b.kids = append(b.kids, m.names(api.NamesIn))
		}
		b.kids = append(b.kids, inner())
		return b
	case 5:
		b := of(api.NodeCall, m.name(), m.some(3, func() branch { return []branch{of(api.NodeHandle, m.name()), expression}[m.Intn(2)] }))
		if m.Intn(2) == 0 {
			b.words = append(b.words, m.name())
		}
		return b
	case 6:
		return of(api.NodeIf, expression, inner(), m.some(1, inner))
	case 7:
		return of(api.NodeWhile, expression, inner())
	case 8:
		return of(api.NodeReturn, expression)
	}
	return exit
}

func (m maker) param() branch {
	if m.Intn(2) == 0 {
		return of(api.NodeParam, m.name())
	}
	b := of(api.NodeParam, m.name(), m.name(), m.Intn(5), 0, 0)
	if m.Intn(2) == 0 {
		b.nums[1], b.nums[2] = int64(m.num(1)), int64(m.num(1))
	}
	for which := api.NamesAt; which <= api.NamesIn; which++ {
		if m.Intn(2) == 0 {
			b.kids = append(b.kids, m.names(which))
		}
	}
	return b
}

func (m maker) item() branch {
	if m.Intn(3) > 0 {
		return of(api.NodeFn, m.name(), m.some(2, m.param), m.block(6))
	}
	return of(api.NodeProto, m.name(), m.some(3, func() branch {
		if m.Intn(2) == 0 {
			return of(api.NodeState, m.name(), m.Intn(2))
		}
		b := of(api.NodeOp, m.name(), m.name())
		for range 1 + m.Intn(2) {
			b.words = append(b.words, m.name(), m.name())
		}
		return b
	}))
}

// shuffled gives the nodes of a tree other indices, so that each child still stands behind its parent.
func (m maker) shuffled(l []api.Node) []api.Node {
	open, order := []int{0}, []int(nil)
	for len(open) > 0 {
		i := m.Intn(len(open))
		at := open[i]
		order = append(order, at)
		open = append(slices.Delete(open, i, i+1), l[at].Kids...)
	}
	moved := make([]api.Node, len(l))
	for place, at := range order {
		moved[place] = deep(l[at : at+1])[0]
		for i, kid := range moved[place].Kids {
			moved[place].Kids[i] = slices.Index(order, kid)
		}
	}
	return moved
}

// broken changes one thing of a list.
func (m maker) broken(l []api.Node) {
	n := &l[m.Intn(len(l))]
	switch m.Intn(10) {
	case 0:
		n.Kind = m.Intn(26) - 1
	case 1:
		n.Words = append(n.Words, m.name())
	case 2:
		n.Nums = append(n.Nums, int64(m.Intn(6)))
	case 3:
		n.Kids = append(n.Kids, m.Intn(len(l)+2)-1)
	case 4:
		n.Words = n.Words[:max(0, len(n.Words)-1)]
	case 5:
		n.Nums = n.Nums[:max(0, len(n.Nums)-1)]
	case 6:
		n.Kids = n.Kids[:max(0, len(n.Kids)-1)]
	case 7:
		for i := range n.Words {
			n.Words[i] = []string{"", "fn", "seventeen_letters", "ok", "9", "A"}[m.Intn(6)]
		}
	case 8:
		for i := range n.Nums {
			n.Nums[i] = []int64{-1, 0, 1, 3, 5, 6, 999_999_999_999_999_999, 1_000_000_000_000_000_000}[m.Intn(8)]
		}
	case 9:
		for i := range n.Kids {
			n.Kids[i] = min(max(n.Kids[i]+m.Intn(3)-1, -1), len(l))
		}
	}
}

func TestP6_Reference(t *testing.T) {
	m := maker{rand.New(rand.NewSource(6))}
	counts := map[bool]int{}
	for range 1500 {
		b := of(api.NodeProgram, m.some(3, m.item))
		l := list(b)
		if !agrees(t, l) {
			t.Fatalf("%s is not valid", text(l))
		}
		moved := m.shuffled(l)
		if !agrees(t, moved) || !tree.Same(l, moved) || !tree.Same(moved, l) || !equal(tree.Build(moved, 0), l) {
			t.Fatalf("%s is another tree than %s", text(moved), text(l))
		}
		for range 5 {
			changed := deep(moved)
			m.broken(changed)
			right := agrees(t, changed)
			counts[right]++
			if same := right && equal(deepOffsets(tree.Build(changed, 0)), deepOffsets(l)); tree.Same(changed, l) != same || tree.Same(l, changed) != same {
				t.Fatalf("Same(%s, %s) = %v", text(changed), text(l), !same)
			}
		}
	}
	if counts[true] < 500 || counts[false] < 500 {
		t.Errorf("%d changed lists are valid, %d are not", counts[true], counts[false])
	}
}

// deepOffsets is a copy of a list without offsets.
func deepOffsets(l []api.Node) []api.Node {
	l = deep(l)
	for i := range l {
		l[i].At = 0
	}
	return l
}
