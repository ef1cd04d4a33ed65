package show_test

import (
	"math/rand"
	"slices"

	"ballcock/api"
)

// maker makes random branches that are valid.
type maker struct{ *rand.Rand }

func (m maker) name() string {
	return []string{"a", "B", "file", "_", "x9", "sixteen_letters_", "ins"}[m.Intn(7)]
}

func (m maker) num(least int) int {
	return []int{0, 1, 2, 3, 7, 10, 40, 1 << 33, 999_999_999_999_999_999}[max(least, m.Intn(9))]
}

func (m maker) some(most int, make func() branch) []branch {
	var l []branch
	for range m.Intn(most + 1) {
		l = append(l, make())
	}
	return l
}

func (m maker) expression(deep int) branch {
	switch k := m.Intn(7); {
	case k == 0 && deep > 0:
		return neg(m.expression(deep - 1))
	case k <= 3 && deep > 0:
		return bin(m.Intn(6), m.expression(deep-1), m.expression(deep-1))
	case k <= 5:
		return name(m.name())
	}
	return of(api.NodeNum, m.num(0))
}

func (m maker) names(which int) branch {
	b := of(api.NodeNames, m.name(), which)
	for range m.Intn(3) {
		b.words = append(b.words, m.name())
	}
	return b
}

func (m maker) block(deep int) branch {
	if deep <= 0 {
		return block
	}
	return of(api.NodeBlock, m.some(3, func() branch { return m.statement(deep - 1) }))
}

func (m maker) statement(deep int) branch {
	expression, inner := func() branch { return m.expression(min(deep, 4)) }, func() branch { return m.block(deep) }
	switch m.Intn(10) {
	case 0:
		return of(api.NodeLet, m.name(), expression())
	case 1:
		return of(api.NodeSet, m.name(), expression())
	case 2:
		return of(api.NodeOpen, m.name(), m.name(), inner(), inner())
	case 3:
		return of(api.NodeDo, m.name(), m.name(), m.some(3, func() branch { return of(api.NodeCase, m.name(), inner()) }))
	case 4:
		b := of(api.NodeSplit, m.name(), m.name(), 1+m.Intn(4), m.num(1), m.num(1))
		if m.Intn(2) == 0 {
			b.kids = append(b.kids, m.names(api.NamesIn))
		}
		b.kids = append(b.kids, inner())
		return b
	case 5:
		b := of(api.NodeCall, m.name(), m.some(3, func() branch { return []branch{of(api.NodeHandle, m.name()), expression()}[m.Intn(2)] }))
		if m.Intn(2) == 0 {
			b.words = append(b.words, m.name())
		}
		return b
	case 6:
		return of(api.NodeIf, expression(), inner(), m.some(1, inner))
	case 7:
		return of(api.NodeWhile, expression(), inner())
	case 8:
		return of(api.NodeReturn, expression())
	}
	return exit
}

func (m maker) param() branch {
	if m.Intn(2) == 0 {
		return of(api.NodeParam, m.name())
	}
	b := of(api.NodeParam, m.name(), m.name(), m.Intn(5), 0, 0)
	if m.Intn(2) == 0 {
		b.nums[1], b.nums[2] = int64(m.num(1)), int64(m.num(1))
	}
	for which := api.NamesAt; which <= api.NamesIn; which++ {
		if m.Intn(2) == 0 {
			b.kids = append(b.kids, m.names(which))
		}
	}
	return b
}

func (m maker) item() branch {
	if m.Intn(3) > 0 {
		return of(api.NodeFn, m.name(), m.some(3, m.param), m.block(6))
	}
	return of(api.NodeProto, m.name(), m.some(4, func() branch {
		if m.Intn(2) == 0 {
			return of(api.NodeState, m.name(), m.Intn(2))
		}
		b := of(api.NodeOp, m.name(), m.name())
		for range 1 + m.Intn(3) {
			b.words = append(b.words, m.name(), m.name())
		}
		return b
	}))
}

func (m maker) program() branch {
	return of(api.NodeProgram, m.some(4, m.item))
}

// shuffled gives the nodes of a tree other indices and offsets, so that each child still stands behind its parent.
func (m maker) shuffled(l []api.Node) []api.Node {
	open, order := []int{0}, []int(nil)
	for len(open) > 0 {
		i := m.Intn(len(open))
		at := open[i]
		order = append(order, at)
		open = append(slices.Delete(open, i, i+1), l[at].Kids...)
	}
	places := make([]int, len(l))
	for place, at := range order {
		places[at] = place
	}
	moved := make([]api.Node, len(l))
	for place, at := range order {
		moved[place] = copied(l[at : at+1])[0]
		moved[place].At = m.Intn(1000) - 500
		for i, kid := range moved[place].Kids {
			moved[place].Kids[i] = places[kid]
		}
	}
	return moved
}

// broken changes one thing of a list.
func (m maker) broken(l []api.Node) {
	n := &l[m.Intn(len(l))]
	switch m.Intn(10) {
	case 0:
		n.Kind = m.Intn(26) - 1
	case 1:
		n.Words = append(n.Words, m.name())
	case 2:
		n.Nums = append(n.Nums, int64(m.Intn(6)))
	case 3:
		n.Kids = append(n.Kids, m.Intn(len(l)+2)-1)
	case 4:
		n.Words = n.Words[:max(0, len(n.Words)-1)]
	case 5:
		n.Nums = n.Nums[:max(0, len(n.Nums)-1)]
	case 6:
		n.Kids = n.Kids[:max(0, len(n.Kids)-1)]
	case 7:
		for i := range n.Words {
			n.Words[i] = []string{"", "fn", "seventeen_letters", "ok", "9", "A"}[m.Intn(6)]
		}
	case 8:
		for i := range n.Nums {
			n.Nums[i] = []int64{-1, 0, 1, 3, 5, 6, 999_999_999_999_999_999, 1_000_000_000_000_000_000}[m.Intn(8)]
		}
	case 9:
		for i := range n.Kids {
			n.Kids[i] = min(max(n.Kids[i]+m.Intn(3)-1, -1), len(l))
		}
	}
}
