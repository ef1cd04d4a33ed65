package graph

import (
	"strings"

	"ballcock/api"
)

// statement adds the instructions of a statement.
func (c *coder) statement(at int) {
	n := c.l[at]
	switch n.Kind {
	case api.NodeLet:
		c.add(api.InLet, at).Var = c.declare(n)
	case api.NodeSet:
		c.add(api.InLet, at).Var = c.slots[n.Words[0]]
	case api.NodeCall:
		c.call(at)
	case api.NodeReturn:
		c.add(api.InReturn, at).Next = none
	case api.NodeExit:
		c.add(api.InExit, at).Next = none
	case api.NodeOpen:
		c.open(at)
	case api.NodeDo:
		c.do(at)
	case api.NodeSplit:
		c.split(at)
	case api.NodeIf:
		c.branch(at)
	case api.NodeWhile:
		c.loop(at)
	}
}

func (c *coder) call(at int) {
	in := c.add(api.InCall, at)
	// A Call without a place for its value has no second word.
	for _, name := range c.l[at].Words[1:] {
		in.Var = c.slots[name]
	}
}

func (c *coder) open(at int) {
	n := c.l[at]
	slot := c.declare(n)
	c.around(api.InOpen, api.InShut, at, n.Kids[0], func(open, shut *api.Instr) {
		open.Var, shut.Var = slot, slot
		open.Else = c.here()
	})
	c.leave(at)
	c.block(n.Kids[1])
}

func (c *coder) do(at int) {
	n := c.l[at]
	in := c.add(api.InDo, at)
	in.Var, in.Next = c.slots[n.Words[0]], none
	if len(n.Kids) > 0 {
		c.cases(at)
		return
	}
	// Without Cases, the operation has only one outcome.
	a, _ := c.book.Find(c.protocol(in.Var))
	in.Outs, in.Cases = a.Outcomes(n.Words[1]), []int{c.here()}
}

// cases adds the instructions of the Cases of a Do, whose own one is the latest.
func (c *coder) cases(at int) {
	begin := c.here() - 1
	for _, kid := range c.l[at].Kids {
		n, in := c.l[kid], &c.code.Ins[begin]
		in.Outs, in.Cases = append(in.Outs, strings.Clone(n.Words[0])), append(in.Cases, c.here())
		c.block(n.Kids[0])
		c.add(api.InJump, at)
		c.leave(at)
	}
}

func (c *coder) split(at int) {
	n := c.l[at]
	old := c.slots[n.Words[1]]
	slot := c.declare(n)
	// Ahead of the Block there may be a Names.
	c.around(api.InSplit, api.InJoin, at, n.Kids[len(n.Kids)-1], func(split, join *api.Instr) {
		split.Var, join.Var = slot, slot
		split.Old, join.Old = old, old
	})
}

func (c *coder) branch(at int) {
	n := c.l[at]
	c.around(api.InIf, api.InJump, at, n.Kids[1], func(in, _ *api.Instr) { in.Else = c.here() })
	c.leave(at)
	// There may be a second Block.
	for _, kid := range n.Kids[2:] {
		c.block(kid)
	}
}

func (c *coder) loop(at int) {
	begin := c.here()
	c.around(api.InIf, api.InJump, at, c.l[at].Kids[1], func(in, jump *api.Instr) {
		in.Else, jump.Next = c.here(), begin
	})
}
