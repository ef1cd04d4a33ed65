package graph

import (
	"strings"

	"ballcock/api"
	"ballcock/decl"
)

// none is the place of a variable, an instruction or a node that is not there.
const none = -1

// coder makes the code of a function of a tree without diagnostics of the layers 11 to 13.
type coder struct {
	l    []api.Node
	book *decl.Book
	code api.Code
	// slots has, by each name, that of the latest variable with it. As long as a variable is visible, no other one is
	// declared with its name, so where a name may be used it is this one's.
	slots map[string]int
	// leaving has the statements that instructions leave for what is behind them, by the indices of the instructions.
	leaving map[int]int
	// behind has the indices behind statements.
	behind map[int]int
}

// codeOf is the code of the function at a node.
func codeOf(l []api.Node, book *decl.Book, at int) api.Code {
	n := l[at]
	params := len(n.Kids) - 1
	// Words of the tree are its memory, so a code has copies.
	code := api.Code{Name: strings.Clone(n.Words[0]), Node: at, Params: params}
	c := &coder{l: l, book: book, code: code, slots: map[string]int{}, leaving: map[int]int{}, behind: map[int]int{}}
	for _, kid := range n.Kids[:params] {
		c.declare(l[kid])
	}
	c.block(n.Kids[params])
	c.add(api.InReturn, none).Next = none
	c.link()
	return c.code
}

// here is the index of the next instruction.
func (c *coder) here() int {
	return len(c.code.Ins)
}

// add adds an instruction that goes on at the next one. It is to be completed ahead of the next call.
func (c *coder) add(op, node int) *api.Instr {
	at := c.here()
	c.code.Ins = append(c.code.Ins, api.Instr{Op: op, Node: node, Var: none, Old: none, Next: at + 1, Else: none})
	return &c.code.Ins[at]
}

// leave lets the latest instruction go on behind a statement, wherever that will be.
func (c *coder) leave(statement int) {
	c.leaving[c.here()-1] = statement
}

// link completes the instructions that leave statements, once it is known what is behind these.
func (c *coder) link() {
	for at, statement := range c.leaving {
		c.code.Ins[at].Next = c.behind[statement]
	}
}

// declare gives the variable of a node the next slot, and tells it.
func (c *coder) declare(n api.Node) int {
	slot := len(c.code.Slots)
	s := api.Slot{Name: strings.Clone(n.Words[0])}
	switch {
	case n.Kind == api.NodeSplit:
		s.Proto, s.Handle = c.protocol(c.slots[n.Words[1]]), true
	case len(n.Words) == 2:
		s.Proto, s.Handle = strings.Clone(n.Words[1]), true
	}
	c.code.Slots = append(c.code.Slots, s)
	c.slots[s.Name] = slot
	return slot
}

// protocol is the name of that of the handle with a slot.
func (c *coder) protocol(slot int) string {
	return c.code.Slots[slot].Proto
}

// block adds the instructions of the statements in a Block.
func (c *coder) block(at int) {
	for _, kid := range c.l[at].Kids {
		c.statement(kid)
		c.behind[kid] = c.here()
	}
}

// around adds an instruction of a statement, those of a Block, and another one of the statement, and then hands both of its
// own to a function that completes them.
func (c *coder) around(first, last, statement, block int, complete func(first, last *api.Instr)) {
	begin := c.here()
	c.add(first, statement)
	c.block(block)
	end := c.here()
	c.add(last, statement)
	complete(&c.code.Ins[begin], &c.code.Ins[end])
}
