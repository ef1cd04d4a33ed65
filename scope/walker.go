package scope

import (
	"slices"

	"ballcock/api"
)

// root is the place of the Program.
const root = 0

// variable is a handle of a protocol, or a number. A handle that is split from none has no protocol.
type variable struct {
	name, proto string
	handle      bool
}

// walker goes through the nodes of a valid tree in preorder and knows the variables that are visible.
type walker struct {
	l       []api.Node
	visible []variable
	// meet is called at each node, ahead of what the node declares.
	meet func(at int)
	// twice is called where a node declares a variable whose name is visible already.
	twice func(n api.Node, name string)
}

// walk goes through a node and all below it.
func (w *walker) walk(at int) {
	w.meet(at)
	n := w.l[at]
	switch n.Kind {
	case api.NodeFn, api.NodeBlock:
		w.within(func() { w.each(n.Kids) })
	case api.NodeParam, api.NodeLet:
		w.each(n.Kids)
		w.declare(n)
	case api.NodeOpen:
		w.declareIn(n.Kids[0], n)
		w.walk(n.Kids[1])
	case api.NodeSplit:
		block := len(n.Kids) - 1
		w.each(n.Kids[:block])
		w.declareIn(n.Kids[block], n)
	default:
		w.each(n.Kids)
	}
}

func (w *walker) each(kids []int) {
	for _, kid := range kids {
		w.walk(kid)
	}
}

// within does a part of the walk, and then ends the variables that were declared in it.
func (w *walker) within(part func()) {
	outside := len(w.visible)
	part()
	w.visible = w.visible[:outside]
}

// declareIn declares the variable of a node for one of its Blocks.
func (w *walker) declareIn(block int, n api.Node) {
	w.within(func() {
		w.declare(n)
		w.walk(block)
	})
}

// declare declares the variable of a node, if it may be declared.
func (w *walker) declare(n api.Node) {
	v := w.variableOf(n)
	if _, ok := w.find(v.name); ok {
		w.twice(n, v.name)
		return
	}
	w.visible = append(w.visible, v)
}

// variableOf is the variable that a node declares.
func (w *walker) variableOf(n api.Node) variable {
	v := variable{name: n.Words[0]}
	switch {
	case n.Kind == api.NodeSplit:
		old, _ := w.find(n.Words[1])
		v.proto, v.handle = old.proto, true
	case len(n.Words) == 2:
		v.proto, v.handle = n.Words[1], true
	}
	return v
}

// find is the visible variable with a name; false: there is none.
func (w *walker) find(name string) (variable, bool) {
	i := slices.IndexFunc(w.visible, func(v variable) bool { return v.name == name })
	if i < 0 {
		return variable{}, false
	}
	return w.visible[i], true
}
