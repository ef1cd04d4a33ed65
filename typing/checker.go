package typing

import (
	"slices"
	"strings"

	"ballcock/api"
	"ballcock/auto"
	"ballcock/decl"
	"ballcock/scope"
)

// mainName is the name of the function with which a program begins.
const mainName = "main"

// checker tells what is wrong with a tree that has no diagnostics of the layers 11 and 12: each name that is looked up is
// there, and no two functions have one name.
type checker struct {
	l    []api.Node
	book *decl.Book
	// function is the name of the one whose nodes are checked.
	function string
	diags    []api.Diag
}

func (c *checker) tell(code, at int, name string) {
	// Words of the tree are its memory, so a diagnostic has a copy.
	c.diags = append(c.diags, api.Diag{Code: code, At: at, Name: strings.Clone(name)})
}

// checkMain tells whether main is missing, or has parameters.
func (c *checker) checkMain() {
	at, ok := scope.Func(c.l, mainName)
	switch {
	case !ok:
		c.tell(api.DiagMain, 0, mainName)
	case len(c.params(at)) > 0:
		c.tell(api.DiagMain, c.l[at].At, mainName)
	}
}

// check tells what is wrong with a node, and notes the function that begins with it.
func (c *checker) check(at int) {
	n := c.l[at]
	switch n.Kind {
	case api.NodeFn:
		c.function = n.Words[0]
	case api.NodeDo:
		c.checkDo(n, c.automaton(at))
	case api.NodeCall:
		c.checkCall(n)
	case api.NodeExit:
		if c.function != mainName {
			c.tell(api.DiagExit, n.At, c.function)
		}
	}
}

// checkDo tells what is wrong with a Do on a handle of a protocol.
func (c *checker) checkDo(n api.Node, protocol *auto.Auto) {
	op := n.Words[1]
	outcomes := protocol.Outcomes(op)
	switch {
	case !slices.Contains(protocol.Ops(), op):
		c.tell(api.DiagOp, n.At, op)
	case len(n.Kids) > 0:
		c.checkCases(n, outcomes)
	case len(outcomes) > 1:
		c.tell(api.DiagCase, n.At, op)
	}
}

// checkCases tells which Cases of a Do are wrong, and then the first of the operation's outcomes that is left without one.
func (c *checker) checkCases(n api.Node, left []string) {
	for _, kid := range n.Kids {
		outcome := c.l[kid].Words[0]
		// An outcome is not left if an earlier Case has it, or if the operation does not have it.
		i := slices.Index(left, outcome)
		if i < 0 {
			c.tell(api.DiagCase, c.l[kid].At, outcome)
			continue
		}
		left = slices.Delete(left, i, i+1)
	}
	if len(left) > 0 {
		c.tell(api.DiagCase, n.At, left[0])
	}
}

// checkCall tells what is wrong with a Call, or with its arguments if there are as many as parameters.
func (c *checker) checkCall(n api.Node) {
	name := n.Words[0]
	function, _ := scope.Func(c.l, name)
	params := c.params(function)
	switch {
	case name == mainName:
		c.tell(api.DiagMain, n.At, name)
	case len(n.Kids) != len(params):
		c.tell(api.DiagArgs, n.At, name)
	default:
		for i, kid := range n.Kids {
			c.checkArgument(kid, c.l[params[i]])
		}
	}
}

// checkArgument tells what is wrong with an argument in the place of a parameter.
func (c *checker) checkArgument(at int, param api.Node) {
	n := c.l[at]
	// A Param that is a handle has a second word, its protocol.
	isHandle, wantsHandle := n.Kind == api.NodeHandle, len(param.Words) == 2
	switch {
	case isHandle != wantsHandle:
		c.tell(api.DiagSort, n.At, param.Words[0])
	case isHandle && c.protocol(at) != param.Words[1]:
		c.tell(api.DiagArgs, n.At, param.Words[0])
	}
}

// params are the nodes of a function's parameters.
func (c *checker) params(function int) []int {
	kids := c.l[function].Kids
	return kids[:len(kids)-1]
}

// automaton is that of the handle that a node names first.
func (c *checker) automaton(at int) *auto.Auto {
	a, _ := c.book.Find(c.protocol(at))
	return a
}

// protocol is the name of the protocol of the handle that a node names first.
func (c *checker) protocol(at int) string {
	name, _ := scope.Sort(c.l, at, c.l[at].Words[0])
	return name
}
