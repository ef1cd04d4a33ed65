package scope

import (
	"ballcock/api"
	"ballcock/decl"
)

// checker is a walker that tells what is wrong with the names of the nodes that it meets.
type checker struct {
	walker
	tell     func(code int, n api.Node, name string)
	protocol func(name string) bool
	// function tells the first function with a name.
	function func(name string) (at int, ok bool)
}

// checkerOf makes a checker of a valid tree.
func checkerOf(l []api.Node, tell func(code int, n api.Node, name string)) *checker {
	book, _ := decl.New(l)
	firsts := map[string]int{}
	for _, at := range Funcs(l) {
		if _, ok := firsts[l[at].Words[0]]; !ok {
			firsts[l[at].Words[0]] = at
		}
	}
	c := &checker{
		tell: tell,
		protocol: func(name string) bool {
			_, ok := book.Find(name)
			return ok
		},
		function: func(name string) (int, bool) {
			at, ok := firsts[name]
			return at, ok
		},
	}
	twice := func(n api.Node, name string) { tell(api.DiagTwice, n, name) }
	c.walker = walker{l: l, meet: c.check, twice: twice}
	return c
}

// check tells what is wrong with the names that a node uses, and with that of a Fn.
func (c *checker) check(at int) {
	n := c.l[at]
	switch n.Kind {
	case api.NodeFn:
		if first, _ := c.function(n.Words[0]); first != at {
			c.tell(api.DiagTwice, n, n.Words[0])
		}
	case api.NodeParam, api.NodeOpen:
		// A Param that is a number has no second word.
		for _, name := range n.Words[1:] {
			c.checkProtocol(n, name)
		}
	case api.NodeSet, api.NodeVar:
		c.checkVariable(n, n.Words[0], false)
	case api.NodeDo, api.NodeHandle:
		c.checkVariable(n, n.Words[0], true)
	case api.NodeSplit:
		c.checkVariable(n, n.Words[1], true)
	case api.NodeCall:
		c.checkCall(n)
	}
}

func (c *checker) checkProtocol(n api.Node, name string) {
	if !c.protocol(name) {
		c.tell(api.DiagNone, n, name)
	}
}

// checkVariable tells what is wrong with a variable that has to be a handle, or a number.
func (c *checker) checkVariable(n api.Node, name string, handle bool) {
	v, ok := c.find(name)
	switch {
	case !ok:
		c.tell(api.DiagNone, n, name)
	case v.handle != handle:
		c.tell(api.DiagSort, n, name)
	}
}

func (c *checker) checkCall(n api.Node) {
	if _, ok := c.function(n.Words[0]); !ok {
		c.tell(api.DiagNone, n, n.Words[0])
	}
	// A Call without a place for its value has no second word.
	for _, name := range n.Words[1:] {
		c.checkVariable(n, name, false)
	}
}
