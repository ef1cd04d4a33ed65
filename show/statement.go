package show

import "ballcock/api"

func (p *printer) statement(n api.Node) {
	switch n.Kind {
	case api.NodeLet:
		p.add("let ")
		p.set(n)
	case api.NodeSet:
		p.set(n)
	case api.NodeOpen:
		p.add("open ", n.Words[0], " ", n.Words[1])
		p.branches(n.Kids)
	case api.NodeDo:
		p.do(n)
	case api.NodeSplit:
		p.split(n)
	case api.NodeCall:
		p.call(n)
	case api.NodeIf:
		p.add("if ")
		p.expr(p.kid(n, 0))
		p.branches(n.Kids[1:])
	case api.NodeWhile:
		p.add("while ")
		p.expr(p.kid(n, 0))
		p.block(p.kid(n, 1))
	case api.NodeReturn:
		p.add("return ")
		p.expr(p.kid(n, 0))
		p.add(";")
	case api.NodeExit:
		p.add("exit;")
	}
}

func (p *printer) set(n api.Node) {
	p.add(n.Words[0], " = ")
	p.expr(p.kid(n, 0))
	p.add(";")
}

func (p *printer) do(n api.Node) {
	p.add("do ", n.Words[0], ".", n.Words[1])
	if len(n.Kids) == 0 {
		p.add(";")
		return
	}
	p.braces(n.Kids, p.outcome)
}

// outcome writes a case of a do.
func (p *printer) outcome(n api.Node) {
	p.add(n.Words[0])
	p.block(p.kid(n, 0))
}

func (p *printer) split(n api.Node) {
	last := len(n.Kids) - 1
	p.add("split ", n.Words[0], " = ", n.Words[1], " ", kinds[n.Nums[0]], " ")
	p.fraction(n.Nums[1], n.Nums[2])
	for i := range last {
		p.names(p.kid(n, i))
	}
	p.block(p.kid(n, last))
}

func (p *printer) call(n api.Node) {
	p.add("call ")
	if len(n.Words) == 2 {
		p.add(n.Words[1], " = ")
	}
	p.add(n.Words[0])
	p.enclosed(n.Kids, p.arg)
	p.add(";")
}

func (p *printer) arg(n api.Node) {
	if n.Kind == api.NodeHandle {
		p.add("&", n.Words[0])
		return
	}
	p.expr(n)
}
