package parse

import "ballcock/api"

// statement reads a statement. Those that begin with a keyword are read on by the methods below, behind this word.
func (p *parser) statement() *branch {
	b := p.begin(api.NodeSet)
	switch {
	case p.takes("let"):
		b.Kind = api.NodeLet
		p.set(b)
	case p.takes("open"):
		p.open(b)
	case p.takes("do"):
		p.do(b)
	case p.takes("split"):
		p.split(b)
	case p.takes("call"):
		p.call(b)
	case p.takes("if"):
		p.choice(b)
	case p.takes("while"):
		b.Kind = api.NodeWhile
		b.add(p.expr(), p.block())
	case p.takes("return"):
		b.Kind = api.NodeReturn
		b.add(p.expr())
		p.need(";")
	case p.takes("exit"):
		b.Kind = api.NodeExit
		p.need(";")
	default:
		p.set(b)
	}
	return b
}

func (p *parser) set(b *branch) {
	b.Words = []string{p.name()}
	p.need("=")
	b.add(p.expr())
	p.need(";")
}

func (p *parser) open(b *branch) {
	b.Kind = api.NodeOpen
	b.Words = []string{p.name(), p.name()}
	b.add(p.block())
	p.need("else")
	b.add(p.block())
}

func (p *parser) do(b *branch) {
	b.Kind = api.NodeDo
	b.Words = []string{p.name()}
	p.need(".")
	b.Words = append(b.Words, p.name())
	if p.takes(";") {
		return
	}
	p.need("{")
	p.until("}", func() { b.add(p.outcome()) })
}

// outcome reads a case of a do.
func (p *parser) outcome() *branch {
	b := p.begin(api.NodeCase)
	b.Words = []string{p.name()}
	b.add(p.block())
	return b
}

func (p *parser) split(b *branch) {
	b.Kind = api.NodeSplit
	b.Words = []string{p.name()}
	p.need("=")
	b.Words = append(b.Words, p.name())
	b.Nums = []int64{p.kind(api.Full), 0, 0}
	b.Nums[1], b.Nums[2] = p.fraction()
	p.names(b, api.NamesIn)
	b.add(p.block())
}

func (p *parser) call(b *branch) {
	b.Kind = api.NodeCall
	b.Words = []string{p.name()}
	if p.takes("=") {
		b.Words = []string{p.name(), b.Words[0]}
	}
	p.enclosed(func() { b.add(p.arg()) })
	p.need(";")
}

func (p *parser) arg() *branch {
	b := p.begin(api.NodeHandle)
	if !p.takes("&") {
		return p.expr()
	}
	b.Words = []string{p.name()}
	return b
}

// choice reads an if.
func (p *parser) choice(b *branch) {
	b.Kind = api.NodeIf
	b.add(p.expr(), p.block())
	if p.takes("else") {
		b.add(p.block())
	}
}
