package parse

import "ballcock/api"

var signs = [...]string{
	api.BinLess: "<", api.BinSame: "==",
	api.BinAdd: "+", api.BinSub: "-",
	api.BinMul: "*", api.BinDiv: "/",
}

func (p *parser) expr() *branch {
	left := p.sum()
	if sign, ok := p.sign(api.BinLess, api.BinSame); ok {
		return joined(sign, left, p.sum())
	}
	return left
}

func (p *parser) sum() *branch {
	return p.chain(p.product, api.BinAdd, api.BinSub)
}

func (p *parser) product() *branch {
	return p.chain(p.part, api.BinMul, api.BinDiv)
}

// chain reads operands with signs between, and joins them from the left.
func (p *parser) chain(operand func() *branch, between ...int) *branch {
	left := operand()
	for {
		sign, ok := p.sign(between...)
		if !ok {
			return left
		}
		left = joined(sign, left, operand())
	}
}

// sign takes one of these signs, if one is next, and tells which.
func (p *parser) sign(choices ...int) (int, bool) {
	for _, sign := range choices {
		if p.takes(signs[sign]) {
			return sign, true
		}
	}
	return 0, false
}

// joined is a Bin. Its offset is its left operand's, even if a parenthesis stands ahead of that.
func joined(sign int, left, right *branch) *branch {
	return &branch{
		Node: api.Node{Kind: api.NodeBin, Nums: []int64{int64(sign)}, At: left.At},
		kids: []*branch{left, right},
	}
}

func (p *parser) part() *branch {
	b := p.begin(api.NodeNum)
	switch {
	case p.takes("("):
		p.nested(func() { b = p.expr() })
		p.need(")")
	case p.takes("-"):
		b.Kind = api.NodeNeg
		p.nested(func() { b.add(p.part()) })
	case p.next().Kind == api.TokNum:
		b.Nums = []int64{p.number(0)}
	default:
		b.Kind = api.NodeVar
		b.Words = []string{p.name()}
	}
	return b
}
