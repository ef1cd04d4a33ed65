package show

import "ballcock/api"

// How strongly an expression holds together: where one of a certain strength has to stand,
// a weaker one stands in parentheses.
const (
	comparison = iota
	sum
	product
	single // a number, a name, or a minus sign with its operand
)

var signs = [...]string{
	api.BinLess: " < ", api.BinSame: " == ",
	api.BinAdd: " + ", api.BinSub: " - ",
	api.BinMul: " * ", api.BinDiv: " / ",
}

func strength(n api.Node) int {
	if n.Kind != api.NodeBin {
		return single
	}
	switch n.Nums[0] {
	case api.BinLess, api.BinSame:
		return comparison
	case api.BinAdd, api.BinSub:
		return sum
	}
	return product
}

// expr writes an expression that stands for itself, and nothing of a node that is none.
func (p *printer) expr(n api.Node) {
	switch n.Kind {
	case api.NodeNum:
		p.number(n.Nums[0])
	case api.NodeVar:
		p.add(n.Words[0])
	case api.NodeNeg:
		p.add("-")
		p.operand(p.kid(n, 0), single)
	case api.NodeBin:
		// Sums and products are read from the left, so that one of the same strength may be
		// the left operand; of comparisons the grammar has only one at a time.
		own := strength(n)
		p.operand(p.kid(n, 0), max(own, sum))
		p.add(signs[n.Nums[0]])
		p.operand(p.kid(n, 1), own+1)
	}
}

// operand writes an expression where one of at least this strength has to stand.
func (p *printer) operand(n api.Node, least int) {
	if strength(n) >= least {
		p.expr(n)
		return
	}
	p.add("(")
	p.expr(n)
	p.add(")")
}
