package show

import (
	"strings"

	"ballcock/api"
)

var kinds = [...]string{api.Unique: "unique", api.Full: "full", api.Share: "share", api.Imm: "imm", api.Pure: "pure"}

// namesWords has what stands ahead of the names of a Names.
var namesWords = [...]string{api.NamesAt: " at ", api.NamesTo: " to ", api.NamesIn: " in "}

// printer has a method for each part of a program. Its nodes are a valid tree.
type printer struct {
	writer
	nodes []api.Node
}

func (p *printer) kid(n api.Node, i int) api.Node {
	return p.nodes[n.Kids[i]]
}

// lines writes nodes on lines of their own.
func (p *printer) lines(kids []int, each func(n api.Node)) {
	for _, kid := range kids {
		p.indent()
		each(p.nodes[kid])
		p.add("\n")
	}
}

// braces writes nodes in braces, on lines of their own, behind a space.
func (p *printer) braces(kids []int, each func(n api.Node)) {
	if len(kids) == 0 {
		p.add(" { }")
		return
	}
	p.add(" {\n")
	p.deep++
	p.lines(kids, each)
	p.deep--
	p.indent()
	p.add("}")
}

// enclosed writes nodes in parentheses, with commas between.
func (p *printer) enclosed(kids []int, each func(n api.Node)) {
	p.add("(")
	p.separated(", ", len(kids), func(i int) { each(p.nodes[kids[i]]) })
	p.add(")")
}

// item writes a protocol or a function.
func (p *printer) item(n api.Node) {
	if n.Kind == api.NodeProto {
		p.add("proto ", n.Words[0])
		p.braces(n.Kids, p.protoPart)
		return
	}
	last := len(n.Kids) - 1
	p.add("fn ", n.Words[0])
	p.enclosed(n.Kids[:last], p.param)
	p.block(p.kid(n, last))
}

// protoPart writes a state or an operation.
func (p *printer) protoPart(n api.Node) {
	switch {
	case n.Kind == api.NodeOp:
		outs := n.Words[2:]
		p.add("op ", n.Words[0], " ", n.Words[1], " -> ")
		p.separated(", ", len(outs)/2, func(i int) { p.add(outs[2*i], " ", outs[2*i+1]) })
	case n.Nums[0] == 0:
		p.add("state ", n.Words[0])
	default:
		p.add("final ", n.Words[0])
	}
	p.add(";")
}

func (p *printer) param(n api.Node) {
	p.add(n.Words[0])
	if len(n.Words) == 1 {
		return
	}
	p.add(": ", n.Words[1], " ", kinds[n.Nums[0]])
	if n.Nums[2] > 0 {
		p.add(" least ")
		p.fraction(n.Nums[1], n.Nums[2])
	}
	for i := range n.Kids {
		p.names(p.kid(n, i))
	}
}

// names writes names with the word ahead of them.
func (p *printer) names(n api.Node) {
	p.add(namesWords[n.Nums[0]], strings.Join(n.Words, "|"))
}

func (p *printer) block(n api.Node) {
	p.braces(n.Kids, p.statement)
}

// branches writes one block, or two with an else between.
func (p *printer) branches(kids []int) {
	p.separated(" else", len(kids), func(i int) { p.block(p.nodes[kids[i]]) })
}
