package parse

import "ballcock/api"

// mostAround is how many parentheses, minus signs and blocks may stand around another one.
const mostAround = 200

var kinds = [...]string{api.Unique: "unique", api.Full: "full", api.Share: "share", api.Imm: "imm", api.Pure: "pure"}

// namesWords has the words ahead of the names of a Names.
var namesWords = [...]string{api.NamesAt: "at", api.NamesTo: "to", api.NamesIn: "in"}

// parser has a method for each rule of the grammar, and for parts that several rules have.
type parser struct {
	reader
	around int // the parentheses, minus signs and blocks around the next token
}

// nested reads what stands inside of a parenthesis, a minus sign or a block that was just taken.
func (p *parser) nested(inner func()) {
	if p.around == mostAround {
		p.fail(api.ErrDeep)
	}
	p.around++
	inner()
	p.around--
}

// until reads something again and again, as often as it comes ahead of a sign, and takes the sign.
func (p *parser) until(sign string, each func()) {
	for !p.takes(sign) {
		each()
	}
}

// separated reads something once, and once more behind each sign.
func (p *parser) separated(sign string, each func()) {
	each()
	for p.takes(sign) {
		each()
	}
}

// enclosed reads something any number of times in parentheses, with commas between.
func (p *parser) enclosed(each func()) {
	p.need("(")
	if p.takes(")") {
		return
	}
	p.separated(",", each)
	p.need(")")
}

func (p *parser) program() *branch {
	b := p.begin(api.NodeProgram)
	for p.next().Kind != api.TokEnd {
		if item := p.begin(api.NodeProto); p.takes("proto") {
			p.proto(item)
			b.add(item)
		} else {
			b.add(p.fn())
		}
	}
	return b
}

// proto reads a protocol behind its first word.
func (p *parser) proto(b *branch) {
	b.Words = []string{p.name()}
	p.need("{")
	p.until("}", func() { b.add(p.protoPart()) })
}

// protoPart reads a state or an operation.
func (p *parser) protoPart() *branch {
	b := p.begin(api.NodeState)
	switch {
	case p.takes("state"):
		b.Nums = []int64{0}
		b.Words = []string{p.name()}
	case p.takes("final"):
		b.Nums = []int64{1}
		b.Words = []string{p.name()}
	default:
		p.need("op")
		b.Kind = api.NodeOp
		b.Words = []string{p.name(), p.name()}
		p.need("->")
		p.separated(",", func() { b.Words = append(b.Words, p.name(), p.name()) })
	}
	p.need(";")
	return b
}

func (p *parser) fn() *branch {
	b := p.begin(api.NodeFn)
	p.need("fn")
	b.Words = []string{p.name()}
	p.enclosed(func() { b.add(p.param()) })
	b.add(p.block())
	return b
}

func (p *parser) param() *branch {
	b := p.begin(api.NodeParam)
	b.Words = []string{p.name()}
	if !p.takes(":") {
		return b
	}
	b.Words = append(b.Words, p.name())
	b.Nums = []int64{p.kind(api.Unique), 0, 0}
	if p.takes("least") {
		b.Nums[1], b.Nums[2] = p.fraction()
	}
	for which := range namesWords {
		p.names(b, which)
	}
	return b
}

// kind reads the kind of a permission that is not ahead of the least one.
func (p *parser) kind(least int) int64 {
	kind := least
	for !p.takes(kinds[kind]) {
		kind++
		if kind == len(kinds) {
			p.fail(api.ErrParse)
		}
	}
	return int64(kind)
}

func (p *parser) fraction() (n, d int64) {
	n = p.number(1)
	p.need("/")
	return n, p.number(1)
}

// names reads the names behind a word, if this word is next, as a child of a branch.
func (p *parser) names(of *branch, which int) {
	b := p.begin(api.NodeNames)
	if !p.takes(namesWords[which]) {
		return
	}
	b.Nums = []int64{int64(which)}
	p.separated("|", func() { b.Words = append(b.Words, p.name()) })
	of.add(b)
}

func (p *parser) block() *branch {
	b := p.begin(api.NodeBlock)
	p.need("{")
	p.nested(func() {
		p.until("}", func() { b.add(p.statement()) })
	})
	return b
}
