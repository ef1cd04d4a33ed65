package tree

import (
	"slices"

	"ballcock/api"
	"ballcock/lex"
)

// tooMuch is above all numbers of nodes.
const tooMuch = 1_000_000_000_000_000_000

// valid tells whether a node of a tree is one of the chapter's table.
func valid(l []api.Node, n api.Node) bool {
	return names(n.Words) && numbers(n.Nums) && listed(l, n)
}

// listed tells whether the counts of a node's words and numbers, the numbers that have a meaning,
// and the kinds of its children are those of the chapter's table.
func listed(l []api.Node, n api.Node) bool {
	words, block := len(n.Words), is(api.NodeBlock)
	switch n.Kind {
	case api.NodeProgram:
		return has(n, 0, 0) && all(l, n.Kids, is(api.NodeProto, api.NodeFn))
	case api.NodeProto:
		return has(n, 1, 0) && all(l, n.Kids, is(api.NodeState, api.NodeOp))
	case api.NodeState:
		return has(n, 1, 1) && n.Nums[0] <= 1 && are(l, n.Kids)
	case api.NodeOp:
		return words >= 4 && words%2 == 0 && has(n, words, 0) && are(l, n.Kids)
	case api.NodeFn:
		params := max(len(n.Kids)-1, 0)
		return has(n, 1, 0) && all(l, n.Kids[:params], is(api.NodeParam)) && are(l, n.Kids[params:], block)
	case api.NodeParam:
		return has(n, 1, 0) && are(l, n.Kids) || has(n, 2, 3) && contract(l, n)
	case api.NodeNames:
		return words >= 1 && has(n, words, 1) && n.Nums[0] <= api.NamesIn && are(l, n.Kids)
	case api.NodeBlock:
		return has(n, 0, 0) && all(l, n.Kids, statement)
	case api.NodeLet, api.NodeSet:
		return has(n, 1, 0) && are(l, n.Kids, expression)
	case api.NodeOpen:
		return has(n, 2, 0) && are(l, n.Kids, block, block)
	case api.NodeDo:
		return has(n, 2, 0) && all(l, n.Kids, is(api.NodeCase))
	case api.NodeCase:
		return has(n, 1, 0) && are(l, n.Kids, block)
	case api.NodeSplit:
		return has(n, 2, 3) && part(l, n)
	case api.NodeCall:
		return (has(n, 1, 0) || has(n, 2, 0)) && all(l, n.Kids, argument)
	case api.NodeHandle, api.NodeVar:
		return has(n, 1, 0) && are(l, n.Kids)
	case api.NodeIf:
		return has(n, 0, 0) && (are(l, n.Kids, expression, block) || are(l, n.Kids, expression, block, block))
	case api.NodeWhile:
		return has(n, 0, 0) && are(l, n.Kids, expression, block)
	case api.NodeReturn, api.NodeNeg:
		return has(n, 0, 0) && are(l, n.Kids, expression)
	case api.NodeExit:
		return has(n, 0, 0) && are(l, n.Kids)
	case api.NodeNum:
		return has(n, 0, 1) && are(l, n.Kids)
	case api.NodeBin:
		return has(n, 0, 1) && n.Nums[0] <= api.BinDiv && are(l, n.Kids, expression, expression)
	}
	return false
}

// contract tells whether the three numbers and the children of a parameter with a protocol are right.
func contract(l []api.Node, n api.Node) bool {
	kind, without := n.Nums[0], n.Nums[1] == 0 && n.Nums[2] == 0
	return kind <= api.Pure && (without || fraction(n)) && all(l, n.Kids, is(api.NodeNames)) && increasing(l, n.Kids)
}

// part tells whether the three numbers and the children of a split are right.
func part(l []api.Node, n api.Node) bool {
	kind, block := n.Nums[0], is(api.NodeBlock)
	if kind == api.Unique || kind > api.Pure || !fraction(n) {
		return false
	}
	return are(l, n.Kids, block) || are(l, n.Kids, is(api.NodeNames), block) && which(l, n.Kids[0]) == api.NamesIn
}

// fraction tells whether the second and the third number of a node make one.
func fraction(n api.Node) bool {
	return n.Nums[1] >= 1 && n.Nums[2] >= 1
}

// increasing tells whether Names tell more from each to the next.
func increasing(l []api.Node, kids []int) bool {
	for i := 1; i < len(kids); i++ {
		if which(l, kids[i-1]) >= which(l, kids[i]) {
			return false
		}
	}
	return true
}

// which is the number of Names, -1 if they lack it: they are not valid then, and are told so in their turn.
func which(l []api.Node, at int) int64 {
	if len(l[at].Nums) == 0 {
		return -1
	}
	return l[at].Nums[0]
}

// has tells how many words and numbers a node has.
func has(n api.Node, words, nums int) bool {
	return len(n.Words) == words && len(n.Nums) == nums
}

// is makes a function that tells whether a kind of nodes is one of these.
func is(kinds ...int) func(kind int) bool {
	return func(kind int) bool { return slices.Contains(kinds, kind) }
}

// are tells whether each function holds for the kind of the child in its place, and no child is left.
func are(l []api.Node, kids []int, holds ...func(kind int) bool) bool {
	if len(kids) != len(holds) {
		return false
	}
	for i, kid := range kids {
		if !holds[i](l[kid].Kind) {
			return false
		}
	}
	return true
}

// all tells whether a function holds for the kinds of all children of a node.
func all(l []api.Node, kids []int, holds func(kind int) bool) bool {
	return !slices.ContainsFunc(kids, func(kid int) bool { return !holds(l[kid].Kind) })
}

func statement(kind int) bool {
	switch kind {
	case api.NodeLet, api.NodeSet, api.NodeOpen, api.NodeDo, api.NodeSplit, api.NodeCall,
		api.NodeIf, api.NodeWhile, api.NodeReturn, api.NodeExit:
		return true
	}
	return false
}

func expression(kind int) bool {
	switch kind {
	case api.NodeNum, api.NodeVar, api.NodeBin, api.NodeNeg:
		return true
	}
	return false
}

func argument(kind int) bool {
	return kind == api.NodeHandle || expression(kind)
}

// names tells whether all words of a node are names.
func names(words []string) bool {
	for _, word := range words {
		if !lex.Name(word) {
			return false
		}
	}
	return true
}

// numbers tells whether all numbers of a node are in their bounds.
func numbers(nums []int64) bool {
	for _, num := range nums {
		if num < 0 || num >= tooMuch {
			return false
		}
	}
	return true
}
