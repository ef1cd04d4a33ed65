package bound_test

import (
	"math/big"
	"math/rand"
	"slices"
	"testing"

	"ballcock/api"
	"ballcock/bound"
	"ballcock/gauss"
)

// The tests here hold the package against math/big, whose numbers never overflow.

// wide is a row: its condition, its coefficients of the variables 0 to 7, and its constant as number 8.
type wide struct {
	op int
	c  [9]*big.Rat
}

// widen is a row of valid fractions as a wide one.
func widen(x api.Row) wide {
	w := wide{op: x.Op}
	for i := range w.c {
		w.c[i] = new(big.Rat)
	}
	for i, c := range x.T.C {
		w.c[i].SetFrac64(c.N, c.D)
	}
	w.c[8].SetFrac64(x.T.K.N, x.T.K.D)
	return w
}

func widenAll(l []api.Row) []wide {
	var rows []wide
	for _, x := range l {
		rows = append(rows, widen(x))
	}
	return rows
}

func widenRats(l []api.Rat) []*big.Rat {
	var all []*big.Rat
	for _, x := range l {
		all = append(all, big.NewRat(x.N, x.D))
	}
	return all
}

// fits tells whether a number is one of api's fractions.
func fits(x *big.Rat) bool {
	return x.Num().IsInt64() && x.Denom().IsInt64() && x.Num().Int64() != least
}

// narrow is a number that fits as a fraction.
func narrow(x *big.Rat) api.Rat { return r(x.Num().Int64(), x.Denom().Int64()) }

// computer computes numbers, and remembers whether one of them did not fit.
type computer struct{ over bool }

func (m *computer) seen(x *big.Rat) *big.Rat {
	m.over = m.over || !fits(x)
	return x
}

func (m *computer) add(a, b *big.Rat) *big.Rat { return m.seen(new(big.Rat).Add(a, b)) }

func (m *computer) mul(a, b *big.Rat) *big.Rat { return m.seen(new(big.Rat).Mul(a, b)) }

// scaled is a row with all its numbers multiplied.
func (m *computer) scaled(w wide, by *big.Rat) wide {
	for i := range w.c {
		w.c[i] = m.mul(w.c[i], by)
	}
	return w
}

// sum is the sum of two rows, with the condition of the stricter one.
func (m *computer) sum(a, b wide) wide {
	for i := range a.c {
		a.c[i] = m.add(a.c[i], b.c[i])
	}
	a.op = max(a.op, b.op)
	return a
}

// value is what a row comes to at values.
func (m *computer) value(w wide, at []*big.Rat) *big.Rat {
	sum := w.c[8]
	for i, x := range at {
		sum = m.add(sum, m.mul(w.c[i], x))
	}
	return sum
}

// eliminated are the rows without a variable, and those that bound it from below and from above.
func (m *computer) eliminated(rows []wide, v int) (next, lower, upper []wide) {
	for _, w := range rows {
		sign := w.c[v].Sign()
		if sign == 0 {
			next = append(next, w)
			continue
		}
		size := new(big.Rat).Abs(w.c[v])
		w = m.scaled(w, size.Inv(size))
		if sign > 0 {
			lower = append(lower, w)
		} else {
			upper = append(upper, w)
		}
	}
	for _, a := range lower {
		for _, b := range upper {
			next = append(next, m.sum(a, b))
		}
	}
	return next, lower, upper
}

// chosen is the value of a variable between the bounds of rows.
func (m *computer) chosen(lower, upper []wide, at []*big.Rat) *big.Rat {
	var bottom, top *big.Rat
	for _, w := range lower {
		if x := m.value(w, at); bottom == nil || bottom.Cmp(new(big.Rat).Neg(x)) < 0 {
			bottom = new(big.Rat).Neg(x)
		}
	}
	for _, w := range upper {
		if x := m.value(w, at); top == nil || top.Cmp(x) > 0 {
			top = x
		}
	}
	switch {
	case bottom == nil && top == nil:
		return new(big.Rat)
	case top == nil:
		return m.add(bottom, big.NewRat(1, 1))
	case bottom == nil:
		return m.add(top, big.NewRat(-1, 1))
	}
	return m.mul(m.add(bottom, top), big.NewRat(1, 2))
}

// satisfied tells whether a number satisfies a condition.
func satisfied(op int, x *big.Rat) bool {
	switch op {
	case api.RowEq:
		return x.Sign() == 0
	case api.RowGe:
		return x.Sign() >= 0
	}
	return x.Sign() > 0
}

// expected is what Solve has to return for valid rows, by the steps of the document.
func expected(l []api.Row) ([]api.Rat, int) {
	var equations []api.Term
	var rows []wide
	for _, x := range l {
		if x.Op == api.RowEq {
			equations = append(equations, x.T)
		} else {
			rows = append(rows, widen(x))
		}
	}
	selected, pivots, answer := gauss.Solve(equations)
	if answer != api.Sat {
		return nil, answer
	}
	m := &computer{}
	for n := range rows {
		for i, s := range selected {
			by := new(big.Rat).Neg(rows[n].c[pivots[i]])
			rows[n] = m.sum(rows[n], m.scaled(widen(row(rows[n].op, s)), by))
		}
	}
	var lower, upper [8][]wide
	for v := range 8 {
		if rows, lower[v], upper[v] = m.eliminated(rows, v); m.over || len(rows) > 400 {
			return nil, api.Over
		}
	}
	for _, w := range rows {
		if !satisfied(w.op, w.c[8]) {
			return nil, api.Unsat
		}
	}
	at := widenRats(full(nil))
	for v := 7; v >= 0; v-- {
		if !slices.Contains(pivots, v) {
			at[v] = m.chosen(lower[v], upper[v], at)
		}
	}
	for i, s := range selected {
		at[pivots[i]] = new(big.Rat).Neg(m.value(widen(row(api.RowEq, s)), at))
	}
	if m.over {
		return nil, api.Over
	}
	var witness []api.Rat
	for _, x := range at {
		witness = append(witness, narrow(x))
	}
	return witness, api.Sat
}

// some is a valid fraction: most often a small whole number, and large only as often as told.
func some(dice *rand.Rand, large int) api.Rat {
	x := big.NewRat(dice.Int63n(7)-3, dice.Int63n(2)+1)
	if dice.Intn(100) < large {
		x.SetFrac64(1<<uint(dice.Intn(63))-dice.Int63n(2), 1<<uint(dice.Intn(63)))
		if dice.Intn(2) == 0 {
			x.Neg(x)
		}
		if dice.Intn(2) == 0 && x.Sign() != 0 {
			x.Inv(x)
		}
	}
	if dice.Intn(3) == 0 {
		x.SetInt64(0)
	}
	return narrow(x)
}

// someRow is a valid row, an equation only as often as told.
func someRow(dice *rand.Rand, variables, large, equation int) api.Row {
	x := row(api.RowGe+dice.Intn(2), of(some(dice, large)))
	if dice.Intn(100) < equation {
		x.Op = api.RowEq
	}
	for range variables {
		x.T.C = append(x.T.C, some(dice, large))
	}
	return x
}

func someSystem(dice *rand.Rand, rows, variables, large, equation int) []api.Row {
	var l []api.Row
	for range rows {
		l = append(l, someRow(dice, variables, large, equation))
	}
	return l
}

// TestP4_1_AgainstBig: the result is what the steps of the document lead to.
func TestP4_1_AgainstBig(t *testing.T) {
	for _, c := range []struct {
		rounds, rows, variables, large, equation int
		least                                    [3]int
	}{
		{6000, 7, 8, 0, 15, [3]int{2500, 300, 0}},
		{6000, 9, 3, 0, 10, [3]int{1000, 2000, 0}},
		{6000, 6, 3, 8, 25, [3]int{1500, 500, 80}},
		{6000, 5, 5, 20, 20, [3]int{2000, 1000, 500}},
		{600, 40, 2, 0, 1, [3]int{0, 50, 50}},
		{200, 60, 3, 0, 0, [3]int{0, 0, 50}},
	} {
		dice := rand.New(rand.NewSource(4))
		var count [3]int
		for range c.rounds {
			l := someSystem(dice, dice.Intn(c.rows+1), dice.Intn(c.variables+1), c.large, c.equation)
			at, answer := expected(l)
			check(t, l, at, answer)
			if t.Failed() {
				return
			}
			count[answer]++
		}
		// All answers have to be common, or the comparison says little.
		for answer, n := range c.least {
			if count[answer] < n {
				t.Errorf("%v: the answers came %v times", c, count)
				break
			}
		}
	}
}

// solvableBig tells whether a system has a solution. It does not follow the
// document's steps: an equation is two rows, the variables go from the last
// one, and nothing is too large or too much.
func solvableBig(l []api.Row) bool {
	m := &computer{}
	var rows []wide
	for _, w := range widenAll(l) {
		if w.op == api.RowEq {
			w.op = api.RowGe
			rows = append(rows, m.scaled(w, big.NewRat(-1, 1)))
		}
		rows = append(rows, w)
	}
	for v := 7; v >= 0; v-- {
		rows, _, _ = m.eliminated(rows, v)
	}
	return !slices.ContainsFunc(rows, func(w wide) bool { return !satisfied(w.op, w.c[8]) })
}

// holdsBig tells whether all rows are satisfied at values, and whether a product or a sum did not fit.
func holdsBig(l []api.Row, at []api.Rat) (all, over bool) {
	m := &computer{}
	all = true
	for _, w := range widenAll(l) {
		all = satisfied(w.op, m.value(w, widenRats(at))) && all
	}
	return all, m.over
}

// TestP4_2_Solvable: a system is Sat if and only if it has solutions, and then its witness is one.
func TestP4_2_Solvable(t *testing.T) {
	dice := rand.New(rand.NewSource(5))
	var count [3]int
	for range 10000 {
		l := someSystem(dice, dice.Intn(7), dice.Intn(4), 1, 15)
		at, answer := bound.Solve(l)
		count[answer]++
		if answer == api.Over {
			continue
		}
		if want := solvableBig(l); (answer == api.Sat) != want {
			t.Fatalf("Solve(%s) is %d, and solvable: %v", text(l), answer, want)
		}
		if answer == api.Sat {
			all, over := holdsBig(l, at)
			if !all {
				t.Fatalf("Solve(%s) = %s, which is no solution", text(l), values(at))
			}
			holds(t, l, at, !over)
		}
	}
	if count[api.Sat] < 3000 || count[api.Unsat] < 1000 {
		t.Errorf("the answers came %v times", count)
	}
}

// TestP4_2_Unsolvable: the rows of a system that is Unsat hold nowhere.
func TestP4_2_Unsolvable(t *testing.T) {
	dice := rand.New(rand.NewSource(6))
	for range 60 {
		l := someSystem(dice, 6, 3, 0, 10)
		_, answer := bound.Solve(l)
		grid(func(at []api.Rat) {
			if answer == api.Unsat {
				holds(t, l, at, false)
			}
		})
	}
}

// TestP4_2_AgainstBig: at any values, rows hold if they are satisfied and nothing overflows.
func TestP4_2_AgainstBig(t *testing.T) {
	for _, large := range []int{0, 20} {
		dice := rand.New(rand.NewSource(7))
		count := map[bool]int{}
		for range 10000 {
			l := someSystem(dice, dice.Intn(3), dice.Intn(9), large, 20)
			at := someRow(dice, dice.Intn(9), large, 0).T.C
			all, over := holdsBig(l, at)
			holds(t, l, at, all && !over)
			count[all && !over]++
		}
		if count[true] < 2000 || count[false] < 2000 {
			t.Errorf("the answers came %v times", count)
		}
	}
}

// negated is a row with -1 times the term.
func negated(op int, x api.Row) api.Row {
	n := row(op, of(r(-x.T.K.N, x.T.K.D)))
	for _, c := range x.T.C {
		n.T.C = append(n.T.C, r(-c.N, c.D))
	}
	return n
}

// entailed is what Entails has to return for valid rows.
func entailed(l []api.Row, x api.Row) int {
	switch x.Op {
	case api.RowGe, api.RowGt:
		_, answer := expected(append(slices.Clone(l), negated(api.RowGe+api.RowGt-x.Op, x)))
		return [3]int{api.Sat: api.Unsat, api.Unsat: api.Sat, api.Over: api.Over}[answer]
	}
	if first := entailed(l, row(api.RowGe, x.T)); first != api.Sat {
		return first
	}
	return entailed(l, negated(api.RowGe, x))
}

// entailedBig tells whether a row holds wherever a system does.
func entailedBig(l []api.Row, x api.Row) bool {
	with := func(y api.Row) bool { return solvableBig(append(slices.Clone(l), y)) }
	switch x.Op {
	case api.RowGe:
		return !with(negated(api.RowGt, x))
	case api.RowGt:
		return !with(negated(api.RowGe, x))
	}
	return !with(negated(api.RowGt, x)) && !with(row(api.RowGt, x.T))
}

// someConsequence is a row that may follow from a system: a sum of two of its rows, or one of them, more or less as it was.
func someConsequence(dice *rand.Rand, l []api.Row) api.Row {
	m := &computer{}
	sum := m.sum(widen(l[dice.Intn(len(l))]), widen(l[dice.Intn(len(l))]))
	sum.c[8] = m.add(sum.c[8], big.NewRat(max(0, dice.Int63n(5)-2), 1))
	if m.over {
		return ge(0)
	}
	x := row(dice.Intn(3), of(narrow(sum.c[8])))
	for _, c := range sum.c[:8] {
		x.T.C = append(x.T.C, narrow(c))
	}
	return x
}

// TestP4_3_AgainstBig: the result is what the rules of the document lead to, and what it means.
func TestP4_3_AgainstBig(t *testing.T) {
	dice := rand.New(rand.NewSource(8))
	var count [3][3]int
	for range 10000 {
		variables := dice.Intn(4)
		l := someSystem(dice, dice.Intn(5)+1, variables, 8, 30)
		x := someRow(dice, variables, 8, 30)
		if dice.Intn(3) > 0 {
			x = someConsequence(dice, l)
		}
		want := entailed(l, x)
		entails(t, l, x, want)
		if want != api.Over && (want == api.Sat) != entailedBig(l, x) {
			t.Errorf("Entails(%s, %s) is %d", text(l), text([]api.Row{x}), want)
		}
		if t.Failed() {
			return
		}
		count[x.Op][want]++
	}
	for op := range 3 {
		if slices.Min(count[op][:]) < 50 {
			t.Errorf("the answers by condition came %v times", count)
		}
	}
}
