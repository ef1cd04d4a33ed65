package perm_test

import (
	"testing"

	"ballcock/api"
	"ballcock/perm"
)

// permissions are some of each kind, right ones and others.
func permissions() []api.Perm {
	var l []api.Perm
	for _, kind := range append(noKinds(), kinds...) {
		for _, f := range []api.Rat{r(1, 1), r(1, 2), r(1, most), {}} {
			for _, root := range []int{-1, 0, 3} {
				l = append(l, of(kind, f, root, 0), of(kind, f, root, 6))
			}
		}
	}
	return l
}

// answers is what is told of a permission by all calls.
type answers struct {
	own, param, rest, part, left, lent api.Perm
	some                               bool
	splitErr, lendErr                  api.Errno
	enough                             int
	text                               string
}

// asked asks everything of a permission, and of a contract of a kind.
func asked(p api.Perm, kind int) answers {
	c, by, low, root := asks(kind, 6), r(1, 3), r(1, 8), r(1, 4)
	var a answers
	a.own, a.param = perm.Own(), perm.Param(c, p.Root)
	a.rest, a.part, a.splitErr = perm.Split(p, kind, by, c.In)
	a.left, a.some, a.lent, a.lendErr = perm.Lend(p, c)
	a.enough, a.text = perm.Enough(p, low, root), perm.Show(p)
	return a
}

// ruined changes all that was told.
func ruined(a *answers) {
	for _, p := range []*api.Perm{&a.own, &a.param, &a.rest, &a.part, &a.left, &a.lent} {
		p.Kind, p.F.N, p.F.D, p.Root, p.In = 77, 78, 79, 80, 81
	}
	a.text = "ruined"
}

// TestP15_3_Memory changes results, and asks again in another order.
func TestP15_3_Memory(t *testing.T) {
	for _, kind := range append(noKinds(), kinds...) {
		var first []answers
		for _, p := range permissions() {
			a := asked(p, kind)
			first = append(first, a)
			ruined(&a)
		}
		for i := len(first) - 1; i >= 0; i-- {
			if a := asked(permissions()[i], kind); a != first[i] {
				t.Errorf("%s, %s: %v, then %v", text(permissions()[i]), word(kind), first[i], a)
			}
		}
	}
}

// TestP15_3_Arguments hands in variables, whose values stay as they were.
func TestP15_3_Arguments(t *testing.T) {
	for _, p := range permissions() {
		for _, kind := range kinds {
			c, by := asks(kind, 6), r(1, 3)
			q, d := p, c
			rest, part, err := perm.Split(q, kind, by, c.In)
			left, some, lent, lendErr := perm.Lend(q, d)
			perm.Enough(q, by, by)
			perm.Param(d, 1)
			perm.Show(q)
			if q != p || d != c || by != r(1, 3) {
				t.Errorf("%s became %s, %v became %v", text(p), text(q), c, d)
			}
			// What becomes of the arguments later does not change the results.
			q, d, by = of(9, r(9, 9), 9, 9), api.Contract{}, r(9, 9)
			if rest2, part2, err2 := perm.Split(p, kind, r(1, 3), c.In); rest2 != rest || part2 != part || err2 != err {
				t.Errorf("Split of %s: %s, %s", text(p), text(rest2), text(part2))
			}
			if left2, some2, lent2, err2 := perm.Lend(p, c); left2 != left || some2 != some || lent2 != lent || err2 != lendErr {
				t.Errorf("Lend of %s: %s, %s", text(p), text(left2), text(lent2))
			}
		}
	}
}

// TestP15_1_TwoOwns: what is done to one answer is not seen in another one.
func TestP15_1_TwoOwns(t *testing.T) {
	a, b := perm.Own(), perm.Own()
	a.Kind, a.F, a.Root, a.In = api.Pure, r(1, 9), 4, 7
	if want := of(api.Unique, r(1, 1), -1, 0); b != want || perm.Own() != want || perm.Param(api.Contract{Handle: true}, 4) != want {
		t.Errorf("after a change of one: %s, %s", text(b), text(perm.Own()))
	}
}
