package move_test

import (
	"fmt"
	"math"
	"strconv"
	"strings"
	"testing"

	"ballcock/api"
	"ballcock/auto"
	"ballcock/std"
)

// The sets of the states of File and of Socket.
const (
	fOpen, fEnd, fShut            = 1, 2, 4
	sFresh, sLive, sDead, sClosed = 1, 2, 4, 8
	all                           = math.MaxUint32
)

var kinds = []int{api.Unique, api.Full, api.Share, api.Imm, api.Pure}

// noKinds are kinds that are none of the five.
func noKinds() []int {
	return []int{api.None, -2, -3, 5, 6, 7, 8, 16, 32, 255, 256, 258, 260, 1 << 32, 1<<32 + 2, 1<<32 + 4, math.MaxInt, math.MinInt, math.MinInt + 2}
}

func anyKinds() []int { return append(noKinds(), kinds...) }

// word is the word of a kind, or its number.
func word(kind int) string {
	if kind < 0 || kind > 4 {
		return fmt.Sprint("kind ", kind)
	}
	return []string{"unique", "full", "share", "imm", "pure"}[kind]
}

// sets are some sets of states, with bits beyond all states among them.
func sets() []uint32 {
	return []uint32{0, 1, 2, 3, 4, 5, 6, 7, 8, 9, 12, 15, 1 << 15, 1<<16 - 1, 1 << 16, 1<<16 + 1, 1 << 31, 1<<31 + 2, all - 1, all}
}

// of are permissions of a kind with a set: equal ones, but for fractions and Roots, which this layer does not ask for.
func of(kind int, in uint32) []api.Perm {
	return []api.Perm{
		{Kind: kind, F: api.Rat{N: 1, D: 1}, Root: -1, In: in},
		{Kind: kind, F: api.Rat{N: 1, D: 3}, Root: 2, In: in},
		{Kind: kind, F: api.Rat{N: math.MinInt64}, Root: math.MaxInt, In: in},
	}
}

// one is the permission of a kind for the whole handle, with a set.
func one(kind int, in uint32) api.Perm { return of(kind, in)[0] }

func text(p api.Perm) string { return fmt.Sprintf("%s in %b", word(p.Kind), p.In) }

// predefined is the automaton of a predefined protocol.
func predefined(t *testing.T, name string) *auto.Auto {
	t.Helper()
	a, ok := std.Auto(name)
	if !ok {
		t.Fatalf("there is no %s", name)
	}
	return a
}

// made is the automaton of a protocol with these states, where ! marks a final one, and moves: "op from outcome to outcome to".
func made(t *testing.T, states string, moves ...string) *auto.Auto {
	t.Helper()
	p := api.Proto{Name: "P"}
	for _, name := range strings.Fields(states) {
		name, final := strings.CutSuffix(name, "!")
		p.States = append(p.States, api.State{Name: name, Final: final})
	}
	for _, line := range moves {
		words := strings.Fields(line)
		m := api.Move{Op: words[0], From: number(words[1])}
		for i := 2; i < len(words); i += 2 {
			m.Outs = append(m.Outs, api.Out{Name: words[i], To: number(words[i+1])})
		}
		p.Moves = append(p.Moves, m)
	}
	return automaton(t, p)
}

func automaton(t *testing.T, p api.Proto) *auto.Auto {
	t.Helper()
	a, err := auto.New(p)
	if err != api.OK {
		t.Fatalf("New(%v): %v", p, err)
	}
	return a
}

func number(s string) int {
	n, err := strconv.Atoi(s)
	if err != nil {
		panic(err)
	}
	return n
}

// widest has as many states as a protocol can have. go leads from each one to the next, jump from each to the last two,
// stay back to each but the last, which is final, and turn to the next or back.
func widest(t *testing.T) *auto.Auto {
	t.Helper()
	p := api.Proto{Name: "Widest"}
	for i := range 16 {
		p.States = append(p.States, api.State{Name: "S" + strconv.Itoa(i), Final: i == 15})
	}
	for i := range 15 {
		p.Moves = append(p.Moves,
			api.Move{Op: "go", From: i, Outs: []api.Out{{Name: "ok", To: i + 1}}},
			api.Move{Op: "jump", From: i, Outs: []api.Out{{Name: "near", To: 14}, {Name: "far", To: 15}}},
			api.Move{Op: "stay", From: i, Outs: []api.Out{{Name: "ok", To: i}}},
			api.Move{Op: "turn", From: i, Outs: []api.Out{{Name: "on", To: i + 1}, {Name: "back", To: i}}})
	}
	return automaton(t, p)
}
