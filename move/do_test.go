package move_test

import (
	"math"
	"testing"

	"ballcock/api"
	"ballcock/auto"
	"ballcock/move"
)

// step is a call of Do, and what auto's Step returns for it.
type step struct {
	s           uint32
	op, outcome string
	next        uint32
}

func fileSteps() []step {
	return []step{
		// No state has the outcome.
		{0, "read", "some", 0},
		{fEnd, "read", "some", 0},
		{fShut, "read", "some", 0},
		{fEnd | fShut, "read", "none", 0},
		{fShut, "close", "ok", 0},
		{fShut, "size", "ok", 0},
		{fEnd, "write", "ok", 0},
		// One state has it.
		{fOpen, "read", "some", fOpen},
		{fOpen, "read", "none", fEnd},
		{fOpen, "write", "ok", fOpen},
		{fOpen, "write", "over", fEnd},
		{fOpen, "size", "ok", fOpen},
		{fEnd, "size", "ok", fEnd},
		{fOpen, "close", "ok", fShut},
		{fEnd, "close", "ok", fShut},
		// Some of several states have it.
		{fOpen | fEnd, "read", "some", fOpen},
		{fOpen | fEnd, "read", "none", fEnd},
		{fOpen | fShut, "read", "none", fEnd},
		{fOpen | fEnd | fShut, "write", "over", fEnd},
		{fEnd | fShut, "size", "ok", fEnd},
		{fOpen | fEnd | fShut, "size", "ok", fOpen | fEnd},
		{fEnd | fShut, "close", "ok", fShut},
		{fOpen | fEnd | fShut, "close", "ok", fShut},
		// All of several states have it.
		{fOpen | fEnd, "size", "ok", fOpen | fEnd},
		{fOpen | fEnd, "close", "ok", fShut},
		// Bits beyond the states.
		{8, "read", "some", 0},
		{1 << 31, "size", "ok", 0},
		{all &^ 7, "close", "ok", 0},
		{8 | fOpen, "read", "none", fEnd},
		{1<<16 | fEnd, "size", "ok", fEnd},
		{all, "size", "ok", fOpen | fEnd},
		{all, "close", "ok", fShut},
		{all &^ fOpen, "read", "some", 0},
		// The operation has no such outcome, or there is no such operation.
		{fOpen, "read", "ok", 0},
		{fOpen, "size", "some", 0},
		{fOpen | fEnd, "close", "over", 0},
		{fOpen, "read", "", 0},
		{fOpen, "read", "Some", 0},
		{fOpen, "read", "none ", 0},
		{all, "read", "End", 0},
		{fOpen, "", "some", 0},
		{fOpen, "", "", 0},
		{fOpen, "open", "ok", 0},
		{all, "Read", "some", 0},
		{all, "connect", "ok", 0},
		{all, "some", "read", 0},
		{all, "\xff", "\x00", 0},
	}
}

func socketSteps() []step {
	return []step{
		{sFresh, "connect", "ok", sLive},
		{sFresh, "connect", "fail", sDead},
		{sLive, "connect", "ok", 0},
		{sLive, "send", "lost", sDead},
		{sLive, "recv", "none", sLive},
		{sFresh | sDead, "recv", "lost", 0},
		{sFresh | sLive, "recv", "lost", sDead},
		{sLive | sClosed, "peek", "some", sLive},
		{sFresh | sLive | sDead, "close", "ok", sClosed},
		{sLive | sDead, "close", "ok", sClosed},
		{sFresh | sLive | sDead | sClosed, "close", "ok", sClosed},
		{sClosed, "close", "ok", 0},
	}
}

func widestSteps() []step {
	return []step{
		{1, "go", "ok", 2},
		{1 << 14, "go", "ok", 1 << 15},
		{1 << 15, "go", "ok", 0},
		{1<<15 | 1<<14 | 1, "go", "ok", 1<<15 | 2},
		{0b0101_0101_0101_0101, "go", "ok", 0b1010_1010_1010_1010},
		{1<<16 - 1, "go", "ok", 1<<16 - 2},
		{1<<15 - 1, "jump", "near", 1 << 14},
		{all, "jump", "far", 1 << 15},
		{all, "stay", "ok", 1<<15 - 1},
		{1<<15 - 1, "stay", "ok", 1<<15 - 1},
		{all &^ (1<<15 - 1), "stay", "ok", 0},
		{5, "turn", "on", 10},
		{5, "turn", "back", 5},
	}
}

// eachStep hands all these steps to a function, with their automata.
func eachStep(t *testing.T, take func(a *auto.Auto, c step)) {
	t.Helper()
	for _, l := range []struct {
		a     *auto.Auto
		steps []step
	}{
		{predefined(t, "File"), fileSteps()},
		{predefined(t, "Socket"), socketSteps()},
		{widest(t), widestSteps()},
	} {
		for _, c := range l.steps {
			if next := l.a.Step(c.s, c.op, c.outcome); next != c.next {
				t.Fatalf("Step(%b, %q, %q) = %b; want %b", c.s, c.op, c.outcome, next, c.next)
			}
			take(l.a, c)
		}
	}
}

func does(t *testing.T, a *auto.Auto, p api.Perm, c step, want uint32) {
	t.Helper()
	if got := move.Do(a, p, c.s, c.op, c.outcome); got != want {
		t.Errorf("Do(%s, %b, %q, %q) = %b; want %b", text(p), c.s, c.op, c.outcome, got, want)
	}
}

// TestP17_1_DoStep: what is known through all but share and pure permissions is Step, whatever their sets are.
func TestP17_1_DoStep(t *testing.T) {
	eachStep(t, func(a *auto.Auto, c step) {
		for _, kind := range append(noKinds(), api.Unique, api.Full, api.Imm) {
			for _, in := range sets() {
				for _, p := range of(kind, in) {
					does(t, a, p, c, c.next)
				}
			}
		}
	})
}

// TestP17_1_DoIn: what is known through share and pure permissions is their set, but 0 where Step is 0.
func TestP17_1_DoIn(t *testing.T) {
	eachStep(t, func(a *auto.Auto, c step) {
		for _, kind := range []int{api.Share, api.Pure} {
			for _, in := range sets() {
				want := in
				if c.next == 0 {
					want = 0
				}
				for _, p := range of(kind, in) {
					does(t, a, p, c, want)
				}
			}
		}
	})
}

// TestP17_1_DoExamples has the calls of each kind written out, with sets that differ from Step.
func TestP17_1_DoExamples(t *testing.T) {
	file := predefined(t, "File")
	some, none, end := step{s: fOpen, op: "read", outcome: "some"}, step{s: fOpen, op: "read", outcome: "none"}, step{s: fEnd, op: "read", outcome: "none"}
	does(t, file, one(api.Unique, 0), some, fOpen)
	does(t, file, one(api.Unique, 0), none, fEnd)
	does(t, file, one(api.Unique, 0), end, 0)
	does(t, file, one(api.Full, fOpen|fEnd), none, fEnd)
	does(t, file, one(api.Full, fOpen|fEnd), end, 0)
	does(t, file, one(api.Share, fOpen|fEnd), none, fOpen|fEnd)
	does(t, file, one(api.Share, fOpen|fEnd), end, 0)
	does(t, file, one(api.Imm, 0), none, fEnd)
	does(t, file, one(api.Imm, fOpen|fEnd), none, fEnd)
	does(t, file, one(api.Imm, fOpen|fEnd), end, 0)
	does(t, file, one(api.Pure, fOpen|fEnd), some, fOpen|fEnd)
	does(t, file, one(api.Pure, fOpen), none, fOpen)
	does(t, file, one(api.Pure, fOpen|fEnd), end, 0)
	does(t, file, one(5, fOpen|fEnd), none, fEnd)
}

// TestP17_1_DoUnchecked: an operation that Check does not allow has its outcomes nevertheless.
func TestP17_1_DoUnchecked(t *testing.T) {
	file := predefined(t, "File")
	for _, kind := range anyKinds() {
		p, s := one(kind, fOpen), uint32(fOpen|fShut)
		if move.Check(file, p, s, "close") == 0 {
			t.Errorf("%s: the close of a file that may be shut is allowed", word(kind))
		}
		want := uint32(fShut)
		if kind == api.Share || kind == api.Pure {
			want = fOpen
		}
		does(t, file, p, step{s: s, op: "close", outcome: "ok"}, want)
	}
}

// TestP17_1_DoOddNames has names that are empty or no words.
func TestP17_1_DoOddNames(t *testing.T) {
	a := automaton(t, api.Proto{
		States: []api.State{{Name: ""}, {Name: "\xff"}, {Name: "Z", Final: true}},
		Moves: []api.Move{
			{Op: "", From: 0, Outs: []api.Out{{Name: "", To: 1}, {Name: "\x00", To: 2}}},
			{Op: "", From: 1, Outs: []api.Out{{Name: "", To: 2}}},
		},
	})
	for _, c := range []step{{1, "", "", 2}, {2, "", "", 4}, {3, "", "", 6}, {3, "", "\x00", 4}, {2, "", "\x00", 0}, {3, "", "\xff", 0}, {3, "\x00", "", 0}} {
		does(t, a, one(api.Unique, 0), c, c.next)
		does(t, a, one(api.Imm, 0), c, c.next)
		want := uint32(5)
		if c.next == 0 {
			want = 0
		}
		does(t, a, one(api.Share, 5), c, want)
	}
}

func TestP17_4_DoNil(t *testing.T) {
	for _, kind := range anyKinds() {
		for _, in := range sets() {
			for _, s := range sets() {
				for _, c := range []step{{s, "read", "some", 0}, {s, "close", "ok", 0}, {s, "", "", 0}} {
					does(t, nil, one(kind, in), c, 0)
				}
			}
		}
	}
	does(t, nil, api.Perm{}, step{s: math.MaxUint32}, 0)
}
