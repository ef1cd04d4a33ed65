package move_test

import (
	"slices"
	"strconv"
	"testing"

	"ballcock/api"
	"ballcock/auto"
	"ballcock/move"
)

// checks compares what Check returns for permissions of a kind with a set.
func checks(t *testing.T, a *auto.Auto, kind int, in, s uint32, op string, want int) {
	t.Helper()
	for _, p := range of(kind, in) {
		if got := move.Check(a, p, s, op); got != want {
			t.Errorf("Check(%s, %b, %q) = %d; want %d", text(p), s, op, got, want)
		}
	}
}

// enabled has the sets of states in which the operations of File are enabled.
func enabled() map[string]uint32 {
	return map[string]uint32{"read": fOpen, "write": fOpen, "size": fOpen | fEnd, "close": fOpen | fEnd, "": 0, "open": 0, "Read": 0, "some": 0, "connect": 0}
}

// TestP17_2_CheckUnique: a unique permission allows all that is enabled, whatever its set is.
func TestP17_2_CheckUnique(t *testing.T) {
	file := predefined(t, "File")
	for op, states := range enabled() {
		for _, in := range sets() {
			for _, s := range sets() {
				want := 0
				if s&^states != 0 {
					want = api.DiagState
				}
				checks(t, file, api.Unique, in, s, op, want)
			}
		}
	}
}

// TestP17_2_CheckState: of each kind one state without the operation is enough, and it comes ahead of the permission.
func TestP17_2_CheckState(t *testing.T) {
	file := predefined(t, "File")
	for op, states := range enabled() {
		for _, kind := range anyKinds() {
			for _, s := range sets() {
				if s&^states == 0 {
					continue
				}
				for _, in := range []uint32{0, fOpen, fOpen | fEnd, all} {
					checks(t, file, kind, in, s, op, api.DiagState)
				}
			}
		}
	}
}

// TestP17_2_CheckStateAhead has calls that lack the state and the permission, and beside each one that lacks the permission only.
func TestP17_2_CheckStateAhead(t *testing.T) {
	file, socket := predefined(t, "File"), predefined(t, "Socket")
	for _, c := range []struct {
		a        *auto.Auto
		kind     int
		in       uint32
		op       string
		perm     uint32 // what is known where only the permission is told
		state    uint32 // one state more, which is told
		otherBit uint32 // or a bit beyond the states
	}{
		{file, api.Full, fOpen, "read", fOpen, fEnd, 8},
		{file, api.Full, fOpen | fEnd, "close", fOpen | fEnd, fShut, 1 << 16},
		{file, api.Share, fOpen, "write", fOpen, fShut, 1 << 31},
		{socket, api.Share, sLive, "send", sLive, sFresh, 16},
		{file, api.Imm, 0, "read", fOpen, fEnd, 8},
		{socket, api.Imm, 0, "close", sFresh | sDead, sClosed, 1 << 20},
		{file, api.Pure, fOpen | fEnd, "close", fEnd, fShut, 1 << 15},
		{socket, api.Pure, sLive, "recv", sLive, sDead, 1 << 4},
		{file, 5, fOpen | fEnd, "size", fOpen | fEnd, fShut, 8},
		{file, api.None, all, "size", fOpen, fShut, 1 << 30},
	} {
		checks(t, c.a, c.kind, c.in, c.perm, c.op, api.DiagPerm)
		checks(t, c.a, c.kind, c.in, c.perm|c.state, c.op, api.DiagState)
		checks(t, c.a, c.kind, c.in, c.perm|c.otherBit, c.op, api.DiagState)
		checks(t, c.a, c.kind, c.in, c.state, c.op, api.DiagState)
		checks(t, c.a, c.kind, c.in, c.otherBit, c.op, api.DiagState)
	}
}

// TestP17_2_CheckBeyond: a bit beyond the states is a state without operations, even if the set of the permission has it.
func TestP17_2_CheckBeyond(t *testing.T) {
	file, widest := predefined(t, "File"), widest(t)
	for _, kind := range anyKinds() {
		for bit := 3; bit < 32; bit++ {
			checks(t, file, kind, all, 1<<bit, "size", api.DiagState)
			checks(t, file, kind, all, fOpen|1<<bit, "size", api.DiagState)
		}
		for bit := 15; bit < 32; bit++ {
			checks(t, widest, kind, all, 1<<bit, "stay", api.DiagState)
			checks(t, widest, kind, all, 1<<14|1<<bit, "stay", api.DiagState)
		}
	}
	for _, kind := range kinds {
		checks(t, widest, kind, all, 1<<15-1, "stay", 0)
		checks(t, widest, kind, all, 1<<14, "stay", 0)
	}
}

// TestP17_2_CheckIn: full and share permissions allow what leads to no state that is not in their set.
func TestP17_2_CheckIn(t *testing.T) {
	file, socket, widest := predefined(t, "File"), predefined(t, "Socket"), widest(t)
	for _, c := range []struct {
		a       *auto.Auto
		s       uint32
		op      string
		reached uint32
	}{
		{file, fOpen, "read", fOpen | fEnd},
		{file, fOpen, "write", fOpen | fEnd},
		{file, fOpen, "size", fOpen},
		{file, fEnd, "size", fEnd},
		{file, fOpen | fEnd, "size", fOpen | fEnd},
		{file, fOpen, "close", fShut},
		{file, fOpen | fEnd, "close", fShut},
		{socket, sFresh, "connect", sLive | sDead},
		{socket, sLive, "recv", sLive | sDead},
		{socket, sLive, "peek", sLive},
		{socket, sFresh | sLive | sDead, "close", sClosed},
		{widest, 1, "go", 2},
		{widest, 1 << 14, "go", 1 << 15},
		{widest, 1<<14 | 1<<3 | 1, "go", 1<<15 | 1<<4 | 2},
		{widest, 1<<15 - 1, "go", 1<<16 - 2},
		{widest, 1 << 3, "jump", 1<<14 | 1<<15},
		{widest, 1<<7 | 1<<2, "turn", 1<<8 | 1<<7 | 1<<3 | 1<<2},
		{widest, 1<<15 - 1, "stay", 1<<15 - 1},
	} {
		for _, kind := range []int{api.Full, api.Share} {
			checks(t, c.a, kind, c.reached, c.s, c.op, 0)
			checks(t, c.a, kind, all, c.s, c.op, 0)
			checks(t, c.a, kind, c.reached|1<<31, c.s, c.op, 0)
			checks(t, c.a, kind, 0, c.s, c.op, api.DiagPerm)
			checks(t, c.a, kind, ^c.reached, c.s, c.op, api.DiagPerm)
			for bit := range 32 {
				if c.reached>>bit&1 == 1 {
					checks(t, c.a, kind, c.reached&^(1<<bit), c.s, c.op, api.DiagPerm)
					checks(t, c.a, kind, all&^(1<<bit), c.s, c.op, api.DiagPerm)
				} else {
					checks(t, c.a, kind, all&^(1<<bit), c.s, c.op, 0)
				}
			}
		}
	}
}

// TestP17_2_CheckInOnce: what is known may be outside of In, as only where the outcomes lead counts.
func TestP17_2_CheckInOnce(t *testing.T) {
	a := made(t, "A B C Z!", "hop 0 ok 1", "hop 1 ok 1 on 2 out 3", "end 2 ok 3")
	for _, kind := range []int{api.Full, api.Share} {
		checks(t, a, kind, 2, 1, "hop", 0)
		checks(t, a, kind, 1, 1, "hop", api.DiagPerm)
		checks(t, a, kind, 8, 4, "end", 0)
		// Each of the three outcomes alone leads out, and each two of them.
		for in, want := range map[uint32]int{14: 0, 15: 0, 12: 11, 10: 11, 6: 11, 8: 11, 4: 11, 2: 11, 1: 11} {
			checks(t, a, kind, in, 2, "hop", want)
			checks(t, a, kind, in, 3, "hop", want)
		}
	}
}

// TestP17_2_CheckManyOutcomes has an operation of which only the last outcome leads out.
func TestP17_2_CheckManyOutcomes(t *testing.T) {
	const count = 20000
	m := api.Move{Op: "go"}
	for i := range count {
		m.Outs = append(m.Outs, api.Out{Name: "o" + strconv.Itoa(i)})
	}
	m.Outs = append(m.Outs, api.Out{Name: "end", To: 1})
	a := automaton(t, api.Proto{States: []api.State{{Name: "A"}, {Name: "Z", Final: true}}, Moves: []api.Move{m}})
	for _, kind := range []int{api.Full, api.Share} {
		checks(t, a, kind, 1, 1, "go", api.DiagPerm)
		checks(t, a, kind, 2, 1, "go", api.DiagPerm)
		checks(t, a, kind, 3, 1, "go", 0)
	}
	checks(t, a, api.Imm, 3, 1, "go", api.DiagPerm)
}

// TestP17_2_CheckKeeps: imm and pure permissions allow what never changes a state, whatever their sets are.
func TestP17_2_CheckKeeps(t *testing.T) {
	file, socket, widest := predefined(t, "File"), predefined(t, "Socket"), widest(t)
	mixed := made(t, "A B C Z!", "do 0 ok 0", "do 1 ok 1 no 1", "do 2 ok 2 no 3", "end 0 ok 3", "end 1 ok 3")
	moved, swapped := made(t, "A B Z!", "do 0 ok 1", "do 1 ok 1", "end 1 ok 2"), made(t, "A B Z!", "do 0 ok 1", "do 1 ok 0", "end 1 ok 2")
	for _, c := range []struct {
		a    *auto.Auto
		s    uint32
		op   string
		want int
	}{
		{file, fOpen, "size", 0},
		{file, fEnd, "size", 0},
		{file, fOpen | fEnd, "size", 0},
		{file, fOpen, "read", api.DiagPerm},
		{file, fOpen, "write", api.DiagPerm},
		{file, fOpen, "close", api.DiagPerm},
		{file, fOpen | fEnd, "close", api.DiagPerm},
		{socket, sLive, "peek", 0},
		{socket, sLive, "recv", api.DiagPerm},
		{socket, sFresh, "connect", api.DiagPerm},
		{widest, 1, "stay", 0},
		{widest, 1<<15 - 1, "stay", 0},
		{widest, 1, "turn", api.DiagPerm},
		{widest, 1 << 14, "jump", api.DiagPerm},
		// Of several states one, the first or the last, is not kept.
		{mixed, 1, "do", 0},
		{mixed, 2, "do", 0},
		{mixed, 3, "do", 0},
		{mixed, 4, "do", api.DiagPerm},
		{mixed, 5, "do", api.DiagPerm},
		{mixed, 6, "do", api.DiagPerm},
		{mixed, 7, "do", api.DiagPerm},
		// The set remains, or a part of it, but the states do not.
		{moved, 2, "do", 0},
		{moved, 3, "do", api.DiagPerm},
		{swapped, 3, "do", api.DiagPerm},
	} {
		for _, kind := range []int{api.Imm, api.Pure} {
			for _, in := range sets() {
				checks(t, c.a, kind, in, c.s, c.op, c.want)
			}
		}
	}
}

// TestP17_2_CheckOtherKinds: kinds that are none of the five allow nothing.
func TestP17_2_CheckOtherKinds(t *testing.T) {
	file := predefined(t, "File")
	for _, kind := range noKinds() {
		for _, in := range sets() {
			for op, states := range enabled() {
				for _, s := range []uint32{0, fOpen, fEnd, fOpen | fEnd} {
					if s&^states == 0 {
						checks(t, file, kind, in, s, op, api.DiagPerm)
					}
				}
			}
		}
	}
}

// TestP17_2_CheckNoState: where no state is known, nothing speaks against an operation, not even that there is none, but the kind.
func TestP17_2_CheckNoState(t *testing.T) {
	for _, a := range []*auto.Auto{predefined(t, "File"), predefined(t, "Socket"), predefined(t, "Iter"), widest(t), made(t, "Z!")} {
		for _, op := range append(a.Ops(), "", "x", "READ") {
			for _, kind := range anyKinds() {
				want := 0
				if !slices.Contains(kinds, kind) {
					want = api.DiagPerm
				}
				for _, in := range sets() {
					checks(t, a, kind, in, 0, op, want)
				}
			}
		}
	}
}

func TestP17_4_CheckNil(t *testing.T) {
	for _, kind := range anyKinds() {
		for _, in := range sets() {
			for _, s := range sets() {
				for _, op := range []string{"read", "size", "close", ""} {
					checks(t, nil, kind, in, s, op, 0)
				}
			}
		}
	}
}
