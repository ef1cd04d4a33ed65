package move_test

import (
	"testing"

	"ballcock/api"
	"ballcock/auto"
	"ballcock/move"
)

// contracts are contracts of a kind with the sets of File's states, which differ only in what this layer does not ask for.
func contracts(kind int, handle bool) []api.Contract {
	c := api.Contract{Name: "x", Handle: handle, Proto: "File", Kind: kind, Least: api.Rat{N: 1, D: 2}, At: 1, To: 6, In: 3}
	other := c
	other.Name, other.Proto, other.Least = "", "Nobody", api.Rat{}
	return []api.Contract{c, other}
}

func begins(t *testing.T, c api.Contract, want uint32) {
	t.Helper()
	if got := move.Begin(c); got != want {
		t.Errorf("Begin(%v) = %b; want %b", c, got, want)
	}
}

func leaves(t *testing.T, a *auto.Auto, c api.Contract, want uint32) {
	t.Helper()
	if got := move.Leave(a, c); got != want {
		t.Errorf("Leave(%v, %v) = %b; want %b", a != nil, c, got, want)
	}
}

func TestP17_4_Begin(t *testing.T) {
	for kind, want := range map[int]uint32{api.Unique: 1, api.Full: 1, api.Share: 3, api.Imm: 1, api.Pure: 3} {
		for _, c := range contracts(kind, true) {
			begins(t, c, want)
		}
	}
	for _, kind := range noKinds() {
		for _, c := range contracts(kind, true) {
			begins(t, c, 1)
		}
	}
}

// TestP17_4_BeginSets: the set is what it is, be it empty or beyond the states.
func TestP17_4_BeginSets(t *testing.T) {
	for _, kind := range anyKinds() {
		for _, at := range sets() {
			for _, in := range sets() {
				want := at
				if kind == api.Share || kind == api.Pure {
					want = in
				}
				begins(t, api.Contract{Handle: true, Kind: kind, At: at, To: 16, In: in}, want)
			}
		}
	}
	begins(t, api.Contract{Name: "n"}, 0)
}

// TestP17_4_Leave: only unique and full contracts tell how they leave the handle.
func TestP17_4_Leave(t *testing.T) {
	for _, a := range []*auto.Auto{predefined(t, "File"), predefined(t, "Socket"), widest(t), nil} {
		for kind, want := range map[int]uint32{api.Unique: 6, api.Full: 6, api.Share: all, api.Imm: all, api.Pure: all} {
			for _, c := range contracts(kind, true) {
				leaves(t, a, c, want)
			}
		}
		for _, kind := range noKinds() {
			for _, c := range contracts(kind, true) {
				leaves(t, a, c, all)
			}
		}
	}
}

// TestP17_4_LeaveSets: the set is what it is, be it empty or beyond the states.
func TestP17_4_LeaveSets(t *testing.T) {
	file := predefined(t, "File")
	for _, to := range sets() {
		for _, in := range sets() {
			for _, kind := range kinds {
				want := uint32(all)
				if kind == api.Unique || kind == api.Full {
					want = to
				}
				leaves(t, file, api.Contract{Handle: true, Kind: kind, At: 16, To: to, In: in}, want)
			}
		}
	}
}

// TestP17_4_LeaveOpen: the handle of an Open, which has no contract, must be in a final state.
func TestP17_4_LeaveOpen(t *testing.T) {
	for _, c := range []struct {
		a    *auto.Auto
		want uint32
	}{
		{predefined(t, "File"), fShut},
		{predefined(t, "Socket"), sClosed},
		{predefined(t, "Iter"), 2},
		{widest(t), 1 << 15},
		{made(t, "Z!"), 1},
		{made(t, "A! B C! D", "go 1 ok 0", "go 3 ok 1 no 2"), 5},
		{nil, 0},
	} {
		leaves(t, c.a, api.Contract{}, c.want)
		leaves(t, c.a, api.Contract{Name: "n"}, c.want)
		for _, kind := range anyKinds() {
			for _, contract := range contracts(kind, false) {
				leaves(t, c.a, contract, c.want)
			}
		}
	}
}
