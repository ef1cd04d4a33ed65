package auto_test

import (
	"testing"

	"ballcock/api"
)

func TestP9_3_Finals(t *testing.T) {
	for _, c := range []struct {
		p    api.Proto
		want uint32
	}{
		{proto("Z!"), 1}, {file(), 0b100}, {socket(), 0b1000}, {iter(), 0b10}, {chain(16), 1 << 15},
		{proto("Y! A Z!", "go 1 y 0 z 2"), 0b101}, {proto("A Y! X! Z!", "go 0 y 1"), 0b1110},
		{proto("A! B! C! D! E! F! G! H! I! J! K! L! M! N! O! P!"), 0xffff},
	} {
		if set := made(t, c.p).Finals(); set != c.want {
			t.Errorf("%v: Finals = %b; want %b", c.p, set, c.want)
		}
	}
}

// mixed has operations that stay in some states by all outcomes, by some, and by none.
func mixed() api.Proto {
	return proto("A B C D Z!",
		"go 0 x 0 y 0", "go 1 x 1 y 0", "go 2 x 0 y 2", "go 3 y 4",
		"stay 3 x 3", "stay 0 y 0 x 0 z 0", "swap 0 x 1", "swap 1 x 0 y 3", "all 0 x 4", "all 1 x 4", "all 2 x 4", "all 3 x 4")
}

func TestP9_3_EnabledAndKeeps(t *testing.T) {
	type sets struct{ enabled, keeps uint32 }
	for _, c := range []struct {
		p    api.Proto
		want map[string]sets
	}{
		{proto("Z!"), nil},
		{file(), map[string]sets{"read": {0b001, 0}, "write": {0b001, 0}, "size": {0b011, 0b011}, "close": {0b011, 0}}},
		{socket(), map[string]sets{"connect": {0b0001, 0}, "send": {0b0010, 0}, "recv": {0b0010, 0}, "peek": {0b0010, 0b0010}, "close": {0b0111, 0}}},
		{iter(), map[string]sets{"next": {0b01, 0}, "stop": {0b01, 0}, "left": {0b01, 0b01}}},
		{mixed(), map[string]sets{"go": {0b01111, 0b00001}, "stay": {0b01001, 0b01001}, "swap": {0b00011, 0}, "all": {0b01111, 0}}},
		{reversed(mixed()), map[string]sets{"go": {0b01111, 0b00001}, "stay": {0b01001, 0b01001}, "swap": {0b00011, 0}, "all": {0b01111, 0}}},
		{chain(16), map[string]sets{"go": {0x7fff, 0}}},
	} {
		a := made(t, c.p)
		for _, op := range append(a.Ops(), "", "g", "gone", "x", "ok", "A", "P", "Read") {
			if got := (sets{a.Enabled(op), a.Keeps(op)}); got != c.want[op] {
				t.Errorf("%v: %q is enabled in %b, keeps %b; want %b", c.p, op, got.enabled, got.keeps, c.want[op])
			}
		}
	}
}

// step is where an outcome of an operation leads from each state, by one state at a time.
type step map[int]uint32

func TestP9_3_Step(t *testing.T) {
	for _, c := range []struct {
		p    api.Proto
		want map[string]step // by an operation and an outcome
	}{
		{proto("Z!"), nil},
		{file(), map[string]step{
			"read some": {0: 0b001}, "read none": {0: 0b010}, "write ok": {0: 0b001}, "write over": {0: 0b010},
			"size ok": {0: 0b001, 1: 0b010}, "close ok": {0: 0b100, 1: 0b100},
		}},
		{socket(), map[string]step{
			"connect ok": {0: 0b0010}, "connect fail": {0: 0b0100}, "send ok": {1: 0b0010}, "send lost": {1: 0b0100},
			"recv some": {1: 0b0010}, "recv none": {1: 0b0010}, "recv lost": {1: 0b0100}, "peek some": {1: 0b0010}, "peek none": {1: 0b0010},
			"close ok": {0: 0b1000, 1: 0b1000, 2: 0b1000},
		}},
		{mixed(), map[string]step{
			"go x": {0: 0b00001, 1: 0b00010, 2: 0b00001}, "go y": {0: 0b00001, 1: 0b00001, 2: 0b00100, 3: 0b10000},
			"stay x": {0: 0b00001, 3: 0b01000}, "stay y": {0: 0b00001}, "stay z": {0: 0b00001},
			"swap x": {0: 0b00010, 1: 0b00001}, "swap y": {1: 0b01000}, "all x": {0: 0b10000, 1: 0b10000, 2: 0b10000, 3: 0b10000},
		}},
	} {
		a, count := made(t, c.p), len(c.p.States)
		ops := append(a.Ops(), "", "rea", "reads", "ok", "A")
		for _, op := range ops {
			for _, outcome := range []string{"some", "none", "ok", "over", "fail", "lost", "x", "y", "z", "", "o", "okay", "OK", op, "A"} {
				for set := range uint32(1) << count {
					want := union(c.want[op+" "+outcome], set)
					// What lies beyond the states has no meaning.
					for _, beyond := range []uint32{0, 1 << count, 1 << 16, 1 << 31, 1<<31 | 1<<16, ^(1<<count - 1)} {
						if next := a.Step(set|beyond, op, outcome); next != want {
							t.Errorf("%v: Step(%b, %q, %q) = %b; want %b", c.p, set|beyond, op, outcome, next, want)
						}
					}
				}
			}
		}
	}
}

// union is all to which a step leads from a set.
func union(s step, set uint32) uint32 {
	var all uint32
	for state, next := range s {
		if set&(1<<state) != 0 {
			all |= next
		}
	}
	return all
}

func TestP9_3_StepInChain(t *testing.T) {
	for _, p := range []api.Proto{chain(16), reversed(chain(16))} {
		a := made(t, p)
		for _, set := range []uint32{0, 1, 0x4000, 0x7fff, 0x8000, 0xffff, 0x5555, 0xaaaa, 0xffffffff, 0xffff0000, 0xffff8000, 0xffffc000} {
			if next := a.Step(set, "go", "ok"); next != set<<1&0xfffe {
				t.Errorf("Step(%x) = %x", set, next)
			}
		}
	}
}
