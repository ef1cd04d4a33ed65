package move_test

import (
	"testing"

	"ballcock/api"
	"ballcock/move"
)

func splits(t *testing.T, rest, part api.Perm, s, wantOld, wantNew uint32) {
	t.Helper()
	if gotOld, gotNew := move.Split(rest, part, s); gotOld != wantOld || gotNew != wantNew {
		t.Errorf("Split(%s, %s, %b) = %b, %b; want %b, %b", text(rest), text(part), s, gotOld, gotNew, wantOld, wantNew)
	}
}

func joins(t *testing.T, old, rest, part api.Perm, sold, snew, want uint32) {
	t.Helper()
	if got := move.Join(old, rest, part, sold, snew); got != want {
		t.Errorf("Join(%s, %s, %s, %b, %b) = %b; want %b", text(old), text(rest), text(part), sold, snew, got, want)
	}
}

// TestP17_3_SplitPairs has the pairs of the five kinds that a split can lead to, and the other ones.
func TestP17_3_SplitPairs(t *testing.T) {
	const in, s, other = 3, 1, 6
	for _, c := range []struct {
		rest, part     int
		restIn, partIn bool // whether the set is what is known
	}{
		{api.Unique, api.Unique, false, false},
		{api.Unique, api.Full, false, false},
		{api.Unique, api.Share, false, true},
		{api.Unique, api.Imm, false, false},
		{api.Unique, api.Pure, false, true},
		{api.Full, api.Unique, false, false},
		{api.Full, api.Full, false, false},
		{api.Full, api.Share, false, true},
		{api.Full, api.Imm, false, false},
		{api.Full, api.Pure, false, true},
		{api.Share, api.Unique, true, false},
		{api.Share, api.Full, true, false},
		{api.Share, api.Share, true, true},
		{api.Share, api.Imm, true, false},
		{api.Share, api.Pure, true, true},
		{api.Imm, api.Unique, false, false},
		{api.Imm, api.Full, false, false},
		{api.Imm, api.Share, false, true},
		{api.Imm, api.Imm, false, false},
		{api.Imm, api.Pure, false, true},
		{api.Pure, api.Unique, true, false},
		{api.Pure, api.Full, true, false},
		{api.Pure, api.Share, true, true},
		{api.Pure, api.Imm, true, false},
		{api.Pure, api.Pure, true, true},
	} {
		pick := func(isIn bool, in, s uint32) uint32 {
			if isIn {
				return in
			}
			return s
		}
		for i, rest := range of(c.rest, in) {
			for _, known := range []uint32{0, s, in, other, 8, all} {
				// Both have the same set, as after a split, and each has its own.
				splits(t, rest, of(c.part, in)[i], known, pick(c.restIn, in, known), pick(c.partIn, in, known))
				splits(t, rest, of(c.part, other)[i], known, pick(c.restIn, in, known), pick(c.partIn, other, known))
				splits(t, rest, of(c.part, 0)[i], known, pick(c.restIn, in, known), pick(c.partIn, 0, known))
			}
		}
	}
}

// TestP17_3_SplitUnreachable: through share and pure permissions their sets are known even where nothing else is.
func TestP17_3_SplitUnreachable(t *testing.T) {
	splits(t, one(api.Pure, 3), one(api.Full, 3), 0, 3, 0)
	splits(t, one(api.Full, 3), one(api.Pure, 3), 0, 0, 3)
	splits(t, one(api.Share, 3), one(api.Share, 3), 0, 3, 3)
	splits(t, one(api.Share, 3), one(api.Pure, 3), 0, 3, 3)
	splits(t, one(api.Imm, 0), one(api.Imm, 0), 0, 0, 0)
	splits(t, one(api.Imm, 3), one(api.Imm, 3), 0, 0, 0)
	splits(t, one(api.Unique, 3), one(api.Unique, 3), 0, 0, 0)
	splits(t, one(api.Share, 0), one(api.Pure, 0), 0, 0, 0)
	splits(t, one(api.Share, 0), one(api.Pure, 0), 5, 0, 0)
}

// TestP17_3_SplitOtherKinds: kinds that are none of the five are neither share nor pure.
func TestP17_3_SplitOtherKinds(t *testing.T) {
	for _, kind := range noKinds() {
		for _, in := range sets() {
			for _, s := range sets() {
				splits(t, one(kind, in), one(kind, in), s, s, s)
				splits(t, one(kind, in), one(api.Share, in), s, s, in)
				splits(t, one(api.Pure, in), one(kind, in), s, in, s)
			}
		}
	}
}

// TestP17_3_JoinUnreachable: nothing is known where through one of both nothing is.
func TestP17_3_JoinUnreachable(t *testing.T) {
	for _, old := range anyKinds() {
		for _, rest := range anyKinds() {
			for _, part := range anyKinds() {
				o, r, p := one(old, 7), one(rest, 3), one(part, 6)
				joins(t, o, r, p, 0, 0, 0)
				joins(t, o, r, p, 0, 5, 0)
				joins(t, o, r, p, 5, 0, 0)
				joins(t, o, r, p, 0, all, 0)
				joins(t, o, r, p, 1<<31, 0, 0)
			}
		}
	}
}

// TestP17_3_JoinFull: the holder of a full part alone has changed the state, so what it knows is known.
func TestP17_3_JoinFull(t *testing.T) {
	for _, old := range anyKinds() {
		for _, rest := range anyKinds() {
			for _, in := range []uint32{0, 3, all} {
				for i, part := range of(api.Full, in) {
					o, r := of(old, 8)[i], of(rest, 12)[i]
					joins(t, o, r, part, 3, 2, 2)
					joins(t, o, r, part, 2, 3, 3)
					joins(t, o, r, part, 1, 1<<31, 1<<31)
					joins(t, o, r, part, all, 4, 4)
				}
			}
		}
	}
}

// TestP17_3_JoinShare: of a unique permission that was shared, the state is one of the set in which it was.
func TestP17_3_JoinShare(t *testing.T) {
	for _, part := range anyKinds() {
		if part == api.Full {
			continue
		}
		for _, in := range sets() {
			for i, rest := range of(api.Share, in) {
				o, p := of(api.Unique, 8)[i], of(part, 12)[i]
				joins(t, o, rest, p, 1, 2, in)
				joins(t, o, rest, p, 4, 4, in)
				joins(t, o, rest, p, all, 1, in)
			}
		}
	}
}

// TestP17_3_JoinOthers: in all other cases nobody has changed more than what is known already.
func TestP17_3_JoinOthers(t *testing.T) {
	for _, old := range anyKinds() {
		for _, rest := range anyKinds() {
			for _, part := range anyKinds() {
				if part == api.Full || old == api.Unique && rest == api.Share {
					continue
				}
				for i := range of(old, 0) {
					o, r, p := of(old, 8)[i], of(rest, 3)[i], of(part, 12)[i]
					joins(t, o, r, p, 1, 2, 1)
					joins(t, o, r, p, 5, 3, 5)
					joins(t, o, r, p, 1<<31, all, 1<<31)
				}
			}
		}
	}
}

// TestP17_3_JoinTable has each division that layer 15 knows, with what is known then.
func TestP17_3_JoinTable(t *testing.T) {
	const sold, snew, in = 1, 2, 7
	for _, c := range []struct {
		old, part, rest int
		want            uint32
	}{
		{api.Unique, api.Full, api.Pure, snew},
		{api.Unique, api.Share, api.Share, in},
		{api.Unique, api.Imm, api.Imm, sold},
		{api.Unique, api.Pure, api.Full, sold},
		{api.Full, api.Full, api.Pure, snew},
		{api.Full, api.Pure, api.Full, sold},
		{api.Share, api.Share, api.Share, sold},
		{api.Share, api.Pure, api.Share, sold},
		{api.Imm, api.Imm, api.Imm, sold},
		{api.Pure, api.Pure, api.Pure, sold},
	} {
		joins(t, one(c.old, in), one(c.rest, in), one(c.part, in), sold, snew, c.want)
		joins(t, one(c.old, in), one(c.rest, in), one(c.part, in), 0, snew, 0)
		joins(t, one(c.old, in), one(c.rest, in), one(c.part, in), sold, 0, 0)
	}
	// A split that failed leaves all three as the old one was.
	joins(t, one(api.Unique, 0), one(api.Unique, 0), one(api.Unique, 0), sold, snew, sold)
	joins(t, one(api.Full, in), one(api.Full, in), one(api.Full, in), sold, snew, snew)
}
