/-
  The walk of GaussSolves. (Template: by-name.py fills it; gen/genGauZc.py writes it.)
-/
import Derived.Test.YtocmhidkfjahcaaJGauZb
import Derived.Test.YtocmhidkfjahcaaJG
namespace Go.Proofs.Ytocmhidkfjahcaa
open Go.RowKit

set_option maxRecDepth 10000 in
set_option maxHeartbeats 2000000 in
theorem solves_out (w : World) (v : Value) (ts : List Trm) (h : TermsAt w v ts) (hs : smallT ts = false) :
    Calls Try.prog 3 #[v] w fun e w' => e = .returned (.bool true) ∧ Below w.heap.size w w' := by
  have sm := fun (w' : World) (hb : Below w.heap.size w w') => smalls_any w' v ts (h.below hb)
  rw [hs] at sm
  have SM := Lib.hid sm
  have B0 := Lib.hid (Below.refl w.heap.size w)
  clear sm h hs
  go_enter Try.func3, Try.ntmps3
  go_wp2_with (first
    | (go_at_call 12; (with_reducible refine (awake3_yes _).mono ?_); rintro e w1 ⟨rfl, hb⟩; have B0 := Lib.hid (B0.out.trans (hb.mono B0.out.size)); clear hb)
    | (go_at_call 13; (with_reducible refine (SM.out _ B0.out).mono ?_); rintro e w2 ⟨rfl, hb⟩; have B0 := Lib.hid (B0.out.trans (hb.mono B0.out.size)); clear hb))
  go_ret
  exact ⟨rfl, B0.out⟩

set_option maxRecDepth 100000 in
set_option maxHeartbeats 4000000 in
theorem solves_big (w : World) (v : Value) (ts : List Trm) (h : TermsAt w v ts) (hw : ∀ t ∈ ts, Wide t.1 ∧ Bd t.2) (hs : smallT ts = true) :
    Calls Try.prog 3 #[v] w fun e w' => e = .returned (.bool true) ∧ Below w.heap.size w w' := by
  have rs := fun (w' : World) (hb : Below w.heap.size w w') => rsolve_any w' v ts (h.below hb) hw
  have sm := fun (w' : World) (hb : Below w.heap.size w w') => smalls_any w' v ts (h.below hb)
  rw [hs] at sm
  have SM := Lib.hid sm
  have gs := fun (w' : World) (hb : Below w.heap.size w w') => gsolve_any w' v ts (h.below hb) hw
  obtain ⟨⟨⟨a, p⟩, z⟩, hG⟩ : ∃ r, solveT ts = r := ⟨_, rfl⟩
  rw [hG] at gs
  have G := Lib.hid gs
  have B0 := Lib.hid (Below.refl w.heap.size w)
  clear sm gs h hs
  rw [hG] at rs
  have RSO := Lib.hid rs
  have SAM := Lib.hid (fun (w' : World) (s s' : Value) (hs : TermsAt w' s a) (hs' : TermsAt w' s' a) => (rsame_any w' s s' a a hs hs').mono fun e w2 (q : e = .returned (.bool (decide (a = a))) ∧ Below w'.heap.size w' w2) => (⟨by rw [q.1]; simp, q.2⟩ : e = .returned (.bool true) ∧ Below w'.heap.size w' w2))
  have INT := Lib.hid (fun (w' : World) (s s' : Value) (hs : IntsAt w' s p) (hs' : IntsAt w' s' p) => (rints_any w' s s' p p hs hs').mono fun e w2 (q : e = .returned (.bool (decide (p = p))) ∧ Below w'.heap.size w' w2) => (⟨by rw [q.1]; simp, q.2⟩ : e = .returned (.bool true) ∧ Below w'.heap.size w' w2))
  clear hG hw rs
  have zz : (z == z) = true := by simp
  go_enter Try.func3, Try.ntmps3
  go_upto_region 4 with (first
    | (go_at_call 12; (with_reducible refine (awake3_yes _).mono ?_); rintro e w1 ⟨rfl, hb⟩; have B0 := Lib.hid (B0.out.trans (hb.mono B0.out.size)); clear hb)
    | (go_at_call 13; (with_reducible refine (SM.out _ B0.out).mono ?_); rintro e w2 ⟨rfl, hb⟩; have b2 := Lib.hid (B0.out.trans (hb.mono B0.out.size)); clear hb)
    | (go_at_call 14; (with_reducible refine (G.out _ b2.out).mono ?_); rintro e w3 ⟨A, c, B, d, rfl, hT, hI, hb⟩; have b3 := Lib.hid (b2.out.trans (hb.mono b2.out.size)); have HT := Lib.hid hT; have HI := Lib.hid hI; clear hb hT hI))
  clear B0
  go_wp2_with (first
    | (go_at_call 15; (with_reducible refine (RSO.out _ b3.out).mono ?_); rintro e w4 ⟨A4, c4, B4, d4, rfl, hT4, hI4, hb⟩; have HT := Lib.hid (HT.out.below hb); have HI := Lib.hid (HI.out.below hb); have b3 := Lib.hid (b3.out.trans (hb.mono b3.out.size)); have HT4 := Lib.hid hT4; have HI4 := Lib.hid hI4; clear hb hT4 hI4)
    | (go_at_call 16; (with_reducible refine (SAM.out _ _ _ HT.out HT4.out).mono ?_); rintro e w5 ⟨rfl, hb⟩; have HI := Lib.hid (HI.out.below hb); have HI4 := Lib.hid (HI4.out.below hb); have b3 := Lib.hid (b3.out.trans (hb.mono b3.out.size)); clear hb)
    | (go_at_call 17; (with_reducible refine (INT.out _ _ _ HI.out HI4.out).mono ?_); rintro e w6 ⟨rfl, hb⟩; have b3 := Lib.hid (b3.out.trans (hb.mono b3.out.size)); clear hb))
  go_ret
  exact ⟨rfl, b3.out⟩

theorem solves_any (w : World) (v : Value) (ts : List Trm) (h : TermsAt w v ts) (hw : ∀ t ∈ ts, Wide t.1 ∧ Bd t.2) :
    Calls Try.prog 3 #[v] w fun e w' => e = .returned (.bool true) ∧ Below w.heap.size w w' := by
  cases hs : smallT ts
  · exact solves_out w v ts h hs
  · exact solves_big w v ts h hw hs
end Go.Proofs.Ytocmhidkfjahcaa
