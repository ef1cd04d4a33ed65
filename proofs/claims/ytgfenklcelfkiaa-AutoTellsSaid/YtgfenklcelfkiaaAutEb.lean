/-
  The walks of package auto's each at the functions that it is handed. (Template: by-name.py fills it; gen/genAutEa.py writes it.)
-/
import Derived.Test.YtgfenklcelfkiaaAutQ
namespace Go.Proofs.Ytgfenklcelfkiaa
open Go.RowKit

set_option maxRecDepth 10000 in
set_option maxHeartbeats 4000000 in
theorem each_enabled (w0 w : World) (a b0 : Nat) (nm : List UInt8) (vs : Value) (Am : Option Addr) (cm : Nat) (op : List UInt8) (rs : List (Value × Mov)) (R : Nat → World → Prop) (hB : Blk w a #[txt nm, vs, .slice Am rs.length cm]) (hM : Reads w0 w0.heap.size 3 Am rs.length (rowC mvC rs)) (hE : ∀ x ∈ rs, OutsAt w0 x.1 x.2.outs) (hl : rs.length ≤ 1000) (hb : Below w0.heap.size w0 w) (h0 : R 0 w)
    (hf : ∀ (k : Nat) (x : Value × Mov) (wr : World), rs[k]? = some x → Below w0.heap.size w0 wr → R k wr → (x.2.op = op → Calls Try.prog 34 #[.agg #[txt x.2.op, .int .i64 x.2.at_, x.1], .pointer (some ⟨b0, 0, none⟩)] wr fun e w' => e = .returned (.tuple #[]) ∧ Below w0.heap.size w0 w' ∧ R (k + 1) w') ∧ (x.2.op ≠ op → R (k + 1) wr)) (hR : ∀ k w1 w2, R k w1 → Below w1.heap.size w1 w2 → R k w2) :
    Calls Try.prog 32 #[.pointer (some ⟨a, 0, none⟩), txt op, .func (.func 34) #[] #[.pointer (some ⟨b0, 0, none⟩)]] w fun e w' => e = .returned (.tuple #[]) ∧ Below w0.heap.size w0 w' ∧ R rs.length w' := by
  have c2 := hB.cell 2
  simp only [List.getElem?_toArray, List.getElem?_cons_zero, List.getElem?_cons_succ] at c2
  have HO := Lib.hid (And.intro hM (And.intro hE (And.intro hl (And.intro hf hR))))
  have S0 := Lib.hid (And.intro hb h0)
  clear hB hM hE hl hf hb h0 hR
  go_enter Try.func32, Try.ntmps32
  go_wp2_with fail
  go_loopg [14] rs.length (fun g v14 wr => ∃ k : Nat, v14 = .int .i64 k ∧ k ≤ rs.length ∧ g = rs.length - k ∧ Below w0.heap.size w0 wr ∧ R k wr)
  case atStart => exact ⟨0, rfl, Nat.zero_le _, rfl, S0.out.1, S0.out.2⟩
  case round =>
    obtain ⟨k, rfl, hk, hg, hb, hr⟩ := hrel
    by_cases hkn : k = rs.length
    · have j1 : decide (k < rs.length) = false := decide_eq_false (by omega)
      have FIN := Lib.hid (And.intro hb (show R rs.length wr by rw [← hkn]; exact hr))
      clear hk hg hb hr hkn
      go_wp2_with fail
      go_end0
      exact ⟨rfl, FIN.out⟩
    · have hlt : k < rs.length := by omega
      obtain ⟨x, hx⟩ : ∃ x, rs[k]? = some x := ⟨_, List.getElem?_eq_getElem hlt⟩
      obtain ⟨ad, rfl, d0, d1, d2⟩ := sl_cell3 mvC_len HO.out.1 hb hx (by omega)
      unfold mvC at d0 d1 d2
      simp only [List.getElem?_cons_zero, List.getElem?_cons_succ] at d0 d1 d2
      obtain ⟨Ao, co, eo, _⟩ := (HO.out.2.1 x (List.mem_of_getElem? hx)).len
      rw [eo] at d2
      have a5 := below_alloc1 wr (.cells #[txt x.2.op, .int .i64 x.2.at_, .slice Ao x.2.outs.length co] 43)
      have b5 := hb.trans (a5.mono hb.size)
      have CF := HO.out.2.2.2.1 k x _ hx b5 (HO.out.2.2.2.2 k _ _ hr a5)
      rw [eo] at CF
      have j1 : (k : Int) < (rs.length : Int) := by omega
      have j2 : (0 : Int) ≤ (k : Int) := by omega
      have wk : IntKind.i64.wrap ((k : Int) + 1) = (k : Int) + 1 := IntWalk.i64_in _ (by have := HO.out.2.2.1; omega)
      have HK := Lib.hid (And.intro hlt (And.intro hg b5))
      by_cases q : x.2.op = op
      · have C1 := Lib.hid (CF.1 q)
        have HQ := Lib.hid q
        clear hkn hlt hk hg hb hr hx eo a5 b5 CF q
        have q2 : (x.2.op == op) = true := beq_iff_eq.mpr HQ.out
        go_wp2_with (go_at_call 34; (refine C1.out.mono ?_); rintro e w1 ⟨rfl, hb1, hr1⟩; have H1 := Lib.hid (And.intro hb1 hr1); clear hb1 hr1)
        go_roundg (rs.length - (k + 1))
        case measure => have := HK.out.1; have := HK.out.2.1; omega
        case rel => exact ⟨k + 1, by push_cast; rfl, HK.out.1, rfl, H1.out⟩
      · have C1 := Lib.hid (CF.2 q)
        have t1 : (x.2.op == op) = false := beq_eq_false_iff_ne.mpr q
        clear hkn hlt hk hg hb hr hx eo a5 b5 CF q
        go_wp2_with fail
        go_roundg (rs.length - (k + 1))
        case measure => have := HK.out.1; have := HK.out.2.1; omega
        case rel => exact ⟨k + 1, by push_cast; rfl, HK.out.1, rfl, HK.out.2.2, C1.out⟩

set_option maxRecDepth 10000 in
set_option maxHeartbeats 4000000 in
theorem each_keeps (w0 w : World) (a b0 : Nat) (nm : List UInt8) (vs : Value) (Am : Option Addr) (cm : Nat) (op : List UInt8) (rs : List (Value × Mov)) (R : Nat → World → Prop) (hB : Blk w a #[txt nm, vs, .slice Am rs.length cm]) (hM : Reads w0 w0.heap.size 3 Am rs.length (rowC mvC rs)) (hE : ∀ x ∈ rs, OutsAt w0 x.1 x.2.outs) (hl : rs.length ≤ 1000) (hb : Below w0.heap.size w0 w) (h0 : R 0 w)
    (hf : ∀ (k : Nat) (x : Value × Mov) (wr : World), rs[k]? = some x → Below w0.heap.size w0 wr → R k wr → (x.2.op = op → Calls Try.prog 35 #[.agg #[txt x.2.op, .int .i64 x.2.at_, x.1], .pointer (some ⟨b0, 0, none⟩)] wr fun e w' => e = .returned (.tuple #[]) ∧ Below w0.heap.size w0 w' ∧ R (k + 1) w') ∧ (x.2.op ≠ op → R (k + 1) wr)) (hR : ∀ k w1 w2, R k w1 → Below w1.heap.size w1 w2 → R k w2) :
    Calls Try.prog 32 #[.pointer (some ⟨a, 0, none⟩), txt op, .func (.func 35) #[] #[.pointer (some ⟨b0, 0, none⟩)]] w fun e w' => e = .returned (.tuple #[]) ∧ Below w0.heap.size w0 w' ∧ R rs.length w' := by
  have c2 := hB.cell 2
  simp only [List.getElem?_toArray, List.getElem?_cons_zero, List.getElem?_cons_succ] at c2
  have HO := Lib.hid (And.intro hM (And.intro hE (And.intro hl (And.intro hf hR))))
  have S0 := Lib.hid (And.intro hb h0)
  clear hB hM hE hl hf hb h0 hR
  go_enter Try.func32, Try.ntmps32
  go_wp2_with fail
  go_loopg [14] rs.length (fun g v14 wr => ∃ k : Nat, v14 = .int .i64 k ∧ k ≤ rs.length ∧ g = rs.length - k ∧ Below w0.heap.size w0 wr ∧ R k wr)
  case atStart => exact ⟨0, rfl, Nat.zero_le _, rfl, S0.out.1, S0.out.2⟩
  case round =>
    obtain ⟨k, rfl, hk, hg, hb, hr⟩ := hrel
    by_cases hkn : k = rs.length
    · have j1 : decide (k < rs.length) = false := decide_eq_false (by omega)
      have FIN := Lib.hid (And.intro hb (show R rs.length wr by rw [← hkn]; exact hr))
      clear hk hg hb hr hkn
      go_wp2_with fail
      go_end0
      exact ⟨rfl, FIN.out⟩
    · have hlt : k < rs.length := by omega
      obtain ⟨x, hx⟩ : ∃ x, rs[k]? = some x := ⟨_, List.getElem?_eq_getElem hlt⟩
      obtain ⟨ad, rfl, d0, d1, d2⟩ := sl_cell3 mvC_len HO.out.1 hb hx (by omega)
      unfold mvC at d0 d1 d2
      simp only [List.getElem?_cons_zero, List.getElem?_cons_succ] at d0 d1 d2
      obtain ⟨Ao, co, eo, _⟩ := (HO.out.2.1 x (List.mem_of_getElem? hx)).len
      rw [eo] at d2
      have a5 := below_alloc1 wr (.cells #[txt x.2.op, .int .i64 x.2.at_, .slice Ao x.2.outs.length co] 43)
      have b5 := hb.trans (a5.mono hb.size)
      have CF := HO.out.2.2.2.1 k x _ hx b5 (HO.out.2.2.2.2 k _ _ hr a5)
      rw [eo] at CF
      have j1 : (k : Int) < (rs.length : Int) := by omega
      have j2 : (0 : Int) ≤ (k : Int) := by omega
      have wk : IntKind.i64.wrap ((k : Int) + 1) = (k : Int) + 1 := IntWalk.i64_in _ (by have := HO.out.2.2.1; omega)
      have HK := Lib.hid (And.intro hlt (And.intro hg b5))
      by_cases q : x.2.op = op
      · have C1 := Lib.hid (CF.1 q)
        have HQ := Lib.hid q
        clear hkn hlt hk hg hb hr hx eo a5 b5 CF q
        have q2 : (x.2.op == op) = true := beq_iff_eq.mpr HQ.out
        go_wp2_with (go_at_call 35; (refine C1.out.mono ?_); rintro e w1 ⟨rfl, hb1, hr1⟩; have H1 := Lib.hid (And.intro hb1 hr1); clear hb1 hr1)
        go_roundg (rs.length - (k + 1))
        case measure => have := HK.out.1; have := HK.out.2.1; omega
        case rel => exact ⟨k + 1, by push_cast; rfl, HK.out.1, rfl, H1.out⟩
      · have C1 := Lib.hid (CF.2 q)
        have t1 : (x.2.op == op) = false := beq_eq_false_iff_ne.mpr q
        clear hkn hlt hk hg hb hr hx eo a5 b5 CF q
        go_wp2_with fail
        go_roundg (rs.length - (k + 1))
        case measure => have := HK.out.1; have := HK.out.2.1; omega
        case rel => exact ⟨k + 1, by push_cast; rfl, HK.out.1, rfl, HK.out.2.2, C1.out⟩
end Go.Proofs.Ytgfenklcelfkiaa
