/-
  The walks of package auto's has, finals, ending and stuck. (Template: by-name.py fills it.)
-/
import Derived.Test.YtgfenklcelfkiaaAutH
import Derived.Laws.BitsAllLaws
namespace Go.Proofs.Ytgfenklcelfkiaa
open Go.RowKit

theorem bit_eq (s k : Nat) (hs : s < 4294967296) : (bits .and .u32 ((s : Int) / 2 ^ k) 1 == 1) = s.testBit k := by
  have e : (s : Int) / 2 ^ k = ((s / 2 ^ k : Nat) : Int) := by norm_cast
  have hl : s / 2 ^ k < 4294967296 := Nat.lt_of_le_of_lt (Nat.div_le_self _ _) hs
  rw [e, show (1 : Int) = ((1 : Nat) : Int) from rfl, u32_and_nat _ _ hl (by omega), Nat.and_one_is_mod, Nat.testBit_eq_decide_div_mod_eq]
  by_cases q : s / 2 ^ k % 2 = 1
  · rw [decide_eq_true q, q]; rfl
  · rw [decide_eq_false q, show s / 2 ^ k % 2 = 0 by omega]; rfl
theorem pow_lt32 {k : Nat} (hk : k < 32) : 2 ^ k < 4294967296 := by
  have : 2 ^ k ≤ 2 ^ 31 := Nat.pow_le_pow_right (by omega) (by omega)
  omega
theorem shl_eq {k : Nat} (hk : k < 32) : IntKind.u32.wrap (2 ^ k) = ((2 ^ k : Nat) : Int) := by
  have := pow_lt32 hk
  rw [IntKind.wrap_u32']
  have e : (2 : Int) ^ k = ((2 ^ k : Nat) : Int) := by norm_cast
  rw [e]
  generalize 2 ^ k = m at *
  omega
theorem or_eq {s k : Nat} (hs : s < 4294967296) (hk : k < 32) : bits .or .u32 (s : Int) ((2 : Int) ^ k) = ((s ||| 2 ^ k : Nat) : Int) := by
  have e : (2 : Int) ^ k = ((2 ^ k : Nat) : Int) := by norm_cast
  rw [e]
  exact u32_or_nat s _ hs (pow_lt32 hk)
set_option maxHeartbeats 1000000 in
theorem has_any (w : World) (s k : Nat) (hs : s < 4294967296) (hk : k ≤ 16) :
    Calls Try.prog 41 #[.int .u32 (s : Int), .int .i64 (k : Int)] w fun e w' => e = .returned (.bool (s.testBit k)) ∧ w = w' := by
  have i0 : (0 : Int) ≤ (k : Int) := by omega
  have i1 : (k : Int) ≤ 32 := by omega
  have HB := Lib.hid (bit_eq s k hs)
  clear hs hk
  go_enter Try.func41, Try.ntmps41
  go_wp2_with fail
  go_ret
  exact ⟨by rw [← HB.out]; rfl, rfl⟩
theorem setF_small {f : Nat → Bool} {n : Nat} (hn : n ≤ 16) : setF f n < 4294967296 := by
  have := setF_lt f n
  have : 2 ^ n ≤ 2 ^ 16 := Nat.pow_le_pow_right (by omega) hn
  omega
set_option maxHeartbeats 4000000 in
theorem finals_any (w : World) (vs vm : Value) (p : Pro) (h : ProAt w vs vm p) (hn : p.states.length ≤ 16) :
    Calls Try.prog 31 #[proV vs vm p] w fun e w' => e = .returned (.int .u32 (finalS p : Nat)) ∧ Below w.heap.size w w' := by
  obtain ⟨As, cs, rfl, hls, hls2, hS, _⟩ := h.states
  have a1 := below_alloc1 w (.cells #[txt p.name, .slice As p.states.length cs, vm] 25)
  have B1 := Blk.start w #[txt p.name, .slice As p.states.length cs, vm] 25
  have c1 := B1.cell 1
  simp only [List.getElem?_toArray, List.getElem?_cons_zero, List.getElem?_cons_succ] at c1
  unfold finalS
  have HS := Lib.hid (And.intro hS (And.intro a1 hn))
  obtain ⟨n, hl⟩ : ∃ n, n = p.states.length := ⟨_, rfl⟩
  rw [← hl] at c1 HS ⊢
  have HL := Lib.hid hl
  clear h hls hls2 hS a1 B1 hn hl
  go_enter Try.func31, Try.ntmps31
  go_wp2_with fail
  go_loopg [3, 9] n (fun g v3 v9 wr => ∃ k : Nat, v9 = .int .i64 k ∧ v3 = .int .u32 (setF (finalAt p) k : Nat) ∧ k ≤ n ∧ g = n - k ∧ Below w.heap.size w wr)
  case atStart => exact ⟨0, rfl, rfl, Nat.zero_le _, rfl, HS.out.2.1⟩
  case round =>
    obtain ⟨k, rfl, rfl, hk, hg, hb⟩ := hrel
    by_cases hkn : k = n
    · subst hkn
      have FIN := Lib.hid hb
      clear hk hg hb
      go_wp2_with fail
      go_ret
      exact ⟨rfl, FIN.out⟩
    · have hlt : k < n := by omega
      obtain ⟨x, hx⟩ : ∃ x, p.states[k]? = some x := ⟨_, List.getElem?_eq_getElem (by have := HL.out; omega)⟩
      obtain ⟨ad, rfl, d0, d1⟩ := sl_cell2 stC_len HS.out.1 hb hx (by omega)
      have hq : finalAt p k = x.final := by unfold finalAt; rw [hx]
      unfold stC at d0 d1
      simp only [List.getElem?_cons_zero, List.getElem?_cons_succ] at d0 d1
      have i1 : (k : Int) < (n : Int) := by omega
      have i2 : (0 : Int) ≤ (k : Int) := by omega
      have i3 : (k : Int) ≤ 32 := by have := HS.out.2.2; omega
      have wk : IntKind.i64.wrap ((k : Int) + 1) = (k : Int) + 1 := IntWalk.i64_in _ (by have := HS.out.2.2; omega)
      have sh := shl_eq (k := k) (by have := HS.out.2.2; omega)
      have ho := Lib.hid <| or_eq (s := setF (finalAt p) k) (k := k) (setF_small (by have := HS.out.2.2; omega)) (by have := HS.out.2.2; omega)
      have HK := Lib.hid (And.intro hlt (And.intro hg (And.intro hb hq)))
      have hs1 : setF (finalAt p) (k + 1) = if x.final then setF (finalAt p) k ||| 2 ^ k else setF (finalAt p) k := by rw [setF, hq]
      have HS1 := Lib.hid hs1
      clear hkn hlt hk hg hb hx hq hs1
      generalize x.final = B at *
      cases B
      · go_wp2_with fail
        go_roundg (n - (k + 1))
        case measure => have := HK.out.1; have := HK.out.2.1; omega
        case rel => exact ⟨k + 1, by push_cast; rfl, by rw [HS1.out]; rfl, HK.out.1, rfl, HK.out.2.2.1.trans ((below_alloc1 _ _).mono HK.out.2.2.1.size)⟩
      · go_wp2_with fail
        go_roundg (n - (k + 1))
        case measure => have := HK.out.1; have := HK.out.2.1; omega
        case rel => exact ⟨k + 1, by push_cast; rfl, by rw [ho.out, HS1.out]; rfl, HK.out.1, rfl, HK.out.2.2.1.trans ((below_alloc1 _ _).mono HK.out.2.2.1.size)⟩
/-! ### ending -/
set_option maxHeartbeats 1000000 in
theorem end1_any (w : World) (b s : Nat) (o : Ou) (h : Blk w b #[.int .u32 (s : Int)]) (hs : s < 4294967296) (ho : 0 ≤ o.to ∧ o.to ≤ 16) :
    Calls Try.prog 68 #[.agg #[txt o.name, .int .i64 o.to], .pointer (some ⟨b, 0, none⟩)] w fun e w' => e = .returned (.bool (s.testBit o.to.toNat)) ∧ Below w.heap.size w w' := by
  obtain ⟨nm, z⟩ := o
  dsimp only at ho ⊢
  obtain ⟨k, rfl⟩ : ∃ k : Nat, z = k := ⟨z.toNat, by omega⟩
  have a1 := below_alloc1 w (.cells #[txt nm, .int .i64 (k : Int)] 69)
  have B1 := Blk.start w #[txt nm, .int .i64 (k : Int)] 69
  have c0 := B1.cell 1
  have c1 := (h.keep a1).cell 0
  simp only [List.getElem?_toArray, List.getElem?_cons_zero, List.getElem?_cons_succ] at c0 c1
  have HH := Lib.hid (fun (wr : World) => has_any wr s k hs (by omega))
  have HA := Lib.hid a1
  rw [Int.toNat_natCast]
  clear h hs ho a1 B1
  generalize s.testBit k = B at *
  go_enter Try.func68, Try.ntmps68
  go_wp2_with (go_at_call 41; (with_reducible refine (HH.out _).mono ?_); rintro e w1 ⟨rfl, rfl⟩)
  go_ret
  exact ⟨rfl, HA.out⟩
end Go.Proofs.Ytgfenklcelfkiaa
