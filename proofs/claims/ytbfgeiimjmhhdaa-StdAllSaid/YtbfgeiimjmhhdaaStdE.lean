/-
  The walk of the reference's states. (Template: by-name.py fills it.)
-/
import Derived.Test.YtbfgeiimjmhhdaaStdD
namespace Go.Proofs.Ytbfgeiimjmhhdaa
open Go.RowKit

/-- States of names, the last one final. -/
def stS (L : List (List UInt8)) : List Sta := L.mapIdx fun i s => (⟨s, decide (i + 1 = L.length)⟩ : Sta)
theorem stS_len (L : List (List UInt8)) : (stS L).length = L.length := by unfold stS; simp
theorem stS_next {L : List (List UInt8)} {k : Nat} {x : List UInt8} (h : L[k]? = some x) : (stS L).take (k + 1) = (stS L).take k ++ [⟨x, decide (k + 1 = L.length)⟩] := by
  rw [List.take_add_one]
  unfold stS
  rw [List.getElem?_mapIdx, h]
  rfl
theorem reads_twoS (w : World) (x y : Value) (ty : TypeId) : Reads (w.alloc (.cells #[x, y] ty)) (w.heap.size + 1) 2 (some ⟨w.heap.size, 0, none⟩) 1 [x, y] := by
  refine ⟨rfl, fun _ => ⟨_, rfl, by simp, fun j u hu => ?_⟩⟩
  have e : (⟨w.heap.size, 0, none⟩ : Addr).add j = ⟨w.heap.size, j, none⟩ := by unfold Addr.add; split <;> simp_all
  rw [e, (Blk.start w #[x, y] ty).cell j]
  simpa using hu
set_option maxRecDepth 10000 in
set_option maxHeartbeats 8000000 in
theorem rstates_any (w : World) (B : Nat) (A : Option Addr) (c : Nat) (L : List (List UInt8)) (h : w.ownsRow B 9 1 (.slice A L.length c) L.length (L.map txt)) (hl : L.length ≤ 1000) (hB : B ≤ w.heap.size) :
    Calls Try.prog 11 #[.slice A L.length c] w fun e w' => ∃ v, e = .returned v ∧ w'.ownsRow B 33 2 v (stS L).length (rowC stC (stS L)) ∧ Below w.heap.size w w' := by
  obtain ⟨i0, hi, hz0, hz1, hz2⟩ := info_parts info_State
  have HO := Lib.hid (And.intro h (And.intro hl hB))
  clear h hl hB
  go_enter Try.func11, Try.ntmps11
  go_wp2_with fail
  go_loopg [3, 4] L.length (fun g v3 v4 wr => ∃ k : Nat, v4 = .int .i64 k ∧ k ≤ L.length ∧ g = L.length - k ∧ wr.ownsRow w.heap.size 33 2 v3 k (rowC stC ((stS L).take k)) ∧ Below w.heap.size w wr)
  case atStart => exact ⟨0, rfl, Nat.zero_le _, rfl, World.ownsRow_nil _ _ _ _, Below.refl _ _⟩
  case round =>
    obtain ⟨k, rfl, hk, hg, hT, hb⟩ := hrel
    by_cases hkn : k = L.length
    · have j1 : decide (k < L.length) = false := decide_eq_false (by omega)
      have FIN := Lib.hid (show wr.ownsRow B 33 2 u3 (stS L).length (rowC stC (stS L)) ∧ Below w.heap.size w wr by
        rw [hkn, ← stS_len L, List.take_length] at hT
        exact ⟨own_lessS hT HO.out.2.2, hb⟩)
      clear hk hg hT hb hkn
      go_wp2_with fail
      go_ret
      exact ⟨_, rfl, FIN.out⟩
    · have hlt : k < L.length := by omega
      obtain ⟨x, hx⟩ : ∃ x, L[k]? = some x := ⟨_, List.getElem?_eq_getElem hlt⟩
      have hown := ownRow_below HO.out.1 hb
      obtain ⟨g, cp, e3, _⟩ := World.ownsRow.form hown (by omega)
      injection e3 with e3 _ e4
      subst e3 e4
      have d0 := (World.ownsRow.cellAt hown k (by omega)).trans (show (L.map txt)[k]? = some (txt x) by rw [List.getElem?_map, hx]; rfl)
      have nx := stS_next hx
      obtain ⟨A3, c3, e3⟩ := own_shape hT
      subst e3
      have wl : IntKind.i64.wrap ((L.length : Int) - 1) = (L.length : Int) - 1 := IntWalk.i64_in _ (by have := HO.out.2.1; omega)
      obtain ⟨F, hF⟩ : ∃ F, F = decide (k + 1 = L.length) := ⟨_, rfl⟩
      have tq : ((k : Int) == (L.length : Int) - 1) = F := by
        rw [hF]
        by_cases q : k + 1 = L.length
        · rw [decide_eq_true q, beq_iff_eq]; omega
        · rw [decide_eq_false q, beq_eq_false_iff_ne]; omega
      rw [← hF] at nx
      have j1 : (k : Int) < (L.length : Int) := by omega
      have j2 : (0 : Int) ≤ (k : Int) := by omega
      have wk : IntKind.i64.wrap ((k : Int) + 1) = (k : Int) + 1 := IntWalk.i64_in _ (by have := HO.out.2.1; omega)
      have HK := Lib.hid (And.intro hlt (And.intro hg (And.intro nx (And.intro hb hT))))
      have OWN : (wr.alloc (.cells #[txt x, .bool F] 33)).ownsRow w.heap.size 33 2 (.slice A3 k c3) k (rowC stC ((stS L).take k)) := ownRow_below hT (below_alloc1 wr _)
      clear hkn hlt hk hg hx hF nx hown hb hT
      go_wp2_with (at_builtin; (refine wpList_append_any _ rfl _ _ 27 rfl _ 33 i0 (.agg #[.string ⟨#[]⟩, .bool false]) 2 24 Try.underlying27 hi hz0 hz1 hz2 rfl (by decide) _ k (rowC stC ((stS L).take k)) rfl OWN (wr.heap.size + 1) (some ⟨wr.heap.size, 0, none⟩) 1 1 [txt x, .bool F] rfl (reads_twoS _ _ _ _) ?c2 ?c3 ?c4 ?c5 ?_))
      case c2 => exact ⟨rfl, rfl⟩
      case c3 => have := HK.out.1; have := HO.out.2.1; unfold maxLen; omega
      case c4 => have := HK.out.1; have := HO.out.2.1; omega
      case c5 => have := HK.out.2.2.2.1.size; omega
      intro v9 w3 hown hgrow hlies
      have NX := Lib.hid (And.intro hown (((HK.out.2.2.2.1.trans ((below_alloc1 wr _).mono HK.out.2.2.2.1.size))).trans (grown_below_of hgrow (by rw [World.size_alloc]; have := HK.out.2.2.2.1.size; omega) (fun q hq => (HK.out.2.2.2.2.lt q hq).1))))
      clear hown hgrow hlies OWN
      go_wp2_with fail
      go_roundg (L.length - (k + 1))
      case measure => have := HK.out.1; have := HK.out.2.1; omega
      case rel =>
        refine ⟨k + 1, by push_cast; rfl, HK.out.1, rfl, ?_, NX.out.2⟩
        rw [HK.out.2.2.1, rowC_append]
        exact NX.out.1
end Go.Proofs.Ytbfgeiimjmhhdaa
