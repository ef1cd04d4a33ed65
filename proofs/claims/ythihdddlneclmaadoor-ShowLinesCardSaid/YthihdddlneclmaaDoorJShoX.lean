/-
  The walk of protoPart's closure. (Template: by-name.py fills it; gen/genShoX.py writes it.)
-/
import Derived.Test.YthihdddlneclmaaDoorJShoR
namespace Go.Proofs.YthihdddlneclmaaDoor
open Go.RowKit

theorem pairsT_at : ∀ (r : List Txt) (k : Nat) (x : Txt), (pairsT r)[k]? = some x → ∃ u v, r[2 * k]? = some u ∧ r[2 * k + 1]? = some v ∧ x = u ++ [32] ++ v
  | [], k, x, h => by simp [pairsT] at h
  | [a], k, x, h => by simp [pairsT] at h
  | a :: b :: r, 0, x, h => by
    simp [pairsT] at h
    exact ⟨a, b, rfl, rfl, by simp [h]⟩
  | a :: b :: r, k + 1, x, h => by
    rw [pairsT, List.getElem?_cons_succ] at h
    obtain ⟨u, v, h1, h2, h3⟩ := pairsT_at r k x h
    exact ⟨u, v, by rw [show 2 * (k + 1) = 2 * k + 1 + 1 by omega]; exact h1, by rw [show 2 * (k + 1) + 1 = 2 * k + 1 + 1 + 1 by omega]; exact h2, h3⟩
theorem pairsT_len : ∀ (r : List Txt), (pairsT r).length = r.length / 2
  | [] => by simp [pairsT]
  | [_] => by simp [pairsT]
  | a :: b :: r => by
    rw [pairsT, List.length_cons, pairsT_len r]
    simp only [List.length_cons]
    omega
theorem reads_drop {w0 : World} {a : Addr} {n b : Nat} {l : List Value} (h : Reads w0 b 1 (some a) n l) (k : Nat) (hk : k < n) : Reads w0 b 1 (some (a.add k)) (n - k) (l.drop k) := by
  obtain ⟨h1, h2⟩ := h
  obtain ⟨ad, e, hb, hc⟩ := h2 (by omega)
  injection e with e
  subst e
  refine ⟨by rw [List.length_drop, h1]; omega, fun _ => ⟨a.add k, rfl, by rw [block_of_add]; exact hb, fun i v hv => ?_⟩⟩
  rw [List.getElem?_drop] at hv
  rw [add_of_add]
  exact hc _ _ hv
theorem hold_part {w0 W : World} {b2 b4 bp c m m1 : Nat} {A : Addr} {r : List Txt} {u v : Txt} (h2 : TBlk W b2 31 #[ptrV bp]) (h4 : TBlk W b4 27 #[.slice (some A) r.length c]) (hb : Below w0.heap.size w0 W) (hR : Reads w0 w0.heap.size 1 (some A) r.length (r.map txt)) (hu : r[m]? = some u) (hv : r[m1]? = some v) :
    (W.cell? ⟨b2, 0, none⟩ = some (ptrV bp) ∧ W.cell? ⟨b4, 0, none⟩ = some (.slice (some A) r.length c) ∧ W.cell? (A.add m) = some (txt u) ∧ W.cell? (A.add m1) = some (txt v)) ∧ TBlk W b2 31 #[ptrV bp] ∧ TBlk W b4 27 #[.slice (some A) r.length c] ∧ Below w0.heap.size w0 W :=
  ⟨⟨one_cell h2, one_cell h4, word_at hR hb hu (List.getElem?_eq_some_iff.1 hu).1, word_at hR hb hv (List.getElem?_eq_some_iff.1 hv).1⟩, h2, h4, hb⟩
set_option maxRecDepth 10000 in
set_option maxHeartbeats 8000000 in
theorem part1_any (w0 w : World) (bp dp b2 b4 : Nat) (t : Txt) (vn : Value) (A : Addr) (c : Nat) (r : List Txt) (k : Nat) (u v : Txt) (h : PrS w0 w bp t dp vn)
    (hB2 : TBlk w b2 31 #[ptrV bp]) (hB4 : TBlk w b4 27 #[.slice (some A) r.length c])
    (hR : Reads w0 w0.heap.size 1 (some A) r.length (r.map txt)) (hm : r.length ≤ maxLen) (hu : r[2 * k]? = some u) (hv : r[2 * k + 1]? = some v) (hl : t.length + (u ++ [32] ++ v).length + 10000 ≤ 140737488355328) :
    Calls Tryd.prog 27 #[.int .i64 (k : Int), ptrV b2, ptrV b4] w fun e w' => e = .returned (.tuple #[]) ∧ PrS w0 w' bp (t ++ (u ++ [32] ++ v)) dp vn ∧ Fr w w' bp := by
  obtain ⟨m, em⟩ : ∃ m, m = 2 * k := ⟨_, rfl⟩
  obtain ⟨m1, em1⟩ : ∃ m1, m1 = m + 1 := ⟨_, rfl⟩
  rw [← em] at hu
  rw [← em, ← em1] at hv
  have lm := (List.getElem?_eq_some_iff.1 hv).1
  have e9 : maxLen = 9223372036854775807 := rfl
  have w1 : IntKind.i64.wrap (2 * (k : Int)) = (m : Int) := (IntWalk.i64_in _ (by omega)).trans (by omega)
  have w2 : IntKind.i64.wrap ((m : Int) + 1) = (m1 : Int) := (IntWalk.i64_in _ (by omega)).trans (by omega)
  have i0 : (0 : Int) ≤ (m : Int) := by omega
  have i1 : (m : Int) < (r.length : Int) := by omega
  have i2 : (0 : Int) ≤ (m1 : Int) := by omega
  have i3 : (m1 : Int) < (r.length : Int) := by omega
  simp only [List.length_append, List.length_cons, List.length_nil] at hl
  have P1 := h.keep (below_drw w)
  have AD := Lib.hid (add3_any w0 w.drew bp dp t vn u [32] v P1 (by simp only [List.length_cons, List.length_nil]; omega))
  have HX := Lib.hid (And.intro h (And.intro hB2 (And.intro hB4 (And.intro hR (And.intro hu hv)))))
  have hb0 := h.below
  have HS := hold_part (hB2.keep (below_drw w)) (hB4.keep (below_drw w)) P1.below hR hu hv
  clear em em1 lm e9 hl P1 h hB2 hB4 hR hm hu hv hb0
  go_enter Tryd.func27, Tryd.ntmps27
  go_upto_region 0 with fail
  refine wp_region_noPanic ?_
  refine wp_region_held_drew (S := fun W : World => (W.cell? ⟨b2, 0, none⟩ = some (ptrV bp) ∧ W.cell? ⟨b4, 0, none⟩ = some (.slice (some A) r.length c) ∧ W.cell? (A.add m) = some (txt u) ∧ W.cell? (A.add m1) = some (txt v)) ∧ TBlk W b2 31 #[ptrV bp] ∧ TBlk W b4 27 #[.slice (some A) r.length c] ∧ Below w0.heap.size w0 W) (by kernel_rfl) HS (fun hHeld => ?_)
  clear HS
  refine tk 0 rfl ?_
  refine tk 1 rfl ?_
  refine tk 2 rfl ?_
  refine tk 3 rfl ?_
  refine tk 4 rfl ?_
  refine tk 5 rfl ?_
  refine tk 6 rfl ?_
  refine tk 7 rfl ?_
  refine tk 8 rfl ?_
  refine tk 9 rfl ?_
  refine tk 10 rfl ?_
  refine tk 11 rfl ?_
  refine tk 12 rfl ?_
  refine tk 13 rfl ?_
  (try simp only [cl, Act.put])
  refine rd 14 rfl fun K hK => ?_
  go_simp
  refine hK.out _ _ ?_ (fun hH2 => ?_)
  · exact hold_part (hHeld.2.1.keep (below_alloc1 _ _)) (hHeld.2.2.1.keep (below_alloc1 _ _)) (hHeld.2.2.2.trans ((below_alloc1 _ _).mono hHeld.2.2.2.size)) HX.out.2.2.2.1 HX.out.2.2.2.2.1 HX.out.2.2.2.2.2
  clear hK K hHeld; have hHeld := hH2; clear hH2
  (try simp only [cl, Act.put])
  refine rd 15 rfl fun K hK => ?_
  go_simp
  go_at_call 15
  refine AD.out.mono ?_
  rintro e w9 ⟨rfl, hp, hf⟩
  have H9 := Lib.hid (And.intro hp ((Fr.of_below bp (below_drw w)).trans hf))
  have hb := hp.below
  clear hp hf
  go_wp2_with fail
  refine hK.out _ _ (hold_part (H9.out.2.at_ _ _ _ (box_off HX.out.1 HX.out.2.1 (by decide)) (by decide) HX.out.2.1) (H9.out.2.at_ _ _ _ (box_off HX.out.1 HX.out.2.2.1 (by decide)) (by decide) HX.out.2.2.1) (H9.out.1.below) HX.out.2.2.2.1 HX.out.2.2.2.2.1 HX.out.2.2.2.2.2) (fun hH2 => ?_)
  clear hK K hHeld hb; have hHeld := hH2; clear hH2
  (try simp only [cl, Act.put])
  refine wpAnyH_done (by kernel_rfl) ?_ _
  refine NoPanic.normal ?_
  clear hHeld
  go_wp2_with fail
  go_end0
  exact ⟨rfl, H9.out⟩
end Go.Proofs.YthihdddlneclmaaDoor
