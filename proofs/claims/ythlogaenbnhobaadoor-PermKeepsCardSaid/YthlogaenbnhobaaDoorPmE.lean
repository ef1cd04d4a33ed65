/-
  Package perm's Split where it does not refuse. (Template: by-name.py fills it; gen/genPmE.py writes it.)
-/
import Derived.Test.YthlogaenbnhobaaDoorPmD
import Derived.Deep.CutRange
namespace Go.Proofs.YthlogaenbnhobaaDoor
open Go.RowKit

/-! ### A region that makes a fraction -/
section
variable {wq w1 w2 wo wA wr : World} {p q : Addr} {x y : Value} {A : Prop} {ty : TypeId} {c : Nat} {m d e : Int}
theorem keep_anyP (hb : Below w1.heap.size w1 w2) (h : w1.cell? p = some x) : w2.cell? p = some x := (hb.cell (World.block_lt_of_cell? _ _ h)).trans h
def StabP (P : World → Prop) : Prop := ∀ w1 w2 : World, Below w1.heap.size w1 w2 → P w1 → P w2
theorem stab_cellP (p : Addr) (x : Value) : StabP fun w => w.cell? p = some x := fun _ _ hb h => keep_anyP hb h
theorem stab_andP {P Q : World → Prop} (hp : StabP P) (hq : StabP Q) : StabP fun w => P w ∧ Q w := fun _ _ hb h => ⟨hp _ _ hb h.1, hq _ _ hb h.2⟩
theorem stab_belowP (wq : World) : StabP fun w => Below wq.heap.size wq w := fun _ _ hb h => h.trans (hb.mono h.size)
theorem stab2P {P : World → Prop} (hp : StabP P) {wo : World} {o : Obj} (h : P wo.drew) : P (wo.alloc o).drew := hp _ _ (below_alloc1 wo.drew o) h
/-- A fraction's room that a region has made. -/
structure HoleP (wA wr : World) (c : Nat) : Prop where
  hc : c = wA.heap.size
  k0 : wr.cell? ⟨c, 0, none⟩ = some (.int .i64 0)
  k1 : wr.cell? ⟨c, 1, none⟩ = some (.int .i64 0)
  l0 : wr.frozen? ⟨c, 0, none⟩ = false
  l1 : wr.frozen? ⟨c, 1, none⟩ = false
  lt : c < wr.heap.size
  below : Below wA.heap.size wA wr
theorem HoleP.start (wA : World) (ty : TypeId) : HoleP wA (wA.alloc (.cells #[.int .i64 0, .int .i64 0] ty)) wA.heap.size where
  hc := rfl
  k0 := by go_simp
  k1 := by go_simp
  l0 := by go_simp
  l1 := by go_simp
  lt := by simp
  below := below_alloc1 _ _
theorem HoleP.keep (h : HoleP wA wr c) (hb : Below wr.heap.size wr w2) : HoleP wA w2 c :=
  have z := hb.size
  have l := h.lt
  ⟨h.hc, keep_cell hb l h.k0, keep_cell hb l h.k1, keep_free hb l h.l0, keep_free hb l h.l1, by omega, h.below.trans (hb.mono h.below.size)⟩
theorem HoleP.fill (h : HoleP wA wr c) (p q : Int) : Below wA.heap.size wA ((wr.setCell ⟨c, 0, none⟩ (.int .i64 p)).setCell ⟨c, 1, none⟩ (.int .i64 q)) ∧ RatAt ((wr.setCell ⟨c, 0, none⟩ (.int .i64 p)).setCell ⟨c, 1, none⟩ (.int .i64 q)) c p q := by
  have hc := h.hc
  refine ⟨(h.below.setCell (p := ⟨c, 0, none⟩) (by show wA.heap.size ≤ c; omega) _).setCell (p := ⟨c, 1, none⟩) (by show wA.heap.size ≤ c; omega) _, ?_, ?_, by simpa [World.setCell] using h.lt⟩
  · rw [World.cell?_setCell_other _ _ _ _ (show (⟨c, 1, none⟩ : Addr) ≠ ⟨c, 0, none⟩ by simp), World.cell?_setCell_same _ _ _ h.k0]
  · exact World.cell?_setCell_same _ _ _ (by rw [World.cell?_setCell_other _ _ _ _ (show (⟨c, 0, none⟩ : Addr) ≠ ⟨c, 1, none⟩ by simp)]; exact h.k1)
theorem holeP_of (_ : A ∧ Below wq.heap.size wq (wA.alloc (.cells #[.int .i64 0, .int .i64 0] ty))) : HoleP wA (wA.alloc (.cells #[.int .i64 0, .int .i64 0] ty)) wA.heap.size := HoleP.start wA ty
theorem holeP_of2 (_ : A ∧ Below wq.heap.size wq (wo.alloc (.cells #[.int .i64 0, .int .i64 0] ty)).drew) : HoleP wo.drew (wo.alloc (.cells #[.int .i64 0, .int .i64 0] ty)).drew wo.heap.size := HoleP.start wo.drew ty
/-- What the region leaves: a fraction in a block of its own. -/
def MidP (wq : World) (m d : Int) (v : Value) (wx : World) : Prop := ∃ c, v = .pointer (some ⟨c, 0, none⟩) ∧ RatAt wx c m d ∧ Below wq.heap.size wq wx
theorem pmid_alloc (h : Below wq.heap.size wq wA) (ty : TypeId) : MidP wq m d (.pointer (some ⟨wA.heap.size, 0, none⟩)) (wA.alloc (.cells #[.int .i64 m, .int .i64 d] ty)) :=
  ⟨_, rfl, RatAt.start wA m d ty, h.trans ((below_alloc1 _ _).mono h.size)⟩
theorem pmid_fill (h : Below wq.heap.size wq wA) (hc : HoleP wA wr c) : MidP wq m d (.pointer (some ⟨c, 0, none⟩)) ((wr.setCell ⟨c, 0, none⟩ (.int .i64 m)).setCell ⟨c, 1, none⟩ (.int .i64 d)) :=
  ⟨_, rfl, (hc.fill m d).2, h.trans ((hc.fill m d).1.mono h.size)⟩
end

/-- What Split answers: E, E2: what the products of the part and of the rest say. -/
def splitV (rk p u v E u2 v2 E2 r s : Int) : Value := if E = 0 then if E2 = 0 then .tuple #[permV rk u2 v2 r s, permV p u v r s, .int .i64 0] else noSplit E2 else noSplit E

set_option maxRecDepth 10000 in
set_option maxHeartbeats 4000000 in
theorem split_good (k n d r s p i : Int) {x : Int} {y : Nat} (v : Valid x y) (h0 : 0 < x) (h1 : x < y) (w : World) (ht : RestTab w) (hk : (restK k p != -1) = true) (hs : keptB k p i = true) (x2 pu pv E qu qv E2 : Int)
    (mu : ∀ w, Calls Tryd.prog 14 #[ratV n d, ratV x y] w fun e w' => e = .returned (.tuple #[ratV pu pv, .int .i64 E]) ∧ Below w.heap.size w w')
    (sb : ∀ w, Calls Tryd.prog 15 #[ratV 1 1, ratV x y] w fun e w' => e = .returned (.tuple #[ratV x2 y, .int .i64 0]) ∧ Below w.heap.size w w')
    (mu2 : ∀ w, Calls Tryd.prog 14 #[ratV n d, ratV x2 y] w fun e w' => e = .returned (.tuple #[ratV qu qv, .int .i64 E2]) ∧ Below w.heap.size w w') :
    Calls Tryd.prog 7 #[permV k n d r s, .int .i64 p, ratV x y, .int .u32 i] w fun e w' => e = .returned (splitV (restK k p) p pu pv E qu qv E2 r (keptS k s p i)) ∧ Below w.heap.size w w' := by
  have H1 := SpB.start w k n d r s x y 28 25
  generalize hw1 : (((w.alloc (.cells (permC k n d r s) 28)).alloc (.cells #[.int .i64 x, .int .i64 y] 25)).alloc (.cells (permC 0 0 0 0 0) 28)).alloc (.cells (permC 0 0 0 0 0) 28) = w1 at *
  have KI := Lib.hid (kindOf_any k p w1 (ht.below H1.2.2.2.2))
  have KE := Lib.hid (fun w => kept_any k n d r s p i w)
  have PY := Lib.hid (fun w => part_yes v h0 h1 w)
  have SB := Lib.hid sb
  obtain ⟨⟨c0, c1, c2, c3, c4⟩, _⟩ := five_cells H1.1
  have HH := Lib.hid H1
  have hmf : ∀ (fn : Fn) (first cap : Array Value) (w : World), (Instr.makeFunc fn first cap).run Tryd.prog w = .ok (.func fn first cap) w := fun _ _ _ _ => rfl
  clear H1 ht v h0 h1 sb
  rw [hk] at KI
  rw [hs] at KE
  clear hk hs
  generalize restK k p = rk at *
  generalize keptS k s p i = ks at *
  generalize (y : Int) = y at *
  have CU := Lib.hid (fun (w' : World) (bs : Nat) (hP : Blk w' w.heap.size (permC k n d r s)) (hS : Blk w' bs #[.int .u32 ks]) => cut_any p x y k n d r s ks pu pv E w.heap.size bs w' hP hS mu)
  have CV := Lib.hid (fun (w' : World) (bs : Nat) (hP : Blk w' w.heap.size (permC k n d r s)) (hS : Blk w' bs #[.int .u32 ks]) => cut_any rk x2 y k n d r s ks qu qv E2 w.heap.size bs w' hP hS mu2)
  clear mu mu2
  generalize hZ : splitV rk p pu pv E qu qv E2 r ks = Z at *
  have HZ := Lib.hid hZ
  clear hZ
  go_enter Tryd.func7, Tryd.ntmps7
  go_upto_region 2 with (go_at_call 10; (with_reducible refine KI.out.mono ?_); rintro e w2 ⟨rfl, rfl⟩)
  go_upto_region 3 with (go_at_call 11; (with_reducible refine (KE.out _).mono ?_); rintro e w3 ⟨rfl, hb⟩)
  have H4 := HH.out.keep (hb.trans ((below_alloc1 w3 (.cells #[.int .u32 ks] 26)).mono hb.size))
  have S4 := Blk.start w3 #[.int .u32 ks] 26
  clear hb HH c0 c1 c2 c3 c4
  generalize w3.alloc (.cells #[.int .u32 ks] 26) = w4 at *
  generalize w3.heap.size = bs at *
  have r0 : w4.cell? ⟨w.heap.size + 1, 0, none⟩ = some (.int .i64 x) := H4.2.1.cell 0
  have r1 : w4.cell? ⟨w.heap.size + 1, 1, none⟩ = some (.int .i64 y) := H4.2.1.cell 1
  have H4 := Lib.hid H4
  have S4 := Lib.hid S4
  go_upto_region 5 with (go_at_call 12; (with_reducible refine (PY.out _).mono ?_); rintro e w5 ⟨rfl, hb⟩)
  have H5 := Lib.hid (H4.out.keep hb)
  have S5 := Lib.hid (S4.out.keep hb)
  clear r0 r1 H4 S4 hb PY
  have r0 : w5.cell? ⟨w.heap.size + 1, 0, none⟩ = some (.int .i64 x) := H5.out.2.1.cell 0
  have r1 : w5.cell? ⟨w.heap.size + 1, 1, none⟩ = some (.int .i64 y) := H5.out.2.1.cell 1
  have P5 := H5.out.1
  go_upto_region 7 with (go_at_call 13; (with_reducible refine (CU.out w5 bs P5 S5.out).mono ?_); rintro e w6 ⟨rfl, hb⟩)
  have lt6 : w.heap.size + 1 + 1 + 1 < w6.heap.size := (H5.out.2.2.2.1.keep hb).lt
  have a7 := hb.trans ((below_alloc1 w6 (.cells (permC p pu pv r ks) 28)).mono hb.size)
  have H7 := Lib.hid (H5.out.keep a7)
  have S7 := Lib.hid (S5.out.keep a7)
  have T7 := Lib.hid (Blk.start w6 (permC p pu pv r ks) 28)
  clear r0 r1 H5 S5 P5 hb a7 CU
  generalize w6.alloc (.cells (permC p pu pv r ks) 28) = wq at *
  generalize w6.heap.size = bt at *
  by_cases hE : E = 0
  · subst hE
    have r0 : wq.cell? ⟨w.heap.size + 1, 0, none⟩ = some (.int .i64 x) := H7.out.2.1.cell 0
    have r1 : wq.cell? ⟨w.heap.size + 1, 1, none⟩ = some (.int .i64 y) := H7.out.2.1.cell 1
    go_upto_region 9 with fail
    go_cut [18, 19] from 61 to 66 (fun v18 v19 wx => v19 = .int .i64 0 ∧ MidP wq x2 y v18 wx)
    case first =>
      have STB := Lib.hid (show StabP (fun w' => (w'.cell? ⟨w.heap.size + 1, 0, none⟩ = some (.int .i64 x) ∧ w'.cell? ⟨w.heap.size + 1, 1, none⟩ = some (.int .i64 y)) ∧ Below wq.heap.size wq w') from stab_andP (stab_andP (stab_cellP _ _) (stab_cellP _ _)) (stab_belowP wq))
      have HS : (fun w' => (w'.cell? ⟨w.heap.size + 1, 0, none⟩ = some (.int .i64 x) ∧ w'.cell? ⟨w.heap.size + 1, 1, none⟩ = some (.int .i64 y)) ∧ Below wq.heap.size wq w') wq.drew := ⟨⟨r0, r1⟩, below_drew _⟩
      dsimp only at HS
      clear r0 r1
      refine wp_region_noPanic ?_
      refine wp_region_held_drew (S := (fun w' => (w'.cell? ⟨w.heap.size + 1, 0, none⟩ = some (.int .i64 x) ∧ w'.cell? ⟨w.heap.size + 1, 1, none⟩ = some (.int .i64 y)) ∧ Below wq.heap.size wq w')) (by kernel_rfl) HS (fun hHeld => ?_)
      clear HS
      refine tk 1 rfl ?_
      (try simp only [cl, Act.put])
      refine wpAnyH_ready (rs := [0, 6]) (by kernel_rfl) (by simp) (AllReadyH.cons (o := _) rfl (fun K hK => ?_) (AllReadyH.cons (o := _) rfl (fun K hK => ?_) AllReadyH.nil))
      rotate_left
      go_simp
      (first | refine hK.out _ _ (stab2P STB.out (by with_reducible assumption)) (fun hH2 => ?_) | refine hK.out _ _ (STB.out _ _ (below_alloc1 _ _) (by with_reducible assumption)) (fun hH2 => ?_))
      clear hK K
      (try dsimp only at hH2)
      (first | have HC := Lib.hid (holeP_of hH2) | have HC := Lib.hid (holeP_of2 hH2))
      have hHeld0 := Lib.hid hHeld
      clear hHeld
      have hHeld := hH2
      clear hH2
      (try simp only [cl, Act.put])
      refine rd 0 rfl fun K hK => ?_
      rotate_right
      all_goals
        go_simp
        (first
          | (go_at_call 9; (with_reducible refine (number_any 1 _).mono ?_); rintro e5 w5 ⟨rfl, hb⟩; (try have HC := Lib.hid (HC.out.keep hb)))
          | (go_at_call 15; (with_reducible refine (SB.out _).mono ?_); rintro e6 w6 ⟨rfl, hb⟩; (try have HC := Lib.hid (HC.out.keep hb))))
        go_wp2_with fail
        refine hK.out _ _ (STB.out _ _ hb (by with_reducible assumption)) (fun hH2 => ?_)
        clear hK K hHeld hb; have hHeld := hH2; clear hH2
        (try simp only [cl, Act.put])
      all_goals (try (have _ := HC.out; refine rd 2 rfl fun K hK => ?_))
      refine wpAnyH_ready (rs := [2, 6]) (by kernel_rfl) (by simp) (AllReadyH.cons (o := _) rfl (fun K hK => ?_) (AllReadyH.cons (o := _) rfl (fun K hK => ?_) AllReadyH.nil))
      rotate_left
      go_simp
      (first | refine hK.out _ _ (stab2P STB.out (by with_reducible assumption)) (fun hH2 => ?_) | refine hK.out _ _ (STB.out _ _ (below_alloc1 _ _) (by with_reducible assumption)) (fun hH2 => ?_))
      clear hK K
      (try dsimp only at hH2)
      (first | have HC := Lib.hid (holeP_of hH2) | have HC := Lib.hid (holeP_of2 hH2))
      have hHeld0 := Lib.hid hHeld
      clear hHeld
      have hHeld := hH2
      clear hH2
      (try simp only [cl, Act.put])
      refine rd 2 rfl fun K hK => ?_
      rotate_right
      all_goals
        go_simp
        (first
          | (go_at_call 9; (with_reducible refine (number_any 1 _).mono ?_); rintro e5 w5 ⟨rfl, hb⟩; (try have HC := Lib.hid (HC.out.keep hb)))
          | (go_at_call 15; (with_reducible refine (SB.out _).mono ?_); rintro e6 w6 ⟨rfl, hb⟩; (try have HC := Lib.hid (HC.out.keep hb))))
        go_wp2_with fail
        refine hK.out _ _ (STB.out _ _ hb (by with_reducible assumption)) (fun hH2 => ?_)
        clear hK K hHeld hb; have hHeld := hH2; clear hH2
        (try simp only [cl, Act.put])
      all_goals
        refine tk 3 rfl ?_
        refine tk 4 rfl ?_
        refine tk 5 rfl ?_
        (try simp only [cl, Act.put])
      refine rd 6 rfl fun K hK => ?_
      go_simp
      (first | refine hK.out _ _ (stab2P STB.out (by with_reducible assumption)) (fun hH2 => ?_) | refine hK.out _ _ (STB.out _ _ (below_alloc1 _ _) (by with_reducible assumption)) (fun hH2 => ?_))
      clear hK K
      (try dsimp only at hH2)
      (first | have HC := Lib.hid (holeP_of hH2) | have HC := Lib.hid (holeP_of2 hH2))
      have hHeld0 := Lib.hid hHeld
      clear hHeld
      have hHeld := hH2
      clear hH2
      (try simp only [cl, Act.put])
      all_goals
        refine rd 7 rfl fun K hK => ?_
        obtain ⟨h7, h0, h1, h2, h3, h4, h8⟩ := HC.out
        clear h7 h8
        go_simp
        clear h0 h1 h2 h3 h4
        (first
          | refine hK.out _ _ (STB.out _ _ (below_alloc1 _ _) hHeld0.out) (fun hH2 => ?_)
          | refine hK.out _ _ (STB.out _ _ (HC.out.fill _ _).1 hHeld0.out) (fun hH2 => ?_))
        clear hK K hHeld
        (try dsimp only at hH2)
        have hHeld := hH2
        clear hH2
        (try simp only [cl, Act.put])
        refine tk 8 rfl ?_
        (try simp only [cl, Act.put])
        refine wpAnyH_done (by kernel_rfl) ?_ _
        refine NoPanic.normal ?_
        go_wp2_with fail
        go_meet
        case rel => first | exact ⟨rfl, pmid_alloc hHeld0.out.2 25⟩ | exact ⟨rfl, pmid_fill hHeld0.out.2 HC.out⟩

    case rest =>
      obtain ⟨rfl, c, rfl, hR, hb⟩ := hcut
      have H8 := Lib.hid (H7.out.keep hb)
      have S8 := Lib.hid (S7.out.keep hb)
      have T8 := Lib.hid (T7.out.keep hb)
      clear r0 r1 H7 S7 T7 hb
      have r0 := hR.k0
      have r1 := hR.k1
      clear hR
      have P8 := H8.out.1
      go_upto_region 11 with (go_at_call 13; (with_reducible refine (CV.out _ bs P8 S8.out).mono ?_); rintro e w9 ⟨rfl, hb⟩)
      have a9 := hb.trans ((below_alloc1 w9 (.cells (permC rk qu qv r ks) 28)).mono hb.size)
      have H9 := Lib.hid (H8.out.keep a9)
      have T9 := Lib.hid (T8.out.keep a9)
      have V9 := Lib.hid (Blk.start w9 (permC rk qu qv r ks) 28)
      clear r0 r1 H8 S8 P8 T8 hb a9 CV SB KI KE
      generalize w9.alloc (.cells (permC rk qu qv r ks) 28) = wv at *
      generalize w9.heap.size = bv at *
      by_cases hE : E2 = 0
      · subst hE
        have hz : Z = .tuple #[permV rk qu qv r ks, permV p pu pv r ks, .int .i64 0] := by rw [← HZ.out]; unfold splitV; rw [if_pos rfl, if_pos rfl]
        go_upto_region 13 with fail
        obtain ⟨_, _, A4, B4, L4⟩ := H9.out
        obtain ⟨⟨v0, v1, v2, v3, v4⟩, _⟩ := five_cells V9.out
        obtain ⟨⟨t0, t1, t2, t3, t4⟩, _⟩ := five_cells T9.out
        obtain ⟨⟨q0, q1, q2, q3, q4⟩, _⟩ := five_cells (put5_past T9.out.drew (b := w.heap.size + 1 + 1) (by omega) (.int .i64 rk) (.int .i64 qu) (.int .i64 qv) (.int .i64 r) (.int .u32 ks))
        clear H9 T9 V9 HZ
        have AA := Lib.hid (put5_past (put5 A4 (.int .i64 rk) (.int .i64 qu) (.int .i64 qv) (.int .i64 r) (.int .u32 ks)) (b := w.heap.size + 1 + 1 + 1) (by omega) (.int .i64 p) (.int .i64 pu) (.int .i64 pv) (.int .i64 r) (.int .u32 ks))
        have BB := Lib.hid (put5 (put5_past B4 (b := w.heap.size + 1 + 1) (by omega) (.int .i64 rk) (.int .i64 qu) (.int .i64 qv) (.int .i64 r) (.int .u32 ks)) (.int .i64 p) (.int .i64 pu) (.int .i64 pv) (.int .i64 r) (.int .u32 ks))
        have LL := Lib.hid (put5_below (put5_below L4 (b := w.heap.size + 1 + 1) (by omega) (.int .i64 rk) (.int .i64 qu) (.int .i64 qv) (.int .i64 r) (.int .u32 ks)) (b := w.heap.size + 1 + 1 + 1) (by omega) (.int .i64 p) (.int .i64 pu) (.int .i64 pv) (.int .i64 r) (.int .u32 ks))
        obtain ⟨⟨z0, z1, z2, z3, z4⟩, f0, f1, f2, f3, f4⟩ := five_cells A4
        obtain ⟨⟨y0, y1, y2, y3, y4⟩, g0, g1, g2, g3, g4⟩ := five_cells B4
        clear A4 B4 L4
        go_region
        go_wp2_with fail
        generalize ((((((((((wv.setCell ⟨w.heap.size + 1 + 1, 0, none⟩ (.int .i64 rk)).setCell ⟨w.heap.size + 1 + 1, 1, none⟩ (.int .i64 qu)).setCell ⟨w.heap.size + 1 + 1, 2, none⟩ (.int .i64 qv)).setCell ⟨w.heap.size + 1 + 1, 3, none⟩ (.int .i64 r)).setCell ⟨w.heap.size + 1 + 1, 4, none⟩ (.int .u32 ks)).setCell ⟨w.heap.size + 1 + 1 + 1, 0, none⟩ (.int .i64 p)).setCell ⟨w.heap.size + 1 + 1 + 1, 1, none⟩ (.int .i64 pu)).setCell ⟨w.heap.size + 1 + 1 + 1, 2, none⟩ (.int .i64 pv)).setCell ⟨w.heap.size + 1 + 1 + 1, 3, none⟩ (.int .i64 r)).setCell ⟨w.heap.size + 1 + 1 + 1, 4, none⟩ (.int .u32 ks)) = wz at *
        obtain ⟨⟨a0, a1, a2, a3, a4⟩, _⟩ := five_cells AA.out.drew
        obtain ⟨⟨b0, b1, b2, b3, b4⟩, _⟩ := five_cells BB.out.drew
        exact bodyPost_ret (v := .tuple #[permV rk qu qv r ks, permV p pu pv r ks, .int .i64 0]) (by simp [results, Tryd.results7, go_sem, a0, a1, a2, a3, a4, b0, b1, b2, b3, b4]) rfl ⟨hz.symm ▸ rfl, LL.out.drew⟩

      · have ne : (E2 != 0) = true := by simpa using hE
        have hz : Z = noSplit E2 := by rw [← HZ.out]; unfold splitV; rw [if_pos rfl, if_neg hE]
        obtain ⟨_, _, A4, B4, L4⟩ := H9.out
        clear H9 T9 V9 HZ hE
        have AA := Lib.hid (put5_past (put5 A4 (.int .i64 0) (.int .i64 0) (.int .i64 0) (.int .i64 0) (.int .u32 0)) (b := w.heap.size + 1 + 1 + 1) (by omega) (.int .i64 0) (.int .i64 0) (.int .i64 0) (.int .i64 0) (.int .u32 0))
        have BB := Lib.hid (put5 (put5_past B4 (b := w.heap.size + 1 + 1) (by omega) (.int .i64 0) (.int .i64 0) (.int .i64 0) (.int .i64 0) (.int .u32 0)) (.int .i64 0) (.int .i64 0) (.int .i64 0) (.int .i64 0) (.int .u32 0))
        have LL := Lib.hid (put5_below (put5_below L4 (b := w.heap.size + 1 + 1) (by omega) (.int .i64 0) (.int .i64 0) (.int .i64 0) (.int .i64 0) (.int .u32 0)) (b := w.heap.size + 1 + 1 + 1) (by omega) (.int .i64 0) (.int .i64 0) (.int .i64 0) (.int .i64 0) (.int .u32 0))
        obtain ⟨⟨z0, z1, z2, z3, z4⟩, f0, f1, f2, f3, f4⟩ := five_cells A4
        obtain ⟨⟨y0, y1, y2, y3, y4⟩, g0, g1, g2, g3, g4⟩ := five_cells B4
        clear A4 B4 L4
        go_wp2_with fail
        generalize ((((((((((wv.setCell ⟨w.heap.size + 1 + 1, 0, none⟩ (.int .i64 0)).setCell ⟨w.heap.size + 1 + 1, 1, none⟩ (.int .i64 0)).setCell ⟨w.heap.size + 1 + 1, 2, none⟩ (.int .i64 0)).setCell ⟨w.heap.size + 1 + 1, 3, none⟩ (.int .i64 0)).setCell ⟨w.heap.size + 1 + 1, 4, none⟩ (.int .u32 0)).setCell ⟨w.heap.size + 1 + 1 + 1, 0, none⟩ (.int .i64 0)).setCell ⟨w.heap.size + 1 + 1 + 1, 1, none⟩ (.int .i64 0)).setCell ⟨w.heap.size + 1 + 1 + 1, 2, none⟩ (.int .i64 0)).setCell ⟨w.heap.size + 1 + 1 + 1, 3, none⟩ (.int .i64 0)).setCell ⟨w.heap.size + 1 + 1 + 1, 4, none⟩ (.int .u32 0)) = wz at *
        obtain ⟨⟨a0, a1, a2, a3, a4⟩, _⟩ := five_cells AA.out
        obtain ⟨⟨b0, b1, b2, b3, b4⟩, _⟩ := five_cells BB.out
        exact bodyPost_ret (v := noSplit E2) (by simp [results, Tryd.results7, go_sem, a0, a1, a2, a3, a4, b0, b1, b2, b3, b4]) rfl ⟨hz.symm ▸ rfl, LL.out⟩


  · have ne : (E != 0) = true := by simpa using hE
    have hz : Z = noSplit E := by rw [← HZ.out]; unfold splitV; rw [if_neg hE]
    obtain ⟨_, _, A4, B4, L4⟩ := H7.out
    clear H7 S7 T7 HZ hE CV SB KI KE
    have AA := Lib.hid (put5_past (put5 A4 (.int .i64 0) (.int .i64 0) (.int .i64 0) (.int .i64 0) (.int .u32 0)) (b := w.heap.size + 1 + 1 + 1) (by omega) (.int .i64 0) (.int .i64 0) (.int .i64 0) (.int .i64 0) (.int .u32 0))
    have BB := Lib.hid (put5 (put5_past B4 (b := w.heap.size + 1 + 1) (by omega) (.int .i64 0) (.int .i64 0) (.int .i64 0) (.int .i64 0) (.int .u32 0)) (.int .i64 0) (.int .i64 0) (.int .i64 0) (.int .i64 0) (.int .u32 0))
    have LL := Lib.hid (put5_below (put5_below L4 (b := w.heap.size + 1 + 1) (by omega) (.int .i64 0) (.int .i64 0) (.int .i64 0) (.int .i64 0) (.int .u32 0)) (b := w.heap.size + 1 + 1 + 1) (by omega) (.int .i64 0) (.int .i64 0) (.int .i64 0) (.int .i64 0) (.int .u32 0))
    obtain ⟨⟨z0, z1, z2, z3, z4⟩, f0, f1, f2, f3, f4⟩ := five_cells A4
    obtain ⟨⟨y0, y1, y2, y3, y4⟩, g0, g1, g2, g3, g4⟩ := five_cells B4
    clear A4 B4 L4
    go_wp2_with fail
    generalize ((((((((((wq.setCell ⟨w.heap.size + 1 + 1, 0, none⟩ (.int .i64 0)).setCell ⟨w.heap.size + 1 + 1, 1, none⟩ (.int .i64 0)).setCell ⟨w.heap.size + 1 + 1, 2, none⟩ (.int .i64 0)).setCell ⟨w.heap.size + 1 + 1, 3, none⟩ (.int .i64 0)).setCell ⟨w.heap.size + 1 + 1, 4, none⟩ (.int .u32 0)).setCell ⟨w.heap.size + 1 + 1 + 1, 0, none⟩ (.int .i64 0)).setCell ⟨w.heap.size + 1 + 1 + 1, 1, none⟩ (.int .i64 0)).setCell ⟨w.heap.size + 1 + 1 + 1, 2, none⟩ (.int .i64 0)).setCell ⟨w.heap.size + 1 + 1 + 1, 3, none⟩ (.int .i64 0)).setCell ⟨w.heap.size + 1 + 1 + 1, 4, none⟩ (.int .u32 0)) = wz at *
    obtain ⟨⟨a0, a1, a2, a3, a4⟩, _⟩ := five_cells AA.out
    obtain ⟨⟨b0, b1, b2, b3, b4⟩, _⟩ := five_cells BB.out
    exact bodyPost_ret (v := noSplit E) (by simp [results, Tryd.results7, go_sem, a0, a1, a2, a3, a4, b0, b1, b2, b3, b4]) rfl ⟨hz.symm ▸ rfl, LL.out⟩

end Go.Proofs.YthlogaenbnhobaaDoor
