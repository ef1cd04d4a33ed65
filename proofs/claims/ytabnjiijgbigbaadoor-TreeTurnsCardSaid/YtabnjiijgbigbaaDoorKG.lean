/-
  A slice of nodes among the arguments, none of its slices too long for a machine. (Template: by-name.py fills it.)
-/
import Derived.Test.YtabnjiijgbigbaaDoorKC
import Derived.Test.YtabnjiijgbigbaaDoorJTroN
import Derived.Test.YtabnjiijgbigbaaDoorKX
import Derived.Test.YtabnjiijgbigbaaDoorRows
import Derived.ProofKit
import Derived.Below
import Derived.Lib.SmallJoins
import Derived.OpenShut
import Derived.WalkKit
import Derived.ChangeSlices
import Derived.SliceStrings
import Derived.Deep.Slices
import Derived.SizedLaws
namespace Go.Proofs.YtabnjiijgbigbaaDoor
open Go.RowKit

theorem linked_inside {ns : List Nd} (h : LinkedP ns) : Inside ns := fun i d hd => (h.2 i d hd).2
/-- A listed node, its cells and its slices. -/
theorem node_full {w : World} {v : Value} {ns : List Nd} (hN : NodesAt w v ns) {q : Nat} (hq : q < ns.length) : ∃ (d : Nd) (ad : Addr) (cp : Nat) (B1 B2 B3 : Option Addr) (e1 e2 e3 : Nat), ns[q]? = some d ∧ v = .slice (some ad) ns.length cp ∧ NdAt w ((.slice B1 d.words.length e1, .slice B2 d.nums.length e2, .slice B3 d.kids.length e3), d) ∧ ∀ wr : World, Below w.heap.size w wr →
    wr.cell? (ad.add (q * 5)) = some (.int .i64 d.kind) ∧ wr.cell? ⟨(ad.add (q * 5)).block, (ad.add (q * 5)).off + 1, none⟩ = some (.slice B1 d.words.length e1) ∧ wr.cell? ⟨(ad.add (q * 5)).block, (ad.add (q * 5)).off + 2, none⟩ = some (.slice B2 d.nums.length e2) ∧ wr.cell? ⟨(ad.add (q * 5)).block, (ad.add (q * 5)).off + 3, none⟩ = some (.slice B3 d.kids.length e3) ∧ wr.cell? ⟨(ad.add (q * 5)).block, (ad.add (q * 5)).off + 4, none⟩ = some (.int .i64 d.pos) := by
  obtain ⟨A, c, rs, rfl, g2, g3, g4, g5, g6⟩ := hN
  obtain ⟨y, hy⟩ : ∃ y, rs[q]? = some y := ⟨_, List.getElem?_eq_getElem (by have := congrArg List.length g4; rw [List.length_map] at this; omega)⟩
  have hd : ns[q]? = some y.2 := by rw [← g4, List.getElem?_map, hy]; rfl
  obtain ⟨ad, rfl, _⟩ := nodes_cells g5 (Below.refl _ _) hy (by omega)
  have hn := g6 y (List.mem_of_getElem? hy)
  obtain ⟨⟨B1, e1, h1, j1⟩, ⟨B2, e2, h2, j2⟩, B3, e3, h3, j3⟩ := id hn
  refine ⟨y.2, ad, c, B1, B2, B3, e1, e2, e3, hd, rfl, ⟨⟨B1, e1, rfl, j1⟩, ⟨B2, e2, rfl, j2⟩, B3, e3, rfl, j3⟩, fun wr hb => ?_⟩
  obtain ⟨ad', e, d0, d1, d2, d3, d4⟩ := nodes_cells g5 hb hy (by omega)
  injection e with e
  subst e
  rw [h1] at d1
  rw [h2] at d2
  rw [h3] at d3
  exact ⟨d0, d1, d2, d3, d4⟩
set_option maxHeartbeats 8000000 in
theorem rright_any (w : World) (v : Value) (ns : List Nd) (hN : NodesAt w v ns) (hs : SizedN ns) :
    Calls Tryd.prog 6 #[v] w fun e w' => OkB (rightN ns = true) e ∧ Below w.heap.size w w' := by
  obtain ⟨A, c, rfl⟩ : ∃ A c, v = .slice A ns.length c := by obtain ⟨A, c, _, e, _⟩ := hN; exact ⟨A, c, e⟩
  by_cases q : 1500 < ns.length
  · have tq : (1500 : Int) < (ns.length : Int) := by omega
    clear hN hs q
    go_enter Tryd.func6, Tryd.ntmps6
    go_wp2_with fail
    go_ret
    exact ⟨ok_no, Below.refl _ _⟩
  · have tq : ¬ (1500 : Int) < (ns.length : Int) := by omega
    have tq2 : (ns.length : Int) ≤ 1500 := by omega
    have LI := Lib.hid (rlinked_any w _ ns hN (by omega) hs)
    have HN := Lib.hid (And.intro hN (And.intro hs q))
    have D0 := Lib.hid (fun (h0 : 0 < ns.length) => node_full hN h0)
    have DE := Lib.hid (fun (h : LinkedP ns) => rdeep_any w _ ns hN hs (linked_inside h) ns.length 0 (by omega) h.1 (by omega))
    clear hN hs q
    go_enter Tryd.func6, Tryd.ntmps6
    go_wp2_with (go_at_call 12; (with_reducible refine LI.out.mono ?_); rintro e1 w1 ⟨⟨b, rfl, hq⟩, rfl⟩; have HQ := Lib.hid hq; clear hq; cases b)
    · go_ret
      exact ⟨ok_no, Below.refl _ _⟩
    · have hL := HQ.out trivial
      have h1 := hL.1
      have tz : (0 : Int) < (ns.length : Int) := by omega
      obtain ⟨d, ad, cp, B1, B2, B3, e1, e2, e3, hd, ev, hI, hc⟩ := D0.out h1
      injection ev with ea _ ec
      subst ea ec
      obtain ⟨m0, m1, m2, m3, m4⟩ := hc _ (Below.refl _ _)
      rw [show ad.add (0 * 5) = ad by unfold Addr.add; simp] at m0
      have HL := Lib.hid (And.intro hL hd)
      have DE1 := Lib.hid (DE.out hL)
      clear hL hd hI hc m1 m2 m3 m4 LI HQ
      cases zk : (d.kind == 0)
      · have uk : (d.kind != 0) = true := by rw [bne, zk]; rfl
        go_wp2_with fail
        go_ret
        exact ⟨ok_no, Below.refl _ _⟩
      · have uk : (d.kind != 0) = false := by rw [bne, zk]; rfl
        have K0 := Lib.hid (show kindAt ns 0 = 0 from (kindAt_of (k := 0) HL.out.2).trans (by simpa using zk))
        rw [show (((0 : Nat) : Int)) = 0 from rfl] at DE1
        obtain ⟨hz, hhz⟩ : ∃ hz, hz = htF ns ns.length 0 := ⟨_, rfl⟩
        rw [← hhz] at DE1
        have HZ := Lib.hid hhz
        clear hhz
        by_cases q24 : 24 < hz
        · go_wp2_with (go_at_call 13; (with_reducible refine DE1.out.mono ?_); rintro e2 w2 ⟨rfl, rfl⟩)
          go_ret
          exact ⟨ok_no, Below.refl _ _⟩
        · have q25 : hz ≤ 24 := by omega
          go_wp2_with (go_at_call 13; (with_reducible refine DE1.out.mono ?_); rintro e2 w2 ⟨rfl, rfl⟩)
          clear m0 uk
          go_loopg [3] ns.length (fun gk v3 wr => ∃ j : Nat, v3 = .int .i64 j ∧ j ≤ ns.length ∧ gk = ns.length - j ∧ (ns.take j).all (validB ns) = true ∧ Below w.heap.size w wr)
          case atStart => exact ⟨0, rfl, Nat.zero_le _, rfl, rfl, Below.refl _ _⟩
          case round =>
            obtain ⟨j, rfl, hj, hgk, hall, hb⟩ := hrel
            by_cases hjn : j = ns.length
            · have tj : ¬ (j : Int) < (ns.length : Int) := by omega
              have e : ns.take j = ns := by rw [hjn]; exact List.take_length
              rw [e] at hall
              have FIN := Lib.hid (And.intro (right_ok HL.out.1 (by have := HN.out.2.2; omega) K0.out (by rw [← HZ.out]; exact q25) (fun d hd => List.all_eq_true.mp hall d hd)) hb)
              clear e hall hb hgk hj
              go_wp2_with fail
              go_ret
              exact ⟨ok_yes FIN.out.1, FIN.out.2⟩
            · have hlt : j < ns.length := by omega
              obtain ⟨dj, adj, cpj, B1, B2, B3, e1, e2, e3, hdj, ev, hIj, hcj⟩ := node_full HN.out.1 hlt
              injection ev with ea _ ec
              injection ea with ea
              subst ea ec
              obtain ⟨m0, m1, m2, m3, m4⟩ := hcj _ hb
              have nxt := all_snoc (f := validB ns) hdj hall
              have ND := Lib.hid (rnode_any wr _ ns ((.slice B1 dj.words.length e1, .slice B2 dj.nums.length e2, .slice B3 dj.kids.length e3), dj) (HN.out.1.below hb) (hIj.below hb) (fun k hk => by have := (HL.out.1.2 j dj hdj).2 k hk; omega))
              have tj : (j : Int) < (ns.length : Int) := by omega
              have tj2 : (0 : Int) ≤ (j : Int) := by omega
              have wj : IntKind.i64.wrap ((j : Int) + 1) = (j : Int) + 1 := IntWalk.i64_in _ (by omega)
              have HJ := Lib.hid (And.intro hgk (And.intro hlt (And.intro nxt hb)))
              clear hgk hlt nxt hb hjn hj hall hIj hcj hdj
              obtain ⟨dk, dw, dn, dks, dp⟩ := dj
              unfold ndV at ND
              dsimp only at m0 m1 m2 m3 m4 ND HJ
              go_wp2_with (go_at_call 14; (with_reducible refine ND.out.mono ?_); rintro e2 w2 ⟨⟨b, rfl, hq⟩, hb2⟩; have HQ2 := Lib.hid (And.intro hq hb2); clear hq hb2; cases b)
              · go_ret
                exact ⟨ok_no, HJ.out.2.2.2.trans (HQ2.out.2.mono HJ.out.2.2.2.size)⟩
              · go_roundg (ns.length - (j + 1))
                case measure => have := HJ.out; omega
                case rel => exact ⟨j + 1, by push_cast; rfl, by have := HJ.out; omega, rfl, HJ.out.2.2.1.trans (HQ2.out.1 trivial), HJ.out.2.2.2.trans (HQ2.out.2.mono HJ.out.2.2.2.size)⟩
end Go.Proofs.YtabnjiijgbigbaaDoor

namespace Go.Proofs.YtabnjiijgbigbaaDoor
open Go.RowKit

set_option maxHeartbeats 8000000 in
theorem rsmall_any (w : World) (v : Value) (ns : List Nd) (hN : NodesAt w v ns) :
    Calls Tryd.prog 5 #[v] w fun e w' => OkB True e ∧ Below w.heap.size w w' := by
  obtain ⟨A, c, rfl⟩ : ∃ A c, v = .slice A ns.length c := by obtain ⟨A, c, _, e, _⟩ := hN; exact ⟨A, c, e⟩
  have hm : ns.length ≤ maxLen := by obtain ⟨_, _, _, e, a, b, _⟩ := hN; omega
  have HN := Lib.hid (And.intro hN hm)
  clear hN hm
  go_enter Tryd.func5, Tryd.ntmps5
  go_wp2_with fail
  go_loopg [3, 4] ns.length (fun gk v3 v4 wr => ∃ (z : Int) (i : Nat), v3 = .int .i64 z ∧ v4 = .int .i64 i ∧ i ≤ ns.length ∧ gk = ns.length - i ∧ Below w.heap.size w wr)
  case atStart => exact ⟨_, 0, rfl, rfl, Nat.zero_le _, rfl, Below.refl _ _⟩
  case round =>
    obtain ⟨z, i, rfl, rfl, hi, hgk, hb⟩ := hrel
    by_cases hin : i < ns.length
    · have ti : (i : Int) < (ns.length : Int) := by omega
      by_cases hz : z ≤ 1000
      · obtain ⟨d, ad, cp, B1, B2, B3, e1, e2, e3, hd, ev, hI, hc⟩ := node_full HN.out.1 hin
        injection ev with ea _ ec
        subst ea ec
        obtain ⟨m0, m1, m2, m3, m4⟩ := hc _ hb
        have ti2 : (0 : Int) ≤ (i : Int) := by omega
        have wi : IntKind.i64.wrap ((i : Int) + 1) = (i : Int) + 1 := IntWalk.i64_in _ (by have := HN.out.2; unfold maxLen at this; omega)
        have HI := Lib.hid (And.intro hgk (And.intro hin hb))
        clear hgk hin hb hi hd hI hc
        obtain ⟨dk, dw, dn, dks, dp⟩ := d
        dsimp only at m0 m1 m2 m3 m4
        generalize dw.length = a1 at *
        generalize dn.length = a2 at *
        generalize dks.length = a3 at *
        go_upto_region 5 with fail
        go_region
        all_goals
          go_wp2_with fail
          go_roundg (ns.length - (i + 1))
          case measure => have := HI.out; omega
          case rel => exact ⟨_, i + 1, rfl, by push_cast; rfl, by have := HI.out; omega, rfl, HI.out.2.2.drew⟩
      · have hz2 : 1000 < z := by omega
        have HB := Lib.hid hb
        clear hgk hb hi hin
        go_wp2_with fail
        go_ret
        exact ⟨ok_yes trivial, HB.out⟩
    · have ti : ¬ (i : Int) < (ns.length : Int) := by omega
      have HB := Lib.hid hb
      clear hgk hb hi hin
      go_wp2_with fail
      go_ret
      exact ⟨ok_yes trivial, HB.out⟩
end Go.Proofs.YtabnjiijgbigbaaDoor

namespace Go.Proofs.YtabnjiijgbigbaaDoor
open Go.RowKit

theorem flat_at {α : Type} (f : Int → List α) : ∀ (l : List Int) (i : Nat) (a : α), (l.flatMap f)[i]? = some a → ∃ (o i' : Nat) (c : Int), c ∈ l ∧ i = o + i' ∧ (f c)[i']? = some a ∧ ∀ j b, (f c)[j]? = some b → (l.flatMap f)[o + j]? = some b
  | [], i, a, h => by simp at h
  | c :: r, i, a, h => by
    rw [List.flatMap_cons] at h
    by_cases q : i < (f c).length
    · rw [List.getElem?_append_left q] at h
      exact ⟨0, i, c, List.mem_cons_self, by omega, h, fun j b hj => by
        rw [List.flatMap_cons, Nat.zero_add, List.getElem?_append_left (List.getElem?_eq_some_iff.mp hj).1]
        exact hj⟩
    · rw [List.getElem?_append_right (by omega)] at h
      obtain ⟨o, i', c', h1, h2, h3, h4⟩ := flat_at f r _ a h
      refine ⟨(f c).length + o, i', c', List.mem_cons_of_mem _ h1, by omega, h3, fun j b hj => ?_⟩
      rw [List.flatMap_cons, List.getElem?_append_right (by omega), show (f c).length + o + j - (f c).length = o + j by omega]
      exact h4 j b hj
theorem preF_head (ns : List Nd) : ∀ (d : Nat) (k : Int), (preF ns d k)[0]? = some k
  | 0, k => by rw [preF]; rfl
  | d + 1, k => by rw [preF]; rfl
theorem pre_kids {ns : List Nd} (hI : Inside ns) : ∀ (d k : Nat), k < ns.length → ns.length ≤ k + d + 1 → ∀ (i a : Nat) (e : Nd), (preF ns d (k : Int))[i]? = some (a : Int) → ns[a]? = some e → ∀ c ∈ e.kids, ∃ j, i < j ∧ (preF ns d (k : Int))[j]? = some c
  | 0, k, hk, hn, i, a, e, h, he, c, hc => by
    rw [preF] at h
    obtain ⟨rfl, h⟩ : i = 0 ∧ (k : Int) = a := by
      cases i with
      | zero => exact ⟨rfl, by simpa using h⟩
      | succ i => simp at h
    have := hI a e he c hc
    omega
  | d + 1, k, hk, hn, i, a, e, h, he, c, hc => by
    have hd : ns[k]? = some ns[k] := List.getElem?_eq_getElem hk
    rw [preF, ndAt_of hd] at h ⊢
    cases i with
    | zero =>
      have : (k : Int) = a := by simpa using h
      obtain rfl : k = a := by omega
      obtain rfl : ns[k] = e := Option.some.inj (hd.symm.trans he)
      obtain ⟨n, hn'⟩ := List.mem_iff_getElem?.mp hc
      have hm : c ∈ ns[k].kids.flatMap (preF ns d) := List.mem_flatMap.mpr ⟨c, hc, List.mem_of_getElem? (preF_head ns d c)⟩
      obtain ⟨j, hj⟩ := List.mem_iff_getElem?.mp hm
      exact ⟨j + 1, by omega, by rw [List.getElem?_cons_succ]; exact hj⟩
    | succ i =>
      rw [List.getElem?_cons_succ] at h
      obtain ⟨o, i', c', h1, h2, h3, h4⟩ := flat_at (preF ns d) _ _ _ h
      have hb := hI k _ hd c' h1
      obtain ⟨c'', rfl⟩ : ∃ m : Nat, c' = m := ⟨c'.toNat, by omega⟩
      obtain ⟨j, j1, j2⟩ := pre_kids hI d c'' (by omega) (by omega) i' a e h3 he c hc
      exact ⟨o + j + 1, by omega, by rw [List.getElem?_cons_succ]; exact h4 j c j2⟩
section
variable {ns : List Nd} {p : List Int}
theorem links_inside (L : Links ns ns.length p) : Inside ns := fun i d hd k hk => by
  have := kid_par L hd hk
  omega
theorem pre_all (L : Links ns ns.length p) : ∀ (x : Nat), x < ns.length → (x : Int) ∈ preF ns ns.length ((0 : Nat) : Int) := by
  intro x
  induction x using Nat.strongRecOn with
  | ind x ih =>
    intro hx
    by_cases h0 : x = 0
    · subst h0
      exact List.mem_of_getElem? (preF_head ns _ _)
    · have hp := L.each x (by omega) hx
      obtain ⟨i, d, hi, hd, e, hm⟩ := L.at_ x hp
      have lt := kid_par L hd hm
      obtain ⟨j, hj⟩ := List.mem_iff_getElem?.mp (ih i (by omega) (by omega))
      obtain ⟨j', _, h⟩ := pre_kids (links_inside L) ns.length 0 (by omega) (by omega) j i d hj hd x hm
      exact List.mem_of_getElem? h
theorem pre_count (L : Links ns ns.length p) (hn : 0 < ns.length) : (preF ns ns.length ((0 : Nat) : Int)).length = ns.length := by
  have h1 := pre_len L ns.length 0 hn
  have hnd : ((List.range ns.length).map (fun i : Nat => (i : Int))).Nodup := List.pairwise_map.mpr (List.nodup_range.imp (fun h e => h (by omega)))
  have h2 := List.Nodup.length_le_of_subset (l₂ := preF ns ns.length ((0 : Nat) : Int)) hnd (fun y hy => by
    obtain ⟨x, hx, rfl⟩ := List.mem_map.mp hy
    exact pre_all L x (List.mem_range.mp hx))
  rw [List.length_map, List.length_range] at h2
  omega
end
/-- What a walk's order is. -/
structure Order (ns : List Nd) (W : List Int) : Prop where
  len : W.length = ns.length
  nodup : W.Nodup
  inside : ∀ x ∈ W, 0 ≤ x ∧ x < (ns.length : Int)
  first : W[0]? = some 0
  behind : ∀ (i a : Nat) (e : Nd), W[i]? = some (a : Int) → ns[a]? = some e → ∀ c ∈ e.kids, ∃ j, i < j ∧ W[j]? = some c
  each : ∀ x : Nat, x < ns.length → (x : Int) ∈ W
  kids : Inside ns
theorem walk_order {ns : List Nd} (h : rightN ns = true) : Order ns (walkT ns) ∧ 0 < ns.length ∧ ns.length ≤ 1500 := by
  obtain ⟨p, hp⟩ := right_par h
  have L := parT_links hp
  have f := parT_facts hp
  have e : walkT ns = preF ns ns.length ((0 : Nat) : Int) := by unfold walkT; rw [if_pos h]; rfl
  rw [e]
  exact ⟨⟨pre_count L (by omega), pre_nodup L _ 0 (by omega), fun x hx => by have := pre_up L _ 0 (by omega) x hx; omega, preF_head ns _ _, pre_kids (links_inside L) _ 0 (by omega) (by omega), pre_all L, links_inside L⟩, by omega, by omega⟩
/-- The places of the first ones. -/
def plK (W : List Int) (n : Nat) : Nat → List Int
  | 0 => List.replicate n 0
  | j + 1 => (plK W n j).set ((W[j]?).getD 0).toNat j
theorem plK_len (W : List Int) (n : Nat) : ∀ j, (plK W n j).length = n
  | 0 => List.length_replicate
  | j + 1 => by rw [plK, List.length_set, plK_len W n j]
section
variable {ns : List Nd} {W : List Int}
theorem plK_new (O : Order ns W) : ∀ (j : Nat), j ≤ W.length → ∀ x : Nat, x < ns.length → (∀ i, i < j → W[i]? ≠ some (x : Int)) → (plK W ns.length j)[x]? = some 0
  | 0, _, x, hx, _ => by rw [plK, List.getElem?_replicate, if_pos hx]
  | j + 1, hj, x, hx, h => by
    have hw : W[j]? = some W[j] := List.getElem?_eq_getElem (by omega)
    have hi := O.inside _ (List.mem_of_getElem? hw)
    rw [plK, hw, Option.getD_some, List.getElem?_set_ne (fun e => h j (by omega) (by rw [hw]; congr 1; omega))]
    exact plK_new O j (by omega) x hx (fun i hi => h i (by omega))
theorem plK_old (O : Order ns W) : ∀ (j : Nat), j ≤ W.length → ∀ (i x : Nat), i < j → W[i]? = some (x : Int) → (plK W ns.length j)[x]? = some (i : Int)
  | j + 1, hj, i, x, hij, h => by
    have hw : W[j]? = some W[j] := List.getElem?_eq_getElem (by omega)
    have hi := O.inside _ (List.mem_of_getElem? hw)
    have hx := O.inside _ (List.mem_of_getElem? h)
    rw [plK, hw, Option.getD_some]
    by_cases e : i = j
    · subst e
      have : W[i].toNat = x := by rw [hw] at h; have := Option.some.inj h; omega
      rw [this, List.getElem?_set_self (by rw [plK_len]; omega)]
    · have ne : W[j].toNat ≠ x := fun q => e ((List.getElem?_inj (by omega) O.nodup).mp (h.trans (by rw [hw]; congr 1; omega)))
      rw [List.getElem?_set_ne ne]
      exact plK_old O j (by omega) i x (by omega) h
theorem pl_rises (O : Order ns W) {a c : Nat} {e : Nd} (he : ns[a]? = some e) (hc : (c : Int) ∈ e.kids) : ∃ i j : Nat, (plK W ns.length ns.length)[a]? = some (i : Int) ∧ (plK W ns.length ns.length)[c]? = some (j : Int) ∧ (i : Int) < j := by
  obtain ⟨i, hi⟩ := List.mem_iff_getElem?.mp (O.each a (List.getElem?_eq_some_iff.mp he).1)
  obtain ⟨j, hij, hj⟩ := O.behind i a e hi he _ hc
  have il := (List.getElem?_eq_some_iff.mp hi).1
  have jl := (List.getElem?_eq_some_iff.mp hj).1
  have ol := O.len
  exact ⟨i, j, plK_old O _ (by omega) i a (by omega) hi, plK_old O _ (by omega) j c (by omega) hj, by omega⟩
end
end Go.Proofs.YtabnjiijgbigbaaDoor

namespace Go.Proofs.YtabnjiijgbigbaaDoor
open Go.RowKit

end Go.Proofs.YtabnjiijgbigbaaDoor

namespace Go.Proofs.YtabnjiijgbigbaaDoor
open Go.RowKit Go.WideShapes Go.ChangeShapes Go.ChangeAt Go.Joins

section
variable {H : Type} {enc : TypeId × Value → H} {P : Program}
theorem post_of_below {f : Func} {s : ChangeSpec} {apart fresh handsOn again : Bool} {W W' : World} {args : Array Value} {v : Value} {ds gs : List (DataW H)} {before pa pv : List MemPlace}
    (hW : DataW.Whole enc P f.params.toList s.vars apart W args.toList ds gs before)
    (hres : ∀ (b : Nat) (sp : Nat → Bool) (hd : Bool), DataW.TrodAll enc P W' b sp hd f.resultTypes.toList (v.resultList f.resultTypes.size) (s.fn H (ds ++ gs)).results [])
    (hargs : ∀ sp : Nat → Bool, (∀ p ∈ before, sp p.block = true) → DataW.TrodAll enc P W' 0 sp true f.params.toList args.toList (s.fn H (ds ++ gs)).args pa)
    (hvars : ∀ sp : Nat → Bool, (∀ p ∈ before, sp p.block = true) → DataW.TrodVars enc P W' sp s.vars (s.fn H (ds ++ gs)).vars pv)
    (hps : before = pa ++ pv) (hb : Below W.heap.size W W')
    (hok : ∀ (j : Nat) (t : TypeId) (r : Value), f.resultTypes[j]? = some t → (v.resultList f.resultTypes.size)[j]? = some r → Value.okWide P W' .any 0 t r) :
    s.post enc P f apart fresh handsOn again W args v W' := by
  have hlt : ∀ p ∈ before, p.block < W.heap.size := fun p hp => hW.lt p hp
  have hold : ∀ p ∈ before, (fun b => decide (b < W.heap.size)) p.block = true := fun p hp => by simpa using hlt p hp
  refine ⟨ds, gs, before, [], pa, pv, hW, hres _ _ _, hargs _ hold, hvars _ hold, World.keptBut_mono (fun p hp => ⟨hp, ?_⟩) (hb.frame (· ∈ before)), fun _ => ?_⟩
  · rw [hps, List.mem_append] at hp
    exact Or.inr hp
  · obtain ⟨_, _, _, _, _, hz, hn⟩ := hW
    refine ⟨hok, _, _, ([] ++ pa) ++ pv, ⟨[] ++ pa, pv, trodAll_append (hargs _ (fun _ _ => rfl)) (hres _ _ _), hvars _ (fun _ _ => rfl), rfl, ?_, ?_⟩, ?_⟩
    · intro b off hp
      have hin : MemPlace.cell b off ∈ before := by rw [hps]; simpa using hp
      rw [hb.frozen (hlt _ hin)]
      exact hz b off hin
    · intro ha
      have := hn ha
      rw [hps] at this
      simpa using this
    · intro p hp _
      rw [hps]
      simpa using hp
end

theorem Tryd.own : ownKnob Tryd.prog.godebug = none := by kernel_rfl
end Go.Proofs.YtabnjiijgbigbaaDoor

namespace Go.Proofs.YtabnjiijgbigbaaDoor
open Go.RowKit Go.ChangeShapes Go.WideShapes Go.ChangeAt Go.Joins Go.Deep

theorem weights_all {H : Type} {P : Program} {e : TypeId} : ∀ {ds : List (DataW H)} {d : DataW H}, d ∈ ds → ∀ n ∈ d.weights P e, n ∈ DataW.weightsAll P e ds
  | d0 :: ds, d, hd, n, hn => by
    simp only [DataW.weightsAll, List.mem_append]
    rcases List.mem_cons.mp hd with rfl | hd
    · exact .inl hn
    · exact .inr (weights_all hd n hn)
theorem nodeCells_inv : ∀ (l : List (NdV × Nd)) (j : Nat) (u : Value), (nodeCells l)[j]? = some u → ∃ i x, l[i]? = some x ∧ ((j = i * 5 ∧ u = .int .i64 x.2.kind) ∨ (j = i * 5 + 1 ∧ u = x.1.1) ∨ (j = i * 5 + 2 ∧ u = x.1.2.1) ∨ (j = i * 5 + 3 ∧ u = x.1.2.2) ∨ (j = i * 5 + 4 ∧ u = .int .i64 x.2.pos))
  | [], j, u, h => by simp [nodeCells] at h
  | y :: r, 0, u, h => ⟨0, y, rfl, .inl ⟨rfl, by simpa [nodeCells] using h.symm⟩⟩
  | y :: r, 1, u, h => ⟨0, y, rfl, .inr (.inl ⟨rfl, by simpa [nodeCells] using h.symm⟩)⟩
  | y :: r, 2, u, h => ⟨0, y, rfl, .inr (.inr (.inl ⟨rfl, by simpa [nodeCells] using h.symm⟩))⟩
  | y :: r, 3, u, h => ⟨0, y, rfl, .inr (.inr (.inr (.inl ⟨rfl, by simpa [nodeCells] using h.symm⟩)))⟩
  | y :: r, 4, u, h => ⟨0, y, rfl, .inr (.inr (.inr (.inr ⟨rfl, by simpa [nodeCells] using h.symm⟩)))⟩
  | y :: r, j + 5, u, h => by
    obtain ⟨i, x, hx, hc⟩ := nodeCells_inv r j u (by simpa [nodeCells] using h)
    refine ⟨i + 1, x, by simpa using hx, ?_⟩
    rcases hc with ⟨a, b⟩ | ⟨a, b⟩ | ⟨a, b⟩ | ⟨a, b⟩ | ⟨a, b⟩
    · exact .inl ⟨by omega, b⟩
    · exact .inr (.inl ⟨by omega, b⟩)
    · exact .inr (.inr (.inl ⟨by omega, b⟩))
    · exact .inr (.inr (.inr (.inl ⟨by omega, b⟩)))
    · exact .inr (.inr (.inr (.inr ⟨by omega, b⟩)))
section
variable {H : Type} {enc : TypeId × Value → H} {P : Program} {w : World} {base : Nat} {spare : Nat → Bool} {held : Bool}
theorem open_intsL {t e : TypeId} {fuel : Nat} {c : Value} {x : DataW H × List MemPlace} (ht : P.underlying t = some (.slice e)) (he : P.underlying e = some (.int .i64)) (hc : P.cellsOf e = 1) (hb : P.bytesOf e = 8) (h : DataW.trod enc P w base spare held fuel t [c] = some x) :
    ∃ l, IntsL w c l ∧ ((∀ n ∈ x.1.weights P t, n ≤ reachBytes) → l.length * 8 ≤ reachBytes) := by
  rcases open_ints ht he hc h with ⟨e1, rfl⟩ | ⟨a, len, cap, zs, e1, _, hl, hm, hz, rfl, hat, _⟩
  · obtain rfl : c = .slice none 0 0 := by simpa using e1
    exact ⟨[], IntsL.nil w, fun _ => by simp⟩
  · obtain rfl : c = .slice (some a) len cap := by simpa using e1
    have hlz : len ≤ zs.length := by rw [hz]; split <;> omega
    have hlen : (zs.take len).length = len := by rw [List.length_take]; omega
    refine ⟨zs.take len, ⟨some a, cap, by rw [hlen], by rw [hlen]; exact hl, hm, ?_⟩, fun hw => ?_⟩
    · rw [hlen]
      refine ⟨by rw [List.length_map, hlen, Nat.mul_one], fun hn => ⟨a, rfl, ?_, fun j u hu => ?_⟩⟩
      · have := World.block_lt_of_cell? _ _ (hat 0 (by omega))
        rwa [block_of_add] at this
      · rw [List.getElem?_map] at hu
        cases hq : (zs.take len)[j]? with
        | none => rw [hq] at hu; cases hu
        | some y =>
          rw [hq] at hu
          obtain rfl : Value.int .i64 y = u := by simpa using hu
          have hj : j < len := by
            have := (List.getElem?_eq_some_iff.mp hq).1
            omega
          rw [List.getElem?_take_of_lt hj] at hq
          rw [hat j (by omega), List.getD_eq_getElem?_getD, hq]
          rfl
    · have := hw ((lits (H := H) IntKind.i64 (zs.take len)).length * 8 + (lits (H := H) IntKind.i64 (zs.drop len)).length * 8) (by
        simp only [DataW.weights, ht, hb, List.mem_cons]
        exact .inl (by rw [Nat.add_mul]))
      simp only [lits, List.length_map] at this
      omega
theorem open_strsL {t e : TypeId} {fuel : Nat} {c : Value} {x : DataW H × List MemPlace} (ht : P.underlying t = some (.slice e)) (he : P.underlying e = some .string) (hc : P.cellsOf e = 1) (hb : P.bytesOf e = 16) (h : DataW.trod enc P w base spare held fuel t [c] = some x) :
    ∃ l, StrsL w c l ∧ ((∀ n ∈ x.1.weights P t, n ≤ reachBytes) → l.length * 16 ≤ reachBytes) := by
  rcases open_strings ht he hc h with ⟨e1, rfl⟩ | ⟨a, len, cap, ss, e1, _, hl, hm, hz, rfl, hat, hsz⟩
  · obtain rfl : c = .slice none 0 0 := by simpa using e1
    exact ⟨[], StrsL.nil w, fun _ => by simp⟩
  · obtain rfl : c = .slice (some a) len cap := by simpa using e1
    have hlz : len ≤ ss.length := by rw [hz]; split <;> omega
    have hlen : ((ss.take len).map fun s => s.data.toList).length = len := by rw [List.length_map, List.length_take]; omega
    refine ⟨(ss.take len).map fun s => s.data.toList, ⟨some a, cap, by rw [hlen], by rw [hlen]; exact hl, hm, ?_, fun s hs => ?_⟩, fun hw => ?_⟩
    · rw [hlen]
      refine ⟨by rw [List.length_map, hlen, Nat.mul_one], fun hn => ⟨a, rfl, ?_, fun j u hu => ?_⟩⟩
      · have := World.block_lt_of_cell? _ _ (hat 0 (by omega))
        rwa [block_of_add] at this
      · rw [List.getElem?_map, List.getElem?_map] at hu
        cases hq : (ss.take len)[j]? with
        | none => rw [hq] at hu; cases hu
        | some y =>
          rw [hq] at hu
          obtain rfl : txt y.data.toList = u := by simpa using hu
          have hj : j < len := by
            have := (List.getElem?_eq_some_iff.mp hq).1
            rw [List.length_take] at this
            omega
          rw [List.getElem?_take_of_lt hj] at hq
          rw [hat j (by omega), List.getD_eq_getElem?_getD, hq]
          cases y
          rfl
    · obtain ⟨s', hs', rfl⟩ := List.mem_map.1 hs
      have := hsz s' (List.mem_of_mem_take hs')
      show s'.data.toList.length ≤ maxLen
      rw [Array.length_toList]
      exact this
    · have := hw ((strs (H := H) (ss.take len)).length * 16 + (strs (H := H) (ss.drop len)).length * 16) (by
        simp only [DataW.weights, ht, hb, List.mem_cons]
        exact .inl (by rw [Nat.add_mul]))
      simp only [strs, List.length_map, List.length_take] at this
      rw [hlen]
      omega
end
section
variable {H : Type} {enc : TypeId × Value → H} {w : World} {base : Nat} {spare : Nat → Bool} {held : Bool}
set_option maxRecDepth 10000 in
/-- Five cells that read as a node. -/
theorem open_ncells {fuel : Nat} {cs : List Value} {x : DataW H × List MemPlace} (hl : cs.length = 5) (h : DataW.trod enc Tryd.prog w base spare held fuel 30 cs = some x) :
    ∃ q : NdV × Nd, cs = [.int .i64 q.2.kind, q.1.1, q.1.2.1, q.1.2.2, .int .i64 q.2.pos] ∧ NdAt w q ∧ ((∀ n ∈ x.1.weights Tryd.prog 30, n ≤ reachBytes) → q.2.words.length * 16 ≤ reachBytes ∧ q.2.nums.length * 8 ≤ reachBytes ∧ q.2.kids.length * 8 ≤ reachBytes) := by
  have hC : Tryd.prog.cellsOf 3 = 1 := by kernel_rfl
  have hC2 : Tryd.prog.cellsOf 2 = 1 := by kernel_rfl
  have hC3 : Tryd.prog.cellsOf 9 = 1 := by kernel_rfl
  have hD1 : Tryd.prog.cellsOf 28 = 1 := by kernel_rfl
  have hD2 : Tryd.prog.cellsOf 27 = 1 := by kernel_rfl
  have hD3 : Tryd.prog.cellsOf 26 = 1 := by kernel_rfl
  have hB : Tryd.prog.bytesOf 3 = 8 := by kernel_rfl
  have hB2 : Tryd.prog.bytesOf 2 = 8 := by kernel_rfl
  have hB3 : Tryd.prog.bytesOf 9 = 16 := by kernel_rfl
  match cs, hl with
  | [c0, c1, c2, c3, c4], _ =>
    obtain ⟨xs, n, _, rfl, _, hlen, hg⟩ := DataW.trod_struct Tryd.underlying30 h
    match xs, hlen with
    | [y0, y1, y2, y3, y4], _ =>
      have g0 := hg 0 _ rfl
      have g1 := hg 1 _ rfl
      have g2 := hg 2 _ rfl
      have g3 := hg 3 _ rfl
      have g4 := hg 4 _ rfl
      simp [hC, hD1, hD2, hD3] at g0 g1 g2 g3 g4
      obtain ⟨n0, e0, _, w0⟩ := DataW.trod_int Tryd.underlying3 g0
      obtain ⟨n4, e4, _, w4⟩ := DataW.trod_int Tryd.underlying3 g4
      obtain ⟨l1, s1, b1⟩ := open_strsL Tryd.underlying26 Tryd.underlying9 hC3 hB3 g1
      obtain ⟨l2, s2, b2⟩ := open_intsL Tryd.underlying27 Tryd.underlying2 hC2 hB2 g2
      obtain ⟨l3, s3, b3⟩ := open_intsL Tryd.underlying28 Tryd.underlying3 hC hB g3
      simp only [List.cons.injEq, and_true] at e0 e4
      subst e0 e4
      refine ⟨((c1, c2, c3), ⟨n0, l1, l2, l3, n4⟩), rfl, ⟨s1, s2, s3⟩, fun hw => ?_⟩
      simp only [DataW.weights, Tryd.underlying30, List.map_cons, List.map_nil] at hw
      exact ⟨b1 fun m hm => hw m (DataW.weights_mem_each (j := 1) rfl rfl m hm), b2 fun m hm => hw m (DataW.weights_mem_each (j := 2) rfl rfl m hm), b3 fun m hm => hw m (DataW.weights_mem_each (j := 3) rfl rfl m hm)⟩
theorem ex_lt {α : Type} [Inhabited α] {n : Nat} {p : Nat → α → Prop} (h : ∀ i, i < n → ∃ a, p i a) : ∃ f : Nat → α, ∀ i, i < n → p i (f i) :=
  ⟨fun i => if q : i < n then Classical.choose (h i q) else default, fun i q => by dsimp only; rw [dif_pos q]; exact Classical.choose_spec (h i q)⟩
instance : Inhabited (NdV × Nd) := ⟨((undef, undef, undef), nd0)⟩
set_option maxRecDepth 10000 in
/-- A slice of nodes among the arguments. -/
theorem open_nodes {b0 : Nat} {r : Reach} {v : Value} {d : DataW H} {p : List MemPlace} (hv : Value.okWide Tryd.prog w r b0 22 v) (h : DataW.Trod enc Tryd.prog w base spare held 22 v d p) : ∃ ns, NodesAt w v ns ∧ ((∀ n ∈ d.weights Tryd.prog 22, n ≤ reachBytes) → SizedN ns) := by
  obtain ⟨a, len, cap, rfl⟩ := okWide_slice Tryd.underlying22 hv
  obtain ⟨fuel, hf⟩ := h
  have hC : Tryd.prog.cellsOf 30 = 5 := by kernel_rfl
  rcases open_slice Tryd.underlying22 (by simpa [Value.cells] using hf) with ⟨hc, _⟩ | ⟨ad, len', cap', m, n, D, Pl, hc, hb, hl, hm, hmm, hx, hi⟩
  · obtain ⟨rfl, rfl, rfl⟩ : a = none ∧ len = 0 ∧ cap = 0 := by simpa using hc
    exact ⟨[], NodesAt.nil w, fun _ x hx => by cases hx⟩
  · obtain ⟨rfl, rfl, rfl⟩ : a = some ad ∧ len = len' ∧ cap = cap' := by simpa using hc
    have hlm : len ≤ m := by rw [hmm]; split <;> omega
    rw [hC] at hi
    have hd : d = .slice ((List.range len).map D) ((List.range (m - len)).map fun j => D (len + j)) := (Prod.mk.inj hx).1
    have each : ∀ i, i < len → ∃ q : NdV × Nd, (w.cell? (ad.add (i * 5)) = some (.int .i64 q.2.kind) ∧ w.cell? (ad.add (i * 5 + 1)) = some q.1.1 ∧ w.cell? (ad.add (i * 5 + 2)) = some q.1.2.1 ∧ w.cell? (ad.add (i * 5 + 3)) = some q.1.2.2 ∧ w.cell? (ad.add (i * 5 + 4)) = some (.int .i64 q.2.pos)) ∧ NdAt w q ∧ ((∀ n ∈ (D i).weights Tryd.prog 30, n ≤ reachBytes) → q.2.words.length * 16 ≤ reachBytes ∧ q.2.nums.length * 8 ≤ reachBytes ∧ q.2.kids.length * 8 ≤ reachBytes) := by
      intro i hil
      obtain ⟨cs', h1, h2⟩ := hi i (by omega)
      obtain ⟨_, hcl, hat⟩ := World.cells?_some h1
      obtain ⟨q, e, hr, hw⟩ := open_ncells hcl h2
      subst e
      have g0 := hat 0 (by omega)
      have g1 := hat 1 (by omega)
      have g2 := hat 2 (by omega)
      have g3 := hat 3 (by omega)
      have g4 := hat 4 (by omega)
      rw [add_of_add] at g0 g1 g2 g3 g4
      exact ⟨q, ⟨g0, g1, g2, g3, g4⟩, hr, hw⟩
    obtain ⟨q, hq⟩ := ex_lt each
    have hlen : ((List.range len).map fun i => (q i).2).length = len := by simp
    refine ⟨(List.range len).map fun i => (q i).2, ⟨some ad, cap, (List.range len).map q, by rw [hlen], by rw [hlen]; exact hl, hm, by rw [List.map_map]; rfl, ?_, fun x hx => ?_⟩, fun hw t ht => ?_⟩
    · rw [hlen]
      refine ⟨by rw [nodeCells_length, List.length_map, List.length_range], fun hn => ⟨ad, rfl, ?_, fun j u hu => ?_⟩⟩
      · have := World.block_lt_of_cell? _ _ (hq 0 hn).1.1
        rwa [block_of_add] at this
      · obtain ⟨i, x, hx, hc⟩ := nodeCells_inv _ j u hu
        rw [List.getElem?_map] at hx
        have hil : i < len := by
          rcases Nat.lt_or_ge i len with g | g
          · exact g
          · rw [List.getElem?_eq_none (by simpa using g)] at hx; cases hx
        rw [List.getElem?_range hil] at hx
        obtain rfl : q i = x := by simpa using hx
        rcases hc with ⟨rfl, rfl⟩ | ⟨rfl, rfl⟩ | ⟨rfl, rfl⟩ | ⟨rfl, rfl⟩ | ⟨rfl, rfl⟩
        · exact (hq i hil).1.1
        · exact (hq i hil).1.2.1
        · exact (hq i hil).1.2.2.1
        · exact (hq i hil).1.2.2.2.1
        · exact (hq i hil).1.2.2.2.2
    · obtain ⟨i, hil, rfl⟩ := List.mem_map.1 hx
      exact (hq i (List.mem_range.1 hil)).2.1
    · obtain ⟨i, hil, rfl⟩ := List.mem_map.1 ht
      have := (hq i (List.mem_range.1 hil)).2.2 (fun n hn => hw n (by
        rw [hd]
        simp only [DataW.weights, Tryd.underlying22, List.mem_cons, List.mem_append]
        exact .inr (.inl (weights_all (List.mem_map.mpr ⟨i, hil, rfl⟩) n hn))))
      have hr : reachBytes = 140737488351232 := rfl
      omega
end
end Go.Proofs.YtabnjiijgbigbaaDoor
