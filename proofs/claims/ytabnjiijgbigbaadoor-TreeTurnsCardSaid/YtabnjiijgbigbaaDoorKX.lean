/-
  The walk of the statement TreeChains. (Template: by-name.py fills it.)
-/
import Derived.Test.YtabnjiijgbigbaaDoorTreW
import Derived.Test.YtabnjiijgbigbaaDoorTreV
namespace Go.Proofs.YtabnjiijgbigbaaDoor
open Go.RowKit

/-- The function that preorder makes, whose boxes begin at a block. -/
def visF (b : Nat) : Value := .func (.func 30) #[] #[.pointer (some ⟨b + 1, 0, none⟩), .pointer (some ⟨b, 0, none⟩), .pointer (some ⟨b + 1 + 1, 0, none⟩)]
/-- What stands in memory while it runs. -/
structure VisS (W wr : World) (v : Value) (L : List Int) (vo : Value) : Prop where
  B : Blk wr W.heap.size #[v]
  O : Blk wr (W.heap.size + 1) #[vo]
  F : Blk wr (W.heap.size + 1 + 1) #[visF W.heap.size]
  own : wr.ownsRow (W.heap.size + 3) 3 1 vo L.length (L.map (Value.int .i64))
  below : Below W.heap.size W wr
section
variable {W wr w' : World} {v vo v' : Value} {L : List Int}
theorem VisS.keep (h : VisS W wr v L vo) (hb : Below wr.heap.size wr w') : VisS W w' v L vo :=
  ⟨h.B.keep hb, h.O.keep hb, h.F.keep hb, h.own.kept (grown_of_below hb none) (by cases hv : vo.ownBlock <;> simp), h.below.trans (hb.mono h.below.size)⟩
theorem VisS.push {x : Int} (h : VisS W wr v L vo) (hown : w'.ownsRow (W.heap.size + 3) 3 1 v' (L.length + 1) (L.map (Value.int .i64) ++ [.int .i64 x])) (hg : wr.grownBy w' vo.ownBlock) : VisS W (w'.setCell ⟨W.heap.size + 1, 0, none⟩ v') v (L ++ [x]) v' := by
  have ne : ∀ b, b < W.heap.size + 3 → vo.ownBlock ≠ some b := fun b hb e => by have := (h.own.lt _ e).1; omega
  have hO := h.O.grown hg (ne _ (by omega))
  refine ⟨(h.B.grown hg (ne _ (by omega))).other (by show W.heap.size + 1 ≠ W.heap.size; omega) _, ?_, (h.F.grown hg (ne _ (by omega))).other (by show W.heap.size + 1 ≠ W.heap.size + 1 + 1; omega) _, ?_, ?_⟩
  · exact hO.set 0 v'
  · have := World.ownsRow.kept (w' := w'.setCell ⟨W.heap.size + 1, 0, none⟩ v') hown (grown_set) (.inr fun e => by have := (hown.lt _ e).1; omega)
    simpa using this
  · exact (h.below.grown hg h.below.size (fun k hk => by have := (h.own.lt _ hk).1; omega)).setCell (by show W.heap.size ≤ W.heap.size + 1; omega) _
theorem VisS.read (h : VisS W wr v L vo) : IntsL wr vo L := by
  rcases h.own.2 with ⟨rfl, e⟩ | ⟨g, cap, cur, rfl, _, _, h1, h2, _⟩
  · have : L = [] := List.length_eq_zero_iff.mp e
    subst this
    exact IntsL.nil _
  · exact ⟨_, cap, rfl, h1, h2, Reads.of_own h.own⟩
end
theorem flat_take (g : Int → List Int) {l : List Int} {j : Nat} {x : Int} (h : l[j]? = some x) : (l.take (j + 1)).flatMap g = (l.take j).flatMap g ++ g x := by
  rw [List.take_add_one, h, List.flatMap_append]
  simp
theorem flat_le (g : Int → List Int) {l : List Int} {j : Nat} {x : Int} (h : l[j]? = some x) : ((l.take j).flatMap g).length + (g x).length ≤ (l.flatMap g).length := by
  rw [← List.length_append, ← flat_take g h, ← List.take_append_drop (j + 1) l, List.flatMap_append, List.length_append]
  simp only [List.take_append_drop]
  omega

set_option maxHeartbeats 4000000 in
theorem visit_step (W : World) (v : Value) (ns : List Nd) (hN : NodesAt W v ns) (k : Nat) (d : Nd) (hd : ns[k]? = some d) (g : Int → List Int)
    (hK : ∀ c ∈ d.kids, ∀ (wr : World) (L : List Int) (vo : Value), VisS W wr v L vo → L.length + (g c).length ≤ 1500 →
      Calls Tryd.prog 30 #[.int .i64 c, .pointer (some ⟨W.heap.size + 1, 0, none⟩), .pointer (some ⟨W.heap.size, 0, none⟩), .pointer (some ⟨W.heap.size + 1 + 1, 0, none⟩)] wr fun e w' => e = .returned (.tuple #[]) ∧ ∃ vo', VisS W w' v (L ++ g c) vo')
    (wr : World) (L : List Int) (vo : Value) (h : VisS W wr v L vo) (hlen : L.length + (d.kids.flatMap g).length + 1 ≤ 1500) :
    Calls Tryd.prog 30 #[.int .i64 k, .pointer (some ⟨W.heap.size + 1, 0, none⟩), .pointer (some ⟨W.heap.size, 0, none⟩), .pointer (some ⟨W.heap.size + 1 + 1, 0, none⟩)] wr fun e w' => e = .returned (.tuple #[]) ∧ ∃ vo', VisS W w' v (L ++ ((k : Int) :: d.kids.flatMap g)) vo' := by
  obtain ⟨iI, hiI, zI0, zI1, zI2⟩ := info_three infoInt
  obtain ⟨A, cp, rs, rfl, h2, h3, h4, h5, h6⟩ := id hN
  obtain ⟨n, hn⟩ : ∃ n, n = ns.length := ⟨_, rfl⟩
  have hkn : k < n := by rw [hn]; exact (List.getElem?_eq_some_iff.mp hd).1
  obtain ⟨x, hx⟩ : ∃ x, rs[k]? = some x := ⟨_, List.getElem?_eq_getElem (by have := congrArg List.length h4; rw [List.length_map] at this; omega)⟩
  have hxd : x.2 = d := by
    have : ns[k]? = some x.2 := by rw [← h4, List.getElem?_map, hx]; rfl
    rw [hd] at this
    exact (Option.some.inj this).symm
  obtain ⟨_, _, hk3⟩ := h6 x (List.mem_of_getElem? hx)
  obtain ⟨A3, c3, ev3, k2, k3, k4⟩ := hk3
  rw [← hn] at h5
  obtain ⟨ad, rfl, _⟩ := nodes_cells h5 (Below.refl _ _) hx (by omega)
  have ND := Lib.hid (fun (w' : World) (hb : Below W.heap.size W w') => show w'.cell? ⟨(ad.add (k * 5)).block, (ad.add (k * 5)).off + 3, none⟩ = some (.slice A3 d.kids.length c3) from by
    obtain ⟨ad', e, _, _, _, d3, _⟩ := nodes_cells h5 hb hx (by omega)
    injection e with e
    subst e
    rw [d3, ev3, hxd])
  rw [hxd] at k2 k4
  have b0 := h.B.cell 0
  have o0 := h.O.cell 0
  rw [← hn] at b0
  have a1 := below_alloc1 wr (.cells #[.int .i64 k] 3)
  have V1 := h.keep a1
  have RD : Reads (wr.alloc (.cells #[.int .i64 k] 3)) (wr.heap.size + 1) 1 (some ⟨wr.heap.size, 0, none⟩) 1 [.int .i64 k] := by
    have := reads_lit wr [.int .i64 k] 3
    rw [World.size_alloc] at this
    exact this
  have HV := Lib.hid (And.intro V1 RD)
  have LL := Lib.hid (And.intro hlen (And.intro hn hkn))
  have HR := Lib.hid (And.intro k2 (And.intro k3 k4))
  have i1 : (k : Int) < (n : Int) := by omega
  have i2 : (0 : Int) ≤ (k : Int) := by omega
  have HH := Lib.hid hK
  have NN := Lib.hid hN
  clear h2 h3 h4 h5 h6 hx hxd ev3 k2 k3 k4 hlen hn hkn h a1 V1 RD hK hN hd
  go_enter Tryd.func30, Tryd.ntmps30
  go_wp2_with (at_builtin; refine wpList_append_any _ rfl _ _ 28 rfl (W.heap.size + 3) 3 iI (.int .i64 0) 1 8 Tryd.underlying28 hiI zI0 zI1 zI2 rfl (by decide) vo L.length (L.map (Value.int .i64)) rfl HV.out.1.own (wr.heap.size + 1) (some ⟨wr.heap.size, 0, none⟩) 1 1 [.int .i64 k] rfl HV.out.2 (fun u hu => by rw [List.mem_singleton] at hu; subst hu; rfl) (by have := LL.out; unfold maxLen; omega) (by have := LL.out; omega) (by have := HV.out.1.O.lt; have := HV.out.1.F.lt; omega) ?_)
  intro v8 w8 hown hgrow hat
  have V2 := HV.out.1.push (x := (k : Int)) hown hgrow
  obtain ⟨g8, cap8, rfl, _⟩ := World.ownsRow.form hown (by omega)
  have ne : ∀ b, b < W.heap.size + 3 → vo.ownBlock ≠ some b := fun b hb e => by have := (HV.out.1.own.lt _ e).1; omega
  have O8 := HV.out.1.O.grown hgrow (ne _ (by omega))
  have c8 := O8.cell 0
  have f8 := O8.free 0
  have B9 := V2.B.cell 0
  have F9 := V2.F.cell 0
  have N9 := ND.out _ V2.below
  have HV2 := Lib.hid V2
  clear hown hgrow hat V2 ne O8
  rw [← LL.out.2.1] at B9
  unfold visF at F9
  have a9 : (ad.add (k * 5)).block < W.heap.size + 1 → True := fun _ => trivial
  clear b0 o0 a9
  go_wp2_with fail
  clear c8 f8 N9 B9
  generalize hm : d.kids.length = m at *
  have HM := Lib.hid hm
  clear hm
  go_loopg [17] m (fun gk v17 wq => ∃ (j : Nat) (vq : Value), v17 = .int .i64 j ∧ j ≤ m ∧ gk = m - j ∧ VisS W wq (.slice (some ad) ns.length cp) (L ++ ((k : Int) :: (d.kids.take j).flatMap g)) vq)
  case atStart => exact ⟨0, _, rfl, Nat.zero_le _, rfl, HV2.out⟩
  case round =>
    obtain ⟨j, vq, rfl, hj, hg, hS⟩ := hrel
    by_cases hjm : j = m
    · have e : d.kids.take j = d.kids := by rw [hjm, ← HM.out]; exact List.take_length
      rw [e] at hS
      subst hjm
      have FIN := Lib.hid hS
      clear hS e hg hj
      go_wp2_with fail
      refine bodyPost_end (results_none rfl _ _ _) rfl ?_
      exact ⟨rfl, _, FIN.out⟩
    · have hlt : j < m := by omega
      obtain ⟨c, hc⟩ : ∃ c, d.kids[j]? = some c := ⟨_, List.getElem?_eq_getElem (by rw [HM.out]; exact hlt)⟩
      obtain ⟨ad3, rfl, kc⟩ := ints_at (wr := wr) HR.out.2.2 hS.below (by exact hc) (by omega)
      have le := flat_le g hc
      have ft := flat_take g hc
      have CC := Lib.hid (HH.out c (List.mem_of_getElem? hc) wr _ vq hS (by
        have := LL.out.1
        simp only [List.length_append, List.length_cons]
        omega))
      have f0 := hS.F.cell 0
      unfold visF at f0
      have i3 : (j : Int) < (m : Int) := by omega
      have i4 : (0 : Int) ≤ (j : Int) := by omega
      have u1 : IntKind.i64.wrap ((j : Int) + 1) = (j : Int) + 1 := IntWalk.i64_in _ (by have := HR.out; unfold maxLen at this; omega)
      have HJ := Lib.hid (And.intro hg (And.intro hlt ft))
      clear hg hlt ft hjm hj hS le hc
      go_wp2_with (go_at_call 30; (with_reducible refine CC.out.mono ?_); rintro e1 w1 ⟨rfl, vz, hz⟩; have HZ := Lib.hid hz; clear hz)
      go_roundg (m - (j + 1))
      case measure => have := HJ.out; omega
      case rel =>
        refine ⟨j + 1, vz, by push_cast; rfl, by have := HJ.out; omega, rfl, ?_⟩
        rw [HJ.out.2.2]
        simpa using HZ.out

theorem visit_any (W : World) (v : Value) (ns : List Nd) (p : List Int) (hN : NodesAt W v ns) (hp : parT ns = some p) : ∀ (d k : Nat), k < ns.length → ns.length ≤ k + d + 1 →
    ∀ (wr : World) (L : List Int) (vo : Value), VisS W wr v L vo → L.length + (preF ns d k).length ≤ 1500 →
      Calls Tryd.prog 30 #[.int .i64 k, .pointer (some ⟨W.heap.size + 1, 0, none⟩), .pointer (some ⟨W.heap.size, 0, none⟩), .pointer (some ⟨W.heap.size + 1 + 1, 0, none⟩)] wr fun e w' => e = .returned (.tuple #[]) ∧ ∃ vo', VisS W w' v (L ++ preF ns d k) vo'
  | 0, k, hk, hn, wr, L, vo, h, hl => by
    have hd : ns[k]? = some ns[k] := List.getElem?_eq_getElem hk
    have e : ns[k].kids = [] := List.eq_nil_iff_forall_not_mem.mpr (fun y hy => by have := parT_in hp hd y hy; omega)
    have := visit_step W v ns hN k ns[k] hd (fun _ => []) (fun c hc => by rw [e] at hc; cases hc) wr L vo h (by rw [e]; rw [preF] at hl; simpa using hl)
    rw [e] at this
    exact this
  | d + 1, k, hk, hn, wr, L, vo, h, hl => by
    have hd : ns[k]? = some ns[k] := List.getElem?_eq_getElem hk
    have e : preF ns (d + 1) (k : Int) = (k : Int) :: ns[k].kids.flatMap (preF ns d) := by rw [preF, ndAt_of hd]
    rw [e] at hl ⊢
    rw [List.length_cons] at hl
    refine visit_step W v ns hN k ns[k] hd (preF ns d) (fun c hc => ?_) wr L vo h (by omega)
    have hb := parT_in hp hd c hc
    obtain ⟨c', rfl⟩ : ∃ c' : Nat, c = c' := ⟨c.toNat, by omega⟩
    exact visit_any W v ns p hN hp d c' (by omega) (by omega)

set_option maxHeartbeats 4000000 in
theorem preorder_any : PreCalls := by
  intro W v ns p k hN hp hk
  have hmf : ∀ (fn : Fn) (first cap : Array Value) (w : World), (Instr.makeFunc fn first cap).run Tryd.prog w = .ok (.func fn first cap) w := fun _ _ _ _ => rfl
  have hsf : ∀ (a : Addr) (m : Mode) (fn : Fn) (f c : Array Value) (w : World), (store a (.func fn f c) m).run Tryd.prog w = stored Tryd.prog w a (.func fn f c) m := fun a m fn f c w => run_store Tryd.prog w a _ m rfl
  have VI := Lib.hid (fun (wr : World) (vo : Value) (h : VisS W wr v [] vo) => visit_any W v ns p hN hp ns.length k hk (by omega) wr [] vo h (by
    have := pre_len (parT_links hp) ns.length k hk
    have := (parT_facts hp).2.1
    simp only [List.length_nil]
    omega))
  simp only [List.nil_append] at VI
  generalize preF ns ns.length (k : Int) = Z at *
  obtain ⟨A, cp, rfl⟩ : ∃ A c, v = .slice A ns.length c := by obtain ⟨A, c, _, e, _⟩ := hN; exact ⟨A, c, e⟩
  have a1 := below_alloc1 W (.cells #[.slice A ns.length cp] 22)
  have a2 := below_alloc1 (W.alloc (.cells #[.slice A ns.length cp] 22)) (.cells #[.slice none 0 0] 28)
  have a3 := below_alloc1 ((W.alloc (.cells #[.slice A ns.length cp] 22)).alloc (.cells #[.slice none 0 0] 28)) (.cells #[Value.nilFunc] 50)
  have b0 := Blk.start W #[.slice A ns.length cp] 22
  have b1 := Blk.start (W.alloc (.cells #[.slice A ns.length cp] 22)) #[.slice none 0 0] 28
  have b2 := Blk.start ((W.alloc (.cells #[.slice A ns.length cp] 22)).alloc (.cells #[.slice none 0 0] 28)) #[Value.nilFunc] 50
  simp only [World.size_alloc] at a1 a2 a3 b1 b2
  have B0 := (b0.keepB a2 (by omega)).keepB a3 (by omega)
  have B1 := b1.keepB a3 (by omega)
  have bw := (a1.trans (a2.mono (by omega))).trans (a3.mono (by omega))
  generalize hw3 : (((W.alloc (.cells #[.slice A ns.length cp] 22)).alloc (.cells #[.slice none 0 0] 28)).alloc (.cells #[Value.nilFunc] 50)) = w3 at *
  have V4 : VisS W (w3.setCell ⟨W.heap.size + 1 + 1, 0, none⟩ (visF W.heap.size)) (.slice A ns.length cp) [] (.slice none 0 0) := by
    refine ⟨B0.other (by show W.heap.size + 1 + 1 ≠ W.heap.size; omega) _, B1.other (by show W.heap.size + 1 + 1 ≠ W.heap.size + 1; omega) _, ?_, World.ownsRow_nil _ _ _ _, bw.setCell (by show W.heap.size ≤ W.heap.size + 1 + 1; omega) _⟩
    simpa using b2.set 0 (visF W.heap.size)
  have HV := Lib.hid (VI.out _ _ V4)
  have f2 := b2.free 0
  have c2 := b2.cell 0
  have F4 := V4.F.cell 0
  unfold visF at F4 HV
  clear a1 a2 a3 b0 b1 b2 B0 B1 bw V4 VI
  go_enter Tryd.func15, Tryd.ntmps15
  go_wp2_with (go_at_call 30; (with_reducible refine HV.out.mono ?_); rintro e1 w1 ⟨rfl, vo, hz⟩; have HZ := Lib.hid hz; have o1 := hz.O.cell 0; clear hz)
  go_ret
  exact ⟨_, rfl, HZ.out.read, HZ.out.below⟩
end Go.Proofs.YtabnjiijgbigbaaDoor

namespace Go.Proofs.YtabnjiijgbigbaaDoor
open Go.RowKit

theorem keys_of {W : World} (h : laidMetH Tryd.prog [("ballcock/lex.keywords", Rows.laid_ballcock_lex_keywords)] W) : StrRow W 0 keysL := by
  rw [MakeChecks.laidMetH_plain _ _ _ (by kernel_rfl)] at h
  exact strs_of_head (zs := keysL) (rest := []) Tryd.gKeys Tryd.gKeysType Tryd.underlying81 Tryd.underlying9 Tryd.cellsS (by kernel_rfl) h

theorem nodes_lit (w : World) (rs : List (NdV × Nd)) (ty : TypeId) (hm : rs.length ≤ maxLen) (h : ∀ x ∈ rs, NdAt (w.alloc (.cells (nodeCells rs).toArray ty)) x) :
    NodesAt (w.alloc (.cells (nodeCells rs).toArray ty)) (.slice (some ⟨w.heap.size, 0, none⟩) rs.length rs.length) (rs.map (·.2)) := by
  refine ⟨_, rs.length, rs, by rw [List.length_map], by rw [List.length_map]; exact Nat.le_refl _, hm, rfl, ?_, h⟩
  rw [List.length_map]
  exact ⟨nodeCells_length rs, fun _ => ⟨_, rfl, (Blk.start w _ ty).lt, fun j u hj => cell_lit w _ ty j u (by simpa using hj)⟩⟩
theorem nd0_at (w : World) : NdAt w ((.slice none 0 0, .slice none 0 0, .slice none 0 0), nd0) := ⟨StrsL.nil w, IntsL.nil w, IntsL.nil w⟩
theorem one_right : rightN [nd0] = true := by decide +kernel
theorem one_deep : deepB [nd0] = 1 := by decide +kernel
theorem one_walk : walkT [nd0] = [0] := by decide +kernel
theorem none_right : rightN [] = false := by decide +kernel

set_option maxHeartbeats 4000000 in
theorem awake6_yes (w : World) (ht : StrRow w 0 keysL) : Calls Tryd.prog 4 #[] w fun e w' => e = .returned (.bool true) ∧ Below w.heap.size w w' := by
  have a1 := below_alloc1 w (.cells #[.int .i64 0, .slice none 0 0, .slice none 0 0, .slice none 0 0, .int .i64 0] 30)
  have N1 : NodesAt (w.alloc (.cells #[.int .i64 0, .slice none 0 0, .slice none 0 0, .slice none 0 0, .int .i64 0] 30)) (.slice (some ⟨w.heap.size, 0, none⟩) 1 1) [nd0] := nodes_lit w [((.slice none 0 0, .slice none 0 0, .slice none 0 0), nd0)] _ (by simp [maxLen]) (fun x hx => by rw [List.mem_singleton] at hx; subst hx; exact nd0_at _)
  have HB := Lib.hid a1
  have RT := Lib.hid (fun w' (hb : Below w.heap.size w w') (hN : NodesAt w' (.slice (some ⟨w.heap.size, 0, none⟩) 1 1) [nd0]) => right_of valid_any w' _ _ hN (ht.below hb))
  have RN := Lib.hid (fun w' (hb : Below w.heap.size w w') => right_of valid_any w' _ _ (NodesAt.nil w') (ht.below hb))
  have WK := Lib.hid (fun w' (hb : Below w.heap.size w w') (hN : NodesAt w' (.slice (some ⟨w.heap.size, 0, none⟩) 1 1) [nd0]) => walk_of valid_any preorder_any w' _ _ hN (ht.below hb))
  rw [one_right] at RT
  rw [none_right] at RN
  rw [one_walk] at WK
  have HN := Lib.hid N1
  clear ht a1 N1
  generalize hw : w.alloc (.cells #[.int .i64 0, .slice none 0 0, .slice none 0 0, .slice none 0 0, .int .i64 0] 30) = w1 at *
  go_enter Tryd.func4, Tryd.ntmps4
  go_wp2_with (first
    | (go_at_call 9; (with_reducible refine (RT.out _ HB.out HN.out).mono ?_); rintro e2 w2 ⟨rfl, hb⟩; have B2 := Lib.hid (HB.out.trans (hb.mono HB.out.size)); have N2 := Lib.hid (HN.out.below hb); clear hb)
    | (go_at_call 10; (with_reducible refine (deep_any _ _ _ N2.out).mono ?_); rintro e3 w3 ⟨rfl, hb⟩; rw [one_deep]; have B3 := Lib.hid (B2.out.trans (hb.mono B2.out.size)); have N3 := Lib.hid (N2.out.below hb); clear hb)
    | (go_at_call 9; (with_reducible refine (RN.out _ B3.out).mono ?_); rintro e4 w4 ⟨rfl, hb⟩; have B4 := Lib.hid (B3.out.trans (hb.mono B3.out.size)); have N4 := Lib.hid (N3.out.below hb); clear hb)
    | (go_at_call 11; (with_reducible refine (WK.out _ B4.out N4.out).mono ?_); rintro e5 w5 ⟨u, rfl, ⟨Az, cz, rfl, _⟩, hb⟩; have B5 := Lib.hid (B4.out.trans (hb.mono B4.out.size)); clear hb))
  go_ret
  exact ⟨rfl, B5.out⟩
end Go.Proofs.YtabnjiijgbigbaaDoor

namespace Go.Proofs.YtabnjiijgbigbaaDoor
open Go.RowKit

/-! ### Plain -/
def chainL (k : Nat) : List Nd := [⟨0, [], [], [1], 0⟩, ⟨4, [[102]], [], [2], 0⟩, ⟨7, [], [], [3], 0⟩, ⟨18, [], [], [4], 0⟩] ++ (List.range k).map (fun i => ⟨23, [], [], [5 + (i : Int)], 0⟩)
def chainN (k : Nat) : List Nd := chainL k ++ [⟨20, [], [1], [], 0⟩]
theorem chain_all : ((List.range 40).all fun k => decide (deepB (chainN k) = 5 + (k : Int)) && (rightN (chainN k) == decide (5 + k ≤ 24))) = true := by decide +kernel
theorem chain_says {k : Nat} (h : k < 40) : deepB (chainN k) = 5 + (k : Int) ∧ rightN (chainN k) = decide (5 + k ≤ 24) := by
  have := List.all_eq_true.mp chain_all k (List.mem_range.mpr h)
  rw [Bool.and_eq_true, decide_eq_true_eq, beq_iff_eq] at this
  exact this
theorem chainL_more (k : Nat) : chainL (k + 1) = chainL k ++ [⟨23, [], [], [5 + (k : Int)], 0⟩] := by
  unfold chainL
  rw [List.range_succ, List.map_append, List.append_assoc]
  rfl
theorem chainL_len (k : Nat) : (chainL k).length = 4 + k := by
  unfold chainL
  simp
  omega

/-! ### Nodes whose slices are of one thing at most, apart from a block -/
def OneAt (w : World) (own : Option Nat) (v : Value) (us : List Value) : Prop :=
  (v = .slice none 0 0 ∧ us = []) ∨ ∃ b u, v = .slice (some ⟨b, 0, none⟩) 1 1 ∧ us = [u] ∧ Blk w b #[u] ∧ own ≠ some b
theorem OneAt.keep {w w' : World} {own : Option Nat} {v : Value} {us : List Value} (h : OneAt w own v us) (hb : Below w.heap.size w w') : OneAt w' own v us := by
  rcases h with h | ⟨b, u, h1, h2, h3, h4⟩
  · exact .inl h
  · exact .inr ⟨b, u, h1, h2, h3.keep hb, h4⟩
theorem OneAt.grown {w w' : World} {own own' : Option Nat} {v : Value} {us : List Value} (h : OneAt w own v us) (hg : w.grownBy w' own) (ho : own' = own ∨ own' = some w.heap.size) : OneAt w' own' v us := by
  rcases h with h | ⟨b, u, h1, h2, h3, h4⟩
  · exact .inl h
  · refine .inr ⟨b, u, h1, h2, h3.grown hg h4, ?_⟩
    rcases ho with rfl | rfl
    · exact h4
    · exact fun e => by have := h3.lt; have := Option.some.inj e; omega
theorem OneAt.reads {w : World} {own : Option Nat} {v : Value} {us : List Value} (h : OneAt w own v us) : ∃ A c, v = .slice A us.length c ∧ us.length ≤ c ∧ c ≤ maxLen ∧ Reads w w.heap.size 1 A us.length us := by
  rcases h with ⟨rfl, rfl⟩ | ⟨b, u, rfl, rfl, h3, _⟩
  · exact ⟨none, 0, rfl, Nat.le_refl _, by decide, Reads.none_⟩
  · refine ⟨_, 1, rfl, Nat.le_refl _, by decide, rfl, fun _ => ⟨_, rfl, h3.lt, fun j x hj => ?_⟩⟩
    rw [Addr.add_lit, Nat.zero_add, h3.cell j]
    cases j with
    | zero => exact hj
    | succ j => simp at hj
def NdOne (w : World) (own : Option Nat) (x : NdV × Nd) : Prop := OneAt w own x.1.1 (x.2.words.map txt) ∧ OneAt w own x.1.2.1 (x.2.nums.map (Value.int .i64)) ∧ OneAt w own x.1.2.2 (x.2.kids.map (Value.int .i64)) ∧ ∀ s ∈ x.2.words, s.length ≤ maxLen
theorem NdOne.keep {w w' : World} {own : Option Nat} {x : NdV × Nd} (h : NdOne w own x) (hb : Below w.heap.size w w') : NdOne w' own x := ⟨h.1.keep hb, h.2.1.keep hb, h.2.2.1.keep hb, h.2.2.2⟩
theorem NdOne.grown {w w' : World} {own own' : Option Nat} {x : NdV × Nd} (h : NdOne w own x) (hg : w.grownBy w' own) (ho : own' = own ∨ own' = some w.heap.size) : NdOne w' own' x := ⟨h.1.grown hg ho, h.2.1.grown hg ho, h.2.2.1.grown hg ho, h.2.2.2⟩
theorem NdOne.at_ {w : World} {own : Option Nat} {x : NdV × Nd} (h : NdOne w own x) : NdAt w x := by
  obtain ⟨h1, h2, h3, h4⟩ := h
  refine ⟨?_, ?_, ?_⟩
  · obtain ⟨A, c, e, a, b, d⟩ := h1.reads
    rw [List.length_map] at e a d
    exact ⟨A, c, e, a, b, d, h4⟩
  · obtain ⟨A, c, e, a, b, d⟩ := h2.reads
    rw [List.length_map] at e a d
    exact ⟨A, c, e, a, b, d⟩
  · obtain ⟨A, c, e, a, b, d⟩ := h3.reads
    rw [List.length_map] at e a d
    exact ⟨A, c, e, a, b, d⟩
/-- A row of nodes of the call's own. -/
structure RowN (W wr : World) (v : Value) (rs : List (NdV × Nd)) : Prop where
  own : wr.ownsRow W.heap.size 30 5 v rs.length (nodeCells rs)
  each : ∀ x ∈ rs, NdOne wr v.ownBlock x
  below : Below W.heap.size W wr
section
variable {W wr w' : World} {v v' : Value} {rs : List (NdV × Nd)}
theorem RowN.keep (h : RowN W wr v rs) (hb : Below wr.heap.size wr w') : RowN W w' v rs :=
  ⟨h.own.kept (grown_of_below hb none) (by cases hv : v.ownBlock <;> simp), fun x hx => (h.each x hx).keep hb, h.below.trans (hb.mono h.below.size)⟩
theorem RowN.push {x : NdV × Nd} (h : RowN W wr v rs) (hx : NdOne wr v.ownBlock x) (hown : w'.ownsRow W.heap.size 30 5 v' (rs.length + 1) (nodeCells rs ++ nodeCells [x])) (hg : wr.grownBy w' v.ownBlock) (ho : v'.ownBlock = v.ownBlock ∨ v'.ownBlock = some wr.heap.size) : RowN W w' v' (rs ++ [x]) := by
  refine ⟨by rw [List.length_append, nodeCells_append]; exact hown, fun y hy => ?_, h.below.grown hg h.below.size (fun k hk => (h.own.lt _ hk).1)⟩
  rcases List.mem_append.mp hy with hy | hy
  · exact (h.each y hy).grown hg ho
  · rw [List.mem_singleton] at hy
    subst hy
    exact hx.grown hg ho
theorem RowN.nodes (h : RowN W wr v rs) : NodesAt wr v (rs.map (·.2)) := by
  rcases h.own.2 with ⟨rfl, e⟩ | ⟨g, cap, cur, rfl, _, _, h1, h2, _⟩
  · have : rs = [] := List.length_eq_zero_iff.mp e
    subst this
    exact NodesAt.nil _
  · refine ⟨_, cap, rs, by rw [List.length_map], by rw [List.length_map]; exact h1, h2, rfl, ?_, fun x hx => (h.each x hx).at_⟩
    rw [List.length_map]
    exact Reads.of_own h.own
end
theorem infoNode : (Tryd.prog.info? 30).map (fun i => (i.zero, i.size, i.bytes)) = some (some (.agg #[.int .i64 0, .slice none 0 0, .slice none 0 0, .slice none 0 0, .int .i64 0]), 5, 88) := by kernel_rfl
theorem one_new (w : World) (u : Value) (ty : TypeId) (own : Option Nat) (h : own ≠ some w.heap.size) : OneAt (w.alloc (.cells #[u] ty)) own (.slice (some ⟨w.heap.size, 0, none⟩) 1 1) [u] := .inr ⟨_, u, rfl, rfl, Blk.start w #[u] ty, h⟩
theorem one_none (w : World) (own : Option Nat) : OneAt w own (.slice none 0 0) [] := .inl ⟨rfl, rfl⟩
end Go.Proofs.YtabnjiijgbigbaaDoor
