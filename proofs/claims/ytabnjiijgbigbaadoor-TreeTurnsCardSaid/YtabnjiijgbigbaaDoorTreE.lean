/-
  The walks of package tree's all$1, all, are, of slices.IndexFunc and ContainsFunc of numbers at it. (Template: by-name.py fills it; gen/genTreE.py writes it.)
-/
import Derived.Test.YtabnjiijgbigbaaDoorTreD
import Derived.Deep.LoopGhost
namespace Go.Proofs.YtabnjiijgbigbaaDoor
open Go.RowKit

/-! ### What stays where only new memory turns -/
def Stb (P : World → Prop) : Prop := ∀ w1 w2 : World, Below w1.heap.size w1 w2 → P w1 → P w2
theorem stb_cell (p : Addr) (x : Value) : Stb fun w => w.cell? p = some x := fun _ _ hb h => (hb.cell (World.block_lt_of_cell? _ _ h)).trans h
theorem stb_and {P Q : World → Prop} (hp : Stb P) (hq : Stb Q) : Stb fun w => P w ∧ Q w := fun _ _ hb h => ⟨hp _ _ hb h.1, hq _ _ hb h.2⟩
theorem stb_below (wq : World) : Stb fun w => Below wq.heap.size wq w := fun _ _ hb h => h.trans (hb.mono h.size)
theorem bl_of {A : Prop} {wq w' : World} (h : A ∧ Below wq.heap.size wq w') : Below wq.heap.size wq w' := h.2
theorem belowD (w : World) : Below w.heap.size w w.drew := (Below.refl _ _).drew

/-- A call of a test. -/
def TstCall (f : FuncId) (cap : Array Value) (t : Tst) (w : World) : Prop := ∀ (w' : World) (k : Int), Below w.heap.size w w' → Calls Tryd.prog f (#[.int .i64 k] ++ cap) w' fun e w2 => e = .returned (.bool (t.f k)) ∧ Below w'.heap.size w' w2
theorem still_below {f : FuncId} {xs : Array Value} {w : World} {v : Value} (h : Calls Tryd.prog f xs w fun e w' => e = .returned v ∧ w = w') : Calls Tryd.prog f xs w fun e w2 => e = .returned v ∧ Below w.heap.size w w2 := h.mono fun _ _ q => ⟨q.1, q.2 ▸ Below.refl _ _⟩
theorem tst_call {w : World} {t : Tst} {u : Value} (h : TstAt w t u) : ∃ f cap, u = .func (.func f) #[] cap ∧ TstCall f cap t w := by
  cases t with
  | is ks =>
    obtain ⟨b, A, c, rfl, h1, h2⟩ := h
    exact ⟨_, _, rfl, fun w' k hb => still_below (is1_any w' b A _ c ks k (h1.keep hb) (h2.below hb))⟩
  | stmt => exact ⟨_, _, h, fun w' k _ => still_below (stmt_any w' k)⟩
  | expr => exact ⟨_, _, h, fun w' k _ => still_below (expr_any w' k)⟩
  | arg => exact ⟨_, _, h, fun w' k _ => still_below (arg_any w' k)⟩

set_option maxRecDepth 10000 in
set_option maxHeartbeats 4000000 in
theorem all1_is (w : World) (bf : Nat) (ks : List Int) (b1 b2 : Nat) (A : Option Addr) (c : Nat) (ns : List Nd) (k : Nat) (hB1 : Blk w b1 #[.func (.func 66) #[] #[.pointer (some ⟨bf, 0, none⟩)]]) (hB2 : Blk w b2 #[.slice A ns.length c]) (hN : NodesAt w (.slice A ns.length c) ns) (hc : TstCall 66 #[.pointer (some ⟨bf, 0, none⟩)] (.is ks) w) (hk : k < ns.length) :
    Calls Tryd.prog 69 #[.int .i64 k, .pointer (some ⟨b1, 0, none⟩), .pointer (some ⟨b2, 0, none⟩)] w fun e w' => e = .returned (.bool (!Tst.f (.is ks) (kindAt ns k))) ∧ Below w.heap.size w w' := by
  obtain ⟨A', c', rs, e0, h2, h3, h4, h5, h6⟩ := hN
  injection e0 with e1 _ e2
  subst e1 e2
  obtain ⟨n, hn⟩ : ∃ n, n = ns.length := ⟨_, rfl⟩
  obtain ⟨x, hx⟩ : ∃ x, rs[k]? = some x := ⟨_, List.getElem?_eq_getElem (by rw [show rs.length = ns.length by rw [← h4, List.length_map]]; exact hk)⟩
  have hnx : ns[k]? = some x.2 := by rw [← h4, List.getElem?_map, hx]; rfl
  rw [← hn] at h5 hk hB2
  obtain ⟨ad, rfl, d0, _⟩ := nodes_cells h5 (Below.refl _ _) hx (by omega)
  have hkd : kindAt ns k = x.2.kind := by unfold kindAt ndAt; rw [Int.toNat_natCast, hnx]; rfl
  rw [hkd]
  have cl : ∀ w' : World, Below w.heap.size w w' → Calls Tryd.prog 66 #[.int .i64 x.2.kind, .pointer (some ⟨bf, 0, none⟩)] w' (fun e w2 => e = .returned (.bool (Tst.f (.is ks) x.2.kind)) ∧ Below w'.heap.size w' w2) := fun w' hb => hc w' x.2.kind hb
  have i1 : (k : Int) < (n : Int) := by omega
  have i2 : (0 : Int) ≤ (k : Int) := by omega
  have b10 : w.cell? ⟨b1, 0, none⟩ = some (.func (.func 66) #[] #[.pointer (some ⟨bf, 0, none⟩)]) := hB1.cell 0
  have b20 : w.cell? ⟨b2, 0, none⟩ = some (.slice (some ad) n c) := hB2.cell 0
  generalize x.2.kind = kd at *
  generalize Tst.f (.is ks) kd = BV at *
  have CL := Lib.hid cl
  clear cl hc hkd hnx hx hk h2 h3 h4 h5 h6 hB1 hB2 hn
  have STB := Lib.hid (show Stb (fun w' => (w'.cell? ⟨b1, 0, none⟩ = some (.func (.func 66) #[] #[.pointer (some ⟨bf, 0, none⟩)]) ∧ (w'.cell? ⟨b2, 0, none⟩ = some (.slice (some ad) n c) ∧ w'.cell? (ad.add (k * 5)) = some (.int .i64 kd))) ∧ Below w.heap.size w w') from stb_and (stb_and (stb_cell _ _) (stb_and (stb_cell _ _) (stb_cell _ _))) (stb_below w))
  go_enter Tryd.func69, Tryd.ntmps69
  go_upto_region 1 with fail
  have HS : ((w.drew.cell? ⟨b1, 0, none⟩ = some (.func (.func 66) #[] #[.pointer (some ⟨bf, 0, none⟩)]) ∧ (w.drew.cell? ⟨b2, 0, none⟩ = some (.slice (some ad) n c) ∧ w.drew.cell? (ad.add (k * 5)) = some (.int .i64 kd))) ∧ Below w.heap.size w w.drew) := ⟨⟨b10, b20, d0⟩, belowD w⟩
  clear b10 b20 d0
  refine wp_region_noPanic ?_
  refine wp_region_held_drew (S := (fun w' => (w'.cell? ⟨b1, 0, none⟩ = some (.func (.func 66) #[] #[.pointer (some ⟨bf, 0, none⟩)]) ∧ (w'.cell? ⟨b2, 0, none⟩ = some (.slice (some ad) n c) ∧ w'.cell? (ad.add (k * 5)) = some (.int .i64 kd))) ∧ Below w.heap.size w w')) (by kernel_rfl) HS (fun hHeld => ?_)
  clear HS
  refine tk 0 rfl ?_
  refine tk 1 rfl ?_
  refine tk 2 rfl ?_
  refine tk 3 rfl ?_
  refine tk 4 rfl ?_
  refine tk 5 rfl ?_
  (try simp only [cl, Act.put])
  refine rd 6 rfl fun K hK => ?_
  go_simp
  (go_at_call 66; (with_reducible refine (CL.out _ (bl_of (by with_reducible assumption))).mono ?_); rintro e5 w5 ⟨rfl, hb⟩)
  go_wp2_with fail
  refine hK.out _ _ (STB.out _ _ hb (by with_reducible assumption)) (fun hH2 => ?_)
  clear hK K hHeld hb; have hHeld := hH2; clear hH2
  (try simp only [cl, Act.put])
  refine tk 7 rfl ?_
  refine tk 8 rfl ?_
  (try simp only [cl, Act.put])
  refine wpAnyH_done (by kernel_rfl) ?_ _
  refine NoPanic.normal ?_
  have HB := Lib.hid (bl_of hHeld)
  clear hHeld
  go_wp2_with fail
  go_ret
  exact ⟨rfl, HB.out⟩

set_option maxRecDepth 10000 in
set_option maxHeartbeats 4000000 in
theorem all1_stmt (w : World) (b1 b2 : Nat) (A : Option Addr) (c : Nat) (ns : List Nd) (k : Nat) (hB1 : Blk w b1 #[.func (.func 53) #[] #[]]) (hB2 : Blk w b2 #[.slice A ns.length c]) (hN : NodesAt w (.slice A ns.length c) ns) (hc : TstCall 53 #[] (.stmt) w) (hk : k < ns.length) :
    Calls Tryd.prog 69 #[.int .i64 k, .pointer (some ⟨b1, 0, none⟩), .pointer (some ⟨b2, 0, none⟩)] w fun e w' => e = .returned (.bool (!Tst.f (.stmt) (kindAt ns k))) ∧ Below w.heap.size w w' := by
  obtain ⟨A', c', rs, e0, h2, h3, h4, h5, h6⟩ := hN
  injection e0 with e1 _ e2
  subst e1 e2
  obtain ⟨n, hn⟩ : ∃ n, n = ns.length := ⟨_, rfl⟩
  obtain ⟨x, hx⟩ : ∃ x, rs[k]? = some x := ⟨_, List.getElem?_eq_getElem (by rw [show rs.length = ns.length by rw [← h4, List.length_map]]; exact hk)⟩
  have hnx : ns[k]? = some x.2 := by rw [← h4, List.getElem?_map, hx]; rfl
  rw [← hn] at h5 hk hB2
  obtain ⟨ad, rfl, d0, _⟩ := nodes_cells h5 (Below.refl _ _) hx (by omega)
  have hkd : kindAt ns k = x.2.kind := by unfold kindAt ndAt; rw [Int.toNat_natCast, hnx]; rfl
  rw [hkd]
  have cl : ∀ w' : World, Below w.heap.size w w' → Calls Tryd.prog 53 #[.int .i64 x.2.kind] w' (fun e w2 => e = .returned (.bool (Tst.f (.stmt) x.2.kind)) ∧ Below w'.heap.size w' w2) := fun w' hb => hc w' x.2.kind hb
  have i1 : (k : Int) < (n : Int) := by omega
  have i2 : (0 : Int) ≤ (k : Int) := by omega
  have b10 : w.cell? ⟨b1, 0, none⟩ = some (.func (.func 53) #[] #[]) := hB1.cell 0
  have b20 : w.cell? ⟨b2, 0, none⟩ = some (.slice (some ad) n c) := hB2.cell 0
  generalize x.2.kind = kd at *
  generalize Tst.f (.stmt) kd = BV at *
  have CL := Lib.hid cl
  clear cl hc hkd hnx hx hk h2 h3 h4 h5 h6 hB1 hB2 hn
  have STB := Lib.hid (show Stb (fun w' => (w'.cell? ⟨b1, 0, none⟩ = some (.func (.func 53) #[] #[]) ∧ (w'.cell? ⟨b2, 0, none⟩ = some (.slice (some ad) n c) ∧ w'.cell? (ad.add (k * 5)) = some (.int .i64 kd))) ∧ Below w.heap.size w w') from stb_and (stb_and (stb_cell _ _) (stb_and (stb_cell _ _) (stb_cell _ _))) (stb_below w))
  go_enter Tryd.func69, Tryd.ntmps69
  go_upto_region 1 with fail
  have HS : ((w.drew.cell? ⟨b1, 0, none⟩ = some (.func (.func 53) #[] #[]) ∧ (w.drew.cell? ⟨b2, 0, none⟩ = some (.slice (some ad) n c) ∧ w.drew.cell? (ad.add (k * 5)) = some (.int .i64 kd))) ∧ Below w.heap.size w w.drew) := ⟨⟨b10, b20, d0⟩, belowD w⟩
  clear b10 b20 d0
  refine wp_region_noPanic ?_
  refine wp_region_held_drew (S := (fun w' => (w'.cell? ⟨b1, 0, none⟩ = some (.func (.func 53) #[] #[]) ∧ (w'.cell? ⟨b2, 0, none⟩ = some (.slice (some ad) n c) ∧ w'.cell? (ad.add (k * 5)) = some (.int .i64 kd))) ∧ Below w.heap.size w w')) (by kernel_rfl) HS (fun hHeld => ?_)
  clear HS
  refine tk 0 rfl ?_
  refine tk 1 rfl ?_
  refine tk 2 rfl ?_
  refine tk 3 rfl ?_
  refine tk 4 rfl ?_
  refine tk 5 rfl ?_
  (try simp only [cl, Act.put])
  refine rd 6 rfl fun K hK => ?_
  go_simp
  (go_at_call 53; (with_reducible refine (CL.out _ (bl_of (by with_reducible assumption))).mono ?_); rintro e5 w5 ⟨rfl, hb⟩)
  go_wp2_with fail
  refine hK.out _ _ (STB.out _ _ hb (by with_reducible assumption)) (fun hH2 => ?_)
  clear hK K hHeld hb; have hHeld := hH2; clear hH2
  (try simp only [cl, Act.put])
  refine tk 7 rfl ?_
  refine tk 8 rfl ?_
  (try simp only [cl, Act.put])
  refine wpAnyH_done (by kernel_rfl) ?_ _
  refine NoPanic.normal ?_
  have HB := Lib.hid (bl_of hHeld)
  clear hHeld
  go_wp2_with fail
  go_ret
  exact ⟨rfl, HB.out⟩

set_option maxRecDepth 10000 in
set_option maxHeartbeats 4000000 in
theorem all1_expr (w : World) (b1 b2 : Nat) (A : Option Addr) (c : Nat) (ns : List Nd) (k : Nat) (hB1 : Blk w b1 #[.func (.func 54) #[] #[]]) (hB2 : Blk w b2 #[.slice A ns.length c]) (hN : NodesAt w (.slice A ns.length c) ns) (hc : TstCall 54 #[] (.expr) w) (hk : k < ns.length) :
    Calls Tryd.prog 69 #[.int .i64 k, .pointer (some ⟨b1, 0, none⟩), .pointer (some ⟨b2, 0, none⟩)] w fun e w' => e = .returned (.bool (!Tst.f (.expr) (kindAt ns k))) ∧ Below w.heap.size w w' := by
  obtain ⟨A', c', rs, e0, h2, h3, h4, h5, h6⟩ := hN
  injection e0 with e1 _ e2
  subst e1 e2
  obtain ⟨n, hn⟩ : ∃ n, n = ns.length := ⟨_, rfl⟩
  obtain ⟨x, hx⟩ : ∃ x, rs[k]? = some x := ⟨_, List.getElem?_eq_getElem (by rw [show rs.length = ns.length by rw [← h4, List.length_map]]; exact hk)⟩
  have hnx : ns[k]? = some x.2 := by rw [← h4, List.getElem?_map, hx]; rfl
  rw [← hn] at h5 hk hB2
  obtain ⟨ad, rfl, d0, _⟩ := nodes_cells h5 (Below.refl _ _) hx (by omega)
  have hkd : kindAt ns k = x.2.kind := by unfold kindAt ndAt; rw [Int.toNat_natCast, hnx]; rfl
  rw [hkd]
  have cl : ∀ w' : World, Below w.heap.size w w' → Calls Tryd.prog 54 #[.int .i64 x.2.kind] w' (fun e w2 => e = .returned (.bool (Tst.f (.expr) x.2.kind)) ∧ Below w'.heap.size w' w2) := fun w' hb => hc w' x.2.kind hb
  have i1 : (k : Int) < (n : Int) := by omega
  have i2 : (0 : Int) ≤ (k : Int) := by omega
  have b10 : w.cell? ⟨b1, 0, none⟩ = some (.func (.func 54) #[] #[]) := hB1.cell 0
  have b20 : w.cell? ⟨b2, 0, none⟩ = some (.slice (some ad) n c) := hB2.cell 0
  generalize x.2.kind = kd at *
  generalize Tst.f (.expr) kd = BV at *
  have CL := Lib.hid cl
  clear cl hc hkd hnx hx hk h2 h3 h4 h5 h6 hB1 hB2 hn
  have STB := Lib.hid (show Stb (fun w' => (w'.cell? ⟨b1, 0, none⟩ = some (.func (.func 54) #[] #[]) ∧ (w'.cell? ⟨b2, 0, none⟩ = some (.slice (some ad) n c) ∧ w'.cell? (ad.add (k * 5)) = some (.int .i64 kd))) ∧ Below w.heap.size w w') from stb_and (stb_and (stb_cell _ _) (stb_and (stb_cell _ _) (stb_cell _ _))) (stb_below w))
  go_enter Tryd.func69, Tryd.ntmps69
  go_upto_region 1 with fail
  have HS : ((w.drew.cell? ⟨b1, 0, none⟩ = some (.func (.func 54) #[] #[]) ∧ (w.drew.cell? ⟨b2, 0, none⟩ = some (.slice (some ad) n c) ∧ w.drew.cell? (ad.add (k * 5)) = some (.int .i64 kd))) ∧ Below w.heap.size w w.drew) := ⟨⟨b10, b20, d0⟩, belowD w⟩
  clear b10 b20 d0
  refine wp_region_noPanic ?_
  refine wp_region_held_drew (S := (fun w' => (w'.cell? ⟨b1, 0, none⟩ = some (.func (.func 54) #[] #[]) ∧ (w'.cell? ⟨b2, 0, none⟩ = some (.slice (some ad) n c) ∧ w'.cell? (ad.add (k * 5)) = some (.int .i64 kd))) ∧ Below w.heap.size w w')) (by kernel_rfl) HS (fun hHeld => ?_)
  clear HS
  refine tk 0 rfl ?_
  refine tk 1 rfl ?_
  refine tk 2 rfl ?_
  refine tk 3 rfl ?_
  refine tk 4 rfl ?_
  refine tk 5 rfl ?_
  (try simp only [cl, Act.put])
  refine rd 6 rfl fun K hK => ?_
  go_simp
  (go_at_call 54; (with_reducible refine (CL.out _ (bl_of (by with_reducible assumption))).mono ?_); rintro e5 w5 ⟨rfl, hb⟩)
  go_wp2_with fail
  refine hK.out _ _ (STB.out _ _ hb (by with_reducible assumption)) (fun hH2 => ?_)
  clear hK K hHeld hb; have hHeld := hH2; clear hH2
  (try simp only [cl, Act.put])
  refine tk 7 rfl ?_
  refine tk 8 rfl ?_
  (try simp only [cl, Act.put])
  refine wpAnyH_done (by kernel_rfl) ?_ _
  refine NoPanic.normal ?_
  have HB := Lib.hid (bl_of hHeld)
  clear hHeld
  go_wp2_with fail
  go_ret
  exact ⟨rfl, HB.out⟩

set_option maxRecDepth 10000 in
set_option maxHeartbeats 4000000 in
theorem all1_arg (w : World) (b1 b2 : Nat) (A : Option Addr) (c : Nat) (ns : List Nd) (k : Nat) (hB1 : Blk w b1 #[.func (.func 56) #[] #[]]) (hB2 : Blk w b2 #[.slice A ns.length c]) (hN : NodesAt w (.slice A ns.length c) ns) (hc : TstCall 56 #[] (.arg) w) (hk : k < ns.length) :
    Calls Tryd.prog 69 #[.int .i64 k, .pointer (some ⟨b1, 0, none⟩), .pointer (some ⟨b2, 0, none⟩)] w fun e w' => e = .returned (.bool (!Tst.f (.arg) (kindAt ns k))) ∧ Below w.heap.size w w' := by
  obtain ⟨A', c', rs, e0, h2, h3, h4, h5, h6⟩ := hN
  injection e0 with e1 _ e2
  subst e1 e2
  obtain ⟨n, hn⟩ : ∃ n, n = ns.length := ⟨_, rfl⟩
  obtain ⟨x, hx⟩ : ∃ x, rs[k]? = some x := ⟨_, List.getElem?_eq_getElem (by rw [show rs.length = ns.length by rw [← h4, List.length_map]]; exact hk)⟩
  have hnx : ns[k]? = some x.2 := by rw [← h4, List.getElem?_map, hx]; rfl
  rw [← hn] at h5 hk hB2
  obtain ⟨ad, rfl, d0, _⟩ := nodes_cells h5 (Below.refl _ _) hx (by omega)
  have hkd : kindAt ns k = x.2.kind := by unfold kindAt ndAt; rw [Int.toNat_natCast, hnx]; rfl
  rw [hkd]
  have cl : ∀ w' : World, Below w.heap.size w w' → Calls Tryd.prog 56 #[.int .i64 x.2.kind] w' (fun e w2 => e = .returned (.bool (Tst.f (.arg) x.2.kind)) ∧ Below w'.heap.size w' w2) := fun w' hb => hc w' x.2.kind hb
  have i1 : (k : Int) < (n : Int) := by omega
  have i2 : (0 : Int) ≤ (k : Int) := by omega
  have b10 : w.cell? ⟨b1, 0, none⟩ = some (.func (.func 56) #[] #[]) := hB1.cell 0
  have b20 : w.cell? ⟨b2, 0, none⟩ = some (.slice (some ad) n c) := hB2.cell 0
  generalize x.2.kind = kd at *
  generalize Tst.f (.arg) kd = BV at *
  have CL := Lib.hid cl
  clear cl hc hkd hnx hx hk h2 h3 h4 h5 h6 hB1 hB2 hn
  have STB := Lib.hid (show Stb (fun w' => (w'.cell? ⟨b1, 0, none⟩ = some (.func (.func 56) #[] #[]) ∧ (w'.cell? ⟨b2, 0, none⟩ = some (.slice (some ad) n c) ∧ w'.cell? (ad.add (k * 5)) = some (.int .i64 kd))) ∧ Below w.heap.size w w') from stb_and (stb_and (stb_cell _ _) (stb_and (stb_cell _ _) (stb_cell _ _))) (stb_below w))
  go_enter Tryd.func69, Tryd.ntmps69
  go_upto_region 1 with fail
  have HS : ((w.drew.cell? ⟨b1, 0, none⟩ = some (.func (.func 56) #[] #[]) ∧ (w.drew.cell? ⟨b2, 0, none⟩ = some (.slice (some ad) n c) ∧ w.drew.cell? (ad.add (k * 5)) = some (.int .i64 kd))) ∧ Below w.heap.size w w.drew) := ⟨⟨b10, b20, d0⟩, belowD w⟩
  clear b10 b20 d0
  refine wp_region_noPanic ?_
  refine wp_region_held_drew (S := (fun w' => (w'.cell? ⟨b1, 0, none⟩ = some (.func (.func 56) #[] #[]) ∧ (w'.cell? ⟨b2, 0, none⟩ = some (.slice (some ad) n c) ∧ w'.cell? (ad.add (k * 5)) = some (.int .i64 kd))) ∧ Below w.heap.size w w')) (by kernel_rfl) HS (fun hHeld => ?_)
  clear HS
  refine tk 0 rfl ?_
  refine tk 1 rfl ?_
  refine tk 2 rfl ?_
  refine tk 3 rfl ?_
  refine tk 4 rfl ?_
  refine tk 5 rfl ?_
  (try simp only [cl, Act.put])
  refine rd 6 rfl fun K hK => ?_
  go_simp
  (go_at_call 56; (with_reducible refine (CL.out _ (bl_of (by with_reducible assumption))).mono ?_); rintro e5 w5 ⟨rfl, hb⟩)
  go_wp2_with fail
  refine hK.out _ _ (STB.out _ _ hb (by with_reducible assumption)) (fun hH2 => ?_)
  clear hK K hHeld hb; have hHeld := hH2; clear hH2
  (try simp only [cl, Act.put])
  refine tk 7 rfl ?_
  refine tk 8 rfl ?_
  (try simp only [cl, Act.put])
  refine wpAnyH_done (by kernel_rfl) ?_ _
  refine NoPanic.normal ?_
  have HB := Lib.hid (bl_of hHeld)
  clear hHeld
  go_wp2_with fail
  go_ret
  exact ⟨rfl, HB.out⟩
end Go.Proofs.YtabnjiijgbigbaaDoor
