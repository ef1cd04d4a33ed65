/-
  The walk of BoundOrder. (Template: by-name.py fills it; gen/genBndX.py writes it.)
-/
import Derived.Test.YtkinbbhbencipaaJBndW
namespace Go.Proofs.Ytkinbbhbencipaa
open Go.RowKit

/-- Whether a system can be solved doesn't depend on the order of its rows. -/
theorem order_true {l m : List Rw} (hw : ∀ r ∈ l, RWide r) (hm : ∀ r, r ∈ m ↔ r ∈ l) : ((solB l).2 == (solB m).2 || (solB l).2 == 2 || (solB m).2 == 2) = true := by
  have hw2 : ∀ x ∈ m, RWide x := fun x hx => hw x ((hm x).1 hx)
  rcases solB_code l with a | a | a <;> rcases solB_code m with b | b | b
  · rw [a, b]; rfl
  · obtain ⟨x, hx⟩ := solB_sat hw a
    exact absurd (fun y hy => hx y ((hm y).1 hy)) (solB_unsat hw2 b x)
  · rw [a, b]; rfl
  · obtain ⟨x, hx⟩ := solB_sat hw2 b
    exact absurd (fun y hy => hx y ((hm y).2 hy)) (solB_unsat hw a x)
  · rw [a, b]; rfl
  · rw [a, b]; rfl
  · rw [a, b]; rfl
  · rw [a, b]; rfl
  · rw [a, b]; rfl
theorem rowCells_take : ∀ (l : List (Value × Rw)) (k : Nat), rowCells (l.take k) = (rowCells l).take (k * 4)
  | [], k => by simp [rowCells]
  | x :: r, 0 => by simp [rowCells]
  | x :: r, k + 1 => by
    rw [List.take_succ_cons, rowCells, rowCells, rowCells_take r k, show (k + 1) * 4 = k * 4 + 1 + 1 + 1 + 1 by omega, List.take_succ_cons, List.take_succ_cons, List.take_succ_cons, List.take_succ_cons]
theorem rowCells_drop : ∀ (l : List (Value × Rw)) (k : Nat), rowCells (l.drop k) = (rowCells l).drop (k * 4)
  | [], k => by simp [rowCells]
  | x :: r, 0 => by simp
  | x :: r, k + 1 => by
    rw [List.drop_succ_cons, rowCells, rowCells_drop r k, show (k + 1) * 4 = k * 4 + 1 + 1 + 1 + 1 by omega, List.drop_succ_cons, List.drop_succ_cons, List.drop_succ_cons, List.drop_succ_cons]
/-- A list of rows, its beginning put behind its end. -/
def rotR (ts : List Rw) (k : Nat) : List Rw := ts.drop k ++ ts.take k
theorem rows_rot {w w' : World} {base n k : Nat} {v : Value} {rs : List (Value × Rw)} {ts : List Rw} (hk : k ≤ n) (h1 : rs.map (·.2) = ts) (h2 : rs.length = n) (h3 : ∀ x ∈ rs, RatsAt w x.1 x.2.2.1) (hb : Below w.heap.size w w') (h : w'.ownsRow base 29 4 v (n - k + k) (rowCells (rs.drop k) ++ rowCells (rs.take k))) : RowsAt w' v (rotR ts k) := by
  rw [← rowCells_append] at h
  have e : (rs.drop k ++ rs.take k).map (·.2) = rotR ts k := by rw [List.map_append, List.map_drop, List.map_take, h1]; rfl
  have el : (rotR ts k).length = n - k + k := by rw [← e, List.length_map, List.length_append, List.length_drop, List.length_take, h2]; omega
  have o : OwnR w' base v (rotR ts k) (fun _ => False) := ⟨_, e, by rw [el]; exact h, fun x hx => ⟨(h3 x (by
    rcases List.mem_append.1 hx with g | g
    · exact List.mem_of_mem_drop g
    · exact List.mem_of_mem_take g)).below hb, fun _ _ _ q => q⟩⟩
  exact o.rows
theorem rotR_mem (ts : List Rw) (k : Nat) (t : Rw) : t ∈ rotR ts k ↔ t ∈ ts := by
  unfold rotR
  rw [List.mem_append, Or.comm, ← List.mem_append, List.take_append_drop]
theorem u8b_bd {n : Int} (h : (Lit.int .u8 n).wf = true) : 0 ≤ n ∧ n ≤ 255 := by
  simp only [Lit.wf, Bool.and_eq_true, decide_eq_true_eq] at h
  exact h
set_option maxRecDepth 10000 in
set_option maxHeartbeats 2000000 in
theorem border_out (w : World) (v : Value) (ts : List Rw) (at_ : Int) (h : RowsAt w v ts) (hs : smallR ts = false) :
    Calls Try.prog 6 #[v, .int .u8 at_] w fun e w' => e = .returned (.bool true) ∧ Below w.heap.size w w' := by
  have sm := fun (w' : World) (hb : Below w.heap.size w w') => smallr_any w' v ts (h.below hb)
  rw [hs] at sm
  have SM := Lib.hid sm
  have B0 := Lib.hid (Below.refl w.heap.size w)
  clear sm h hs
  go_enter Try.func6, Try.ntmps6
  go_wp2_with (first
    | (go_at_call 7; (with_reducible refine (awake4_yes _).mono ?_); rintro e w1 ⟨rfl, hb⟩; have B0 := Lib.hid (B0.out.trans (hb.mono B0.out.size)); clear hb)
    | (go_at_call 8; (with_reducible refine (SM.out _ B0.out).mono ?_); rintro e w2 ⟨rfl, hb⟩; have B0 := Lib.hid (B0.out.trans (hb.mono B0.out.size)); clear hb))
  go_ret
  exact ⟨rfl, B0.out⟩
set_option maxRecDepth 10000 in
set_option maxHeartbeats 2000000 in
theorem border_none (w : World) (v : Value) (at_ : Int) (h : RowsAt w v []) :
    Calls Try.prog 6 #[v, .int .u8 at_] w fun e w' => e = .returned (.bool true) ∧ Below w.heap.size w w' := by
  have sm := fun (w' : World) (hb : Below w.heap.size w w') => smallr_any w' v [] (h.below hb)
  rw [show smallR [] = true from rfl] at sm
  have SM := Lib.hid sm
  have B0 := Lib.hid (Below.refl w.heap.size w)
  obtain ⟨A, c, rs, e, _⟩ := h
  obtain rfl : v = .slice A 0 c := e
  clear sm
  go_enter Try.func6, Try.ntmps6
  go_wp2_with (first
    | (go_at_call 7; (with_reducible refine (awake4_yes _).mono ?_); rintro e w1 ⟨rfl, hb⟩; have B0 := Lib.hid (B0.out.trans (hb.mono B0.out.size)); clear hb)
    | (go_at_call 8; (with_reducible refine (SM.out _ B0.out).mono ?_); rintro e w2 ⟨rfl, hb⟩; have B0 := Lib.hid (B0.out.trans (hb.mono B0.out.size)); clear hb))
  go_ret
  exact ⟨rfl, B0.out⟩

set_option maxRecDepth 100000 in
set_option maxHeartbeats 8000000 in
theorem border_big (w : World) (v : Value) (ts : List Rw) (h : RowsAt w v ts) (hw : ∀ t ∈ ts, RWide t) (at_ : Int) (wa : (Lit.int .u8 at_).wf = true) (hs : smallR ts = true) (hne : 0 < ts.length) :
    Calls Try.prog 6 #[v, .int .u8 at_] w fun e w' => e = .returned (.bool true) ∧ Below w.heap.size w w' := by
  obtain ⟨ba1, ba2⟩ := u8b_bd wa
  obtain ⟨iT, hiT, zT0, zT1, zT2⟩ := info_parts infoRow
  obtain ⟨k, hk⟩ : ∃ k : Nat, (k : Int) = at_.tmod (ts.length : Int) := ⟨(at_.tmod (ts.length : Int)).toNat, by have := Int.tmod_nonneg (ts.length : Int) ba1; omega⟩
  have hkn : k < ts.length := by
    have := Int.tmod_lt_of_pos at_ (show (0 : Int) < (ts.length : Int) by omega)
    omega
  have sml : ts.length ≤ 8 := by
    unfold smallR at hs
    rw [Bool.and_eq_true] at hs
    exact of_decide_eq_true hs.2
  have g1 := fun (w' : World) (hb : Below w.heap.size w w') => bsolve_any w' v ts (h.below hb) hw
  have hwr : ∀ t ∈ rotR ts k, RWide t := fun t ht => hw t ((rotR_mem ts k t).1 ht)
  have g2 := fun (w' : World) (s : Value) (hs : RowsAt w' s (rotR ts k)) => bsolve_any w' s (rotR ts k) hs hwr
  have hord := order_true (m := rotR ts k) hw (rotR_mem ts k)
  have sm := fun (w' : World) (hb : Below w.heap.size w w') => smallr_any w' v ts (h.below hb)
  rw [hs] at sm
  have B0 := Lib.hid (Below.refl w.heap.size w)
  obtain ⟨A, c, rs, rfl, h2, h3, h4, h5, h6⟩ := h
  have hrn : rs.length = ts.length := by rw [← h4, List.length_map]
  obtain ⟨n, hn⟩ : ∃ n, n = ts.length := ⟨_, rfl⟩
  rw [← hn] at h2 h5 hkn sml hrn hk hne sm g1 ⊢
  have SM := Lib.hid sm
  obtain ⟨ad, rfl, hadb, hadc⟩ := h5.2 hne
  have hck : ¬ c = k := by omega
  have r1 : Reads w w.heap.size 4 (some (ad.add (k * 4))) (n - k) (rowCells (rs.drop k)) := by
    have := h5.cut (k := k) (cap := c) (by omega) h2
    rw [if_neg hck, ← rowCells_drop] at this
    exact this
  have r2 : Reads w w.heap.size 4 (some ad) k (rowCells (rs.take k)) := by
    refine ⟨by rw [rowCells_length, List.length_take, hrn]; omega, fun _ => ⟨ad, rfl, hadb, fun j u hu => hadc j u ?_⟩⟩
    rw [rowCells_take, List.getElem?_take] at hu
    split at hu
    · exact hu
    · cases hu
  have RD := Lib.hid (And.intro r1 r2)
  have one := rowCells_one rs fun x hx => by
    obtain ⟨A', c', e⟩ := rats_shape (h6 x hx)
    exact ⟨_, _, _, e⟩
  have ON := Lib.hid (And.intro (fun u hu => one u (by rw [rowCells_drop] at hu; exact List.mem_of_mem_drop hu) : ∀ u ∈ rowCells (rs.drop k), u.oneCell' = true) (fun u hu => one u (by rw [rowCells_take] at hu; exact List.mem_of_mem_take hu) : ∀ u ∈ rowCells (rs.take k), u.oneCell' = true))
  have LN := Lib.hid (And.intro (by unfold maxLen; omega : 0 + (n - k) ≤ maxLen) (And.intro (by omega : (0 + (n - k)) * 48 ≤ 140737488355328) (And.intro (by unfold maxLen; omega : n - k + k ≤ maxLen) (by omega : (n - k + k) * 48 ≤ 140737488355328))))
  have RS := Lib.hid (And.intro h4 (And.intro hrn h6))
  have c1 := solB_code ts
  have c2 := solB_code (rotR ts k)
  generalize solB ts = q1 at g1 hord c1
  generalize solB (rotR ts k) = q2 at g2 hord c2
  obtain ⟨res1, z⟩ := q1
  obtain ⟨res2, z'⟩ := q2
  dsimp only at *
  have G1 := Lib.hid g1
  have G2 := Lib.hid g2
  have TR := Lib.hid (And.intro hord (And.intro c1 c2))
  have j1 : ((n : Int) == 0) = false := by rw [beq_eq_false_iff_ne]; omega
  have j2 : ¬ (n : Int) = 0 := by omega
  have j3 : at_.tmod (n : Int) = (k : Int) := hk.symm
  have j4 : IntKind.i64.wrap at_ = at_ := IntWalk.i64_in _ (by omega)
  have j5 : (k : Int) ≤ (n : Int) := by omega
  have j6 : (0 : Int) ≤ (k : Int) := by omega
  have j7 : (k : Int) ≤ (c : Int) := by omega
  have j8 : (n : Int) ≤ (c : Int) := by omega
  have j9 : k ≤ n := by omega
  have j10 : k ≤ c := by omega
  clear sm g1 g2 hs h2 h3 h4 h5 h6 r1 r2 one hadc hadb hn hk wa ba1 ba2 hwr hw sml hord c1 c2
  go_enter Try.func6, Try.ntmps6
  go_upto_region 5 with (first
    | (go_at_call 7; (with_reducible refine (awake4_yes _).mono ?_); rintro e w1 ⟨rfl, hb⟩; have B0 := Lib.hid (B0.out.trans (hb.mono B0.out.size)); clear hb)
    | (go_at_call 8; (with_reducible refine (SM.out _ B0.out).mono ?_); rintro e w2 ⟨rfl, hb⟩; have B0 := Lib.hid (B0.out.trans (hb.mono B0.out.size)); clear hb)
    | (go_at_call 10; (with_reducible refine (G1.out _ B0.out).mono ?_); rintro e w4 ⟨A4, c4, rfl, _, _, hb⟩; have HSX := Lib.hid (B0.out.trans (hb.mono B0.out.size)); clear hb))
  have HSY := HSX.out.drew
  refine wp_region_noPanic ?_
  refine wp_region_held_drew (S := (fun w' => Below w.heap.size w w')) (by kernel_rfl) HSY (fun hHeld => ?_)
  refine wpAnyH_take (i := 1) (oi := _) (v := ?_) rfl (by kernel_rfl) (by kernel_rfl) (by kernel_rfl) (fun _ _ _ h => h) (Or.inl ⟨by rfl, ?_⟩) (by assumption) ?_
  rotate_left
  · intro ww hSw
    (try dsimp only at hSw)
    go_simp <;> with_reducible rfl
  (try simp only [List.getElem_toArray, List.getElem_cons_succ, List.getElem_cons_zero, Act.put, List.setIfInBounds_toArray, List.set_cons_zero, List.set_cons_succ])
  refine wpAnyH_take (i := 2) (oi := _) (v := ?_) rfl (by kernel_rfl) (by kernel_rfl) (by kernel_rfl) (fun _ _ _ h => h) (Or.inl ⟨by rfl, ?_⟩) (by assumption) ?_
  rotate_left
  · intro ww hSw
    (try dsimp only at hSw)
    go_simp <;> with_reducible rfl
  (try simp only [List.getElem_toArray, List.getElem_cons_succ, List.getElem_cons_zero, Act.put, List.setIfInBounds_toArray, List.set_cons_zero, List.set_cons_succ])
  refine wpAnyH_take (i := 3) (oi := _) (v := ?_) rfl (by kernel_rfl) (by kernel_rfl) (by kernel_rfl) (fun _ _ _ h => h) (Or.inl ⟨by rfl, ?_⟩) (by assumption) ?_
  rotate_left
  · intro ww hSw
    (try dsimp only at hSw)
    go_simp <;> with_reducible rfl
  (try simp only [List.getElem_toArray, List.getElem_cons_succ, List.getElem_cons_zero, Act.put, List.setIfInBounds_toArray, List.set_cons_zero, List.set_cons_succ])
  refine wpAnyH_take (i := 5) (oi := _) (v := ?_) rfl (by kernel_rfl) (by kernel_rfl) (by kernel_rfl) (fun _ _ _ h => h) (Or.inl ⟨by rfl, ?_⟩) (by assumption) ?_
  rotate_left
  · intro ww hSw
    (try dsimp only at hSw)
    go_simp <;> with_reducible rfl
  (try simp only [List.getElem_toArray, List.getElem_cons_succ, List.getElem_cons_zero, Act.put, List.setIfInBounds_toArray, List.set_cons_zero, List.set_cons_succ])
  refine wpAnyH_take (i := 6) (oi := _) (v := ?_) rfl (by kernel_rfl) (by kernel_rfl) (by kernel_rfl) (fun _ _ _ h => h) (Or.inl ⟨by rfl, ?_⟩) (by assumption) ?_
  rotate_left
  · intro ww hSw
    (try dsimp only at hSw)
    go_simp <;> with_reducible rfl
  (try simp only [List.getElem_toArray, List.getElem_cons_succ, List.getElem_cons_zero, Act.put, List.setIfInBounds_toArray, List.set_cons_zero, List.set_cons_succ])
  refine wpAnyH_take (i := 7) (oi := _) (v := ?_) rfl (by kernel_rfl) (by kernel_rfl) (by kernel_rfl) (fun _ _ _ h => h) (Or.inl ⟨by rfl, ?_⟩) (by assumption) ?_
  rotate_left
  · intro ww hSw
    (try dsimp only at hSw)
    go_simp <;> with_reducible rfl
  (try simp only [List.getElem_toArray, List.getElem_cons_succ, List.getElem_cons_zero, Act.put, List.setIfInBounds_toArray, List.set_cons_zero, List.set_cons_succ])
  refine wpAnyH_ready (rs := [0]) (by kernel_rfl) (by simp) ?_
  refine AllReadyH.cons (o := _) rfl (fun K hK => ?_) AllReadyH.nil
  go_simp
  (first | refine hK.out _ _ ((HSX.out.alloc HSX.out.size _).drew) (fun hH2 => ?_) | refine hK.out _ _ ((HSX.out.drew).alloc HSX.out.size _) (fun hH2 => ?_))
  clear hK K hHeld
  have hHeld := hH2
  clear hH2
  (try simp only [List.getElem_toArray, List.getElem_cons_zero, Act.put, List.setIfInBounds_toArray, List.set_cons_zero, List.set_cons_succ])
  refine wpAnyH_ready (rs := [4]) (by kernel_rfl) (by simp) ?_
  refine AllReadyH.cons (o := _) rfl (fun K hK => ?_) AllReadyH.nil
  refine step_append_any _ rfl _ _ 22 rfl w.heap.size 29 iT (.agg #[.int .i64 0, .slice none 0 0, .int .i64 0, .int .i64 0]) 4 48 Try.underlying22 hiT zT0 zT1 zT2 rfl (by decide) _ 0 [] rfl (own_rebase (own_emptyR w4.drew) HSX.out.size) w.heap.size (some (ad.add (k * 4))) (n - k) (c - k) (rowCells (rs.drop k)) rfl (RD.out.1.below hHeld) ON.out.1 LN.out.1 LN.out.2.1 (by have := HSX.out.size; simp; omega) (fun v4 w5 hown hgrow hat => ?_)
  have ow4 := Lib.hid (show w5.ownsRow w.heap.size 29 4 v4 (n - k) (rowCells (rs.drop k)) by simpa using hown)
  have b4 : Below w.heap.size w w5 := hHeld.grown hgrow hHeld.size (fun q hq => by have e : w4.heap.size = q := Option.some.inj (show some w4.heap.size = some q from hq); have := HSX.out.size; omega)
  refine hK.out _ _ b4 (fun hH2 => ?_)
  clear hK K hHeld hown hgrow hat b4
  have hHeld := hH2
  clear hH2
  (try simp only [List.getElem_toArray, List.getElem_cons_succ, List.getElem_cons_zero, Act.put, List.setIfInBounds_toArray, List.set_cons_zero, List.set_cons_succ])
  refine wpAnyH_ready (rs := [8]) (by kernel_rfl) (by simp) ?_
  refine AllReadyH.cons (o := _) rfl (fun K hK => ?_) AllReadyH.nil
  refine step_append_any _ rfl _ _ 22 rfl w.heap.size 29 iT (.agg #[.int .i64 0, .slice none 0 0, .int .i64 0, .int .i64 0]) 4 48 Try.underlying22 hiT zT0 zT1 zT2 rfl (by decide) _ (n - k) (rowCells (rs.drop k)) rfl ow4.out w.heap.size (some ad) k c (rowCells (rs.take k)) rfl (RD.out.2.below hHeld) ON.out.2 LN.out.2.2.1 LN.out.2.2.2 hHeld.size (fun v8 w8 hown hgrow hat => ?_)
  have b8 : Below w.heap.size w w8 := hHeld.grown hgrow hHeld.size (fun q hq => (ow4.out.lt q hq).1)
  have HROT := Lib.hid (rows_rot (by have := LN.out.2.2.1; omega) RS.out.1 RS.out.2.1 RS.out.2.2 b8 hown)
  refine hK.out _ _ b8 (fun hH2 => ?_)
  clear hK K hHeld hown hgrow hat b8
  have hHeld := hH2
  clear hH2
  (try simp only [List.getElem_toArray, List.getElem_cons_succ, List.getElem_cons_zero, Act.put, List.setIfInBounds_toArray, List.set_cons_zero, List.set_cons_succ])
  refine wpAnyH_ready (rs := [9]) (by kernel_rfl) (by simp) ?_
  refine AllReadyH.cons (o := _) rfl (fun K hK => ?_) AllReadyH.nil
  go_simp
  (go_at_call 10; (with_reducible refine (G2.out _ _ HROT.out).mono ?_); rintro e9 w9 ⟨A9, c9, rfl, _, _, hb⟩)
  go_wp2_with fail
  refine hK.out _ _ (hHeld.trans (hb.mono hHeld.size)) (fun hH2 => ?_)
  clear hK K hHeld hb
  have hHeld := hH2
  clear hH2
  (try simp only [List.getElem_toArray, List.getElem_cons_succ, List.getElem_cons_zero, Act.put, List.setIfInBounds_toArray, List.set_cons_zero, List.set_cons_succ])
  refine wpAnyH_take (i := 10) (oi := _) (v := ?_) rfl (by kernel_rfl) (by kernel_rfl) (by kernel_rfl) (fun _ _ _ h => h) (Or.inl ⟨by rfl, ?_⟩) (by assumption) ?_
  rotate_left
  · intro ww hSw
    (try dsimp only at hSw)
    go_simp <;> with_reducible rfl
  (try simp only [List.getElem_toArray, List.getElem_cons_succ, List.getElem_cons_zero, Act.put, List.setIfInBounds_toArray, List.set_cons_zero, List.set_cons_succ])
  refine wpAnyH_take (i := 11) (oi := _) (v := ?_) rfl (by kernel_rfl) (by kernel_rfl) (by kernel_rfl) (fun _ _ _ h => h) (Or.inl ⟨by rfl, ?_⟩) (by assumption) ?_
  rotate_left
  · intro ww hSw
    (try dsimp only at hSw)
    go_simp <;> with_reducible rfl
  (try simp only [List.getElem_toArray, List.getElem_cons_succ, List.getElem_cons_zero, Act.put, List.setIfInBounds_toArray, List.set_cons_zero, List.set_cons_succ])
  refine wpAnyH_take (i := 12) (oi := _) (v := ?_) rfl (by kernel_rfl) (by kernel_rfl) (by kernel_rfl) (fun _ _ _ h => h) (Or.inl ⟨by rfl, ?_⟩) (by assumption) ?_
  rotate_left
  · intro ww hSw
    (try dsimp only at hSw)
    go_simp <;> with_reducible rfl
  (try simp only [List.getElem_toArray, List.getElem_cons_succ, List.getElem_cons_zero, Act.put, List.setIfInBounds_toArray, List.set_cons_zero, List.set_cons_succ])
  refine wpAnyH_take (i := 13) (oi := _) (v := ?_) rfl (by kernel_rfl) (by kernel_rfl) (by kernel_rfl) (fun _ _ _ h => h) (Or.inl ⟨by rfl, ?_⟩) (by assumption) ?_
  rotate_left
  · intro ww hSw
    (try dsimp only at hSw)
    go_simp <;> with_reducible rfl
  (try simp only [List.getElem_toArray, List.getElem_cons_succ, List.getElem_cons_zero, Act.put, List.setIfInBounds_toArray, List.set_cons_zero, List.set_cons_succ])
  refine wpAnyH_take (i := 14) (oi := _) (v := ?_) rfl (by kernel_rfl) (by kernel_rfl) (by kernel_rfl) (fun _ _ _ h => h) (Or.inl ⟨by rfl, ?_⟩) (by assumption) ?_
  rotate_left
  · intro ww hSw
    (try dsimp only at hSw)
    go_simp <;> with_reducible rfl
  (try simp only [List.getElem_toArray, List.getElem_cons_succ, List.getElem_cons_zero, Act.put, List.setIfInBounds_toArray, List.set_cons_zero, List.set_cons_succ])
  refine wpAnyH_done (by kernel_rfl) ?_ _
  refine NoPanic.normal ?_
  have B8 := Lib.hid hHeld
  clear hHeld HROT ow4 HSX HSY RD ON LN RS SM j1 j2 j3 j4 j5 j6 j7 j8 j9 j10 hck hne hrn hkn G1 G2 B0
  have tr := TR.out.1
  rcases TR.out.2.1 with rfl | rfl | rfl <;> rcases TR.out.2.2 with rfl | rfl | rfl
  all_goals first
    | (exfalso; revert tr; decide)
    | (clear tr TR; go_wp2_with fail; go_ret; exact ⟨rfl, B8.out⟩)

theorem border_any (w : World) (v : Value) (ts : List Rw) (h : RowsAt w v ts) (hw : ∀ t ∈ ts, RWide t) (at_ : Int) (wa : (Lit.int .u8 at_).wf = true) :
    Calls Try.prog 6 #[v, .int .u8 at_] w fun e w' => e = .returned (.bool true) ∧ Below w.heap.size w w' := by
  cases hs : smallR ts
  · exact border_out w v ts at_ h hs
  · rcases Nat.eq_zero_or_pos ts.length with g | g
    · obtain rfl := List.eq_nil_of_length_eq_zero g
      exact border_none w v at_ h
    · exact border_big w v ts h hw at_ wa hs g
end Go.Proofs.Ytkinbbhbencipaa
