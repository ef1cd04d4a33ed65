/-
  What Solve's answers say; the walk of BoundMore. (Template: by-name.py fills it; gen/genBndW.py writes it.)
-/
import Derived.Test.YtkinbbhbencipaaJBndU
import Derived.Test.YtkinbbhbencipaaJBndV
namespace Go.Proofs.Ytkinbbhbencipaa
open Go.RowKit

theorem rwide_w {l : List Rw} (hw : ∀ r ∈ l, RWide r) : WideR l := fun r hr => ⟨(hw r hr).1, (hw r hr).2.1⟩
/-- Solve's answers: satisfiable, unsatisfiable, over. -/
theorem solB_code (l : List Rw) : (solB l).2 = 0 ∨ (solB l).2 = 1 ∨ (solB l).2 = 2 := by
  unfold solB
  cases h : frontT l with
  | inl z =>
    dsimp only
    unfold frontT at h
    split at h
    · injection h with h; exact .inr (.inr h.symm)
    · split at h
      · injection h with h
        rcases solveT_code (eqsR l) with q | ⟨q, _⟩ | ⟨q, _⟩
        · rename_i g; exact absurd q g
        · exact .inr (.inl (by rw [← h, q]))
        · exact .inr (.inr (by rw [← h, q]))
      · split at h
        · injection h with h; exact .inr (.inr h.symm)
        · split at h
          · injection h with h; exact .inr (.inr h.symm)
          · split at h
            · injection h with h; exact .inr (.inl h.symm)
            · cases h
  | inr f =>
    dsimp only
    split
    · exact .inr (.inr rfl)
    · exact .inl rfl
theorem front_not0 {l : List Rw} : frontT l ≠ .inl 0 := fun h => by
  unfold frontT at h
  split at h
  · injection h with h; cases h
  · split at h
    · rename_i g; injection h with h; exact g h
    · split at h
      · injection h with h; cases h
      · split at h
        · injection h with h; cases h
        · split at h
          · injection h with h; cases h
          · cases h
theorem solB_sat {l : List Rw} (hw : ∀ r ∈ l, RWide r) (h : (solB l).2 = 0) : ∃ x, ∀ r ∈ l, satF r x := by
  unfold solB at h
  cases e : frontT l with
  | inl z =>
    rw [e] at h
    dsimp only at h
    subst h
    exact absurd e front_not0
  | inr f => exact front_sat (rwide_w hw) e
theorem solB_unsat {l : List Rw} (hw : ∀ r ∈ l, RWide r) (h : (solB l).2 = 1) (x : Nat → Rat) : ¬ ∀ r ∈ l, satF r x := by
  unfold solB at h
  cases e : frontT l with
  | inl z =>
    rw [e] at h
    dsimp only at h
    subst h
    exact front_unsat (rwide_w hw) e x
  | inr f =>
    rw [e] at h
    dsimp only at h
    split at h
    · cases h
    · cases h
/-- With one row more an unsolvable system stays so. -/
theorem more_true {l : List Rw} {r : Rw} (hw : ∀ r ∈ l, RWide r) (hr : RWide r) : ((solB l).2 == 2 || (solB (l ++ [r])).2 == 2 || !((solB l).2 == 1 && (solB (l ++ [r])).2 == 0)) = true := by
  have hw2 : ∀ x ∈ l ++ [r], RWide x := fun x hx' => by
    rcases List.mem_append.1 hx' with q | q
    · exact hw x q
    · rw [List.mem_singleton] at q; subst q; exact hr
  by_cases h1 : (solB l).2 = 1
  · by_cases h2 : (solB (l ++ [r])).2 = 0
    · obtain ⟨x, hx⟩ := solB_sat hw2 h2
      exact absurd (fun y hy => hx y (List.mem_append_left _ hy)) (solB_unsat hw h1 x)
    · have e : ((solB (l ++ [r])).2 == 0) = false := by simpa using h2
      rw [e]
      simp
  · have e : ((solB l).2 == 1) = false := by simpa using h1
    rw [e]
    simp

section
variable {wq wo : World} {A : Prop} {base : Nat}
theorem empB_of (_ : A ∧ Below wq.heap.size wq (wo.alloc (.cells #[] 29))) (h : wq.heap.size ≤ wo.heap.size) : (wo.alloc (.cells #[] 29)).ownsRow wq.heap.size 29 4 (.slice (some ⟨wo.heap.size, 0, none⟩) 0 0) 0 [] := own_rebase (own_emptyR wo) h
theorem empB_of2 (_ : A ∧ Below wq.heap.size wq (wo.alloc (.cells #[] 29)).drew) (h : wq.heap.size ≤ wo.heap.size) : (wo.alloc (.cells #[] 29)).drew.ownsRow wq.heap.size 29 4 (.slice (some ⟨wo.heap.size, 0, none⟩) 0 0) 0 [] := own_rebase (own_emptyR wo) h
theorem ownr_of {o : Obj} {v : Value} {n : Nat} {xs : List Value} (_ : A ∧ Below wq.heap.size wq (wo.alloc o)) (h : wo.ownsRow base 29 4 v n xs) : (wo.alloc o).ownsRow base 29 4 v n xs := h.kept (grown_of_below (below_alloc1 _ _) none) (by cases hv : v.ownBlock <;> simp)
end
theorem size_drew (w : World) : w.drew.heap.size = w.heap.size := rfl
theorem newk_ofB {A : Prop} {wq wo : World} {o : Obj} {c : Nat} {xs : List Value} (_ : A ∧ Below wq.heap.size wq (wo.alloc o)) (h : NewAt wo 0 c xs) : NewAt (wo.alloc o) 0 c xs := h.keep (below_alloc1 _ _)
theorem newB_grown {w w' : World} {c : Nat} {xs : List Value} {row : Option Nat} (h : NewAt w 0 c xs) (hg : w.grownBy w' row) (hr : row ≠ some c) : NewAt w' 0 c xs :=
  ⟨Nat.zero_le _, Nat.lt_of_lt_of_le h.2.1 hg.size, fun j u hu => hg.cell (h.2.2 j u hu) (fun e => hr e.symm)⟩

set_option maxRecDepth 100000 in
set_option maxHeartbeats 4000000 in
theorem more_small (w : World) (v : Value) (l : List Rw) (h : RowsAt w v l) (s : Value) (r : Rw) (q : RatsAt w s r.2.1) (hs : smallR l = false) :
    Calls Try.prog 3 #[v, .agg #[.int .i64 r.1, s, .int .i64 r.2.2.1, .int .i64 r.2.2.2]] w fun e w' => e = .returned (.bool true) ∧ Below w.heap.size w w' := by
  obtain ⟨xo, xl, x1, x2⟩ := r
  dsimp only at *
  obtain ⟨Ax, cx, rfl⟩ := rats_shape q
  have a := below_alloc1 w (.cells #[.int .i64 xo, .slice Ax xl.length cx, .int .i64 x1, .int .i64 x2] 29)
  have BB := Blk.start w #[.int .i64 xo, .slice Ax xl.length cx, .int .i64 x1, .int .i64 x2] 29
  have sm := fun (w' : World) (hb : Below w.heap.size w w') => smallr_any w' v l (h.below hb)
  have s2 := fun (w' : World) (hb : Below w.heap.size w w') => small_any w' (.slice Ax xl.length cx) xl x1 x2 (q.below hb)
  rw [hs] at sm
  have SM := Lib.hid sm
  have S2 := Lib.hid s2
  have B1 := Lib.hid (And.intro a BB)
  obtain ⟨A, c, _, rfl, _⟩ := h
  clear sm s2 a BB q
  generalize xl.length = xn at *
  generalize l.length = n at *
  go_enter Try.func3, Try.ntmps3
  go_upto_region 1 with fail
  generalize hb3 : w.heap.size = b3 at *
  generalize w.alloc (.cells #[.int .i64 xo, .slice Ax xn cx, .int .i64 x1, .int .i64 x2] 29) = w0 at *
  have B0 := Lib.hid B1.out.1
  have BK := Lib.hid B1.out.2
  clear B1
  go_wp2_with (first
    | (go_at_call 7; (with_reducible refine (awake4_yes _).mono ?_); rintro e w1 ⟨rfl, hb⟩; have B0 := Lib.hid (below_next hb3 B0.out hb); have BK := Lib.hid (BK.out.keep hb); clear hb)
    | (go_at_call 8; (with_reducible refine (SM.out _ B0.out).mono ?_); rintro e w2 ⟨rfl, hb⟩; have B0 := Lib.hid (below_next hb3 B0.out hb); have BK := Lib.hid (BK.out.keep hb); clear hb; have k1 := BK.out.cell 1; have k2 := BK.out.cell 2; have k3 := BK.out.cell 3))
  go_ret
  exact ⟨rfl, by rw [hb3]; exact B0.out⟩

set_option maxRecDepth 100000 in
set_option maxHeartbeats 4000000 in
theorem more_long (w : World) (v : Value) (l : List Rw) (h : RowsAt w v l) (s : Value) (r : Rw) (q : RatsAt w s r.2.1) (hs : smallR l = true) (hl : 7 < l.length) :
    Calls Try.prog 3 #[v, .agg #[.int .i64 r.1, s, .int .i64 r.2.2.1, .int .i64 r.2.2.2]] w fun e w' => e = .returned (.bool true) ∧ Below w.heap.size w w' := by
  obtain ⟨xo, xl, x1, x2⟩ := r
  dsimp only at *
  obtain ⟨Ax, cx, rfl⟩ := rats_shape q
  have a := below_alloc1 w (.cells #[.int .i64 xo, .slice Ax xl.length cx, .int .i64 x1, .int .i64 x2] 29)
  have BB := Blk.start w #[.int .i64 xo, .slice Ax xl.length cx, .int .i64 x1, .int .i64 x2] 29
  have sm := fun (w' : World) (hb : Below w.heap.size w w') => smallr_any w' v l (h.below hb)
  have s2 := fun (w' : World) (hb : Below w.heap.size w w') => small_any w' (.slice Ax xl.length cx) xl x1 x2 (q.below hb)
  rw [hs] at sm
  have i1 : (7 : Int) < (l.length : Int) := by omega
  clear hl
  have SM := Lib.hid sm
  have S2 := Lib.hid s2
  have B1 := Lib.hid (And.intro a BB)
  obtain ⟨A, c, _, rfl, _⟩ := h
  clear sm s2 a BB q
  generalize xl.length = xn at *
  generalize l.length = n at *
  go_enter Try.func3, Try.ntmps3
  go_upto_region 1 with fail
  generalize hb3 : w.heap.size = b3 at *
  generalize w.alloc (.cells #[.int .i64 xo, .slice Ax xn cx, .int .i64 x1, .int .i64 x2] 29) = w0 at *
  have B0 := Lib.hid B1.out.1
  have BK := Lib.hid B1.out.2
  clear B1
  go_wp2_with (first
    | (go_at_call 7; (with_reducible refine (awake4_yes _).mono ?_); rintro e w1 ⟨rfl, hb⟩; have B0 := Lib.hid (below_next hb3 B0.out hb); have BK := Lib.hid (BK.out.keep hb); clear hb)
    | (go_at_call 8; (with_reducible refine (SM.out _ B0.out).mono ?_); rintro e w2 ⟨rfl, hb⟩; have B0 := Lib.hid (below_next hb3 B0.out hb); have BK := Lib.hid (BK.out.keep hb); clear hb; have k1 := BK.out.cell 1; have k2 := BK.out.cell 2; have k3 := BK.out.cell 3))
  go_ret
  exact ⟨rfl, by rw [hb3]; exact B0.out⟩

set_option maxRecDepth 100000 in
set_option maxHeartbeats 4000000 in
theorem more_wide (w : World) (v : Value) (l : List Rw) (h : RowsAt w v l) (s : Value) (r : Rw) (q : RatsAt w s r.2.1) (hs : smallR l = true) (hl : ¬ 7 < l.length) (hx : ¬ r.2.1.length ≤ 12) :
    Calls Try.prog 3 #[v, .agg #[.int .i64 r.1, s, .int .i64 r.2.2.1, .int .i64 r.2.2.2]] w fun e w' => e = .returned (.bool true) ∧ Below w.heap.size w w' := by
  obtain ⟨xo, xl, x1, x2⟩ := r
  dsimp only at *
  obtain ⟨Ax, cx, rfl⟩ := rats_shape q
  have a := below_alloc1 w (.cells #[.int .i64 xo, .slice Ax xl.length cx, .int .i64 x1, .int .i64 x2] 29)
  have BB := Blk.start w #[.int .i64 xo, .slice Ax xl.length cx, .int .i64 x1, .int .i64 x2] 29
  have sm := fun (w' : World) (hb : Below w.heap.size w w') => smallr_any w' v l (h.below hb)
  have s2 := fun (w' : World) (hb : Below w.heap.size w w') => small_any w' (.slice Ax xl.length cx) xl x1 x2 (q.below hb)
  rw [hs] at sm
  have i1 : ¬ (7 : Int) < (l.length : Int) := by omega
  rw [show decide (xl.length ≤ 12) = false from decide_eq_false hx] at s2
  clear hl hx
  have SM := Lib.hid sm
  have S2 := Lib.hid s2
  have B1 := Lib.hid (And.intro a BB)
  obtain ⟨A, c, _, rfl, _⟩ := h
  clear sm s2 a BB q
  generalize xl.length = xn at *
  generalize l.length = n at *
  go_enter Try.func3, Try.ntmps3
  go_upto_region 1 with fail
  generalize hb3 : w.heap.size = b3 at *
  generalize w.alloc (.cells #[.int .i64 xo, .slice Ax xn cx, .int .i64 x1, .int .i64 x2] 29) = w0 at *
  have B0 := Lib.hid B1.out.1
  have BK := Lib.hid B1.out.2
  clear B1
  go_wp2_with (first
    | (go_at_call 7; (with_reducible refine (awake4_yes _).mono ?_); rintro e w1 ⟨rfl, hb⟩; have B0 := Lib.hid (below_next hb3 B0.out hb); have BK := Lib.hid (BK.out.keep hb); clear hb)
    | (go_at_call 8; (with_reducible refine (SM.out _ B0.out).mono ?_); rintro e w2 ⟨rfl, hb⟩; have B0 := Lib.hid (below_next hb3 B0.out hb); have BK := Lib.hid (BK.out.keep hb); clear hb; have k1 := BK.out.cell 1; have k2 := BK.out.cell 2; have k3 := BK.out.cell 3)
    | (go_at_call 9; (with_reducible refine (S2.out _ B0.out).mono ?_); rintro e w3 ⟨rfl, hb⟩; have B0 := Lib.hid (below_next hb3 B0.out hb); have BK := Lib.hid (BK.out.keep hb); clear hb k1 k2 k3))
  go_ret
  exact ⟨rfl, by rw [hb3]; exact B0.out⟩

set_option maxRecDepth 100000 in
set_option maxHeartbeats 8000000 in
theorem more_in (w : World) (v : Value) (l : List Rw) (h : RowsAt w v l) (hw : ∀ r ∈ l, RWide r) (s : Value) (r : Rw) (q : RatsAt w s r.2.1) (hr : RWide r) (hs : smallR l = true) (hl : ¬ 7 < l.length) (hx : r.2.1.length ≤ 12) :
    Calls Try.prog 3 #[v, .agg #[.int .i64 r.1, s, .int .i64 r.2.2.1, .int .i64 r.2.2.2]] w fun e w' => e = .returned (.bool true) ∧ Below w.heap.size w w' := by
  obtain ⟨iR, hiR, zR0, zR1, zR2⟩ := info_parts infoRow
  have hw2 : ∀ x ∈ l ++ [r], RWide x := fun x hx' => by
    rcases List.mem_append.1 hx' with q | q
    · exact hw x q
    · rw [List.mem_singleton] at q; subst q; exact hr
  have tr := more_true hw hr
  have sv1 := fun (w' : World) (hb : Below w.heap.size w w') => bsolve_any w' v l (h.below hb) hw
  have sv := fun (w' : World) (v' : Value) (h' : RowsAt w' v' (l ++ [r])) => bsolve_any w' v' (l ++ [r]) h' hw2
  have sm := fun (w' : World) (hb : Below w.heap.size w w') => smallr_any w' v l (h.below hb)
  rw [hs] at sm
  obtain ⟨⟨res1, z1⟩, hz1⟩ : ∃ q, solB l = q := ⟨_, rfl⟩
  obtain ⟨⟨res2, z2⟩, hz2⟩ : ∃ q, solB (l ++ [r]) = q := ⟨_, rfl⟩
  have c1 := solB_code l
  have c2 := solB_code (l ++ [r])
  rw [hz1] at sv1 tr c1
  rw [hz2] at sv tr c2
  dsimp only at tr c1 c2
  obtain ⟨xo, xl, x1, x2⟩ := r
  dsimp only at *
  obtain ⟨Ax, cx, rfl⟩ := rats_shape q
  have a := below_alloc1 w (.cells #[.int .i64 xo, .slice Ax xl.length cx, .int .i64 x1, .int .i64 x2] 29)
  have BB := Blk.start w #[.int .i64 xo, .slice Ax xl.length cx, .int .i64 x1, .int .i64 x2] 29
  have s2 := fun (w' : World) (hb : Below w.heap.size w w') => small_any w' (.slice Ax xl.length cx) xl x1 x2 (q.below hb)
  rw [show decide (xl.length ≤ 12) = true from decide_eq_true hx] at s2
  have i1 : ¬ (7 : Int) < (l.length : Int) := by omega
  obtain ⟨A, c, rs, rfl, h2, h3, h4, h5, h6⟩ := h
  have one : ∀ u ∈ rowCells rs, u.oneCell' = true := rowCells_one rs fun x hx => by
    obtain ⟨A', c', e⟩ := rats_shape (h6 x hx)
    exact ⟨_, _, _, e⟩
  obtain ⟨n, hn⟩ : ∃ n, l.length = n := ⟨_, rfl⟩
  obtain ⟨xn, hxn⟩ : ∃ xn, xl.length = xn := ⟨_, rfl⟩
  rw [hn] at h5 i1 hl sv1 sm
  rw [hxn] at a BB s2 q
  have HR0 := Lib.hid (And.intro h5 (And.intro one (And.intro h4 h6)))
  have HX0 := Lib.hid (And.intro hxn q)
  have HN := Lib.hid hn
  have LK := Lib.hid (show n + 1 ≤ maxLen ∧ (n + 1) * 48 ≤ 140737488355328 from by unfold maxLen; omega)
  have SM := Lib.hid sm
  have S2 := Lib.hid s2
  have SV := Lib.hid sv
  have SV1 := Lib.hid sv1
  have TR := Lib.hid (And.intro tr (And.intro c1 c2))
  have B1 := Lib.hid (And.intro a BB)
  rw [hn, hxn]
  clear sm s2 sv sv1 tr c1 c2 a BB h2 h3 h4 h5 h6 hw hw2 hr hx hl hz1 hz2 one q hn hxn hs
  go_enter Try.func3, Try.ntmps3
  go_upto_region 1 with fail
  generalize hb3 : w.heap.size = b3 at *
  generalize w.alloc (.cells #[.int .i64 xo, .slice Ax xn cx, .int .i64 x1, .int .i64 x2] 29) = w0 at *
  have B0 := Lib.hid B1.out.1
  have BK := Lib.hid B1.out.2
  clear B1
  go_upto_region 4 with (first
    | (go_at_call 7; (with_reducible refine (awake4_yes _).mono ?_); rintro e w1 ⟨rfl, hb⟩; have B0 := Lib.hid (below_next hb3 B0.out hb); have BK := Lib.hid (BK.out.keep hb); clear hb)
    | (go_at_call 8; (with_reducible refine (SM.out _ B0.out).mono ?_); rintro e w2 ⟨rfl, hb⟩; have B0 := Lib.hid (below_next hb3 B0.out hb); have BK := Lib.hid (BK.out.keep hb); clear hb; have k1 := BK.out.cell 1; have k2 := BK.out.cell 2; have k3 := BK.out.cell 3)
    | (go_at_call 9; (with_reducible refine (S2.out _ B0.out).mono ?_); rintro e w3 ⟨rfl, hb⟩; have B0 := Lib.hid (below_next hb3 B0.out hb); have BK := Lib.hid (BK.out.keep hb); clear hb k1 k2 k3)
    | (go_at_call 10; (with_reducible refine (SV1.out _ B0.out).mono ?_); rintro e w4 ⟨A4, c4, rfl, _, _, hb⟩; have B0 := Lib.hid (below_next hb3 B0.out hb); have BK := Lib.hid (BK.out.keep hb); clear hb))
  generalize hwq : w4 = wq at *
  have r0 := BK.out.cell 0
  have r1 := BK.out.cell 1
  have r2 := BK.out.cell 2
  have r3 := BK.out.cell 3
  have HX := Lib.hid (And.intro HX0.out.1 (show RatsAt wq (.slice Ax xn cx) xl from by have := HX0.out.2; rw [← HX0.out.1] at this ⊢; exact this.below (by rw [hb3]; exact B0.out)))
  have HR := Lib.hid (show (∀ w' : World, Below wq.heap.size wq w' → Reads w' w.heap.size 4 A n (rowCells rs)) ∧ (∀ u ∈ rowCells rs, u.oneCell' = true) ∧ rs.map (·.2) = l ∧ ∀ w' : World, Below wq.heap.size wq w' → ∀ x ∈ rs, RatsAt w' x.1 x.2.2.1 ∧ Off (fun b => wq.heap.size ≤ b) x.1 x.2.2.1 from
    ⟨fun w' hb => by have := below_next hb3 B0.out hb; exact (hb3 ▸ HR0.out.1).below (by rw [hb3]; exact this), HR0.out.2.1, HR0.out.2.2.1, fun w' hb x hx => ⟨(HR0.out.2.2.2 x hx).below (by rw [hb3]; exact below_next hb3 B0.out hb), (off_old (W := w) (HR0.out.2.2.2 x hx)).mono fun b q => by have := B0.out.size; omega⟩⟩)
  go_cut [7, 8] from 9 to 42 (fun v7 v8 wx => v8 = .int .i64 z2 ∧ Below wq.heap.size wq wx)
  case first =>
    have STB := Lib.hid (show Stab (fun w' => (((w'.cell? ⟨b3, 0, none⟩ = some (.int .i64 xo) ∧ w'.cell? ⟨b3, 1, none⟩ = some (.slice Ax xn cx)) ∧ (w'.cell? ⟨b3, 2, none⟩ = some (.int .i64 x1) ∧ w'.cell? ⟨b3, 3, none⟩ = some (.int .i64 x2)))) ∧ Below wq.heap.size wq w') from stab_and (stab_and (stab_and (stab_cell _ _) (stab_cell _ _)) (stab_and (stab_cell _ _) (stab_cell _ _))) (stab_below wq))
    have SF := Lib.hid (fun (w' : World) (hb : Below wq.heap.size wq w') => show (fun w' => (((w'.cell? ⟨b3, 0, none⟩ = some (.int .i64 xo) ∧ w'.cell? ⟨b3, 1, none⟩ = some (.slice Ax xn cx)) ∧ (w'.cell? ⟨b3, 2, none⟩ = some (.int .i64 x1) ∧ w'.cell? ⟨b3, 3, none⟩ = some (.int .i64 x2)))) ∧ Below wq.heap.size wq w') w' from STB.out wq w' hb ⟨⟨⟨r0, r1⟩, ⟨r2, r3⟩⟩, Below.refl _ _⟩)
    have HS := SF.out wq.drew (below_drew _)
    dsimp only at HS
    clear r0 r1 r2 r3
    refine wp_region_noPanic ?_
    refine wp_region_held_drew (S := (fun w' => (((w'.cell? ⟨b3, 0, none⟩ = some (.int .i64 xo) ∧ w'.cell? ⟨b3, 1, none⟩ = some (.slice Ax xn cx)) ∧ (w'.cell? ⟨b3, 2, none⟩ = some (.int .i64 x1) ∧ w'.cell? ⟨b3, 3, none⟩ = some (.int .i64 x2)))) ∧ Below wq.heap.size wq w')) (by kernel_rfl) HS (fun hHeld => ?_)
    clear HS
    refine wpAnyH_take (i := 1) (oi := _) (v := ?_) rfl (by kernel_rfl) (by kernel_rfl) (by kernel_rfl) (fun _ _ _ h => h) (Or.inl ⟨by rfl, ?_⟩) (by assumption) ?_
    rotate_left
    · intro ww hSw
      (try dsimp only at hSw)
      go_simp <;> with_reducible rfl
    (try simp only [List.getElem_toArray, List.getElem_cons_succ, List.getElem_cons_zero, Act.put, List.setIfInBounds_toArray, List.set_cons_zero, List.set_cons_succ])
    refine wpAnyH_take (i := 3) (oi := _) (v := ?_) rfl (by kernel_rfl) (by kernel_rfl) (by kernel_rfl) (fun _ _ _ h => h) (Or.inl ⟨by rfl, ?_⟩) (by assumption) ?_
    rotate_left
    · intro ww hSw
      (try dsimp only at hSw)
      go_simp <;> with_reducible rfl
    (try simp only [List.getElem_toArray, List.getElem_cons_succ, List.getElem_cons_zero, Act.put, List.setIfInBounds_toArray, List.set_cons_zero, List.set_cons_succ])
    refine wpAnyH_ready (rs := [0, 4]) (by kernel_rfl) (by simp) ?_
    refine AllReadyH.cons (o := _) rfl (fun K hK => ?_) ?_
    · go_simp
      have HB := Lib.hid (bel_of hHeld).size
      (first | refine hK.out _ _ (stab2 STB.out (by with_reducible assumption)) (fun hH2 => ?_) | refine hK.out _ _ (STB.out _ _ (below_alloc1 _ _) (by with_reducible assumption)) (fun hH2 => ?_))
      clear hK K
      (try dsimp only at hH2)
      (first | have EM0 := empB_of hH2 HB.out | have EM0 := empB_of2 hH2 HB.out)
      (try rw [size_drew] at EM0)
      (try rw [World.size_alloc] at EM0)
      have EM := Lib.hid EM0
      clear EM0
      (try (have NA := Lib.hid (newk_ofB hH2 NA.out)))
      clear hHeld
      have hHeld := hH2
      clear hH2
      (try simp only [List.getElem_toArray, List.getElem_cons_zero, Act.put, List.setIfInBounds_toArray, List.set_cons_zero, List.set_cons_succ])
      refine wpAnyH_ready (rs := [2, 4]) (by kernel_rfl) (by simp) ?_
      refine AllReadyH.cons (o := _) rfl (fun K hK => ?_) ?_
      · refine step_append_any _ rfl _ _ 22 rfl wq.heap.size 29 iR (.agg #[.int .i64 0, .slice none 0 0, .int .i64 0, .int .i64 0]) 4 48 Try.underlying22 hiR zR0 zR1 zR2 rfl (by decide) _ 0 [] rfl EM.out w.heap.size A n c (rowCells rs) rfl (HR.out.1 _ (bel_of hHeld)) HR.out.2.1 (by have := LK.out; omega) (by have := LK.out; omega) (bel_of hHeld).size (fun v15 w15 hown hgrow hat => ?_)
        have OW := Lib.hid (show w15.ownsRow wq.heap.size 29 4 v15 n (rowCells rs) from by simpa using hown)
        have bb := (bel_of hHeld).grown hgrow (bel_of hHeld).size (fun b q => (World.ownsRow.lt EM.out b q).1)
        (try (have NA := Lib.hid (newB_grown NA.out hgrow (fun e => by simp [Act.eval, Value.ownBlock] at e))))
        refine hK.out _ _ (SF.out _ bb) (fun hH2 => ?_)
        (try dsimp only at hH2)
        clear hK K hHeld hown hgrow hat bb EM
        have hHeld := hH2
        clear hH2
        (try simp only [List.getElem_toArray, List.getElem_cons_succ, List.getElem_cons_zero, Act.put, List.setIfInBounds_toArray, List.set_cons_zero, List.set_cons_succ])
        refine wpAnyH_ready (rs := [4]) (by kernel_rfl) (by simp) ?_
        refine AllReadyH.cons (o := _) rfl (fun K hK => ?_) AllReadyH.nil
        go_simp
        (first | refine hK.out _ _ (stab2 STB.out (by with_reducible assumption)) (fun hH2 => ?_) | refine hK.out _ _ (STB.out _ _ (below_alloc1 _ _) (by with_reducible assumption)) (fun hH2 => ?_))
        clear hK K
        (try dsimp only at hH2)
        (first | have NA0 := newB_of hH2 | have NA0 := newB_of2 hH2)
        (try rw [size_drew] at NA0)
        (try rw [World.size_alloc] at NA0)
        have NA := Lib.hid NA0
        clear NA0
        (try (have OW := Lib.hid (ownr_of hH2 OW.out)))
        (try (have EM := Lib.hid (ownr_of hH2 EM.out)))
        clear hHeld
        have hHeld := hH2
        clear hH2
        (try simp only [List.getElem_toArray, List.getElem_cons_succ, List.getElem_cons_zero, Act.put, List.setIfInBounds_toArray, List.set_cons_zero, List.set_cons_succ])
        refine wpAnyH_ready (rs := [5]) (by kernel_rfl) (by simp) ?_
        refine AllReadyH.cons (o := _) rfl (fun K hK => ?_) AllReadyH.nil
        refine step_append_any _ rfl _ _ 22 rfl wq.heap.size 29 iR (.agg #[.int .i64 0, .slice none 0 0, .int .i64 0, .int .i64 0]) 4 48 Try.underlying22 hiR zR0 zR1 zR2 rfl (by decide) _ n (rowCells rs) rfl OW.out _ (some _) 1 1 [.int .i64 xo, .slice Ax xn cx, .int .i64 x1, .int .i64 x2] rfl (NA.out.reads rfl) (one4 _ _ _ _ _ _) (by have := LK.out; omega) (by have := LK.out; omega) (bel_of hHeld).size (fun v16 w16 hown hgrow hat => ?_)
        have RA := Lib.hid (rows_pushed (ts := l) (t := (xo, xl, x1, x2)) (S := fun b => wq.heap.size ≤ b) (fun b q => q) HR.out.2.2.1 (fun b q => (World.ownsRow.lt OW.out b q).1) (HR.out.2.2.2 _ (bel_of hHeld)) (by rw [HN.out]; exact hown) hgrow HX.out.2 (bel_of hHeld))
        have bb := (bel_of hHeld).grown hgrow (bel_of hHeld).size (fun b q => (World.ownsRow.lt OW.out b q).1)
        refine hK.out _ _ (SF.out _ bb) (fun hH2 => ?_)
        (try dsimp only at hH2)
        clear hK K hHeld hown hgrow hat bb NA OW
        have hHeld := hH2
        clear hH2
        (try simp only [List.getElem_toArray, List.getElem_cons_succ, List.getElem_cons_zero, Act.put, List.setIfInBounds_toArray, List.set_cons_zero, List.set_cons_succ])
        refine wpAnyH_ready (rs := [6]) (by kernel_rfl) (by simp) ?_
        refine AllReadyH.cons (o := _) rfl (fun K hK => ?_) AllReadyH.nil
        go_simp
        (go_at_call 10; (with_reducible refine (SV.out _ _ RA.out).mono ?_); rintro e6 w6 ⟨A6, c6, rfl, _, _, hb⟩)
        go_wp2_with fail
        refine hK.out _ _ (STB.out _ _ hb (by with_reducible assumption)) (fun hH2 => ?_)
        clear hK K hHeld hb
        have hHeld := hH2
        clear hH2
        (try simp only [List.getElem_toArray, List.getElem_cons_succ, List.getElem_cons_zero, Act.put, List.setIfInBounds_toArray, List.set_cons_zero, List.set_cons_succ])
        refine wpAnyH_take (i := 7) (oi := _) (v := ?_) rfl (by kernel_rfl) (by kernel_rfl) (by kernel_rfl) (fun _ _ _ h => h) (Or.inl ⟨by rfl, ?_⟩) (by assumption) ?_
        rotate_left
        · intro ww hSw
          (try dsimp only at hSw)
          go_simp <;> with_reducible rfl
        (try simp only [List.getElem_toArray, List.getElem_cons_succ, List.getElem_cons_zero, Act.put, List.setIfInBounds_toArray, List.set_cons_zero, List.set_cons_succ])
        refine wpAnyH_take (i := 8) (oi := _) (v := ?_) rfl (by kernel_rfl) (by kernel_rfl) (by kernel_rfl) (fun _ _ _ h => h) (Or.inl ⟨by rfl, ?_⟩) (by assumption) ?_
        rotate_left
        · intro ww hSw
          (try dsimp only at hSw)
          go_simp <;> with_reducible rfl
        (try simp only [List.getElem_toArray, List.getElem_cons_succ, List.getElem_cons_zero, Act.put, List.setIfInBounds_toArray, List.set_cons_zero, List.set_cons_succ])
        refine wpAnyH_take (i := 9) (oi := _) (v := ?_) rfl (by kernel_rfl) (by kernel_rfl) (by kernel_rfl) (fun _ _ _ h => h) (Or.inl ⟨by rfl, ?_⟩) (by assumption) ?_
        rotate_left
        · intro ww hSw
          (try dsimp only at hSw)
          go_simp <;> with_reducible rfl
        (try simp only [List.getElem_toArray, List.getElem_cons_succ, List.getElem_cons_zero, Act.put, List.setIfInBounds_toArray, List.set_cons_zero, List.set_cons_succ])
        refine wpAnyH_take (i := 10) (oi := _) (v := ?_) rfl (by kernel_rfl) (by kernel_rfl) (by kernel_rfl) (fun _ _ _ h => h) (Or.inl ⟨by rfl, ?_⟩) (by assumption) ?_
        rotate_left
        · intro ww hSw
          (try dsimp only at hSw)
          go_simp <;> with_reducible rfl
        (try simp only [List.getElem_toArray, List.getElem_cons_succ, List.getElem_cons_zero, Act.put, List.setIfInBounds_toArray, List.set_cons_zero, List.set_cons_succ])
        refine wpAnyH_take (i := 11) (oi := _) (v := ?_) rfl (by kernel_rfl) (by kernel_rfl) (by kernel_rfl) (fun _ _ _ h => h) (Or.inl ⟨by rfl, ?_⟩) (by assumption) ?_
        rotate_left
        · intro ww hSw
          (try dsimp only at hSw)
          go_simp <;> with_reducible rfl
        (try simp only [List.getElem_toArray, List.getElem_cons_succ, List.getElem_cons_zero, Act.put, List.setIfInBounds_toArray, List.set_cons_zero, List.set_cons_succ])
        refine wpAnyH_done (by kernel_rfl) ?_ _
        refine NoPanic.normal ?_
        go_wp2_with fail
        go_meet
        case rel => exact ⟨rfl, hHeld.2⟩
      refine AllReadyH.cons (o := _) rfl (fun K hK => ?_) AllReadyH.nil
      go_simp
      (first | refine hK.out _ _ (stab2 STB.out (by with_reducible assumption)) (fun hH2 => ?_) | refine hK.out _ _ (STB.out _ _ (below_alloc1 _ _) (by with_reducible assumption)) (fun hH2 => ?_))
      clear hK K
      (try dsimp only at hH2)
      (first | have NA0 := newB_of hH2 | have NA0 := newB_of2 hH2)
      (try rw [size_drew] at NA0)
      (try rw [World.size_alloc] at NA0)
      have NA := Lib.hid NA0
      clear NA0
      (try (have OW := Lib.hid (ownr_of hH2 OW.out)))
      (try (have EM := Lib.hid (ownr_of hH2 EM.out)))
      clear hHeld
      have hHeld := hH2
      clear hH2
      (try simp only [List.getElem_toArray, List.getElem_cons_succ, List.getElem_cons_zero, Act.put, List.setIfInBounds_toArray, List.set_cons_zero, List.set_cons_succ])
      refine wpAnyH_ready (rs := [2]) (by kernel_rfl) (by simp) ?_
      refine AllReadyH.cons (o := _) rfl (fun K hK => ?_) AllReadyH.nil
      refine step_append_any _ rfl _ _ 22 rfl wq.heap.size 29 iR (.agg #[.int .i64 0, .slice none 0 0, .int .i64 0, .int .i64 0]) 4 48 Try.underlying22 hiR zR0 zR1 zR2 rfl (by decide) _ 0 [] rfl EM.out w.heap.size A n c (rowCells rs) rfl (HR.out.1 _ (bel_of hHeld)) HR.out.2.1 (by have := LK.out; omega) (by have := LK.out; omega) (bel_of hHeld).size (fun v15 w15 hown hgrow hat => ?_)
      have OW := Lib.hid (show w15.ownsRow wq.heap.size 29 4 v15 n (rowCells rs) from by simpa using hown)
      have bb := (bel_of hHeld).grown hgrow (bel_of hHeld).size (fun b q => (World.ownsRow.lt EM.out b q).1)
      (try (have NA := Lib.hid (newB_grown NA.out hgrow (fun e => by simp [Act.eval, Value.ownBlock] at e))))
      refine hK.out _ _ (SF.out _ bb) (fun hH2 => ?_)
      (try dsimp only at hH2)
      clear hK K hHeld hown hgrow hat bb EM
      have hHeld := hH2
      clear hH2
      (try simp only [List.getElem_toArray, List.getElem_cons_succ, List.getElem_cons_zero, Act.put, List.setIfInBounds_toArray, List.set_cons_zero, List.set_cons_succ])
      refine wpAnyH_ready (rs := [5]) (by kernel_rfl) (by simp) ?_
      refine AllReadyH.cons (o := _) rfl (fun K hK => ?_) AllReadyH.nil
      refine step_append_any _ rfl _ _ 22 rfl wq.heap.size 29 iR (.agg #[.int .i64 0, .slice none 0 0, .int .i64 0, .int .i64 0]) 4 48 Try.underlying22 hiR zR0 zR1 zR2 rfl (by decide) _ n (rowCells rs) rfl OW.out _ (some _) 1 1 [.int .i64 xo, .slice Ax xn cx, .int .i64 x1, .int .i64 x2] rfl (NA.out.reads rfl) (one4 _ _ _ _ _ _) (by have := LK.out; omega) (by have := LK.out; omega) (bel_of hHeld).size (fun v16 w16 hown hgrow hat => ?_)
      have RA := Lib.hid (rows_pushed (ts := l) (t := (xo, xl, x1, x2)) (S := fun b => wq.heap.size ≤ b) (fun b q => q) HR.out.2.2.1 (fun b q => (World.ownsRow.lt OW.out b q).1) (HR.out.2.2.2 _ (bel_of hHeld)) (by rw [HN.out]; exact hown) hgrow HX.out.2 (bel_of hHeld))
      have bb := (bel_of hHeld).grown hgrow (bel_of hHeld).size (fun b q => (World.ownsRow.lt OW.out b q).1)
      refine hK.out _ _ (SF.out _ bb) (fun hH2 => ?_)
      (try dsimp only at hH2)
      clear hK K hHeld hown hgrow hat bb NA OW
      have hHeld := hH2
      clear hH2
      (try simp only [List.getElem_toArray, List.getElem_cons_succ, List.getElem_cons_zero, Act.put, List.setIfInBounds_toArray, List.set_cons_zero, List.set_cons_succ])
      refine wpAnyH_ready (rs := [6]) (by kernel_rfl) (by simp) ?_
      refine AllReadyH.cons (o := _) rfl (fun K hK => ?_) AllReadyH.nil
      go_simp
      (go_at_call 10; (with_reducible refine (SV.out _ _ RA.out).mono ?_); rintro e6 w6 ⟨A6, c6, rfl, _, _, hb⟩)
      go_wp2_with fail
      refine hK.out _ _ (STB.out _ _ hb (by with_reducible assumption)) (fun hH2 => ?_)
      clear hK K hHeld hb
      have hHeld := hH2
      clear hH2
      (try simp only [List.getElem_toArray, List.getElem_cons_succ, List.getElem_cons_zero, Act.put, List.setIfInBounds_toArray, List.set_cons_zero, List.set_cons_succ])
      refine wpAnyH_take (i := 7) (oi := _) (v := ?_) rfl (by kernel_rfl) (by kernel_rfl) (by kernel_rfl) (fun _ _ _ h => h) (Or.inl ⟨by rfl, ?_⟩) (by assumption) ?_
      rotate_left
      · intro ww hSw
        (try dsimp only at hSw)
        go_simp <;> with_reducible rfl
      (try simp only [List.getElem_toArray, List.getElem_cons_succ, List.getElem_cons_zero, Act.put, List.setIfInBounds_toArray, List.set_cons_zero, List.set_cons_succ])
      refine wpAnyH_take (i := 8) (oi := _) (v := ?_) rfl (by kernel_rfl) (by kernel_rfl) (by kernel_rfl) (fun _ _ _ h => h) (Or.inl ⟨by rfl, ?_⟩) (by assumption) ?_
      rotate_left
      · intro ww hSw
        (try dsimp only at hSw)
        go_simp <;> with_reducible rfl
      (try simp only [List.getElem_toArray, List.getElem_cons_succ, List.getElem_cons_zero, Act.put, List.setIfInBounds_toArray, List.set_cons_zero, List.set_cons_succ])
      refine wpAnyH_take (i := 9) (oi := _) (v := ?_) rfl (by kernel_rfl) (by kernel_rfl) (by kernel_rfl) (fun _ _ _ h => h) (Or.inl ⟨by rfl, ?_⟩) (by assumption) ?_
      rotate_left
      · intro ww hSw
        (try dsimp only at hSw)
        go_simp <;> with_reducible rfl
      (try simp only [List.getElem_toArray, List.getElem_cons_succ, List.getElem_cons_zero, Act.put, List.setIfInBounds_toArray, List.set_cons_zero, List.set_cons_succ])
      refine wpAnyH_take (i := 10) (oi := _) (v := ?_) rfl (by kernel_rfl) (by kernel_rfl) (by kernel_rfl) (fun _ _ _ h => h) (Or.inl ⟨by rfl, ?_⟩) (by assumption) ?_
      rotate_left
      · intro ww hSw
        (try dsimp only at hSw)
        go_simp <;> with_reducible rfl
      (try simp only [List.getElem_toArray, List.getElem_cons_succ, List.getElem_cons_zero, Act.put, List.setIfInBounds_toArray, List.set_cons_zero, List.set_cons_succ])
      refine wpAnyH_take (i := 11) (oi := _) (v := ?_) rfl (by kernel_rfl) (by kernel_rfl) (by kernel_rfl) (fun _ _ _ h => h) (Or.inl ⟨by rfl, ?_⟩) (by assumption) ?_
      rotate_left
      · intro ww hSw
        (try dsimp only at hSw)
        go_simp <;> with_reducible rfl
      (try simp only [List.getElem_toArray, List.getElem_cons_succ, List.getElem_cons_zero, Act.put, List.setIfInBounds_toArray, List.set_cons_zero, List.set_cons_succ])
      refine wpAnyH_done (by kernel_rfl) ?_ _
      refine NoPanic.normal ?_
      go_wp2_with fail
      go_meet
      case rel => exact ⟨rfl, hHeld.2⟩
    refine AllReadyH.cons (o := _) rfl (fun K hK => ?_) AllReadyH.nil
    go_simp
    (first | refine hK.out _ _ (stab2 STB.out (by with_reducible assumption)) (fun hH2 => ?_) | refine hK.out _ _ (STB.out _ _ (below_alloc1 _ _) (by with_reducible assumption)) (fun hH2 => ?_))
    clear hK K
    (try dsimp only at hH2)
    (first | have NA0 := newB_of hH2 | have NA0 := newB_of2 hH2)
    (try rw [size_drew] at NA0)
    (try rw [World.size_alloc] at NA0)
    have NA := Lib.hid NA0
    clear NA0
    (try (have OW := Lib.hid (ownr_of hH2 OW.out)))
    (try (have EM := Lib.hid (ownr_of hH2 EM.out)))
    clear hHeld
    have hHeld := hH2
    clear hH2
    (try simp only [List.getElem_toArray, List.getElem_cons_succ, List.getElem_cons_zero, Act.put, List.setIfInBounds_toArray, List.set_cons_zero, List.set_cons_succ])
    refine wpAnyH_ready (rs := [0]) (by kernel_rfl) (by simp) ?_
    refine AllReadyH.cons (o := _) rfl (fun K hK => ?_) AllReadyH.nil
    go_simp
    have HB := Lib.hid (bel_of hHeld).size
    (first | refine hK.out _ _ (stab2 STB.out (by with_reducible assumption)) (fun hH2 => ?_) | refine hK.out _ _ (STB.out _ _ (below_alloc1 _ _) (by with_reducible assumption)) (fun hH2 => ?_))
    clear hK K
    (try dsimp only at hH2)
    (first | have EM0 := empB_of hH2 HB.out | have EM0 := empB_of2 hH2 HB.out)
    (try rw [size_drew] at EM0)
    (try rw [World.size_alloc] at EM0)
    have EM := Lib.hid EM0
    clear EM0
    (try (have NA := Lib.hid (newk_ofB hH2 NA.out)))
    clear hHeld
    have hHeld := hH2
    clear hH2
    (try simp only [List.getElem_toArray, List.getElem_cons_zero, Act.put, List.setIfInBounds_toArray, List.set_cons_zero, List.set_cons_succ])
    refine wpAnyH_ready (rs := [2]) (by kernel_rfl) (by simp) ?_
    refine AllReadyH.cons (o := _) rfl (fun K hK => ?_) AllReadyH.nil
    refine step_append_any _ rfl _ _ 22 rfl wq.heap.size 29 iR (.agg #[.int .i64 0, .slice none 0 0, .int .i64 0, .int .i64 0]) 4 48 Try.underlying22 hiR zR0 zR1 zR2 rfl (by decide) _ 0 [] rfl EM.out w.heap.size A n c (rowCells rs) rfl (HR.out.1 _ (bel_of hHeld)) HR.out.2.1 (by have := LK.out; omega) (by have := LK.out; omega) (bel_of hHeld).size (fun v15 w15 hown hgrow hat => ?_)
    have OW := Lib.hid (show w15.ownsRow wq.heap.size 29 4 v15 n (rowCells rs) from by simpa using hown)
    have bb := (bel_of hHeld).grown hgrow (bel_of hHeld).size (fun b q => (World.ownsRow.lt EM.out b q).1)
    (try (have NA := Lib.hid (newB_grown NA.out hgrow (fun e => by simp [Act.eval, Value.ownBlock] at e))))
    refine hK.out _ _ (SF.out _ bb) (fun hH2 => ?_)
    (try dsimp only at hH2)
    clear hK K hHeld hown hgrow hat bb EM
    have hHeld := hH2
    clear hH2
    (try simp only [List.getElem_toArray, List.getElem_cons_succ, List.getElem_cons_zero, Act.put, List.setIfInBounds_toArray, List.set_cons_zero, List.set_cons_succ])
    refine wpAnyH_ready (rs := [5]) (by kernel_rfl) (by simp) ?_
    refine AllReadyH.cons (o := _) rfl (fun K hK => ?_) AllReadyH.nil
    refine step_append_any _ rfl _ _ 22 rfl wq.heap.size 29 iR (.agg #[.int .i64 0, .slice none 0 0, .int .i64 0, .int .i64 0]) 4 48 Try.underlying22 hiR zR0 zR1 zR2 rfl (by decide) _ n (rowCells rs) rfl OW.out _ (some _) 1 1 [.int .i64 xo, .slice Ax xn cx, .int .i64 x1, .int .i64 x2] rfl (NA.out.reads rfl) (one4 _ _ _ _ _ _) (by have := LK.out; omega) (by have := LK.out; omega) (bel_of hHeld).size (fun v16 w16 hown hgrow hat => ?_)
    have RA := Lib.hid (rows_pushed (ts := l) (t := (xo, xl, x1, x2)) (S := fun b => wq.heap.size ≤ b) (fun b q => q) HR.out.2.2.1 (fun b q => (World.ownsRow.lt OW.out b q).1) (HR.out.2.2.2 _ (bel_of hHeld)) (by rw [HN.out]; exact hown) hgrow HX.out.2 (bel_of hHeld))
    have bb := (bel_of hHeld).grown hgrow (bel_of hHeld).size (fun b q => (World.ownsRow.lt OW.out b q).1)
    refine hK.out _ _ (SF.out _ bb) (fun hH2 => ?_)
    (try dsimp only at hH2)
    clear hK K hHeld hown hgrow hat bb NA OW
    have hHeld := hH2
    clear hH2
    (try simp only [List.getElem_toArray, List.getElem_cons_succ, List.getElem_cons_zero, Act.put, List.setIfInBounds_toArray, List.set_cons_zero, List.set_cons_succ])
    refine wpAnyH_ready (rs := [6]) (by kernel_rfl) (by simp) ?_
    refine AllReadyH.cons (o := _) rfl (fun K hK => ?_) AllReadyH.nil
    go_simp
    (go_at_call 10; (with_reducible refine (SV.out _ _ RA.out).mono ?_); rintro e6 w6 ⟨A6, c6, rfl, _, _, hb⟩)
    go_wp2_with fail
    refine hK.out _ _ (STB.out _ _ hb (by with_reducible assumption)) (fun hH2 => ?_)
    clear hK K hHeld hb
    have hHeld := hH2
    clear hH2
    (try simp only [List.getElem_toArray, List.getElem_cons_succ, List.getElem_cons_zero, Act.put, List.setIfInBounds_toArray, List.set_cons_zero, List.set_cons_succ])
    refine wpAnyH_take (i := 7) (oi := _) (v := ?_) rfl (by kernel_rfl) (by kernel_rfl) (by kernel_rfl) (fun _ _ _ h => h) (Or.inl ⟨by rfl, ?_⟩) (by assumption) ?_
    rotate_left
    · intro ww hSw
      (try dsimp only at hSw)
      go_simp <;> with_reducible rfl
    (try simp only [List.getElem_toArray, List.getElem_cons_succ, List.getElem_cons_zero, Act.put, List.setIfInBounds_toArray, List.set_cons_zero, List.set_cons_succ])
    refine wpAnyH_take (i := 8) (oi := _) (v := ?_) rfl (by kernel_rfl) (by kernel_rfl) (by kernel_rfl) (fun _ _ _ h => h) (Or.inl ⟨by rfl, ?_⟩) (by assumption) ?_
    rotate_left
    · intro ww hSw
      (try dsimp only at hSw)
      go_simp <;> with_reducible rfl
    (try simp only [List.getElem_toArray, List.getElem_cons_succ, List.getElem_cons_zero, Act.put, List.setIfInBounds_toArray, List.set_cons_zero, List.set_cons_succ])
    refine wpAnyH_take (i := 9) (oi := _) (v := ?_) rfl (by kernel_rfl) (by kernel_rfl) (by kernel_rfl) (fun _ _ _ h => h) (Or.inl ⟨by rfl, ?_⟩) (by assumption) ?_
    rotate_left
    · intro ww hSw
      (try dsimp only at hSw)
      go_simp <;> with_reducible rfl
    (try simp only [List.getElem_toArray, List.getElem_cons_succ, List.getElem_cons_zero, Act.put, List.setIfInBounds_toArray, List.set_cons_zero, List.set_cons_succ])
    refine wpAnyH_take (i := 10) (oi := _) (v := ?_) rfl (by kernel_rfl) (by kernel_rfl) (by kernel_rfl) (fun _ _ _ h => h) (Or.inl ⟨by rfl, ?_⟩) (by assumption) ?_
    rotate_left
    · intro ww hSw
      (try dsimp only at hSw)
      go_simp <;> with_reducible rfl
    (try simp only [List.getElem_toArray, List.getElem_cons_succ, List.getElem_cons_zero, Act.put, List.setIfInBounds_toArray, List.set_cons_zero, List.set_cons_succ])
    refine wpAnyH_take (i := 11) (oi := _) (v := ?_) rfl (by kernel_rfl) (by kernel_rfl) (by kernel_rfl) (fun _ _ _ h => h) (Or.inl ⟨by rfl, ?_⟩) (by assumption) ?_
    rotate_left
    · intro ww hSw
      (try dsimp only at hSw)
      go_simp <;> with_reducible rfl
    (try simp only [List.getElem_toArray, List.getElem_cons_succ, List.getElem_cons_zero, Act.put, List.setIfInBounds_toArray, List.set_cons_zero, List.set_cons_succ])
    refine wpAnyH_done (by kernel_rfl) ?_ _
    refine NoPanic.normal ?_
    go_wp2_with fail
    go_meet
    case rel => exact ⟨rfl, hHeld.2⟩
  case rest =>
    obtain ⟨rfl, hbq⟩ := hcut
    have HB := Lib.hid (below_next hb3 B0.out hbq)
    clear r0 r1 r2 r3 hbq
    have tr := TR.out.1
    rcases TR.out.2.1 with rfl | rfl | rfl <;> rcases TR.out.2.2 with rfl | rfl | rfl
    all_goals first
      | (exfalso; revert tr; decide)
      | (clear tr TR; go_wp2_with fail; go_ret; exact ⟨rfl, by rw [hb3]; exact HB.out⟩)

theorem more_any (w : World) (v : Value) (l : List Rw) (h : RowsAt w v l) (hw : ∀ r ∈ l, RWide r) (s : Value) (r : Rw) (q : RatsAt w s r.2.1) (hr : RWide r) :
    Calls Try.prog 3 #[v, .agg #[.int .i64 r.1, s, .int .i64 r.2.2.1, .int .i64 r.2.2.2]] w fun e w' => e = .returned (.bool true) ∧ Below w.heap.size w w' := by
  cases hs : smallR l with
  | false => exact more_small w v l h s r q hs
  | true =>
    by_cases hl : 7 < l.length
    · exact more_long w v l h s r q hs hl
    · by_cases hx : r.2.1.length ≤ 12
      · exact more_in w v l h hw s r q hr hs hl hx
      · exact more_wide w v l h s r q hs hl hx
end Go.Proofs.Ytkinbbhbencipaa
