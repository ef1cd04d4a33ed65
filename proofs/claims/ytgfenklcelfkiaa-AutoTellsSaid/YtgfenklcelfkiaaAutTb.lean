/-
  The walks of package auto's Outs and of the function that it hands on. (Template: by-name.py fills it.)
-/
import Derived.Test.YtgfenklcelfkiaaAutTa
import Derived.Test.YtgfenklcelfkiaaAutSt
namespace Go.Proofs.Ytgfenklcelfkiaa
open Go.RowKit

/-! ### Plain -/
/-- The outcomes so far: those of the last move that fits. -/
def lastM (i : Int) (op : List UInt8) (l : List Ou) (m : Mov) : List Ou := if m.op = op ∧ m.at_ = i then m.outs else l
def lastO (ms : List Mov) (i : Int) (op : List UInt8) : List Ou := ms.foldl (lastM i op) []
theorem lastM_none (i : Int) (op : List UInt8) : ∀ (ms : List Mov) (l : List Ou), (∀ m ∈ ms, ¬ (m.op = op ∧ m.at_ = i)) → ms.foldl (lastM i op) l = l
  | [], l, _ => rfl
  | x :: r, l, h => by
    rw [List.foldl_cons, show lastM i op l x = l from if_neg (h x (List.mem_cons_self ..))]
    exact lastM_none i op r l (fun m hm => h m (List.mem_cons_of_mem _ hm))
theorem last_one (i : Int) (op : List UInt8) : ∀ (ms : List Mov), OneM ms → ∀ l, ms.foldl (lastM i op) l = (match ms.find? fun m => decide (m.at_ = i) && (m.op == op) with | some m => m.outs | none => l)
  | [], _, l => rfl
  | x :: r, h1, l => by
    rw [List.foldl_cons, List.find?_cons]
    have h1' : OneM r := fun a b m m' hab ha hb => h1 (a + 1) (b + 1) m m' (by omega) (by simpa using ha) (by simpa using hb)
    by_cases q : x.op = op ∧ x.at_ = i
    · have e : (decide (x.at_ = i) && (x.op == op)) = true := by rw [decide_eq_true q.2, Bool.true_and]; exact beq_iff_eq.mpr q.1
      rw [e, show lastM i op l x = x.outs from if_pos q]
      refine lastM_none i op r _ fun m hm c => ?_
      obtain ⟨j, hj⟩ := List.mem_iff_getElem?.mp hm
      exact h1 0 (j + 1) x m (by omega) rfl (by simpa using hj) ⟨by rw [q.1, c.1], by rw [q.2, c.2]⟩
    · have e : (decide (x.at_ = i) && (x.op == op)) = false := by
        rw [Bool.and_eq_false_iff, decide_eq_false_iff_not, beq_eq_false_iff_ne]
        exact Classical.or_iff_not_imp_left.mpr fun a b => q ⟨b, Classical.not_not.mp a⟩
      rw [e, show lastM i op l x = l from if_neg q]
      exact last_one i op r h1' l
theorem last_outs {ms : List Mov} (h : OneM ms) (i : Int) (op : List UInt8) : lastO ms i op = outsOf ms i op := by
  unfold lastO outsOf
  exact last_one i op ms h []
theorem last_next {ms : List Mov} {k : Nat} {m : Mov} (i : Int) (op : List UInt8) (h : ms[k]? = some m) : lastO (ms.take (k + 1)) i op = lastM i op (lastO (ms.take k) i op) m := by
  unfold lastO
  rw [List.take_add_one, h, List.foldl_append]; rfl
/-! ### In memory -/
theorem own_less {w : World} {b b' n size : Nat} {e : TypeId} {v : Value} {xs : List Value} (h : w.ownsRow b e size v n xs) (hb : b' ≤ b) : w.ownsRow b' e size v n xs := by
  refine ⟨h.1, h.2.imp id ?_⟩
  rintro ⟨g, cap, cur, h1, h2, h3⟩
  exact ⟨g, cap, cur, h1, Nat.le_trans hb h2, h3⟩
/-- The box of the state, the box of the outcomes. -/
structure OuS (w0 wr : World) (bi bo : Nat) (i : Int) (l : List Ou) : Prop where
  i : Blk wr bi #[.int .i64 i]
  row : ∃ v, Blk wr bo #[v] ∧ OutsAt wr v l ∧ OutsOwn wr w0.heap.size v l ∧ (∀ k, v.ownBlock = some k → k ≠ bo)
  ne : bi ≠ bo
  ge : w0.heap.size ≤ bo
  below : Below w0.heap.size w0 wr
theorem OuS.keep {w0 wr w2 : World} {bi bo : Nat} {i : Int} {l : List Ou} (h : OuS w0 wr bi bo i l) (hb : Below wr.heap.size wr w2) : OuS w0 w2 bi bo i l := by
  obtain ⟨v, h1, h2, h3, h4⟩ := h.row
  exact ⟨h.i.keep hb, ⟨v, h1.keep hb, h2.below hb, ownRow_below h3 hb, h4⟩, h.ne, h.ge, h.below.trans (hb.mono h.below.size)⟩
set_option maxRecDepth 10000 in
set_option maxHeartbeats 8000000 in
theorem outs1_any (w0 w : World) (bi bo : Nat) (i : Int) (l : List Ou) (m : Mov) (vo : Value) (h : OuS w0 w bi bo i l) (ho : OutsAt w0 vo m.outs) (hl : m.outs.length ≤ 80) (hs : ∀ o ∈ m.outs, o.name.length ≤ 140737488355328) :
    Calls Try.prog 38 #[.agg #[txt m.op, .int .i64 m.at_, vo], .pointer (some ⟨bi, 0, none⟩), .pointer (some ⟨bo, 0, none⟩)] w fun e w' => e = .returned (.tuple #[]) ∧ OuS w0 w' bi bo i (if m.at_ = i then m.outs else l) := by
  obtain ⟨op, at_, outs⟩ := m
  dsimp only at hl ho hs ⊢
  obtain ⟨Ao, co, rfl, hle⟩ := ho.len
  have a1 := below_alloc1 w (.cells #[txt op, .int .i64 at_, .slice Ao outs.length co] 43)
  have B1 := Blk.start w #[txt op, .int .i64 at_, .slice Ao outs.length co] 43
  have h1 := h.keep a1
  have CO := Lib.hid (fun (v : World) (hb : Below w0.heap.size w0 v) => copiedOuts_any v _ outs (ho.below hb) hl (fun o ho => by have := hs o ho; omega))
  have c1 := B1.cell 1
  have c2 := B1.cell 2
  have c3 := h1.i.cell 0
  simp only [List.getElem?_toArray, List.getElem?_cons_zero, List.getElem?_cons_succ] at c1 c2 c3
  have lt1 := h.i.lt
  have HH := Lib.hid (And.intro h1 (And.intro B1 (And.intro hs (And.intro lt1 (show bo < w.heap.size from by obtain ⟨v, h1, _⟩ := h.row; exact h1.lt)))))
  clear h ho hl hs a1 B1 h1 lt1 hle
  go_enter Try.func38, Try.ntmps38
  by_cases q : at_ = i
  · have t1 : (at_ == i) = true := beq_iff_eq.mpr q
    rw [if_pos q]
    subst q
    go_upto_region 2 with fail
    generalize w.alloc (.cells #[txt op, .int .i64 at_, .slice Ao outs.length co] 43) = W at *
    go_wp2_with (go_at_call 39; (refine (CO.out _ HH.out.1.below).mono ?_); rintro e w1 ⟨A, c, rfl, hO, hb⟩; obtain ⟨v, r1, _⟩ := (HH.out.1.keep hb).row; have e0 := r1.cell 0; have f0 := r1.free 0; simp only [List.getElem?_toArray, List.getElem?_cons_zero] at e0; have H1 := Lib.hid (And.intro hO (And.intro (HH.out.1.keep hb) (And.intro r1 hb.size))); clear hO hb r1)
    go_end0
    have ge := HH.out.1.below.size
    have hne : ∀ k, (Value.slice A outs.length c).ownBlock = some k → k ≠ bo := fun k hk e => by
      have := (H1.out.1.lt k hk).1
      have := HH.out.2.2.2.2
      have := HH.out.2.1.lt
      omega
    have hO2 : OutsOwn (w1.setCell ⟨bo, 0, none⟩ (.slice A outs.length c)) w0.heap.size (.slice A outs.length c) outs := own_less (own_past H1.out.1 (fun q => hne bo q rfl)) ge
    refine ⟨rfl, H1.out.2.1.i.other (fun e => H1.out.2.1.ne e.symm) _, ⟨_, H1.out.2.2.1.set 0 _, hO2.outs (fun o ho => by have := HH.out.2.2.1 o ho; unfold maxLen; omega), hO2, hne⟩, H1.out.2.1.ne, H1.out.2.1.ge, H1.out.2.1.below.setCell H1.out.2.1.ge _⟩
  · have t1 : (at_ == i) = false := beq_eq_false_iff_ne.mpr q
    rw [if_neg q]
    clear q
    go_wp2_with fail
    go_end0
    exact ⟨rfl, HH.out.1⟩
set_option maxRecDepth 10000 in
set_option maxHeartbeats 8000000 in
theorem aouts_any (w : World) (a : Nat) (p : Pro) (h : AutAt w a p) (hz : SzP p) (h1 : OneM p.moves) (i : Int) (op : List UInt8) :
    Calls Try.prog 20 #[.pointer (some ⟨a, 0, none⟩), .int .i64 i, txt op] w fun e w' => ∃ A c, e = .returned (.slice A (outsOf p.moves i op).length c) ∧ OutsAt w' (.slice A (outsOf p.moves i op).length c) (outsOf p.moves i op) ∧ Below w.heap.size w w' := by
  obtain ⟨vs, vm, hB, hP⟩ := h
  obtain ⟨rs, hm, Am, cm, rfl, _, _, hM, hE⟩ := hP.moves
  have hml := moves_len hm
  have a1 := below_alloc1 w (.cells #[.int .i64 i] 3)
  have B1 := Blk.start w #[.int .i64 i] 3
  have a2 := below_alloc1 (w.alloc (.cells #[.int .i64 i] 3)) (.cells #[.slice none 0 0] 41)
  have B2 := Blk.start (w.alloc (.cells #[.int .i64 i] 3)) #[.slice none 0 0] 41
  rw [World.size_alloc] at B2
  have bw := a1.trans (a2.mono a1.size)
  have h0 : OuS w ((w.alloc (.cells #[.int .i64 i] 3)).alloc (.cells #[.slice none 0 0] 41)) w.heap.size (w.heap.size + 1) i [] :=
    ⟨B1.keep a2, ⟨_, B2, SlAt.nil _ _ _ _, World.ownsRow_nil _ _ _ _, fun k hk => by cases hk⟩, by omega, by omega, bw⟩
  have EC := Lib.hid (each_outs w _ a w.heap.size (w.heap.size + 1) p.name vs Am cm op rs (fun k v => OuS w v w.heap.size (w.heap.size + 1) i (lastO (p.moves.take k) i op)) (hB.keep bw) hM (fun x hx => (hE x hx).2) (by have := hz.mv; omega) bw (by simpa [lastO] using h0)
    (fun k x wr hx hb hr => ⟨fun he => (outs1_any w wr _ _ i _ x.2 x.1 hr ((hE x (List.mem_of_getElem? hx)).2) (hz.out x.2 (List.mem_of_getElem? (moves_at hm hx))) (hz.no x.2 (List.mem_of_getElem? (moves_at hm hx))).2).mono fun e v ⟨g1, g2⟩ => ⟨g1, g2.below, by
        rw [last_next i op (moves_at hm hx)]
        unfold lastM
        by_cases q : x.2.at_ = i
        · rw [if_pos ⟨he, q⟩]
          rw [if_pos q] at g2
          exact g2
        · rw [if_neg (fun c => q c.2)]
          rw [if_neg q] at g2
          exact g2⟩, fun he => by
        rw [last_next i op (moves_at hm hx)]
        unfold lastM
        rw [if_neg (fun c => he c.1)]
        exact hr⟩) (fun k w1 w2 hr hb => hr.keep hb))
  have ev : lastO (p.moves.take rs.length) i op = outsOf p.moves i op := by rw [hml, List.take_length, last_outs h1]
  rw [ev] at EC
  clear hB hP hm hM hE hml a1 a2 B1 B2 bw hz h0 ev h1
  generalize outsOf p.moves i op = R at *
  have hmf := mkF
  go_enter Try.func20, Try.ntmps20
  go_wp2_with (go_at_call 32; (refine EC.out.mono ?_); rintro e w1 ⟨rfl, hb, hr⟩; obtain ⟨v, r1, r2, _⟩ := hr.row; obtain ⟨A, c, e2, _⟩ := r2.len; subst e2; have c9 := r1.cell 0; simp only [List.getElem?_toArray, List.getElem?_cons_zero] at c9; have H1 := Lib.hid (And.intro r2 hb); clear hb hr r1 r2)
  go_ret
  exact ⟨_, _, rfl, H1.out⟩
end Go.Proofs.Ytgfenklcelfkiaa
