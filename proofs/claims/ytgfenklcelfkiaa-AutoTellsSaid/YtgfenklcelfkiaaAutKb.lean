/-
  The walk of package auto's Keeps, and what it answers. (Template: by-name.py fills it.)
-/
import Derived.Test.YtgfenklcelfkiaaAutKa
namespace Go.Proofs.Ytgfenklcelfkiaa
open Go.RowKit

/-! ### Plain -/
/-- Some outcome of a move leads elsewhere. -/
def offB (m : Mov) : Bool := m.outs.any fun o => o.to != m.at_
def keM (op : List UInt8) (s : Nat) (m : Mov) : Nat := if m.op = op ∧ offB m = false then s ||| 2 ^ m.at_.toNat else s
def keS (p : Pro) (op : List UInt8) : Nat := p.moves.foldl (keM op) 0
theorem keM_bit (op : List UInt8) : ∀ (ms : List Mov) (s j : Nat), (ms.foldl (keM op) s).testBit j = true ↔ s.testBit j = true ∨ ∃ m ∈ ms, (m.op = op ∧ offB m = false) ∧ m.at_.toNat = j
  | [], s, j => by simp
  | x :: r, s, j => by
    rw [List.foldl_cons, keM_bit op r]
    have e : (keM op s x).testBit j = true ↔ s.testBit j = true ∨ ((x.op = op ∧ offB x = false) ∧ x.at_.toNat = j) := by
      unfold keM
      split
      · rename_i h
        rw [bit_or, Bool.or_eq_true, decide_eq_true_iff]
        constructor
        · rintro (a | a)
          · exact .inl a
          · exact .inr ⟨h, a⟩
        · rintro (a | a)
          · exact .inl a
          · exact .inr a.2
      · rename_i h
        constructor
        · exact .inl
        · rintro (a | a)
          · exact a
          · exact absurd a.1 h
    rw [e]
    constructor
    · rintro ((a | a) | ⟨m, hm, a⟩)
      · exact .inl a
      · exact .inr ⟨x, List.mem_cons_self .., a⟩
      · exact .inr ⟨m, List.mem_cons_of_mem _ hm, a⟩
    · rintro (a | ⟨m, hm, a⟩)
      · exact .inl (.inl a)
      · rcases List.mem_cons.1 hm with rfl | hm
        · exact .inl (.inr a)
        · exact .inr ⟨m, hm, a⟩
theorem keS_bit (p : Pro) (op : List UInt8) (j : Nat) : (keS p op).testBit j = true ↔ ∃ m ∈ p.moves, (m.op = op ∧ offB m = false) ∧ m.at_.toNat = j := by
  unfold keS
  rw [keM_bit]
  simp
theorem keM_lt {n s : Nat} {op : List UInt8} {m : Mov} (hs : s < 2 ^ n) (h : 0 ≤ m.at_ ∧ m.at_ < (n : Int)) : keM op s m < 2 ^ n := by
  unfold keM
  split
  · exact Nat.or_lt_two_pow hs (Nat.pow_lt_pow_right (by omega) (by omega))
  · exact hs
theorem keMs_lt {n : Nat} {op : List UInt8} : ∀ (ms : List Mov) (s : Nat), s < 2 ^ n → (∀ m ∈ ms, 0 ≤ m.at_ ∧ m.at_ < (n : Int)) → ms.foldl (keM op) s < 2 ^ n
  | [], _, hs, _ => hs
  | x :: r, _, hs, h => keMs_lt r _ (keM_lt hs (h x (List.mem_cons_self ..))) (fun m hm => h m (List.mem_cons_of_mem _ hm))
theorem foldK_next {ms : List Mov} {k : Nat} {m : Mov} (op : List UInt8) (h : ms[k]? = some m) : (ms.take (k + 1)).foldl (keM op) 0 = keM op ((ms.take k).foldl (keM op) 0) m := by
  rw [List.take_add_one, h, List.foldl_append]; rfl
/-! ### The functions that Keeps hands on -/
set_option maxHeartbeats 1000000 in
theorem keep11_any (w : World) (bm : Nat) (opv vo : Value) (at_ : Int) (o : Ou) (h : Blk w bm #[opv, .int .i64 at_, vo]) :
    Calls Try.prog 37 #[.agg #[txt o.name, .int .i64 o.to], .pointer (some ⟨bm, 0, none⟩)] w fun e w' => e = .returned (.bool (o.to != at_)) ∧ Below w.heap.size w w' := by
  have a1 := below_alloc1 w (.cells #[txt o.name, .int .i64 o.to] 69)
  have B1 := Blk.start w #[txt o.name, .int .i64 o.to] 69
  have c1 := B1.cell 1
  have c2 := (h.keep a1).cell 1
  simp only [List.getElem?_toArray, List.getElem?_cons_zero, List.getElem?_cons_succ] at c1 c2
  have HA := Lib.hid a1
  clear h B1 a1
  go_enter Try.func37, Try.ntmps37
  go_wp2_with fail
  go_ret
  exact ⟨rfl, HA.out⟩
set_option maxRecDepth 10000 in
set_option maxHeartbeats 8000000 in
theorem keep1_any (w0 w : World) (b s n : Nat) (m : Mov) (vo : Value) (h : Blk w b #[.int .u32 (s : Int)]) (ho : OutsAt w0 vo m.outs) (hb : Below w0.heap.size w0 w) (hb2 : w0.heap.size ≤ b) (hs : s < 2 ^ n) (hn : n ≤ 16) (hat : 0 ≤ m.at_ ∧ m.at_ < (n : Int)) :
    Calls Try.prog 35 #[.agg #[txt m.op, .int .i64 m.at_, vo], .pointer (some ⟨b, 0, none⟩)] w fun e w' => e = .returned (.tuple #[]) ∧ Below w0.heap.size w0 w' ∧ Blk w' b #[.int .u32 ((if offB m = false then s ||| 2 ^ m.at_.toNat else s : Nat) : Int)] := by
  obtain ⟨op, z, outs⟩ := m
  obtain ⟨Ao, co, rfl, _⟩ := ho.len
  dsimp only at hat ho ⊢
  obtain ⟨at_, rfl⟩ : ∃ k : Nat, z = k := ⟨z.toNat, by omega⟩
  rw [Int.toNat_natCast]
  have a1 := below_alloc1 w (.cells #[txt op, .int .i64 (at_ : Int), .slice Ao outs.length co] 43)
  have B1 := Blk.start w #[txt op, .int .i64 (at_ : Int), .slice Ao outs.length co] 43
  have k0 : (0 : Int) ≤ (at_ : Int) := by omega
  have k1 : (at_ : Int) ≤ 32 := by omega
  have sh := shl_eq (k := at_) (by omega)
  have hor := Lib.hid (or_eq (s := s) (k := at_) (small_of hs hn) (by omega))
  have b1 := hb.trans (a1.mono hb.size)
  have CF := Lib.hid (cf_keep _ _ _ outs w.heap.size (fun k => match outs[k]? with | some o => o.to != (at_ : Int) | none => false) (fun _ wr => Blk wr w.heap.size #[txt op, .int .i64 (at_ : Int), .slice Ao outs.length co] ∧ Blk wr b #[.int .u32 (s : Int)]) (ho.below b1) (Below.refl _ _) ⟨B1, h.keep a1⟩ (fun k x wr hx hb hr => (keep11_any wr w.heap.size _ _ _ x hr.1).mono fun e w' ⟨he, hb'⟩ => ⟨by rw [he, hx], hb.trans (hb'.mono hb.size), hr.1.keep hb', hr.2.keep hb'⟩))
  rw [any_range (f := fun o : Ou => o.to != (at_ : Int)) (fun k x hx => by rw [hx])] at CF
  have c2 := B1.cell 2
  simp only [List.getElem?_toArray, List.getElem?_cons_zero, List.getElem?_cons_succ] at c2
  have HO := Lib.hid (And.intro hb2 b1)
  have hmf := mkF
  clear h ho hb hb2 hs hn hat a1 B1 b1
  unfold offB
  dsimp only
  generalize outs.any (fun o => o.to != (at_ : Int)) = B at *
  cases B
  · rw [if_pos rfl]
    go_enter Try.func35, Try.ntmps35
    go_upto_region 2 with (go_at_call 36; (with_reducible refine CF.out.mono ?_); rintro e w1 ⟨rfl, hb, k, hr⟩; have H1 := Lib.hid (And.intro hb hr); clear hb hr)
    clear c2
    have e3 := H1.out.2.2.drew.cell 0
    have f3 := H1.out.2.2.drew.free 0
    have e4 := H1.out.2.1.drew.cell 1
    simp only [List.getElem?_toArray, List.getElem?_cons_zero, List.getElem?_cons_succ] at e3 e4
    have G3 := Lib.hid (H1.out.2.2.drew.set 0 (.int .u32 ((s ||| 2 ^ at_ : Nat) : Int)))
    have G5 := Lib.hid ((HO.out.2.trans (H1.out.1.mono HO.out.2.size)).drew.setCell (p := ⟨b, 0, none⟩) HO.out.1 (.int .u32 ((s ||| 2 ^ at_ : Nat) : Int)))
    go_region
    all_goals
      go_wp2_with fail
      go_end0
      exact ⟨rfl, by rw [hor.out]; exact G5.out, by rw [hor.out]; exact G3.out⟩
  · rw [if_neg (by decide)]
    go_enter Try.func35, Try.ntmps35
    go_wp2_with (go_at_call 36; (with_reducible refine CF.out.mono ?_); rintro e w1 ⟨rfl, hb, k, hr⟩; have H1 := Lib.hid (And.intro hb hr); clear hb hr)
    go_end0
    exact ⟨rfl, HO.out.2.trans (H1.out.1.mono HO.out.2.size), H1.out.2.2⟩
set_option maxRecDepth 10000 in
set_option maxHeartbeats 8000000 in
theorem keeps_any (w : World) (a : Nat) (p : Pro) (h : AutAt w a p) (hz : SzP p) (hf : Fits p) (hn : p.states.length ≤ 16) (op : List UInt8) :
    Calls Try.prog 18 #[.pointer (some ⟨a, 0, none⟩), txt op] w fun e w' => e = .returned (.int .u32 (keS p op : Nat)) ∧ Below w.heap.size w w' := by
  obtain ⟨vs, vm, hB, hP⟩ := h
  obtain ⟨rs, hm, Am, cm, rfl, _, _, hM, hE⟩ := hP.moves
  have hml := moves_len hm
  have a1 := below_alloc1 w (.cells #[.int .u32 0] 38)
  have B1 := Blk.start w #[.int .u32 0] 38
  have EC := Lib.hid (each_keeps w _ a w.heap.size p.name vs Am cm op rs (fun k v => Blk v w.heap.size #[.int .u32 (((p.moves.take k).foldl (keM op) 0 : Nat) : Int)]) (hB.keep a1) hM (fun x hx => (hE x hx).2) (by have := hz.mv; omega) a1 B1
    (fun k x wr hx hb hr => ⟨fun he => (keep1_any w wr _ _ p.states.length x.2 x.1 hr ((hE x (List.mem_of_getElem? hx)).2) hb (Nat.le_refl _) (keMs_lt (p.moves.take k) 0 (Nat.two_pow_pos _) (fun m hm' => hf.at_ m (List.mem_of_mem_take hm'))) hn (hf.at_ x.2 (List.mem_of_getElem? (moves_at hm hx)))).mono fun e v ⟨h1, h2, h3⟩ => ⟨h1, h2, by
        rw [foldK_next op (moves_at hm hx)]
        unfold keM
        by_cases q : offB x.2 = false
        · rw [if_pos ⟨he, q⟩]
          rw [if_pos q] at h3
          exact h3
        · rw [if_neg (fun c => q c.2)]
          rw [if_neg q] at h3
          exact h3⟩, fun he => by
        rw [foldK_next op (moves_at hm hx)]
        unfold keM
        rw [if_neg (fun c => he c.1)]
        exact hr⟩) (fun k w1 w2 hr hb => hr.keep hb))
  have ev : (p.moves.take rs.length).foldl (keM op) 0 = keS p op := by unfold keS; rw [hml, List.take_length]
  rw [ev] at EC
  clear hB hP hm hM hE hml a1 B1 hz hf hn ev
  generalize keS p op = R at *
  have hmf := mkF
  go_enter Try.func18, Try.ntmps18
  go_wp2_with (go_at_call 32; (refine EC.out.mono ?_); rintro e w1 ⟨rfl, hb, hr⟩; have c9 := hr.cell 0; simp only [List.getElem?_toArray, List.getElem?_cons_zero] at c9; have H1 := Lib.hid hb; clear hb hr)
  go_ret
  exact ⟨rfl, H1.out⟩
end Go.Proofs.Ytgfenklcelfkiaa
