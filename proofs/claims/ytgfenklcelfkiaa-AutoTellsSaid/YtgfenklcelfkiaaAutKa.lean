/-
  The walk of package auto's Enabled, and what it answers. (Template: by-name.py fills it.)
-/
import Derived.Test.YtgfenklcelfkiaaAutEb
import Derived.Test.YtgfenklcelfkiaaAutSq
namespace Go.Proofs.Ytgfenklcelfkiaa
open Go.RowKit

/-! ### Plain -/
def enM (op : List UInt8) (s : Nat) (m : Mov) : Nat := if m.op = op then s ||| 2 ^ m.at_.toNat else s
def enS (p : Pro) (op : List UInt8) : Nat := p.moves.foldl (enM op) 0
theorem enM_bit (op : List UInt8) : ∀ (ms : List Mov) (s j : Nat), (ms.foldl (enM op) s).testBit j = true ↔ s.testBit j = true ∨ ∃ m ∈ ms, m.op = op ∧ m.at_.toNat = j
  | [], s, j => by simp
  | x :: r, s, j => by
    rw [List.foldl_cons, enM_bit op r]
    have e : (enM op s x).testBit j = true ↔ s.testBit j = true ∨ (x.op = op ∧ x.at_.toNat = j) := by
      unfold enM
      split
      · rename_i h
        rw [bit_or, Bool.or_eq_true, decide_eq_true_iff]
        constructor
        · rintro (a | a)
          · exact .inl a
          · exact .inr ⟨h, a⟩
        · rintro (a | a)
          · exact .inl a
          · exact .inr a.2
      · rename_i h
        constructor
        · exact .inl
        · rintro (a | a)
          · exact a
          · exact absurd a.1 h
    rw [e]
    constructor
    · rintro ((a | a) | ⟨m, hm, a⟩)
      · exact .inl a
      · exact .inr ⟨x, List.mem_cons_self .., a⟩
      · exact .inr ⟨m, List.mem_cons_of_mem _ hm, a⟩
    · rintro (a | ⟨m, hm, a⟩)
      · exact .inl (.inl a)
      · rcases List.mem_cons.1 hm with rfl | hm
        · exact .inl (.inr a)
        · exact .inr ⟨m, hm, a⟩
theorem enS_bit (p : Pro) (op : List UInt8) (j : Nat) : (enS p op).testBit j = true ↔ ∃ m ∈ p.moves, m.op = op ∧ m.at_.toNat = j := by
  unfold enS
  rw [enM_bit]
  simp
theorem enM_lt {n s : Nat} {op : List UInt8} {m : Mov} (hs : s < 2 ^ n) (h : 0 ≤ m.at_ ∧ m.at_ < (n : Int)) : enM op s m < 2 ^ n := by
  unfold enM
  split
  · exact Nat.or_lt_two_pow hs (Nat.pow_lt_pow_right (by omega) (by omega))
  · exact hs
theorem enMs_lt {n : Nat} {op : List UInt8} : ∀ (ms : List Mov) (s : Nat), s < 2 ^ n → (∀ m ∈ ms, 0 ≤ m.at_ ∧ m.at_ < (n : Int)) → ms.foldl (enM op) s < 2 ^ n
  | [], _, hs, _ => hs
  | x :: r, _, hs, h => enMs_lt r _ (enM_lt hs (h x (List.mem_cons_self ..))) (fun m hm => h m (List.mem_cons_of_mem _ hm))
theorem foldE_next {ms : List Mov} {k : Nat} {m : Mov} (op : List UInt8) (h : ms[k]? = some m) : (ms.take (k + 1)).foldl (enM op) 0 = enM op ((ms.take k).foldl (enM op) 0) m := by
  rw [List.take_add_one, h, List.foldl_append]; rfl
/-! ### The function that Enabled hands on -/
set_option maxRecDepth 10000 in
set_option maxHeartbeats 8000000 in
theorem enab1_any (w0 w : World) (b s n : Nat) (m : Mov) (A : Option Addr) (l c : Nat) (h : Blk w b #[.int .u32 (s : Int)]) (hb : Below w0.heap.size w0 w) (hb2 : w0.heap.size ≤ b) (hs : s < 2 ^ n) (hn : n ≤ 16) (hat : 0 ≤ m.at_ ∧ m.at_ < (n : Int)) :
    Calls Try.prog 34 #[.agg #[txt m.op, .int .i64 m.at_, .slice A l c], .pointer (some ⟨b, 0, none⟩)] w fun e w' => e = .returned (.tuple #[]) ∧ Below w0.heap.size w0 w' ∧ Blk w' b #[.int .u32 ((s ||| 2 ^ m.at_.toNat : Nat) : Int)] := by
  obtain ⟨op, z, outs⟩ := m
  dsimp only at hat ⊢
  obtain ⟨at_, rfl⟩ : ∃ k : Nat, z = k := ⟨z.toNat, by omega⟩
  rw [Int.toNat_natCast]
  have a1 := below_alloc1 w (.cells #[txt op, .int .i64 (at_ : Int), .slice A l c] 43)
  have B1 := Blk.start w #[txt op, .int .i64 (at_ : Int), .slice A l c] 43
  have k0 : (0 : Int) ≤ (at_ : Int) := by omega
  have k1 : (at_ : Int) ≤ 32 := by omega
  have sh := shl_eq (k := at_) (by omega)
  have hor := Lib.hid (or_eq (s := s) (k := at_) (small_of hs hn) (by omega))
  have S0 := Lib.hid (And.intro B1 (And.intro (h.keep a1) (hb.trans (a1.mono hb.size))))
  have HO := Lib.hid hb2
  clear h hb hb2 hs hn hat a1 B1
  go_enter Try.func34, Try.ntmps34
  go_upto_region 1 with fail
  generalize w.alloc (.cells #[txt op, .int .i64 (at_ : Int), .slice A l c] 43) = W at *
  have e3 := S0.out.2.1.drew.cell 0
  have f3 := S0.out.2.1.drew.free 0
  have e4 := S0.out.1.drew.cell 1
  simp only [List.getElem?_toArray, List.getElem?_cons_zero, List.getElem?_cons_succ] at e3 e4
  have G3 := Lib.hid (S0.out.2.1.drew.set 0 (.int .u32 ((s ||| 2 ^ at_ : Nat) : Int)))
  have G5 := Lib.hid (S0.out.2.2.drew.setCell (p := ⟨b, 0, none⟩) HO.out (.int .u32 ((s ||| 2 ^ at_ : Nat) : Int)))
  go_region
  all_goals
    go_wp2_with fail
    go_end0
    exact ⟨rfl, by rw [hor.out]; exact G5.out, by rw [hor.out]; exact G3.out⟩
set_option maxRecDepth 10000 in
set_option maxHeartbeats 8000000 in
theorem enabled_any (w : World) (a : Nat) (p : Pro) (h : AutAt w a p) (hz : SzP p) (hf : Fits p) (hn : p.states.length ≤ 16) (op : List UInt8) :
    Calls Try.prog 17 #[.pointer (some ⟨a, 0, none⟩), txt op] w fun e w' => e = .returned (.int .u32 (enS p op : Nat)) ∧ Below w.heap.size w w' := by
  obtain ⟨vs, vm, hB, hP⟩ := h
  obtain ⟨rs, hm, Am, cm, rfl, _, _, hM, hE⟩ := hP.moves
  have hml := moves_len hm
  have a1 := below_alloc1 w (.cells #[.int .u32 0] 38)
  have B1 := Blk.start w #[.int .u32 0] 38
  have EC := Lib.hid (each_enabled w _ a w.heap.size p.name vs Am cm op rs (fun k v => Blk v w.heap.size #[.int .u32 (((p.moves.take k).foldl (enM op) 0 : Nat) : Int)]) (hB.keep a1) hM (fun x hx => (hE x hx).2) (by have := hz.mv; omega) a1 B1
    (fun k x wr hx hb hr => ⟨fun he => by
        obtain ⟨Ao, co, eo, _⟩ := ((hE x (List.mem_of_getElem? hx)).2).len
        rw [eo]
        refine (enab1_any w wr _ _ p.states.length x.2 Ao _ co hr hb (Nat.le_refl _) (enMs_lt (p.moves.take k) 0 (Nat.two_pow_pos _) (fun m hm' => hf.at_ m (List.mem_of_mem_take hm'))) hn (hf.at_ x.2 (List.mem_of_getElem? (moves_at hm hx)))).mono fun e v ⟨h1, h2, h3⟩ => ⟨h1, h2, ?_⟩
        rw [foldE_next op (moves_at hm hx)]
        unfold enM
        rw [if_pos he]
        exact h3, fun he => by
        rw [foldE_next op (moves_at hm hx)]
        unfold enM
        rw [if_neg he]
        exact hr⟩) (fun k w1 w2 hr hb => hr.keep hb))
  have ev : (p.moves.take rs.length).foldl (enM op) 0 = enS p op := by unfold enS; rw [hml, List.take_length]
  rw [ev] at EC
  clear hB hP hm hM hE hml a1 B1 hz hf hn ev
  generalize enS p op = R at *
  have hmf := mkF
  go_enter Try.func17, Try.ntmps17
  go_wp2_with (go_at_call 32; (refine EC.out.mono ?_); rintro e w1 ⟨rfl, hb, hr⟩; have c9 := hr.cell 0; simp only [List.getElem?_toArray, List.getElem?_cons_zero] at c9; have H1 := Lib.hid hb; clear hb hr)
  go_ret
  exact ⟨rfl, H1.out⟩
end Go.Proofs.Ytgfenklcelfkiaa
