/-
  The walk of package auto's Step, and what it answers. (Template: by-name.py fills it.)
-/
import Derived.Test.YtgfenklcelfkiaaAutEa
namespace Go.Proofs.Ytgfenklcelfkiaa
open Go.RowKit

/-! ### Plain -/
def stO (S : Nat) (at_ : Nat) (nm : List UInt8) (s : Nat) (o : Ou) : Nat := if (S.testBit at_ && (o.name == nm)) = true then s ||| 2 ^ o.to.toNat else s
def stepO (S : Nat) (at_ : Nat) (nm : List UInt8) (os : List Ou) (s : Nat) : Nat := os.foldl (stO S at_ nm) s
def stM (S : Nat) (op nm : List UInt8) (s : Nat) (m : Mov) : Nat := if m.op = op then stepO S m.at_.toNat nm m.outs s else s
def stepS (p : Pro) (S : Nat) (op nm : List UInt8) : Nat := p.moves.foldl (stM S op nm) 0
theorem stepO_bit (S at_ : Nat) (nm : List UInt8) : ∀ (os : List Ou) (s j : Nat), (stepO S at_ nm os s).testBit j = true ↔ s.testBit j = true ∨ (S.testBit at_ = true ∧ ∃ o ∈ os, o.name = nm ∧ o.to.toNat = j)
  | [], s, j => by simp [stepO]
  | x :: r, s, j => by
    rw [show stepO S at_ nm (x :: r) s = stepO S at_ nm r (stO S at_ nm s x) from rfl, stepO_bit S at_ nm r]
    have e : (stO S at_ nm s x).testBit j = true ↔ s.testBit j = true ∨ (S.testBit at_ = true ∧ x.name = nm ∧ x.to.toNat = j) := by
      unfold stO
      split
      · rename_i h
        rw [Bool.and_eq_true, beq_iff_eq] at h
        rw [bit_or, Bool.or_eq_true, decide_eq_true_iff]
        constructor
        · rintro (a | a)
          · exact .inl a
          · exact .inr ⟨h.1, h.2, a⟩
        · rintro (a | a)
          · exact .inl a
          · exact .inr a.2.2
      · rename_i h
        rw [Bool.and_eq_true, beq_iff_eq] at h
        constructor
        · exact .inl
        · rintro (a | a)
          · exact a
          · exact absurd ⟨a.1, a.2.1⟩ h
    rw [e]
    constructor
    · rintro ((a | ⟨a, b, c⟩) | ⟨a, o, ho, b⟩)
      · exact .inl a
      · exact .inr ⟨a, x, List.mem_cons_self .., b, c⟩
      · exact .inr ⟨a, o, List.mem_cons_of_mem _ ho, b⟩
    · rintro (a | ⟨a, o, ho, b⟩)
      · exact .inl (.inl a)
      · rcases List.mem_cons.1 ho with rfl | ho
        · exact .inl (.inr ⟨a, b⟩)
        · exact .inr ⟨a, o, ho, b⟩
theorem stepM_bit (S : Nat) (op nm : List UInt8) : ∀ (ms : List Mov) (s j : Nat), (ms.foldl (stM S op nm) s).testBit j = true ↔ s.testBit j = true ∨ ∃ m ∈ ms, m.op = op ∧ S.testBit m.at_.toNat = true ∧ ∃ o ∈ m.outs, o.name = nm ∧ o.to.toNat = j
  | [], s, j => by simp
  | x :: r, s, j => by
    rw [List.foldl_cons, stepM_bit S op nm r]
    have e : (stM S op nm s x).testBit j = true ↔ s.testBit j = true ∨ (x.op = op ∧ S.testBit x.at_.toNat = true ∧ ∃ o ∈ x.outs, o.name = nm ∧ o.to.toNat = j) := by
      unfold stM
      split
      · rename_i h
        rw [stepO_bit]
        constructor
        · rintro (a | a)
          · exact .inl a
          · exact .inr ⟨h, a⟩
        · rintro (a | a)
          · exact .inl a
          · exact .inr a.2
      · rename_i h
        constructor
        · exact .inl
        · rintro (a | a)
          · exact a
          · exact absurd a.1 h
    rw [e]
    constructor
    · rintro ((a | a) | ⟨m, hm, a⟩)
      · exact .inl a
      · exact .inr ⟨x, List.mem_cons_self .., a⟩
      · exact .inr ⟨m, List.mem_cons_of_mem _ hm, a⟩
    · rintro (a | ⟨m, hm, a⟩)
      · exact .inl (.inl a)
      · rcases List.mem_cons.1 hm with rfl | hm
        · exact .inl (.inr a)
        · exact .inr ⟨m, hm, a⟩
theorem stepS_bit (p : Pro) (S : Nat) (op nm : List UInt8) (j : Nat) : (stepS p S op nm).testBit j = true ↔ ∃ m ∈ p.moves, m.op = op ∧ S.testBit m.at_.toNat = true ∧ ∃ o ∈ m.outs, o.name = nm ∧ o.to.toNat = j := by
  unfold stepS
  rw [stepM_bit]
  simp
theorem stO_lt {n S at_ s : Nat} {nm : List UInt8} {o : Ou} (hs : s < 2 ^ n) (h : 0 ≤ o.to ∧ o.to < (n : Int)) : stO S at_ nm s o < 2 ^ n := by
  unfold stO
  split
  · exact Nat.or_lt_two_pow hs (Nat.pow_lt_pow_right (by omega) (by omega))
  · exact hs
theorem stepO_lt {n S at_ : Nat} {nm : List UInt8} : ∀ (os : List Ou) (s : Nat), s < 2 ^ n → (∀ o ∈ os, 0 ≤ o.to ∧ o.to < (n : Int)) → stepO S at_ nm os s < 2 ^ n
  | [], _, hs, _ => hs
  | x :: r, _, hs, h => stepO_lt r _ (stO_lt hs (h x (List.mem_cons_self ..))) (fun o ho => h o (List.mem_cons_of_mem _ ho))
theorem stM_lt {n S s : Nat} {op nm : List UInt8} {m : Mov} (hs : s < 2 ^ n) (h : ∀ o ∈ m.outs, 0 ≤ o.to ∧ o.to < (n : Int)) : stM S op nm s m < 2 ^ n := by
  unfold stM
  split
  · exact stepO_lt _ _ hs h
  · exact hs
theorem stepM_lt {n S : Nat} {op nm : List UInt8} : ∀ (ms : List Mov) (s : Nat), s < 2 ^ n → (∀ m ∈ ms, ∀ o ∈ m.outs, 0 ≤ o.to ∧ o.to < (n : Int)) → ms.foldl (stM S op nm) s < 2 ^ n
  | [], _, hs, _ => hs
  | x :: r, _, hs, h => stepM_lt r _ (stM_lt hs (h x (List.mem_cons_self ..))) (fun m hm => h m (List.mem_cons_of_mem _ hm))
/-! ### The function that Step hands on -/
structure StpS (w : World) (b0 b1 b2 S s : Nat) (nm : List UInt8) : Prop where
  S : Blk w b0 #[.int .u32 (S : Int)]
  n : Blk w b1 #[txt nm]
  s : Blk w b2 #[.int .u32 (s : Int)]
  ne : b0 ≠ b2 ∧ b1 ≠ b2
theorem StpS.keep {w w' : World} {b0 b1 b2 S s : Nat} {nm : List UInt8} (h : StpS w b0 b1 b2 S s nm) (hb : Below w.heap.size w w') : StpS w' b0 b1 b2 S s nm := ⟨h.S.keep hb, h.n.keep hb, h.s.keep hb, h.ne⟩
theorem StpS.drew {w : World} {b0 b1 b2 S s : Nat} {nm : List UInt8} (h : StpS w b0 b1 b2 S s nm) : StpS w.drew b0 b1 b2 S s nm := ⟨h.S, h.n, h.s, h.ne⟩
theorem StpS.set {w : World} {b0 b1 b2 S s : Nat} {nm : List UInt8} (h : StpS w b0 b1 b2 S s nm) (u : Nat) : StpS (w.setCell ⟨b2, 0, none⟩ (.int .u32 (u : Int))) b0 b1 b2 S u nm := ⟨h.S.other (fun e => h.ne.1 e.symm) _, h.n.other (fun e => h.ne.2 e.symm) _, h.s.set 0 _, h.ne⟩
set_option maxRecDepth 10000 in
set_option maxHeartbeats 8000000 in
theorem step1_any (w0 w : World) (b0 b1 b2 S s n : Nat) (nm : List UInt8) (m : Mov) (vo : Value) (h : StpS w b0 b1 b2 S s nm) (ho : OutsAt w0 vo m.outs) (hb : Below w0.heap.size w0 w) (hb2 : w0.heap.size ≤ b2) (hS : S < 4294967296) (hs : s < 2 ^ n) (hn : n ≤ 16) (hat : 0 ≤ m.at_ ∧ m.at_ < (n : Int)) (hto : ∀ o ∈ m.outs, 0 ≤ o.to ∧ o.to < (n : Int)) (hl : m.outs.length ≤ 80) :
    Calls Try.prog 40 #[.agg #[txt m.op, .int .i64 m.at_, vo], .pointer (some ⟨b0, 0, none⟩), .pointer (some ⟨b1, 0, none⟩), .pointer (some ⟨b2, 0, none⟩)] w fun e w' => e = .returned (.tuple #[]) ∧ Below w0.heap.size w0 w' ∧ StpS w' b0 b1 b2 S (stepO S m.at_.toNat nm m.outs s) nm := by
  obtain ⟨op, z, outs⟩ := m
  dsimp only at hat hto hl ho ⊢
  obtain ⟨at_, rfl⟩ : ∃ k : Nat, z = k := ⟨z.toNat, by omega⟩
  rw [Int.toNat_natCast]
  obtain ⟨Ao, co, rfl, _, _, hO, _⟩ := ho
  have a1 := below_alloc1 w (.cells #[txt op, .int .i64 (at_ : Int), .slice Ao outs.length co] 43)
  have B1 := Blk.start w #[txt op, .int .i64 (at_ : Int), .slice Ao outs.length co] 43
  have S0 := Lib.hid (And.intro B1 (And.intro (h.keep a1) (hb.trans (a1.mono hb.size))))
  have HA := Lib.hid (fun (v : World) => has_any v S at_ hS (by omega))
  have HO := Lib.hid (And.intro hO (And.intro hb2 (And.intro hs (And.intro hn (And.intro hto (And.intro hl (show at_ ≤ 16 by omega)))))))
  clear h hO hb hb2 hS hs hn hat hto hl a1 B1
  go_enter Try.func40, Try.ntmps40
  go_upto_region 1 with fail
  generalize w.alloc (.cells #[txt op, .int .i64 (at_ : Int), .slice Ao outs.length co] 43) = W at *
  have c2 := S0.out.1.cell 2
  simp only [List.getElem?_toArray, List.getElem?_cons_zero, List.getElem?_cons_succ] at c2
  go_wp2_with fail
  go_loopg [10] outs.length (fun g v10 wr => ∃ k : Nat, v10 = .int .i64 k ∧ k ≤ outs.length ∧ g = outs.length - k ∧ Blk wr w.heap.size #[txt op, .int .i64 (at_ : Int), .slice Ao outs.length co] ∧ StpS wr b0 b1 b2 S (stepO S at_ nm (outs.take k) s) nm ∧ Below w0.heap.size w0 wr)
  case atStart => exact ⟨0, rfl, Nat.zero_le _, rfl, S0.out.1, S0.out.2.1, S0.out.2.2⟩
  case round =>
    obtain ⟨k, rfl, hk, hg, hB, hS, hb⟩ := hrel
    by_cases hkn : k = outs.length
    · have j1 : decide (k < outs.length) = false := decide_eq_false (by omega)
      have FIN := Lib.hid (And.intro hb (show StpS wr b0 b1 b2 S (stepO S at_ nm outs s) nm by rw [hkn, List.take_length] at hS; exact hS))
      clear hk hg hB hS hb hkn
      go_wp2_with fail
      go_end0
      exact ⟨rfl, FIN.out⟩
    · have hlt : k < outs.length := by omega
      obtain ⟨x, hx⟩ : ∃ x, outs[k]? = some x := ⟨_, List.getElem?_eq_getElem hlt⟩
      obtain ⟨ao, rfl, d0, d1⟩ := sl_cell2 ouC_len HO.out.1 hb hx (by omega)
      unfold ouC at d0 d1
      simp only [List.getElem?_cons_zero, List.getElem?_cons_succ] at d0 d1
      have hto := HO.out.2.2.2.2.1 x (List.mem_of_getElem? hx)
      obtain ⟨xn, xt⟩ := x
      dsimp only at hto d0 d1
      obtain ⟨t, rfl⟩ : ∃ t : Nat, xt = t := ⟨xt.toNat, by omega⟩
      have a5 := below_alloc1 wr (.cells #[txt xn, .int .i64 (t : Int)] 69)
      have B5 := Blk.start wr #[txt xn, .int .i64 (t : Int)] 69
      have nx : stepO S at_ nm (outs.take (k + 1)) s = stO S at_ nm (stepO S at_ nm (outs.take k) s) ⟨xn, (t : Int)⟩ := by unfold stepO; rw [List.take_add_one, hx, List.foldl_append]; rfl
      have sl := stepO_lt (S := S) (at_ := at_) (nm := nm) (outs.take k) s HO.out.2.2.1 (fun o ho => HO.out.2.2.2.2.1 o (List.mem_of_mem_take ho))
      have sm := small_of sl HO.out.2.2.2.1
      generalize stepO S at_ nm (outs.take k) s = q at *
      have S5 := hS.keep a5
      have B6 := hB.keep a5
      have r0 := S5.S.cell 0
      have r1 := S5.n.cell 0
      have r2 := B6.cell 1
      simp only [List.getElem?_toArray, List.getElem?_cons_zero, List.getElem?_cons_succ] at r0 r1 r2
      have j1 : (k : Int) < (outs.length : Int) := by omega
      have j2 : (0 : Int) ≤ (k : Int) := by omega
      have wk : IntKind.i64.wrap ((k : Int) + 1) = (k : Int) + 1 := IntWalk.i64_in _ (by have := HO.out.2.2.2.2.2.1; omega)
      have k0 : (0 : Int) ≤ (t : Int) := by omega
      have k1 : (t : Int) ≤ 32 := by have := HO.out.2.2.2.1; omega
      have sh := shl_eq (k := t) (by have := HO.out.2.2.2.1; omega)
      have hor := Lib.hid (or_eq (s := q) (k := t) sm (by have := HO.out.2.2.2.1; omega))
      have HK := Lib.hid (And.intro hlt (And.intro hg (And.intro nx (And.intro S5 (And.intro B6 (And.intro B5 (hb.trans (a5.mono hb.size))))))))
      clear hkn hlt hk hg hB hS hb hx hto nx sl sm a5 B5 S5 B6
      unfold stO at HK
      generalize S.testBit at_ = T at *
      cases T
      · go_wp2_with (go_at_call 41; (refine (HA.out _).mono ?_); rintro e w1 ⟨rfl, rfl⟩)
        go_roundg (outs.length - (k + 1))
        case measure => have := HK.out.1; have := HK.out.2.1; omega
        case rel => exact ⟨k + 1, by push_cast; rfl, HK.out.1, rfl, HK.out.2.2.2.2.1, by rw [HK.out.2.2.1]; exact HK.out.2.2.2.1, HK.out.2.2.2.2.2.2⟩
      · by_cases hq : xn = nm
        · have HQ := Lib.hid (show (xn == nm) = true from beq_iff_eq.mpr hq)
          have t1 := HQ.out
          clear hq
          rw [t1] at HK
          go_upto_region 5 with (go_at_call 41; (refine (HA.out _).mono ?_); rintro e w1 ⟨rfl, rfl⟩)
          clear r0 r1 r2 d0 d1
          have e3 := HK.out.2.2.2.1.s.drew.cell 0
          have f3 := HK.out.2.2.2.1.s.drew.free 0
          have e4 := HK.out.2.2.2.2.2.1.drew.cell 1
          simp only [List.getElem?_toArray, List.getElem?_cons_zero, List.getElem?_cons_succ] at e3 e4
          have G3 := Lib.hid (HK.out.2.2.2.1.drew.set (q ||| 2 ^ t))
          have G4 := Lib.hid (HK.out.2.2.2.2.1.drew.other (p := ⟨b2, 0, none⟩) (show b2 ≠ w.heap.size from fun e => by
            have := HK.out.2.2.2.1.s
            have h2 := HK.out.2.2.2.2.1
            obtain ⟨ty, h3⟩ := this
            obtain ⟨ty', h4⟩ := h2
            rw [e, h4] at h3
            injection h3 with h3
            injection h3 with h3
            have := congrArg Array.size h3
            simp at this) (.int .u32 ((q ||| 2 ^ t : Nat) : Int)))
          have G5 := Lib.hid (HK.out.2.2.2.2.2.2.drew.setCell (p := ⟨b2, 0, none⟩) HO.out.2.1 (.int .u32 ((q ||| 2 ^ t : Nat) : Int)))
          go_region
          all_goals
            go_wp2_with fail
            go_roundg (outs.length - (k + 1))
            case measure => have := HK.out.1; have := HK.out.2.1; omega
            case rel => exact ⟨k + 1, by push_cast; rfl, HK.out.1, rfl, by rw [hor.out]; exact G4.out, by rw [hor.out, HK.out.2.2.1]; exact G3.out, by rw [hor.out]; exact G5.out⟩
        · have t1 : (xn == nm) = false := beq_eq_false_iff_ne.mpr hq
          clear hq
          rw [t1] at HK
          go_wp2_with (go_at_call 41; (refine (HA.out _).mono ?_); rintro e w1 ⟨rfl, rfl⟩)
          go_roundg (outs.length - (k + 1))
          case measure => have := HK.out.1; have := HK.out.2.1; omega
          case rel => exact ⟨k + 1, by push_cast; rfl, HK.out.1, rfl, HK.out.2.2.2.2.1, by rw [HK.out.2.2.1]; exact HK.out.2.2.2.1, HK.out.2.2.2.2.2.2⟩
end Go.Proofs.Ytgfenklcelfkiaa
