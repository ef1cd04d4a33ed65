/-
  The walk of the reference's Step: it answers what Step does. (Template: by-name.py fills it.)
-/
import Derived.Test.YtopokobifbcdbaaAutSq
import Derived.Test.YtopokobifbcdbaaAutV
namespace Go.Proofs.Ytopokobifbcdbaa
open Go.RowKit

theorem add_or {q t : Nat} (h : q.testBit t = false) : q + 2 ^ t = q ||| 2 ^ t := by
  have hb : q / 2 ^ t % 2 = 0 := by
    rw [Nat.testBit_eq_decide_div_mod_eq, decide_eq_false_iff_not] at h
    omega
  have e : 2 ^ (t + 1) = 2 ^ t * 2 := Nat.pow_succ 2 t
  have hp : 0 < 2 ^ t := Nat.two_pow_pos t
  have h1 : q = q / 2 ^ t * 2 ^ t + q % 2 ^ t := (Nat.div_add_mod' q (2 ^ t)).symm
  have h2 : q / 2 ^ t = q / 2 ^ t / 2 * 2 := by omega
  obtain ⟨x, hx⟩ : ∃ x, x = q / 2 ^ t / 2 := ⟨_, rfl⟩
  obtain ⟨l, hl⟩ : ∃ l, l = q % 2 ^ t := ⟨_, rfl⟩
  have hlt : l < 2 ^ t := by rw [hl]; exact Nat.mod_lt _ hp
  have h3 : q = x * 2 ^ (t + 1) + l := by
    rw [e]
    conv => lhs; rw [h1, h2, ← hx, ← hl]
    rw [Nat.mul_assoc, Nat.mul_comm 2 (2 ^ t)]
  have j1 := nat_join (t + 1) (x * 2 ^ (t + 1)) l (Nat.mul_mod_left _ _) (by omega)
  have j2 := nat_join (t + 1) (x * 2 ^ (t + 1)) (2 ^ t) (Nat.mul_mod_left _ _) (by omega)
  have j3 := nat_join t (x * 2 ^ (t + 1) + 2 ^ t) l (by rw [e, ← Nat.mul_assoc, Nat.mul_right_comm, ← Nat.succ_mul]; exact Nat.mul_mod_left _ _) hlt
  rw [h3, ← j1, Nat.or_assoc, Nat.or_comm l, ← Nat.or_assoc, j2, j3, j1]
  omega
theorem addw_eq {q t : Nat} (hq : q < 4294967296) (ht : t < 32) (h : q.testBit t = false) : ((q : Int) + (2 : Int) ^ t) % 4294967296 = ((q ||| 2 ^ t : Nat) : Int) := by
  have e : (2 : Int) ^ t = ((2 ^ t : Nat) : Int) := by norm_cast
  have hl : q ||| 2 ^ t < 2 ^ 32 := Nat.or_lt_two_pow hq (Nat.pow_lt_pow_right (by omega) ht)
  rw [← add_or h] at hl
  rw [e, ← add_or h]
  generalize 2 ^ t = m at *
  omega
/-- The bits that the reference's Step has set. -/
def StBits (p : Pro) (S : Nat) (op nm : List UInt8) (i q : Nat) : Prop := ∀ j, q.testBit j = true ↔ ∃ i', i' < i ∧ S.testBit i' = true ∧ ∃ o ∈ outsOf p.moves (i' : Int) op, o.name = nm ∧ o.to.toNat = j
def StBits2 (S i q : Nat) (nm : List UInt8) (l : List Ou) (q2 : Nat) : Prop := ∀ j, q2.testBit j = true ↔ q.testBit j = true ∨ (S.testBit i = true ∧ ∃ o ∈ l, o.name = nm ∧ o.to.toNat = j)
theorem StBits2.same {S i q q2 : Nat} {nm : List UInt8} {l : List Ou} {o : Ou} (h : StBits2 S i q nm l q2) (hn : S.testBit i = true → o.name = nm → q2.testBit o.to.toNat = true) : StBits2 S i q nm (l ++ [o]) q2 := fun j => by
  rw [h j]
  constructor
  · rintro (a | ⟨a, x, hx, b⟩)
    · exact .inl a
    · exact .inr ⟨a, x, List.mem_append_left _ hx, b⟩
  · rintro (a | ⟨a, x, hx, b, c⟩)
    · exact .inl a
    · rcases List.mem_append.1 hx with hx | hx
      · exact .inr ⟨a, x, hx, b, c⟩
      · obtain rfl := List.mem_singleton.mp hx
        have := hn a b
        rw [c] at this
        exact (h j).mp this
theorem StBits2.put {S i q q2 : Nat} {nm : List UInt8} {l : List Ou} {o : Ou} (h : StBits2 S i q nm l q2) (h1 : S.testBit i = true) (h2 : o.name = nm) : StBits2 S i q nm (l ++ [o]) (q2 ||| 2 ^ o.to.toNat) := fun j => by
  rw [bit_or, Bool.or_eq_true, h j, decide_eq_true_iff]
  constructor
  · rintro ((a | ⟨a, x, hx, b⟩) | a)
    · exact .inl a
    · exact .inr ⟨a, x, List.mem_append_left _ hx, b⟩
    · exact .inr ⟨h1, o, List.mem_append_right _ (List.mem_singleton.mpr rfl), h2, a⟩
  · rintro (a | ⟨a, x, hx, b, c⟩)
    · exact .inl (.inl a)
    · rcases List.mem_append.1 hx with hx | hx
      · exact .inl (.inr ⟨a, x, hx, b, c⟩)
      · obtain rfl := List.mem_singleton.mp hx
        exact .inr c
theorem StBits.next {p : Pro} {S i q q2 : Nat} {op nm : List UInt8} (h : StBits p S op nm i q) (h2 : StBits2 S i q nm (outsOf p.moves (i : Int) op) q2) : StBits p S op nm (i + 1) q2 := fun j => by
  rw [h2 j, h j]
  constructor
  · rintro (⟨i', a, b⟩ | a)
    · exact ⟨i', by omega, b⟩
    · exact ⟨i, by omega, a⟩
  · rintro ⟨i', a, b⟩
    by_cases e : i' = i
    · subst e; exact .inr b
    · exact .inl ⟨i', by omega, b⟩
theorem outsOf_mem {ms : List Mov} {i : Int} {op : List UInt8} {o : Ou} (h : o ∈ outsOf ms i op) : ∃ m ∈ ms, m.at_ = i ∧ m.op = op ∧ o ∈ m.outs := by
  unfold outsOf at h
  cases q : ms.find? (fun m => decide (m.at_ = i) && (m.op == op)) with
  | none => rw [q] at h; cases h
  | some m =>
    rw [q] at h
    have := List.find?_some q
    rw [Bool.and_eq_true, decide_eq_true_iff, beq_iff_eq] at this
    exact ⟨m, List.mem_of_find?_eq_some q, this.1, this.2, h⟩
/-- No two moves of an operation start from one state. -/
def OneM (ms : List Mov) : Prop := ∀ (i j : Nat) (m m' : Mov), i < j → ms[i]? = some m → ms[j]? = some m' → ¬ (m.op = m'.op ∧ m.at_ = m'.at_)
theorem one_of {ms : List Mov} (h : ∀ i, i < ms.length → dupM ms i = false) : OneM ms := fun i j m m' hij h1 h2 e => by
  have hj := (List.getElem?_eq_some_iff.1 h2).1
  have := h j hj
  unfold dupM at this
  rw [h2] at this
  simp only [Bool.or_eq_false_iff] at this
  have hc : ((ms.take j).map fun m => ((m.op, m.at_) : Stt)).contains (m'.op, m'.at_) = true := List.contains_iff_mem.mpr (List.mem_map.2 ⟨m, List.mem_of_getElem? (i := i) (by rw [List.getElem?_take_of_lt hij]; exact h1), by rw [e.1, e.2]⟩)
  rw [hc] at this
  cases this.1
theorem outsOf_is {ms : List Mov} (h1 : OneM ms) {m : Mov} (hm : m ∈ ms) : outsOf ms m.at_ m.op = m.outs := by
  unfold outsOf
  obtain ⟨k, hk⟩ := List.mem_iff_getElem?.1 hm
  have hl := (List.getElem?_eq_some_iff.1 hk).1
  have : ms.find? (fun x => decide (x.at_ = m.at_) && (x.op == m.op)) = some m := by
    rw [List.find?_eq_some_iff_getElem]
    refine ⟨by rw [decide_eq_true rfl, beq_self_eq_true]; rfl, k, hl, (List.getElem?_eq_some_iff.1 hk).2, fun j hj => ?_⟩
    have := h1 j k _ m hj (List.getElem?_eq_getElem (by omega)) hk
    rw [Bool.not_eq_true', Bool.and_eq_false_iff, decide_eq_false_iff_not, beq_eq_false_iff_ne]
    exact Classical.or_iff_not_imp_left.mpr fun h h2 => this ⟨h2, Classical.not_not.mp h⟩
  rw [this]
theorem stBits_step {p : Pro} (hf : Fits p) (h1 : OneM p.moves) {S q : Nat} {op nm : List UInt8} (h : StBits p S op nm p.states.length q) : q = stepS p S op nm := by
  refine Nat.eq_of_testBit_eq fun j => ?_
  rw [Bool.eq_iff_iff, h j, stepS_bit]
  constructor
  · rintro ⟨i, a, b, o, ho, c⟩
    obtain ⟨m, hm, e1, e2, hmo⟩ := outsOf_mem ho
    exact ⟨m, hm, e2, by rw [e1, Int.toNat_natCast]; exact b, o, hmo, c⟩
  · rintro ⟨m, hm, e, b, o, ho, c⟩
    have ha := hf.at_ m hm
    refine ⟨m.at_.toNat, by omega, b, o, ?_, c⟩
    rw [show ((m.at_.toNat : Nat) : Int) = m.at_ by omega, ← e, outsOf_is h1 hm]
    exact ho
set_option maxRecDepth 100000 in
set_option maxHeartbeats 16000000 in
theorem rstep_any (w : World) (vs vm : Value) (p : Pro) (h : ProAt w vs vm p) (hz : SzP p) (hf : Fits p) (hn : p.states.length ≤ 16) (h1 : OneM p.moves) (S : Nat) (hS : S < 4294967296) (op nm : List UInt8) :
    Calls Try.prog 29 #[proV vs vm p, .int .u32 (S : Int), txt op, txt nm] w fun e w' => e = .returned (.int .u32 (stepS p S op nm : Nat)) ∧ Below w.heap.size w w' := by
  have RO := Lib.hid (fun (v : World) (hb : Below w.heap.size w v) (i : Int) => routs_any v vs vm p (h.below hb) hz.mv i op)
  obtain ⟨As, cs, rfl, _⟩ := h.states.len
  obtain ⟨Am, cm, rfl, _⟩ := h.moves.len
  have a1 := below_alloc1 w (.cells #[txt p.name, .slice As p.states.length cs, .slice Am p.moves.length cm] 25)
  have B1 := Blk.start w #[txt p.name, .slice As p.states.length cs, .slice Am p.moves.length cm] 25
  have S0 := Lib.hid (WrS.mk B1 a1)
  have HO := Lib.hid (And.intro hz (And.intro hf (And.intro hn hS)))
  have RB := Lib.hid (fun (v : World) (s k : Nat) (hs : s < 4294967296) (hk : k ≤ 16) => rbit_any v s k hs hk)
  have EV := Lib.hid (fun (q : Nat) (h : StBits p S op nm p.states.length q) => stBits_step hf h1 h)
  generalize stepS p S op nm = R at *
  clear h hz hf hn h1 hS a1 B1
  go_enter Try.func29, Try.ntmps29
  go_upto_region 1 with fail
  generalize w.alloc (.cells #[txt p.name, .slice As p.states.length cs, .slice Am p.moves.length cm] 25) = W at *
  go_wp2_with fail
  go_loopg [9, 10] p.states.length (fun g v9 v10 wr => ∃ i q : Nat, v9 = .int .u32 (q : Int) ∧ v10 = .int .i64 i ∧ i ≤ p.states.length ∧ g = p.states.length - i ∧ q < 2 ^ p.states.length ∧ StBits p S op nm i q ∧ WrS w wr w.heap.size #[txt p.name, .slice As p.states.length cs, .slice Am p.moves.length cm])
  case atStart => exact ⟨0, 0, rfl, rfl, Nat.zero_le _, rfl, Nat.two_pow_pos _, fun j => by simp, S0.out⟩
  case round =>
    obtain ⟨i, q, rfl, rfl, hi, hg, hq, hb, hW⟩ := hrel
    have p0 := hW.p.cell 0
    have p1 := hW.p.cell 1
    have p2 := hW.p.cell 2
    simp only [List.getElem?_toArray, List.getElem?_cons_zero, List.getElem?_cons_succ] at p0 p1 p2
    by_cases hin : i = p.states.length
    · have j1 : decide (i < p.states.length) = false := decide_eq_false (by omega)
      have FIN := Lib.hid (And.intro (EV.out q (by rw [← hin]; exact hb)) hW.b)
      clear hi hg hq hb hW hin
      go_wp2_with fail
      go_ret
      exact ⟨by rw [← FIN.out.1]; rfl, FIN.out.2⟩
    · have hlt : i < p.states.length := by omega
      have j1 : (i : Int) < (p.states.length : Int) := by omega
      have j2 : (0 : Int) ≤ (i : Int) := by omega
      have wi : IntKind.i64.wrap ((i : Int) + 1) = (i : Int) + 1 := IntWalk.i64_in _ (by have := HO.out.2.2.1; omega)
      have RC := Lib.hid (RO.out wr hW.b (i : Int))
      have RI := Lib.hid (fun (v : World) => RB.out v S i HO.out.2.2.2 (by have := HO.out.2.2.1; omega))
      have OL := Lib.hid (show ∀ o ∈ outsOf p.moves (i : Int) op, 0 ≤ o.to ∧ o.to < (p.states.length : Int) from fun o ho => by obtain ⟨m, hm, _, _, hmo⟩ := outsOf_mem ho; exact HO.out.2.1.to m hm o hmo)
      have OL2 := Lib.hid (show (outsOf p.moves (i : Int) op).length ≤ 80 from by
        unfold outsOf
        split
        · rename_i m he
          exact HO.out.1.out m (List.mem_of_find?_eq_some he)
        · exact Nat.zero_le _)
      have HI := Lib.hid (And.intro hlt (And.intro hg (And.intro hq (And.intro hb hW))))
      have HN2 := Lib.hid (fun q2 (h : StBits2 S i q nm (outsOf p.moves (i : Int) op) q2) => hb.next h)
      clear hin hlt hi hg hq hb hW
      generalize outsOf p.moves (i : Int) op = l at *
      go_upto_region 6 with (go_at_call 26; (refine RC.out.mono ?_); rintro e w1 ⟨Al, cl, rfl, ho, hb⟩; have H1 := Lib.hid (And.intro ho hb); clear ho hb)
      clear p0 p1 p2
      have W1 := Lib.hid (HI.out.2.2.2.2.keep H1.out.2)
      go_wp2_with fail
      go_loopg [9, 12] l.length (fun g v9 v12 wr => ∃ k q2 : Nat, v9 = .int .u32 (q2 : Int) ∧ v12 = .int .i64 k ∧ k ≤ l.length ∧ g = l.length - k ∧ q2 < 2 ^ p.states.length ∧ StBits2 S i q nm (l.take k) q2 ∧ wr = w1)
      case atStart => exact ⟨0, q, rfl, rfl, Nat.zero_le _, rfl, HI.out.2.2.1, fun j => by simp, rfl⟩
      case round =>
        obtain ⟨k, q2, rfl, rfl, hk, hg, hq, hb, rfl⟩ := hrel
        by_cases hkn : k = l.length
        · have j3 : decide (k < l.length) = false := decide_eq_false (by omega)
          have NX := Lib.hid (And.intro hq (HN2.out q2 (by rw [hkn, List.take_length] at hb; exact hb)))
          clear hk hg hq hb hkn
          go_wp2_with fail
          go_roundg (p.states.length - (i + 1))
          case measure => have := HI.out.1; have := HI.out.2.1; omega
          case rel => exact ⟨i + 1, q2, rfl, by push_cast; rfl, HI.out.1, rfl, NX.out.1, NX.out.2, W1.out⟩
        · have hlt : k < l.length := by omega
          obtain ⟨x, hx⟩ : ∃ x, l[k]? = some x := ⟨_, List.getElem?_eq_getElem hlt⟩
          obtain ⟨A', c', e', _, _, hr, _⟩ := H1.out.1
          injection e' with e1 e2 e3
          obtain ⟨ao, ea, d0, d1⟩ := sl_cell2 ouC_len hr (Below.refl _ _) hx (by omega)
          subst e1
          subst ea
          clear e2 e3
          unfold ouC at d0 d1
          simp only [List.getElem?_cons_zero, List.getElem?_cons_succ] at d0 d1
          have hto := OL.out x (List.mem_of_getElem? hx)
          obtain ⟨xn, xt⟩ := x
          dsimp only at hto d0 d1
          obtain ⟨t, rfl⟩ : ∃ t : Nat, xt = t := ⟨xt.toNat, by omega⟩
          have tk1 : l.take (k + 1) = l.take k ++ [⟨xn, (t : Int)⟩] := by rw [List.take_add_one, hx]; rfl
          have ht16 : t < p.states.length := by omega
          have sm := small_of hq HO.out.2.2.1
          have RT := Lib.hid (fun (v : World) => RB.out v q2 t sm (by have := HO.out.2.2.1; omega))
          have j3 : (k : Int) < (l.length : Int) := by omega
          have j4 : (0 : Int) ≤ (k : Int) := by omega
          have wk : IntKind.i64.wrap ((k : Int) + 1) = (k : Int) + 1 := IntWalk.i64_in _ (by have := OL2.out; omega)
          have k0 : (0 : Int) ≤ (t : Int) := by omega
          have k1 : (t : Int) ≤ 32 := by have := HO.out.2.2.1; omega
          have sh := shl_eq (k := t) (by have := HO.out.2.2.1; omega)
          have HK := Lib.hid (And.intro hlt (And.intro hg (And.intro hq (And.intro hb (And.intro tk1 ht16)))))
          have AD := Lib.hid (fun h => addw_eq (q := q2) (t := t) sm (by have := HO.out.2.2.1; omega) h)
          clear hkn hlt hk hg hq hb hx hto tk1 ht16 sm hr
          obtain ⟨T, hT⟩ : ∃ T, T = S.testBit i := ⟨_, rfl⟩
          have HT := Lib.hid hT
          rw [← hT] at RI
          clear hT
          obtain ⟨U, hU⟩ : ∃ U, U = q2.testBit t := ⟨_, rfl⟩
          have HU := Lib.hid hU
          rw [← hU] at RT
          clear hU
          have same := fun (hn : S.testBit i = true → xn = nm → q2.testBit t = true) => show StBits2 S i q nm (l.take (k + 1)) q2 from by rw [HK.out.2.2.2.2.1]; exact HK.out.2.2.2.1.same hn
          have SA := Lib.hid same
          clear same
          cases T
          · go_wp2_with (go_at_call 52; (refine (RI.out _).mono ?_); rintro e w2 ⟨rfl, rfl⟩)
            go_roundg (l.length - (k + 1))
            case measure => have := HK.out.1; have := HK.out.2.1; omega
            case rel => exact ⟨k + 1, q2, rfl, by push_cast; rfl, HK.out.1, rfl, HK.out.2.2.1, SA.out (fun h => by rw [← HT.out] at h; cases h), rfl⟩
          · by_cases hq : xn = nm
            · have t1 : (xn == nm) = true := beq_iff_eq.mpr hq
              have HQ := Lib.hid hq
              clear hq
              cases U
              · go_wp2_with (go_at_call 52; (first | (refine (RI.out _).mono ?_) | (refine (RT.out _).mono ?_)); rintro e w2 ⟨rfl, rfl⟩)
                go_roundg (l.length - (k + 1))
                case measure => have := HK.out.1; have := HK.out.2.1; omega
                case rel => exact ⟨k + 1, q2 ||| 2 ^ t, by rw [AD.out HU.out.symm], by push_cast; rfl, HK.out.1, rfl, Nat.or_lt_two_pow HK.out.2.2.1 (Nat.pow_lt_pow_right (by omega) HK.out.2.2.2.2.2), by rw [HK.out.2.2.2.2.1]; exact HK.out.2.2.2.1.put (o := ⟨xn, (t : Int)⟩) HT.out.symm HQ.out, rfl⟩
              · go_wp2_with (go_at_call 52; (first | (refine (RI.out _).mono ?_) | (refine (RT.out _).mono ?_)); rintro e w2 ⟨rfl, rfl⟩)
                go_roundg (l.length - (k + 1))
                case measure => have := HK.out.1; have := HK.out.2.1; omega
                case rel => exact ⟨k + 1, q2, rfl, by push_cast; rfl, HK.out.1, rfl, HK.out.2.2.1, SA.out (fun _ _ => HU.out.symm), rfl⟩
            · have t1 : (xn == nm) = false := beq_eq_false_iff_ne.mpr hq
              have HQ := Lib.hid hq
              clear hq
              go_wp2_with (go_at_call 52; (refine (RI.out _).mono ?_); rintro e w2 ⟨rfl, rfl⟩)
              go_roundg (l.length - (k + 1))
              case measure => have := HK.out.1; have := HK.out.2.1; omega
              case rel => exact ⟨k + 1, q2, rfl, by push_cast; rfl, HK.out.1, rfl, HK.out.2.2.1, SA.out (fun _ h => absurd h HQ.out), rfl⟩
end Go.Proofs.Ytopokobifbcdbaa
