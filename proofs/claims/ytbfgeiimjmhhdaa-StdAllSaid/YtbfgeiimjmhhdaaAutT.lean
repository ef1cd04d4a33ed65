/-
  The walks of the reference's has and Ends. (Template: by-name.py fills it.)
-/
import Derived.Test.YtbfgeiimjmhhdaaAutS
namespace Go.Proofs.Ytbfgeiimjmhhdaa
open Go.RowKit

/-! ### Plain -/
theorem nodup_len : ∀ (n : Nat) (l : List Nat), l.Nodup → (∀ x ∈ l, x < n) → l.length ≤ n
  | 0, l, _, h => by
    cases l with
    | nil => exact Nat.le_refl _
    | cons x r => exact absurd (h x (List.mem_cons_self ..)) (Nat.not_lt_zero _)
  | n + 1, l, hd, h => by
    have h1 : ∀ x ∈ l.erase n, x < n := fun x hx => by
      have a := h x (List.mem_of_mem_erase hx)
      have b : x ≠ n := fun e => by subst e; exact hd.not_mem_erase hx
      omega
    have h2 := nodup_len n (l.erase n) (hd.erase n) h1
    rw [List.length_erase] at h2
    split at h2 <;> omega
/-- The states of a list are told apart, lie among the protocol's, are not final, and what they reach a reaches. -/
structure GoodL (p : Pro) (a : Nat) (l : List Nat) : Prop where
  nd : l.Nodup
  lt : ∀ x ∈ l, x < p.states.length
  fin : ∀ x ∈ l, finalAt p x = false
  back : ∀ x ∈ l, ∀ j, goesB p j x = true → ∃ K, goesB p K a = true
theorem GoodL.len {p : Pro} {a : Nat} {l : List Nat} (h : GoodL p a l) : l.length ≤ p.states.length := nodup_len _ _ h.nd h.lt
theorem GoodL.one {p : Pro} {a : Nat} (ha : a < p.states.length) (hf : finalAt p a = false) : GoodL p a [a] :=
  ⟨by simp, fun x hx => by rw [List.mem_singleton.mp hx]; exact ha, fun x hx => by rw [List.mem_singleton.mp hx]; exact hf, fun x hx j hj => by rw [List.mem_singleton.mp hx] at hj; exact ⟨j, hj⟩⟩
theorem goes_edge {p : Pro} {x : Nat} {m : Mov} {o : Ou} (hm : m ∈ p.moves) (hx : m.at_ = (x : Int)) (ho : o ∈ m.outs) {j : Nat} (h : goesB p j o.to.toNat = true) : goesB p (j + 1) x = true := by
  rw [goesB, Bool.or_eq_true, List.any_eq_true]
  refine .inr ⟨m, hm, ?_⟩
  rw [Bool.and_eq_true, List.any_eq_true]
  exact ⟨decide_eq_true hx, o, ho, h⟩
theorem GoodL.snoc {p : Pro} {a x y : Nat} {l : List Nat} {m : Mov} {o : Ou} (h : GoodL p a l) (hx : x ∈ l) (hm : m ∈ p.moves) (he : m.at_ = (x : Int)) (ho : o ∈ m.outs) (hy : o.to.toNat = y) (hlt : y < p.states.length) (hf : finalAt p y = false) (hn : y ∉ l) : GoodL p a (l ++ [y]) := by
  refine ⟨?_, ?_, ?_, ?_⟩
  · rw [List.nodup_append]
    exact ⟨h.nd, by simp, fun u hu v hv => by rw [List.mem_singleton.mp hv]; rintro rfl; exact hn hu⟩
  · intro u hu
    rcases List.mem_append.1 hu with hu | hu
    · exact h.lt u hu
    · rw [List.mem_singleton.mp hu]; exact hlt
  · intro u hu
    rcases List.mem_append.1 hu with hu | hu
    · exact h.fin u hu
    · rw [List.mem_singleton.mp hu]; exact hf
  · intro u hu j hj
    rcases List.mem_append.1 hu with hu | hu
    · exact h.back u hu j hj
    · rw [List.mem_singleton.mp hu, ← hy] at hj
      exact h.back x hx (j + 1) (goes_edge hm he ho hj)
/-- What leads out of x leads into l. -/
def SuccIn (p : Pro) (x : Nat) (l : List Nat) : Prop := ∀ m ∈ p.moves, m.at_ = (x : Int) → ∀ o ∈ m.outs, o.to.toNat ∈ l
def FarL (p : Pro) (a k : Nat) (l : List Nat) : Prop := ∀ j, (∀ x ∈ l, goesB p j x = false) → goesB p (j + k) a = false
theorem FarL.one (p : Pro) (a : Nat) : FarL p a 0 [a] := fun _ h => h a (List.mem_singleton.mpr rfl)
theorem FarL.step {p : Pro} {a k : Nat} {l l' : List Nat} (h : FarL p a k l) (hs : ∀ x ∈ l, x ∈ l') (hn : ∀ x ∈ l, SuccIn p x l') : FarL p a (k + 1) l' := fun j hj => by
  rw [show j + (k + 1) = (j + 1) + k by omega]
  refine h (j + 1) fun x hx => ?_
  cases q : goesB p (j + 1) x with
  | false => rfl
  | true =>
    rw [goesB, Bool.or_eq_true, List.any_eq_true] at q
    rcases q with q | ⟨m, hm, q⟩
    · have := goes_le p (k := 0) (j := j) (Nat.zero_le _) (i := x) q
      rw [hj x (hs x hx)] at this
      cases this
    · rw [Bool.and_eq_true, List.any_eq_true] at q
      obtain ⟨e, o, ho, q⟩ := q
      rw [hj _ (hn x hx m hm (of_decide_eq_true e) o ho)] at q
      cases q
theorem FarL.none {p : Pro} {a : Nat} {l : List Nat} (h : FarL p a p.states.length l) (g : GoodL p a l) : goesB p p.states.length a = false := by
  have := h 0 (fun x hx => g.fin x hx)
  rwa [Nat.zero_add] at this
/-! ### In memory -/
abbrev iv (l : List Nat) : List Value := l.map fun (x : Nat) => Value.int .i64 (x : Int)
def NatsOwn (w : World) (B : Nat) (v : Value) (l : List Nat) : Prop := w.ownsRow B 3 1 v l.length (iv l)
theorem iv_at {l : List Nat} {k x : Nat} (h : l[k]? = some x) : (iv l)[k]? = some (.int .i64 (x : Int)) := by rw [List.getElem?_map, h]; rfl
theorem nats_cell {w wr : World} {B n c k x : Nat} {A : Option Addr} {l : List Nat} (h : NatsOwn w B (.slice A n c) l) (hn : n = l.length) (hb : Below w.heap.size w wr) (hx : l[k]? = some x) : ∃ ad, A = some ad ∧ wr.cell? (ad.add k) = some (.int .i64 (x : Int)) := by
  subst hn
  have hl := (List.getElem?_eq_some_iff.1 hx).1
  obtain ⟨_, _, h1, h2⟩ := reads_own h
  obtain ⟨ad, e, hbk, hc⟩ := h2 (by omega)
  exact ⟨ad, e, (hb.cell (p := ad.add k) (by rw [block_of_add]; exact hbk)).trans (hc _ _ (iv_at hx))⟩
set_option maxHeartbeats 4000000 in
theorem rhas_any (w : World) (B : Nat) (v : Value) (l : List Nat) (x : Nat) (h : NatsOwn w B v l) (hl : l.length ≤ 1000) :
    Calls Try.prog 23 #[v, .int .i64 (x : Int)] w fun e w' => e = .returned (.bool (l.contains x)) ∧ w = w' := by
  obtain ⟨A, c, rfl⟩ := own_shape h
  have HO := Lib.hid (And.intro h hl)
  clear h hl
  go_enter Try.func23, Try.ntmps23
  go_wp2_with fail
  go_loopg [5] l.length (fun g v5 wr => w = wr ∧ ∃ k : Nat, v5 = .int .i64 k ∧ k ≤ l.length ∧ g = l.length - k ∧ ∀ i y, i < k → l[i]? = some y → y ≠ x)
  case atStart => exact ⟨rfl, 0, rfl, Nat.zero_le _, rfl, fun i y hi _ => absurd hi (Nat.not_lt_zero _)⟩
  case round =>
    obtain ⟨rfl, k, rfl, hk, hg, hall⟩ := hrel
    by_cases hkn : k = l.length
    · have i1 : decide (k < l.length) = false := decide_eq_false (by omega)
      have FIN := Lib.hid (show l.contains x = false from by
        cases q : l.contains x with
        | false => rfl
        | true =>
          obtain ⟨i, hi⟩ := List.mem_iff_getElem?.1 (List.contains_iff_mem.mp q)
          exact absurd rfl (hall i x (by have := (List.getElem?_eq_some_iff.1 hi).1; omega) hi))
      clear hk hg hall hkn
      go_wp2_with fail
      go_ret
      exact ⟨by rw [FIN.out]; rfl, rfl⟩
    · have hlt : k < l.length := by omega
      obtain ⟨y, hy⟩ : ∃ y, l[k]? = some y := ⟨_, List.getElem?_eq_getElem hlt⟩
      obtain ⟨ad, rfl, d0⟩ := nats_cell HO.out.1 rfl (Below.refl _ _) hy
      have i1 : (k : Int) < (l.length : Int) := by omega
      have i2 : (0 : Int) ≤ (k : Int) := by omega
      have wk : IntKind.i64.wrap ((k : Int) + 1) = (k : Int) + 1 := IntWalk.i64_in _ (by have := HO.out.2; omega)
      have HK := Lib.hid (And.intro hlt (And.intro hg (And.intro hall hy)))
      clear hkn hlt hk hg hall hy
      by_cases q : y = x
      · subst q
        go_wp2_with fail
        go_ret
        exact ⟨by rw [List.contains_iff_mem.mpr (List.mem_of_getElem? HK.out.2.2.2)]; rfl, rfl⟩
      · have t1 : ((y : Int) == (x : Int)) = false := by rw [beq_eq_false_iff_ne]; omega
        have HQ := Lib.hid q
        clear q
        go_wp2_with fail
        go_roundg (l.length - (k + 1))
        case measure => have := HK.out.1; have := HK.out.2.1; omega
        case rel => exact ⟨rfl, k + 1, by push_cast; rfl, HK.out.1, rfl, fun i u hi hu => by
            by_cases e : i = k
            · subst e; rw [HK.out.2.2.2] at hu; obtain rfl := Option.some.inj hu; exact HQ.out
            · exact HK.out.2.2.1 i u (by omega) hu⟩
end Go.Proofs.Ytbfgeiimjmhhdaa
