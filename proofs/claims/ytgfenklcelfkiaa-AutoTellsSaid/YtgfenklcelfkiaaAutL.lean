/-
  The walks of strings.Clone and of slices.Clone at states, moves and outcomes. (Template: by-name.py fills it; gen/genAutL.py writes it.)
-/
import Derived.Test.YtgfenklcelfkiaaAutK
import Derived.Test.YtgfenklcelfkiaaShelf
namespace Go.Proofs.Ytgfenklcelfkiaa
open Go.RowKit

theorem sclone_any (s : List UInt8) (w : World) (h : s.length ≤ 281474976710656) : Calls Try.prog 47 #[txt s] w fun e w' => e = .returned (txt s) ∧ Below w.heap.size w w' := by
  have cl := Lib.hid (fun w => Try.stringslite_Clone (⟨s.toArray⟩ : ByteArray) w (by show s.toArray.size ≤ _; rw [List.size_toArray]; exact h))
  clear h
  go_enter Try.func47, Try.ntmps47
  go_wp2_with (go_at_call 66; (with_reducible refine (cl.out _).mono ?_); rintro e w1 ⟨rfl, hb⟩)
  go_ret
  exact ⟨rfl, hb⟩
theorem own_shape {w : World} {base n size : Nat} {e : TypeId} {v : Value} {xs : List Value} (h : w.ownsRow base e size v n xs) : ∃ A c, v = .slice A n c := by
  rcases h.2 with ⟨rfl, rfl⟩ | ⟨g, cap, cur, rfl, _⟩
  · exact ⟨_, _, rfl⟩
  · exact ⟨_, _, rfl⟩
theorem ownRow_below {w w1 : World} {base n size : Nat} {e : TypeId} {v : Value} {xs : List Value} (h : w.ownsRow base e size v n xs) (hb : Below w.heap.size w w1) : w1.ownsRow base e size v n xs :=
  h.kept (row := none) ⟨hb.os, hb.tape, hb.output, hb.size, fun k hk _ => hb.block k hk⟩ (by
    cases q : v.ownBlock with
    | none => exact .inl rfl
    | some k => exact .inr (by simp))
theorem ownRow_less {w : World} {b b' n size : Nat} {e : TypeId} {v : Value} {xs : List Value} (h : w.ownsRow b e size v n xs) (hb : b' ≤ b) : w.ownsRow b' e size v n xs := by
  refine ⟨h.1, ?_⟩
  rcases h.2 with q | ⟨g, cap, cur, h1, h2, h3⟩
  · exact .inl q
  · exact .inr ⟨g, cap, cur, h1, Nat.le_trans hb h2, h3⟩
theorem ownRow_set {w : World} {base n size g j : Nat} {e : TypeId} {v u : Value} {xs : List Value} (h : w.ownsRow base e size v n xs) (hg : g < base) : (w.setCell ⟨g, j, none⟩ u).ownsRow base e size v n xs :=
  h.kept (row := some g) grown_set (by
    cases q : v.ownBlock with
    | none => exact .inl rfl
    | some k => exact .inr (by intro e; injection e with e; have := (h.lt k q).1; omega))
/-- What is owned reads as a slice. -/
theorem reads_own {w : World} {base n size : Nat} {e : TypeId} {A : Option Addr} {c : Nat} {xs : List Value} (h : w.ownsRow base e size (.slice A n c) n xs) : n ≤ c ∧ c ≤ maxLen ∧ Reads w w.heap.size size A n xs := by
  rcases h.2 with ⟨q, rfl⟩ | ⟨g, cap, cur, q, hb, hg, hnc, hcm, hcs, ht⟩
  · injection q with q1 q2 q3
    subst q1 q3
    exact ⟨Nat.le_refl _, by decide, ⟨h.1, fun hn => absurd hn (Nat.lt_irrefl _)⟩⟩
  · injection q with q1 q2 q3
    subst q1 q3
    refine ⟨hnc, hcm, ⟨h.1, fun _ => ⟨⟨g, 0, none⟩, rfl, (Array.getElem?_eq_some_iff.1 hg).1, fun j u hj => ?_⟩⟩⟩
    have hl := (List.getElem?_eq_some_iff.1 hj).1
    rw [h.1] at hl
    have := h.cellAt j hl
    rw [hj] at this
    rw [show (⟨g, 0, none⟩ : Addr).add j = ⟨g, j, none⟩ by unfold Addr.add; by_cases e : j = 0 <;> simp [e]]
    exact this
theorem info_parts {P : Program} {t : TypeId} {z : Option Value} {s b : Nat} (h : (P.info? t).map (fun i => (i.zero, i.size, i.bytes)) = some (z, s, b)) : ∃ i, P.info? t = some i ∧ i.zero = z ∧ i.size = s ∧ i.bytes = b := by
  cases q : P.info? t with
  | none => rw [q] at h; cases h
  | some i =>
    rw [q] at h
    simp only [Option.map_some, Option.some.injEq, Prod.mk.injEq] at h
    exact ⟨i, rfl, h.1, h.2.1, h.2.2⟩
/-! ### State -/
theorem nil_no_State (w : World) (ad : Addr) (n c : Nat) : (binOp .eql 22 (.slice (some ad) n c) (.slice none 0 0)).run Try.prog w = .ok (.bool false) w := by kernel_rfl
theorem nil_yes_State (w : World) (n c : Nat) : (binOp .eql 22 (.slice none n c) (.slice none 0 0)).run Try.prog w = .ok (.bool true) w := by kernel_rfl
theorem empty_State (w : World) : (w.alloc (.cells #[] 53)).ownsRow w.heap.size 53 2 (.slice (some ⟨w.heap.size, 0, none⟩) 0 0) 0 [] :=
  World.ownsRow_made w #[] 0 (Nat.le_refl _) (Nat.zero_le _) rfl
theorem info_State : (Try.prog.info? 53).map (fun i => (i.zero, i.size, i.bytes)) = some (some (.agg #[.string ⟨#[]⟩, .bool false]), 2, 24) := by kernel_rfl
set_option maxRecDepth 10000 in
set_option maxHeartbeats 2000000 in
theorem tclone_State (w : World) (A : Option Addr) (n c : Nat) (us : List Value) (h5 : Reads w w.heap.size 2 A n us) (one : ∀ u ∈ us, u.oneCell' = true) (hm : n ≤ maxLen) (hbz : n * 24 ≤ 140737488355328) :
    Calls Try.prog 48 #[.slice A n c] w fun e w' => ∃ A' c', e = .returned (.slice A' n c') ∧ w'.ownsRow w.heap.size 53 2 (.slice A' n c') n us ∧ Below w.heap.size w w' := by
  obtain ⟨i0, hi, hz0, hz1, hz2⟩ := info_parts info_State
  rcases A with _ | ad
  · have hn : n = 0 := by
      rcases Nat.eq_zero_or_pos n with h0 | h0
      · exact h0
      · obtain ⟨_, e, _⟩ := h5.2 h0
        cases e
    subst hn
    have hu : us = [] := List.eq_nil_of_length_eq_zero (by have := h5.1; omega)
    subst hu
    have hq := nil_yes_State w 0 c
    clear h5 one hm hbz
    go_enter Try.func48, Try.ntmps48
    go_wp2_with fail
    go_ret
    exact ⟨_, _, rfl, World.ownsRow_nil _ _ _ _, Below.refl _ _⟩
  · have hq := nil_no_State w ad n c
    have ON := Lib.hid (And.intro one (And.intro hm hbz))
    clear one hm hbz
    go_enter Try.func48, Try.ntmps48
    go_wp2_with (at_builtin; refine wpList_append_any _ rfl _ _ 22 rfl w.heap.size 53 i0 (.agg #[.string ⟨#[]⟩, .bool false]) 2 24 Try.underlying22 hi hz0 hz1 hz2 rfl (by decide) _ 0 [] rfl (empty_State w) w.heap.size (some ad) _ c _ rfl (h5.alloc (Nat.le_refl _) _) ?c2 ?c3 ?c4 ?c5 ?_)
    case c2 => exact ON.out.1
    case c3 => have := ON.out.2.1; omega
    case c4 => have := ON.out.2.2; omega
    case c5 => simp
    intro v' w1 hown' hgrow _
    have hown2 : w1.ownsRow w.heap.size 53 2 v' n us := by simpa using hown'
    have hb : Below w.heap.size w w1 := by
      refine (below_alloc1 w _).grown hgrow (by simp) (fun k hk => ?_)
      have e : w.heap.size = k := by simpa [Value.ownBlock] using hk
      omega
    obtain ⟨A', c', rfl⟩ := own_shape hown2
    have FIN := Lib.hid (And.intro hown2 hb)
    clear hown' hown2 hgrow hb h5 hq
    go_wp2_with fail
    go_ret
    exact ⟨_, _, rfl, FIN.out⟩
/-! ### Move -/
theorem nil_no_Move (w : World) (ad : Addr) (n c : Nat) : (binOp .eql 23 (.slice (some ad) n c) (.slice none 0 0)).run Try.prog w = .ok (.bool false) w := by kernel_rfl
theorem nil_yes_Move (w : World) (n c : Nat) : (binOp .eql 23 (.slice none n c) (.slice none 0 0)).run Try.prog w = .ok (.bool true) w := by kernel_rfl
theorem empty_Move (w : World) : (w.alloc (.cells #[] 43)).ownsRow w.heap.size 43 3 (.slice (some ⟨w.heap.size, 0, none⟩) 0 0) 0 [] :=
  World.ownsRow_made w #[] 0 (Nat.le_refl _) (Nat.zero_le _) rfl
theorem info_Move : (Try.prog.info? 43).map (fun i => (i.zero, i.size, i.bytes)) = some (some (.agg #[.string ⟨#[]⟩, .int .i64 0, .slice none 0 0]), 3, 48) := by kernel_rfl
set_option maxRecDepth 10000 in
set_option maxHeartbeats 2000000 in
theorem tclone_Move (w : World) (A : Option Addr) (n c : Nat) (us : List Value) (h5 : Reads w w.heap.size 3 A n us) (one : ∀ u ∈ us, u.oneCell' = true) (hm : n ≤ maxLen) (hbz : n * 48 ≤ 140737488355328) :
    Calls Try.prog 49 #[.slice A n c] w fun e w' => ∃ A' c', e = .returned (.slice A' n c') ∧ w'.ownsRow w.heap.size 43 3 (.slice A' n c') n us ∧ Below w.heap.size w w' := by
  obtain ⟨i0, hi, hz0, hz1, hz2⟩ := info_parts info_Move
  rcases A with _ | ad
  · have hn : n = 0 := by
      rcases Nat.eq_zero_or_pos n with h0 | h0
      · exact h0
      · obtain ⟨_, e, _⟩ := h5.2 h0
        cases e
    subst hn
    have hu : us = [] := List.eq_nil_of_length_eq_zero (by have := h5.1; omega)
    subst hu
    have hq := nil_yes_Move w 0 c
    clear h5 one hm hbz
    go_enter Try.func49, Try.ntmps49
    go_wp2_with fail
    go_ret
    exact ⟨_, _, rfl, World.ownsRow_nil _ _ _ _, Below.refl _ _⟩
  · have hq := nil_no_Move w ad n c
    have ON := Lib.hid (And.intro one (And.intro hm hbz))
    clear one hm hbz
    go_enter Try.func49, Try.ntmps49
    go_wp2_with (at_builtin; refine wpList_append_any _ rfl _ _ 23 rfl w.heap.size 43 i0 (.agg #[.string ⟨#[]⟩, .int .i64 0, .slice none 0 0]) 3 48 Try.underlying23 hi hz0 hz1 hz2 rfl (by decide) _ 0 [] rfl (empty_Move w) w.heap.size (some ad) _ c _ rfl (h5.alloc (Nat.le_refl _) _) ?c2 ?c3 ?c4 ?c5 ?_)
    case c2 => exact ON.out.1
    case c3 => have := ON.out.2.1; omega
    case c4 => have := ON.out.2.2; omega
    case c5 => simp
    intro v' w1 hown' hgrow _
    have hown2 : w1.ownsRow w.heap.size 43 3 v' n us := by simpa using hown'
    have hb : Below w.heap.size w w1 := by
      refine (below_alloc1 w _).grown hgrow (by simp) (fun k hk => ?_)
      have e : w.heap.size = k := by simpa [Value.ownBlock] using hk
      omega
    obtain ⟨A', c', rfl⟩ := own_shape hown2
    have FIN := Lib.hid (And.intro hown2 hb)
    clear hown' hown2 hgrow hb h5 hq
    go_wp2_with fail
    go_ret
    exact ⟨_, _, rfl, FIN.out⟩
/-! ### Out -/
theorem nil_no_Out (w : World) (ad : Addr) (n c : Nat) : (binOp .eql 41 (.slice (some ad) n c) (.slice none 0 0)).run Try.prog w = .ok (.bool false) w := by kernel_rfl
theorem nil_yes_Out (w : World) (n c : Nat) : (binOp .eql 41 (.slice none n c) (.slice none 0 0)).run Try.prog w = .ok (.bool true) w := by kernel_rfl
theorem empty_Out (w : World) : (w.alloc (.cells #[] 69)).ownsRow w.heap.size 69 2 (.slice (some ⟨w.heap.size, 0, none⟩) 0 0) 0 [] :=
  World.ownsRow_made w #[] 0 (Nat.le_refl _) (Nat.zero_le _) rfl
theorem info_Out : (Try.prog.info? 69).map (fun i => (i.zero, i.size, i.bytes)) = some (some (.agg #[.string ⟨#[]⟩, .int .i64 0]), 2, 24) := by kernel_rfl
set_option maxRecDepth 10000 in
set_option maxHeartbeats 2000000 in
theorem tclone_Out (w : World) (A : Option Addr) (n c : Nat) (us : List Value) (h5 : Reads w w.heap.size 2 A n us) (one : ∀ u ∈ us, u.oneCell' = true) (hm : n ≤ maxLen) (hbz : n * 24 ≤ 140737488355328) :
    Calls Try.prog 54 #[.slice A n c] w fun e w' => ∃ A' c', e = .returned (.slice A' n c') ∧ w'.ownsRow w.heap.size 69 2 (.slice A' n c') n us ∧ Below w.heap.size w w' := by
  obtain ⟨i0, hi, hz0, hz1, hz2⟩ := info_parts info_Out
  rcases A with _ | ad
  · have hn : n = 0 := by
      rcases Nat.eq_zero_or_pos n with h0 | h0
      · exact h0
      · obtain ⟨_, e, _⟩ := h5.2 h0
        cases e
    subst hn
    have hu : us = [] := List.eq_nil_of_length_eq_zero (by have := h5.1; omega)
    subst hu
    have hq := nil_yes_Out w 0 c
    clear h5 one hm hbz
    go_enter Try.func54, Try.ntmps54
    go_wp2_with fail
    go_ret
    exact ⟨_, _, rfl, World.ownsRow_nil _ _ _ _, Below.refl _ _⟩
  · have hq := nil_no_Out w ad n c
    have ON := Lib.hid (And.intro one (And.intro hm hbz))
    clear one hm hbz
    go_enter Try.func54, Try.ntmps54
    go_wp2_with (at_builtin; refine wpList_append_any _ rfl _ _ 41 rfl w.heap.size 69 i0 (.agg #[.string ⟨#[]⟩, .int .i64 0]) 2 24 Try.underlying41 hi hz0 hz1 hz2 rfl (by decide) _ 0 [] rfl (empty_Out w) w.heap.size (some ad) _ c _ rfl (h5.alloc (Nat.le_refl _) _) ?c2 ?c3 ?c4 ?c5 ?_)
    case c2 => exact ON.out.1
    case c3 => have := ON.out.2.1; omega
    case c4 => have := ON.out.2.2; omega
    case c5 => simp
    intro v' w1 hown' hgrow _
    have hown2 : w1.ownsRow w.heap.size 69 2 v' n us := by simpa using hown'
    have hb : Below w.heap.size w w1 := by
      refine (below_alloc1 w _).grown hgrow (by simp) (fun k hk => ?_)
      have e : w.heap.size = k := by simpa [Value.ownBlock] using hk
      omega
    obtain ⟨A', c', rfl⟩ := own_shape hown2
    have FIN := Lib.hid (And.intro hown2 hb)
    clear hown' hown2 hgrow hb h5 hq
    go_wp2_with fail
    go_ret
    exact ⟨_, _, rfl, FIN.out⟩
end Go.Proofs.Ytgfenklcelfkiaa
