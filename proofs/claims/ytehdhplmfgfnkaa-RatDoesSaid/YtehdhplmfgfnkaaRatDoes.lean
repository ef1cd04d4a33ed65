/-
  What is proved: the statement RatDoes: the program's sums, differences, products and quotients of any two fractions, right or not, are the document's. Its conditions are the row's own.
  (Template: by-name.py fills it.)
-/
import Derived.Test.YtehdhplmfgfnkaaRatDo
import Derived.Test.YtehdhplmfgfnkaaRatK
namespace Go.Proofs.Ytehdhplmfgfnkaa
open Go.ChangeShapes Go.WideShapes Go.ChangeAt Go.RowKit

set_option maxHeartbeats 2000000 in
theorem does_any (n d m e : Int) (h1 : -9223372036854775808 ≤ n) (h2 : n ≤ 9223372036854775807) (h3 : -9223372036854775808 ≤ d) (h4 : d ≤ 9223372036854775807)
    (k1 : -9223372036854775808 ≤ m) (k2 : m ≤ 9223372036854775807) (k3 : -9223372036854775808 ≤ e) (k4 : e ≤ 9223372036854775807) (w : World) :
    Calls Try.prog 3 #[ratV n d, ratV m e] w fun e w' => e = .returned (.bool true) ∧ Below w.heap.size w w' := by
  have SO := Lib.hid (fun op ho => same_op op n d m e ho h1 h2 h3 h4 k1 k2 k3 k4)
  have L := ((Live.start w).box n d).boxAt m e (w.heap.size + 1) (by simp)
  clear h1 h2 h3 h4 k1 k2 k3 k4
  go_enter Try.func3, Try.ntmps3
  go_wp2_with (go_at_call 4; (with_reducible refine (awake_yes _).mono ?_); rintro e w1 ⟨rfl, hb⟩; have L := L.call hb)
  go_loopg [5] 4 (fun g v5 wr => ∃ k : Nat, v5 = .int .i64 k ∧ k ≤ 4 ∧ g = 4 - k ∧ Live w wr [(w.heap.size + 1, m, e), (w.heap.size, n, d)])
  case atStart => exact ⟨0, rfl, by omega, rfl, L⟩
  case round =>
    clear L hb
    obtain ⟨k, rfl, hk, hg, L⟩ := hrel
    by_cases hk4 : k = 4
    · subst hk4
      clear hk hg
      go_wp2_with fail
      go_ret
      exact ⟨rfl, L.below⟩
    · obtain ⟨p1, p2, p3, hA, hB⟩ := SO.out (k : Int) (by omega)
      have i1 : (k : Int) < 4 := by omega
      have wj : IntKind.i64.wrap ((k : Int) + 1) = (k : Int) + 1 := IntWalk.i64_in _ (by omega)
      have HK := Lib.hid (And.intro hk (And.intro hg hk4))
      have a0 := L.n 1 rfl; have a1 := L.d 1 rfl; have b0 := L.n 0 rfl; have b1 := L.d 0 rfl
      clear hk hg hk4
      go_upto_region 7 with (go_at_call 5; (with_reducible refine (hA _).mono ?_); rintro e w2 ⟨rfl, hb⟩)
      have L := (L.call hb).box p1 p2
      clear hb a0 a1 b0 b1 hA
      have a0 := L.n 2 rfl; have a1 := L.d 2 rfl; have b0 := L.n 1 rfl; have b1 := L.d 1 rfl
      go_upto_region 8 with (go_at_call 6; (with_reducible refine (hB _).mono ?_); rintro e w3 ⟨rfl, hb⟩)
      have L := (L.call hb).box p1 p2
      clear hb a0 a1 b0 b1 hB
      have a0 := L.n 1 rfl; have a1 := L.d 1 rfl; have b0 := L.n 0 rfl; have b1 := L.d 0 rfl
      go_wp2_with fail
      go_roundg (3 - k)
      case measure => have := HK.out; omega
      case rel => exact ⟨k + 1, by push_cast; rfl, by have := HK.out; omega, by have := HK.out; omega, fun x hx => L.rats x (List.mem_cons_of_mem _ (List.mem_cons_of_mem _ hx)), L.below⟩

set_option maxRecDepth 100000 in
theorem does_lifted (os : Os) (started : os.Started) (H : Type) (enc : TypeId × Value → H) :
    ReturnsInHanded {} Try.checked os 3 .any (Rows.ratDoesSpec.pre6 enc Try.prog Try.f3 Rows.ratDoesRow.domain false) (Rows.ratDoesSpec.post enc Try.prog Try.f3 false true false false) := by
  refine returnsInHanded_of_change (C := Try.checked) Try.own started (by kernel_rfl) Try.func3
    (ChangeSpec.witness6 (enc := enc) (C := Try.checked) false ⟨#[], #[.agg #[.int .i64 0, .int .i64 0], .agg #[.int .i64 0, .int .i64 0]], []⟩ 8 (by kernel_rfl) (by kernel_rfl) (by kernel_rfl) (by kernel_rfl)) ?_
  intro W base args ds gs before hval0 hW _ _
  have hval : ∀ (j : Nat) t v, Try.f3.params[j]? = some t → args[j]? = some v → Value.okWide Try.prog W .any base t v := hval0
  have hW' := hW
  obtain ⟨p, q, hA0, hV, rfl, _, _⟩ := hW
  have hA : DataW.TrodAll enc Try.prog W 0 (fun _ => true) true Try.f3.params.toList args.toList ds p := hA0
  rw [Try.params3] at hA hval
  obtain ⟨v0, v1, d0, d1, p0, p1, rfl, rfl, rfl, h0, h1⟩ := trodAll_two hA
  obtain ⟨rfl, rfl⟩ := trodVars_none hV
  obtain ⟨n, d, rfl, rfl, rfl, ⟨n1, n2⟩, ⟨e1, e2⟩, sa⟩ := open_rat (hval 0 23 v0 rfl rfl) h0
  obtain ⟨m, e, rfl, rfl, rfl, ⟨m1, m2⟩, ⟨f1, f2⟩, sb⟩ := open_rat (hval 1 23 v1 rfl rfl) h1
  clear hA0 hval0
  simp only [List.append_nil] at hW'
  refine (does_any n d m e n1 n2 e1 e2 m1 m2 f1 f2 W).mono fun r W' ⟨he, hb⟩ => ?_
  subst he
  exact ⟨_, rfl, post_of_below (pa := []) (pv := []) hW' (fun _ _ _ => trodAll_mk1 (shut_bool Try.underlying4 _)) (fun sp _ => trodAll_mk2 (sa _ _ sp _) (sb _ _ sp _)) (fun _ _ => rfl) rfl hb (ok_one (by kernel_rfl) rfl (okWide_bool_mk Try.underlying4 _))⟩

theorem does_holds : Rows.RatDoesSaid :=
  OpenClaim.holds_of_wide 3 Try.f3 rfl rfl rfl rfl rfl rfl rfl ⟨rfl, rfl, rfl, rfl, rfl⟩ rfl rfl rfl rfl rfl (by kernel_rfl) Try.func3 (by kernel_rfl)
    (of_decide_eq_true (by kernel_rfl)) (by unfold Func.isWrapper; first | (rw [if_pos (by decide +kernel)]; kernel_rfl) | (rw [if_neg (by decide +kernel)]; exact ⟨rfl, rfl⟩))
    (fun os started H enc _ => does_lifted os started H enc)
#print axioms does_holds
end Go.Proofs.Ytehdhplmfgfnkaa
