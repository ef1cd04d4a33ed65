/-
  slices.IndexFunc and ContainsFunc of numbers at package tree's all$1; all, are. (Template: by-name.py fills it; gen/genTreF.py writes it.)
-/
import Derived.Test.YtabnjiijgbigbaaDoorTreE
namespace Go.Proofs.YtabnjiijgbigbaaDoor
open Go.RowKit

/-- All kids stand in the list. -/
def KidsIn (ks : List Int) (n : Nat) : Prop := ∀ k ∈ ks, 0 ≤ k ∧ k < n
theorem all1_any (w : World) (t : Tst) (u : Value) (b1 b2 : Nat) (A : Option Addr) (c : Nat) (ns : List Nd) (hu : TstAt w t u) (hB1 : Blk w b1 #[u]) (hB2 : Blk w b2 #[.slice A ns.length c]) (hN : NodesAt w (.slice A ns.length c) ns) (w' : World) (hb : Below w.heap.size w w') (k : Int) (hk : 0 ≤ k ∧ k < ns.length) :
    Calls Tryd.prog 69 #[.int .i64 k, .pointer (some ⟨b1, 0, none⟩), .pointer (some ⟨b2, 0, none⟩)] w' fun e w2 => e = .returned (.bool (!t.f (kindAt ns k))) ∧ Below w'.heap.size w' w2 := by
  obtain ⟨j, rfl⟩ : ∃ j : Nat, k = j := ⟨k.toNat, by omega⟩
  have hu' := hu.below hb
  have hc := tst_call hu'
  obtain ⟨f, cap, e, hc⟩ := hc
  have B1 := hB1.keep hb
  rw [e] at B1
  have B2 := hB2.keep hb
  have N := hN.below hb
  have hj : j < ns.length := by omega
  cases t with
  | is ks =>
    obtain ⟨b, A', c', e', h1, h2⟩ := hu'
    rw [e'] at e
    injection e with e1 e2 e3
    injection e1 with e1
    subst e1 e3
    exact all1_is w' b ks b1 b2 A c ns j B1 B2 N hc hj
  | stmt =>
    rw [show u = _ from hu'] at e
    injection e with e1 e2 e3
    injection e1 with e1
    subst e1 e3
    exact all1_stmt w' b1 b2 A c ns j B1 B2 N hc hj
  | expr =>
    rw [show u = _ from hu'] at e
    injection e with e1 e2 e3
    injection e1 with e1
    subst e1 e3
    exact all1_expr w' b1 b2 A c ns j B1 B2 N hc hj
  | arg =>
    rw [show u = _ from hu'] at e
    injection e with e1 e2 e3
    injection e1 with e1
    subst e1 e3
    exact all1_arg w' b1 b2 A c ns j B1 B2 N hc hj

theorem any_snoc {l : List Int} {f : Int → Bool} {k : Nat} {x : Int} (hk : l[k]? = some x) (h : (l.take k).any f = false) : (l.take (k + 1)).any f = f x := by
  rw [List.take_add_one, hk, List.any_append, h, Bool.false_or]
  simp
set_option maxHeartbeats 2000000 in
theorem tindexf_any (w : World) (v : Value) (l : List Int) (f : Int → Bool) (b1 b2 : Nat) (h : IntsL w v l) (hf : ∀ (w' : World), Below w.heap.size w w' → ∀ k ∈ l, Calls Tryd.prog 69 #[.int .i64 k, .pointer (some ⟨b1, 0, none⟩), .pointer (some ⟨b2, 0, none⟩)] w' fun e w2 => e = .returned (.bool (f k)) ∧ Below w'.heap.size w' w2) :
    Calls Tryd.prog 76 #[v, .func (.func 69) #[] #[.pointer (some ⟨b1, 0, none⟩), .pointer (some ⟨b2, 0, none⟩)]] w fun e w' => (∃ z : Int, e = .returned (.int .i64 z) ∧ decide (0 ≤ z) = l.any f) ∧ Below w.heap.size w w' := by
  obtain ⟨A, cp, rfl, h2, h3, h4⟩ := h
  obtain ⟨n, hn⟩ : ∃ n, n = l.length := ⟨_, rfl⟩
  have hmx : n ≤ 9223372036854775807 := by unfold maxLen at h3; omega
  rw [← hn] at h2 h4 ⊢
  have HN := Lib.hid (And.intro hn (And.intro hmx hf))
  have H4 := Lib.hid h4
  clear hn h2 h3 h4 hmx hf
  go_enter Tryd.func76, Tryd.ntmps76
  go_wp2_with fail
  go_loopg [8] n (fun g v8 wr => Below w.heap.size w wr ∧ ∃ k : Nat, v8 = .int .i64 k ∧ k ≤ n ∧ g = n - k ∧ (l.take k).any f = false)
  case atStart => exact ⟨Below.refl _ _, 0, rfl, Nat.zero_le _, rfl, rfl⟩
  case round =>
    obtain ⟨hb, k, rfl, hk, hg, hall⟩ := hrel
    by_cases hkn : k = n
    · have e : l.take k = l := by rw [hkn, HN.out.1]; exact List.take_length
      rw [e] at hall
      have FIN := Lib.hid (And.intro (show decide ((0 : Int) ≤ -1) = l.any f from by rw [hall]; rfl) hb)
      subst hkn
      clear hk hg hall e hb
      go_wp2_with fail
      go_ret
      exact ⟨⟨_, rfl, FIN.out.1⟩, FIN.out.2⟩
    · have hlt : k < n := by omega
      obtain ⟨x, hx⟩ : ∃ x, l[k]? = some x := ⟨_, List.getElem?_eq_getElem (by have := HN.out.1; omega)⟩
      obtain ⟨ad, rfl, d0⟩ := ints_at H4.out hb hx (by omega)
      have cl := HN.out.2.2 wr hb x (List.mem_of_getElem? hx)
      have nxt := any_snoc (f := f) hx hall
      have hit : f x = true → decide ((0 : Int) ≤ (k : Int)) = l.any f := fun q => by
        rw [List.any_eq_true.2 ⟨x, List.mem_of_getElem? hx, q⟩]
        exact decide_eq_true (by omega)
      have i1 : (k : Int) < (n : Int) := by omega
      have i2 : (0 : Int) ≤ (k : Int) := by omega
      have wk : IntKind.i64.wrap ((k : Int) + 1) = (k : Int) + 1 := IntWalk.i64_in _ (by have := HN.out.2.1; omega)
      generalize f x = BX at *
      have HK := Lib.hid (And.intro hlt (And.intro hg hb))
      have NX := Lib.hid (And.intro nxt hit)
      have CL := Lib.hid cl
      clear nxt hit hx hkn hlt hk hg hall hb cl
      cases BX
      · go_wp2_with (go_at_call 69; (with_reducible refine CL.out.mono ?_); rintro e w1 ⟨rfl, hb1⟩)
        go_roundg (n - (k + 1))
        case measure => have := HK.out.1; have := HK.out.2.1; omega
        case rel => exact ⟨HK.out.2.2.trans (hb1.mono HK.out.2.2.size), k + 1, by push_cast; rfl, by have := HK.out.1; omega, rfl, NX.out.1⟩
      · go_wp2_with (go_at_call 69; (with_reducible refine CL.out.mono ?_); rintro e w1 ⟨rfl, hb1⟩)
        go_ret
        exact ⟨⟨_, rfl, NX.out.2 (by first | rfl | trivial)⟩, HK.out.2.2.trans (hb1.mono HK.out.2.2.size)⟩
set_option maxHeartbeats 1000000 in
theorem tcontf_any (w : World) (v : Value) (l : List Int) (f : Int → Bool) (b1 b2 : Nat) (h : IntsL w v l) (hf : ∀ (w' : World), Below w.heap.size w w' → ∀ k ∈ l, Calls Tryd.prog 69 #[.int .i64 k, .pointer (some ⟨b1, 0, none⟩), .pointer (some ⟨b2, 0, none⟩)] w' fun e w2 => e = .returned (.bool (f k)) ∧ Below w'.heap.size w' w2) :
    Calls Tryd.prog 68 #[v, .func (.func 69) #[] #[.pointer (some ⟨b1, 0, none⟩), .pointer (some ⟨b2, 0, none⟩)]] w fun e w' => e = .returned (.bool (l.any f)) ∧ Below w.heap.size w w' := by
  have ix := tindexf_any w v l f b1 b2 h hf
  clear h hf
  generalize l.any f = B at *
  have IX := Lib.hid ix
  clear ix
  go_enter Tryd.func68, Tryd.ntmps68
  go_wp2_with (go_at_call 76; (with_reducible refine IX.out.mono ?_); rintro e w1 ⟨⟨z, rfl, hz⟩, hb⟩; have HZ := Lib.hid (And.intro hz hb); clear hz hb)
  go_ret
  exact ⟨by rw [← HZ.out.1]; rfl, HZ.out.2⟩
theorem any_all {ns : List Nd} {ks : List Int} {f : Int → Bool} : (!ks.any fun k => !f (kindAt ns k)) = allB ns ks f := by
  unfold allB
  rw [List.all_eq_not_any_not]
set_option maxHeartbeats 1000000 in
theorem all_any (w : World) (v vk u : Value) (ns : List Nd) (ks : List Int) (t : Tst) (hN : NodesAt w v ns) (hK : IntsL w vk ks) (hu : TstAt w t u) (hk : KidsIn ks ns.length) :
    Calls Tryd.prog 50 #[v, vk, u] w fun e w' => e = .returned (.bool (allB ns ks t.f)) ∧ Below w.heap.size w w' := by
  have hmf : ∀ (fn : Fn) (first cap : Array Value) (w : World), (Instr.makeFunc fn first cap).run Tryd.prog w = .ok (.func fn first cap) w := fun _ _ _ _ => rfl
  obtain ⟨A, c, rfl⟩ : ∃ A c, v = .slice A ns.length c := by obtain ⟨A, c, _, e, _⟩ := hN; exact ⟨A, c, e⟩
  have a1 := below_alloc1 w (.cells #[.slice A ns.length c] 22)
  have a2 := below_alloc1 (w.alloc (.cells #[.slice A ns.length c] 22)) (.cells #[u] 48)
  have a := a1.trans (a2.mono a1.size)
  have B2 := (Blk.start w #[.slice A ns.length c] 22).keep a2
  have B1 := Blk.start (w.alloc (.cells #[.slice A ns.length c] 22)) #[u] 48
  rw [World.size_alloc] at B1
  have cf := tcontf_any _ vk ks (fun k => !t.f (kindAt ns k)) (w.heap.size + 1) w.heap.size (hK.below a) (fun w' hb k hm => all1_any _ t u (w.heap.size + 1) w.heap.size A c ns (hu.below a) B1 B2 (hN.below a) w' hb k (hk k hm))
  rw [← any_all]
  generalize ks.any (fun k => !t.f (kindAt ns k)) = B at *
  have CFH := Lib.hid cf
  have HA := Lib.hid a
  clear cf a a1 a2 B1 B2 hN hK hk
  obtain ⟨f, cap, hu2, _⟩ := tst_call hu
  subst hu2
  clear hu
  generalize ns.length = n at *
  go_enter Tryd.func50, Tryd.ntmps50
  go_wp2_with (go_at_call 68; (with_reducible refine CFH.out.mono ?_); rintro e w1 ⟨rfl, hb⟩)
  go_ret
  exact ⟨rfl, HA.out.trans (hb.mono HA.out.size)⟩
end Go.Proofs.YtabnjiijgbigbaaDoor
