/-
  slices.Max of numbers; Deep. (Template: by-name.py fills it.)
-/
import Derived.Test.YtabnjiijgbigbaaDoorTreJ
namespace Go.Proofs.YtabnjiijgbigbaaDoor
open Go.RowKit

theorem fold_snoc {l : List Int} {k : Nat} {x a : Int} (h : l[k]? = some x) : (l.take (k + 1)).foldl max a = max ((l.take k).foldl max a) x := by
  rw [List.take_add_one, h, List.foldl_append]
  rfl
/-- The greatest of the first ones. -/
def maxK (l : List Int) (k : Nat) : Int := maxL (l.take k)
theorem maxK_one {l : List Int} {x : Int} (h : l[0]? = some x) : maxK l 1 = x := by
  cases l with
  | nil => simp at h
  | cons a r =>
    obtain rfl : a = x := by simpa using h
    rfl
theorem maxK_next {l : List Int} {k : Nat} {x : Int} (hk : 0 < k) (h : l[k]? = some x) : maxK l (k + 1) = max (maxK l k) x := by
  cases l with
  | nil => simp at h
  | cons a r =>
    obtain ⟨m, rfl⟩ : ∃ m, k = m + 1 := ⟨k - 1, by omega⟩
    rw [List.getElem?_cons_succ] at h
    show maxL (a :: r.take (m + 1)) = max (maxL (a :: r.take m)) x
    exact fold_snoc h
theorem maxK_end {l : List Int} {n : Nat} (h : l.length = n) : maxK l n = maxL l := by
  unfold maxK
  rw [← h, List.take_length]
set_option maxHeartbeats 4000000 in
theorem tmax_any (w : World) (g c n : Nat) (p : List Int) (hp : PIn w g p) (hn : p.length = n) (h1 : 1 ≤ n) (h2 : n ≤ 1500) :
    Calls Tryd.prog 20 #[.slice (some ⟨g, 0, none⟩) n c] w fun e w' => e = .returned (.int .i64 (maxL p)) ∧ w = w' := by
  obtain ⟨x0, hx0⟩ : ∃ x0, p[0]? = some x0 := ⟨_, List.getElem?_eq_getElem (by omega)⟩
  have c0 := hp.cell hx0
  have i1 : ¬ (n : Int) < 1 := by omega
  have i0 : (0 : Int) < (n : Int) := by omega
  have HN := Lib.hid (And.intro hn (And.intro h1 (And.intro h2 (And.intro hp (maxK_one hx0)))))
  clear hn h1 h2 hp hx0
  go_enter Tryd.func20, Tryd.ntmps20
  go_wp2_with fail
  go_loopg [3, 4] (n - 1) (fun gk v3 v4 wr => w = wr ∧ ∃ k : Nat, v3 = .int .i64 (maxK p k) ∧ v4 = .int .i64 k ∧ 1 ≤ k ∧ k ≤ n ∧ gk = n - k)
  case atStart => exact ⟨rfl, 1, by rw [HN.out.2.2.2.2], rfl, Nat.le_refl _, HN.out.2.1, rfl⟩
  case round =>
    obtain ⟨rfl, k, rfl, rfl, hk1, hk, hgk⟩ := hrel
    by_cases hkn : k = n
    · subst hkn
      have e := Lib.hid (maxK_end (l := p) HN.out.1)
      clear hk1 hk hgk
      go_wp2_with fail
      go_ret
      exact ⟨by rw [← e.out]; rfl, rfl⟩
    · obtain ⟨x, hx⟩ : ∃ x, p[k]? = some x := ⟨_, List.getElem?_eq_getElem (by have := HN.out.1; omega)⟩
      have cx := HN.out.2.2.2.1.cell hx
      have i2 : (k : Int) < (n : Int) := by omega
      have i3 : (0 : Int) ≤ (k : Int) := by omega
      have u1 : IntKind.i64.wrap ((k : Int) + 1) = (k : Int) + 1 := IntWalk.i64_in _ (by have := HN.out; omega)
      have NX := Lib.hid (maxK_next (by omega) hx)
      have HK := Lib.hid (And.intro hk1 (And.intro i2 hgk))
      clear hk1 hk hgk hkn hx
      go_wp2_with fail
      go_roundg (n - (k + 1))
      case measure => have := HK.out; omega
      case rel => exact ⟨rfl, k + 1, by rw [NX.out], by push_cast; rfl, by omega, by have := HK.out; omega, rfl⟩
end Go.Proofs.YtabnjiijgbigbaaDoor
