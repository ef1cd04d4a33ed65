/-
  PermKeeps at any bytes; bytes among the arguments. (Template: by-name.py fills it.)
-/
import Derived.Test.YthlogaenbnhobaaDoorPkD
import Derived.Test.YthlogaenbnhobaaDoorOpens
import Derived.OpenShut
import Derived.ChangeSlices
import Derived.Deep.Slices
namespace Go.Proofs.YthlogaenbnhobaaDoor
open Go.RowKit Go.ChangeShapes Go.WideShapes Go.ChangeAt Go.Joins Go.Deep

section
variable {H : Type} {enc : TypeId × Value → H} {P : Program} {w : World} {base : Nat} {spare : Nat → Bool} {held : Bool}
theorem open_bytl {t e : TypeId} {fuel : Nat} {c : Value} {x : DataW H × List MemPlace} (ht : P.underlying t = some (.slice e)) (he : P.underlying e = some (.int .u8)) (hc : P.cellsOf e = 1) (h : DataW.trod enc P w base spare held fuel t [c] = some x) :
    ∃ l, BytL w c l := by
  rcases open_ints ht he hc h with ⟨e1, rfl⟩ | ⟨a, len, cap, zs, e1, _, hl, hm, hz, rfl, hat, hwf⟩
  · obtain rfl : c = .slice none 0 0 := by simpa using e1
    exact ⟨[], none, 0, rfl, Nat.le_refl _, by decide, Reads.none_, fun x hx => by cases hx⟩
  · obtain rfl : c = .slice (some a) len cap := by simpa using e1
    have hlz : len ≤ zs.length := by rw [hz]; split <;> omega
    have hlen : (zs.take len).length = len := by rw [List.length_take]; omega
    refine ⟨zs.take len, some a, cap, by rw [hlen], by rw [hlen]; exact hl, hm, ?_, fun x hx => wf_u8P (hwf x (List.mem_of_mem_take hx))⟩
    rw [hlen]
    refine ⟨by rw [List.length_map, hlen, Nat.mul_one], fun hn => ⟨a, rfl, ?_, fun j u hu => ?_⟩⟩
    · have := World.block_lt_of_cell? _ _ (hat 0 (by omega))
      rwa [block_of_add] at this
    · rw [List.getElem?_map] at hu
      cases hq : (zs.take len)[j]? with
      | none => rw [hq] at hu; cases hu
      | some y =>
        rw [hq] at hu
        obtain rfl : Value.int .u8 y = u := by simpa using hu
        have hj : j < len := by
          have := (List.getElem?_eq_some_iff.mp hq).1
          omega
        rw [List.getElem?_take_of_lt hj] at hq
        rw [hat j (by omega), List.getD_eq_getElem?_getD, hq]
        rfl
end
section
variable {H : Type} {enc : TypeId × Value → H} {w : World} {base : Nat} {spare : Nat → Bool} {held : Bool}
theorem open_bytes {b0 : Nat} {r : Reach} {v : Value} {d : DataW H} {p : List MemPlace} (hv : Value.okWide Tryd.prog w r b0 22 v) (h : DataW.Trod enc Tryd.prog w base spare held 22 v d p) : ∃ l, BytL w v l := by
  obtain ⟨a, len, cap, rfl⟩ := okWide_slice Tryd.underlying22 hv
  obtain ⟨fuel, hf⟩ := h
  exact open_bytl Tryd.underlying22 Tryd.underlying5 (by kernel_rfl) (by simpa [Value.cells] using hf)
end

set_option maxRecDepth 10000 in
set_option maxHeartbeats 1000000 in
theorem keeps_long (w : World) (ht : RestTab w) (A0 : Option Addr) (c0 n : Nat) (v1 : Value) (hk : 12 < n) :
    Calls Tryd.prog 3 #[.slice A0 n c0, v1] w fun e w' => e = .returned (.bool true) ∧ Below w.heap.size w w' := by
  have AW := Lib.hid (awake15_yes w ht)
  have AX := Lib.hid (fun (w1 : World) (hb : Below w.heap.size w w1) => awake15_yes w1 (ht.below hb))
  have k1 : decide ((n : Int) > 12) = true := decide_eq_true (by omega)
  clear ht hk
  go_enter Tryd.func3, Tryd.ntmps3
  go_upto_region 2 with (go_at_call 5; (with_reducible refine AW.out.mono ?_); rintro e w1 ⟨rfl, hb1⟩)
  have AZ := Lib.hid (AX.out w1 hb1)
  have H1 := Lib.hid hb1
  clear hb1 AW AX
  go_wp2_with (go_at_call 5; (with_reducible refine AZ.out.mono ?_); rintro e w2 ⟨rfl, hb2⟩; have H2 := Lib.hid (H1.out.trans (hb2.mono H1.out.size)); clear hb2)
  go_ret
  exact ⟨rfl, H2.out⟩

theorem permkeeps_all (w : World) (ht : RestTab w) (v0 : Value) (ks : List Int) (h0 : BytL w v0 ks) (v1 : Value) (ns : List Int) (h1 : BytL w v1 ns) :
    Calls Tryd.prog 3 #[v0, v1] w fun e w' => e = .returned (.bool true) ∧ Below w.heap.size w w' := by
  obtain ⟨A0, c0, rfl, _, _, r0, b0⟩ := h0
  by_cases hk : ks.length ≤ 12
  · obtain ⟨A1, c1, rfl, l1, m1, r1, b1⟩ := h1
    exact keeps_walk w ht A0 A1 c0 c1 ks ns hk (by omega) r0 r1 b0 b1
  · exact keeps_long w ht A0 c0 ks.length v1 (by omega)
end Go.Proofs.YthlogaenbnhobaaDoor
