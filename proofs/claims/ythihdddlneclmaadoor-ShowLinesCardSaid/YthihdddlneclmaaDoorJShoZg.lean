/-
  The walk of the statement ShowLines. (Template: by-name.py fills it.)
-/
import Derived.Test.YthihdddlneclmaaDoorJShoZf
import Derived.Test.YthihdddlneclmaaDoorKF
namespace Go.Proofs.YthihdddlneclmaaDoor
open Go.RowKit

/-- What the law asks of a text's bytes. -/
theorem line_bytes {l : Txt} (h : LineOk l) (s : ByteArray) (hs : s.data.toList = l) :
    (∀ i (hi : i < s.size), s[i] ≠ 9 ∧ s[i].toNat < 127 ∧ (s[i] = 10 → ∀ j (hj : j < s.size), i = j + 1 → s[j] ≠ 32 ∧ s[j] ≠ 10)) ∧ (s.size = 0 ∨ ∃ k, ∃ hk : k < s.size, s.size = k + 1 ∧ s[k] = 10) := by
  have at_ : ∀ i (hi : i < s.size), l[i]? = some s[i] := fun i hi => by rw [← hs]; exact byte_at hi
  have len : l.length = s.size := by rw [← hs]; exact len_of s
  refine ⟨fun i hi => ?_, ?_⟩
  · obtain ⟨h1, h2, h3⟩ := h.1 i _ (at_ i hi)
    exact ⟨h1, UInt8.lt_iff_toNat_lt.1 h2, fun e j hj hij => h3 e (by omega) _ (by rw [show i - 1 = j by omega]; exact at_ j hj)⟩
  · rcases h.2 with e | ⟨y, e⟩
    · left; rw [← len, e]; rfl
    · right
      have ly : s.size = y.length + 1 := by rw [← len, e]; simp
      refine ⟨y.length, by omega, ly, ?_⟩
      have := at_ y.length (by omega)
      rw [e] at this
      simpa using this.symm
theorem byte_no {b : UInt8} {n : Nat} (h : b.toNat ≠ n) : ((b.toNat : Int) == (n : Int)) = false := by
  rw [beq_eq_false_iff_ne]
  omega
set_option maxRecDepth 10000 in
set_option maxHeartbeats 8000000 in
theorem showlines_any (w : World) (ht : ShoTabs w) (v : Value) (ns : List Nd) (hN : NodesAt w v ns) (hs : SizedN ns) :
    Calls Tryd.prog 3 #[v] w fun e w' => e = .returned (.bool true) ∧ Below w.heap.size w w' := by
  have AW := Lib.hid (fun (w' : World) (hb : Below w.heap.size w w') => awake8_yes w' (ht.below hb))
  have SM := Lib.hid (fun (w' : World) (hb : Below w.heap.size w w') => rsmall2_any w' v ns (hN.below hb) hs)
  have SH := Lib.hid (fun (w' : World) (hb : Below w.heap.size w w') (hf : FewN ns) => show_any w' v ns (hN.below hb) (ht.below hb).keys (ht.below hb).p (by have := show_len hf.2; omega))
  have B0 := Lib.hid (show Below w.heap.size w w from Below.refl _ _)
  obtain ⟨s, hs0⟩ : ∃ s : ByteArray, s = ⟨(showT ns).toArray⟩ := ⟨_, rfl⟩
  obtain ⟨L1, L2⟩ := line_bytes (show_lines_any ns) s (by rw [hs0])
  have hsm : s.size ≤ 75000000 ∨ ¬ FewN ns := by
    by_cases hf : FewN ns
    · left
      have := show_len hf.2
      rw [hs0]
      show (showT ns).toArray.size ≤ _
      rw [List.size_toArray]
      exact this
    · exact .inr hf
  have ex : txt (showT ns) = .string s := by rw [hs0]
  rw [ex] at SH
  have HL := Lib.hid (And.intro L1 (And.intro L2 hsm))
  clear ht hN hs hs0 L1 L2 hsm ex
  go_enter Tryd.func3, Tryd.ntmps3
  go_wp2_with (first
    | (go_at_call 4; (refine (AW.out _ B0.out).mono ?_); rintro e1 w1 ⟨rfl, hb⟩; have B1 := Lib.hid (B0.out.trans (hb.mono B0.out.size)); clear hb B0)
    | (go_at_call 5; (refine (SM.out _ B1.out).mono ?_); rintro e2 w2 ⟨⟨b, rfl, hq⟩, hb⟩; have B2 := Lib.hid (B1.out.trans (hb.mono B1.out.size)); have HQ := Lib.hid hq; clear hb hq; cases b)
    | (go_at_call 4; (refine (AW.out _ B2.out).mono ?_); rintro e1 w3 ⟨rfl, hb⟩; have B3 := Lib.hid (B2.out.trans (hb.mono B2.out.size)); clear hb)
    | (go_at_call 6; (refine (SH.out _ B2.out (HQ.out trivial)).mono ?_); rintro e4 w4 ⟨rfl, hb⟩; have B4 := Lib.hid (B2.out.trans (hb.mono B2.out.size)); clear hb))
  · go_ret
    exact ⟨rfl, B3.out⟩
  have hz := (HL.out.2.2).resolve_right (fun q => q (HQ.out trivial))
  have HZ := Lib.hid hz
  clear hz
  go_loopg [4] s.size (fun g v4 wr => ∃ i : Nat, v4 = .int .i64 i ∧ i ≤ s.size ∧ g = s.size - i ∧ Below w.heap.size w wr)
  case atStart => exact ⟨0, rfl, Nat.zero_le _, rfl, B4.out⟩
  case round =>
    obtain ⟨i, rfl, hi, hg, hB⟩ := hrel
    by_cases hin : i = s.size
    · have j1 : decide (i < s.size) = false := decide_eq_false (by omega)
      have j2 : ¬ ((i : Int) < (s.size : Int)) := by omega
      have FIN := Lib.hid hB
      clear hi hg hB hin
      rcases HL.out.2.1 with e0 | ⟨k, hk, ek, e10⟩
      · have emp : s.toList.isEmpty = true := by
          rw [Lib.toList_data]
          have : s.data.toList.length = 0 := by rw [len_of]; exact e0
          rw [List.length_eq_zero_iff.mp this]
          rfl
        clear e0
        go_wp2_with fail
        go_ret
        exact ⟨rfl, FIN.out⟩
      · have emp : s.toList.isEmpty = false := by
          rw [Lib.toList_data]
          have : s.data.toList.length = k + 1 := by rw [len_of]; exact ek
          cases h : s.data.toList with
          | nil => rw [h] at this; simp at this
          | cons a r => rfl
        have k0 : (0 : Int) ≤ (k : Int) := by omega
        have k1 : (k : Int) < (s.size : Int) := by omega
        have wk : wrap64 ((s.size : Int) - 1) = (k : Int) := (IntWalk.wrap64_in _ (by have := HZ.out; omega)).trans (by omega)
        have wk2 : IntKind.i64.wrap ((s.size : Int) - 1) = (k : Int) := (IntWalk.i64_in _ (by have := HZ.out; omega)).trans (by omega)
        have l10 : ((s[k].toNat : Int) == 10) = true := by rw [e10]; rfl
        clear ek e10
        go_wp2_with fail
        go_ret
        exact ⟨rfl, FIN.out⟩
    · have hlt : i < s.size := by omega
      obtain ⟨n9, n127, npr⟩ := HL.out.1 i hlt
      have t9 : ((s[i].toNat : Int) == 9) = false := byte_no (n := 9) (fun e => n9 (UInt8.toNat_inj.1 e))
      have t127 : ¬ ((127 : Int) ≤ (s[i].toNat : Int)) := by omega
      have j1 : (i : Int) < (s.size : Int) := by omega
      have j0 : (0 : Int) ≤ (i : Int) := by omega
      have wi : IntKind.i64.wrap ((i : Int) + 1) = (i : Int) + 1 := IntWalk.i64_in _ (by have := HZ.out; omega)
      by_cases h10 : s[i] = 10
      · have t10 : ((s[i].toNat : Int) == 10) = true := by rw [h10]; rfl
        by_cases hz0 : i = 0
        · have z0 : ¬ ((0 : Int) < (i : Int)) := by omega
          have HI := Lib.hid (And.intro hlt (And.intro hg hB))
          clear hg hB hi hin n9 n127 npr h10 hz0
          go_wp2_with fail
          go_roundg (s.size - (i + 1))
          case measure => have := HI.out.1; have := HI.out.2.1; omega
          case rel => exact ⟨i + 1, by push_cast; rfl, HI.out.1, rfl, HI.out.2.2⟩
        · obtain ⟨j, hj⟩ : ∃ j, i = j + 1 := ⟨i - 1, by omega⟩
          have hjs : j < s.size := by omega
          obtain ⟨m32, m10⟩ := npr h10 j hjs hj
          have u32 : ((s[j].toNat : Int) == 32) = false := byte_no (n := 32) (fun e => m32 (UInt8.toNat_inj.1 e))
          have u10 : ((s[j].toNat : Int) == 10) = false := byte_no (n := 10) (fun e => m10 (UInt8.toNat_inj.1 e))
          have z0 : (0 : Int) < (i : Int) := by omega
          have k0 : (0 : Int) ≤ (j : Int) := by omega
          have k1 : (j : Int) < (s.size : Int) := by omega
          have wk : wrap64 ((i : Int) - 1) = (j : Int) := (IntWalk.wrap64_in _ (by have := HZ.out; omega)).trans (by omega)
          have wk2 : IntKind.i64.wrap ((i : Int) - 1) = (j : Int) := (IntWalk.i64_in _ (by have := HZ.out; omega)).trans (by omega)
          have HI := Lib.hid (And.intro hlt (And.intro hg hB))
          clear hg hB hi hin n9 n127 npr h10 hz0 hj m32 m10
          go_wp2_with fail
          go_roundg (s.size - (i + 1))
          case measure => have := HI.out.1; have := HI.out.2.1; omega
          case rel => exact ⟨i + 1, by push_cast; rfl, HI.out.1, rfl, HI.out.2.2⟩
      · have t10 : ((s[i].toNat : Int) == 10) = false := byte_no (n := 10) (fun e => h10 (UInt8.toNat_inj.1 e))
        have HI := Lib.hid (And.intro hlt (And.intro hg hB))
        clear hg hB hi hin n9 n127 npr h10
        go_wp2_with fail
        go_roundg (s.size - (i + 1))
        case measure => have := HI.out.1; have := HI.out.2.1; omega
        case rel => exact ⟨i + 1, by push_cast; rfl, HI.out.1, rfl, HI.out.2.2⟩
end Go.Proofs.YthihdddlneclmaaDoor
