/-
  The walks of slices.ContainsFunc at package auto's tests. (Template: by-name.py fills it; gen/genAutC.py writes it.)
-/
import Derived.Test.YtgfenklcelfkiaaAutC
namespace Go.Proofs.Ytgfenklcelfkiaa
open Go.RowKit

theorem cf_none (w0 w : World) (v : Value) (l : List (Ou)) (b : Nat) (t : Nat → Bool) (R : Nat → World → Prop) (hl : SlAt 2 ouC (fun _ x => x.name.length ≤ maxLen) w0 v l) (hb : Below w0.heap.size w0 w) (h0 : R 0 w)
    (hf : ∀ (k : Nat) (x : Ou) (wr : World), l[k]? = some x → Below w0.heap.size w0 wr → R k wr → Calls Try.prog 60 #[.agg #[txt x.name, .int .i64 x.to], .pointer (some ⟨b, 0, none⟩)] wr fun e w' => e = .returned (.bool (t k)) ∧ Below w0.heap.size w0 w' ∧ R (k + 1) w') :
    Calls Try.prog 36 #[v, .func (.func 60) #[] #[.pointer (some ⟨b, 0, none⟩)]] w fun e w' => e = .returned (.bool ((List.range l.length).any t)) ∧ Below w0.heap.size w0 w' ∧ ∃ k, R k w' := by
  have IXH := Lib.hid (ix_none w0 w v l b t R hl hb h0 hf)
  have EQ := Lib.hid (fst_ge (t := t) (n := l.length))
  clear hl hb h0 hf
  generalize (List.range l.length).any t = B at *
  generalize fstI t l.length = z at *
  go_enter Try.func36, Try.ntmps36
  go_wp2_with (go_at_call 53; (with_reducible refine IXH.out.mono ?_); rintro e w1 ⟨rfl, hb1, hr1⟩; have H1 := Lib.hid (And.intro hb1 hr1); clear hb1 hr1)
  go_ret
  exact ⟨by rw [← EQ.out]; rfl, H1.out⟩

theorem cf_dup (w0 w : World) (v : Value) (l : List (Ou)) (b : Nat) (t : Nat → Bool) (R : Nat → World → Prop) (hl : SlAt 2 ouC (fun _ x => x.name.length ≤ maxLen) w0 v l) (hb : Below w0.heap.size w0 w) (h0 : R 0 w)
    (hf : ∀ (k : Nat) (x : Ou) (wr : World), l[k]? = some x → Below w0.heap.size w0 wr → R k wr → Calls Try.prog 63 #[.agg #[txt x.name, .int .i64 x.to], .pointer (some ⟨b, 0, none⟩)] wr fun e w' => e = .returned (.bool (t k)) ∧ Below w0.heap.size w0 w' ∧ R (k + 1) w') :
    Calls Try.prog 36 #[v, .func (.func 63) #[] #[.pointer (some ⟨b, 0, none⟩)]] w fun e w' => e = .returned (.bool ((List.range l.length).any t)) ∧ Below w0.heap.size w0 w' ∧ ∃ k, R k w' := by
  have IXH := Lib.hid (ix_dup w0 w v l b t R hl hb h0 hf)
  have EQ := Lib.hid (fst_ge (t := t) (n := l.length))
  clear hl hb h0 hf
  generalize (List.range l.length).any t = B at *
  generalize fstI t l.length = z at *
  go_enter Try.func36, Try.ntmps36
  go_wp2_with (go_at_call 53; (with_reducible refine IXH.out.mono ?_); rintro e w1 ⟨rfl, hb1, hr1⟩; have H1 := Lib.hid (And.intro hb1 hr1); clear hb1 hr1)
  go_ret
  exact ⟨by rw [← EQ.out]; rfl, H1.out⟩

theorem cf_end (w0 w : World) (v : Value) (l : List (Ou)) (b : Nat) (t : Nat → Bool) (R : Nat → World → Prop) (hl : SlAt 2 ouC (fun _ x => x.name.length ≤ maxLen) w0 v l) (hb : Below w0.heap.size w0 w) (h0 : R 0 w)
    (hf : ∀ (k : Nat) (x : Ou) (wr : World), l[k]? = some x → Below w0.heap.size w0 wr → R k wr → Calls Try.prog 68 #[.agg #[txt x.name, .int .i64 x.to], .pointer (some ⟨b, 0, none⟩)] wr fun e w' => e = .returned (.bool (t k)) ∧ Below w0.heap.size w0 w' ∧ R (k + 1) w') :
    Calls Try.prog 36 #[v, .func (.func 68) #[] #[.pointer (some ⟨b, 0, none⟩)]] w fun e w' => e = .returned (.bool ((List.range l.length).any t)) ∧ Below w0.heap.size w0 w' ∧ ∃ k, R k w' := by
  have IXH := Lib.hid (ix_end w0 w v l b t R hl hb h0 hf)
  have EQ := Lib.hid (fst_ge (t := t) (n := l.length))
  clear hl hb h0 hf
  generalize (List.range l.length).any t = B at *
  generalize fstI t l.length = z at *
  go_enter Try.func36, Try.ntmps36
  go_wp2_with (go_at_call 53; (with_reducible refine IXH.out.mono ?_); rintro e w1 ⟨rfl, hb1, hr1⟩; have H1 := Lib.hid (And.intro hb1 hr1); clear hb1 hr1)
  go_ret
  exact ⟨by rw [← EQ.out]; rfl, H1.out⟩

theorem cf_keep (w0 w : World) (v : Value) (l : List (Ou)) (b : Nat) (t : Nat → Bool) (R : Nat → World → Prop) (hl : SlAt 2 ouC (fun _ x => x.name.length ≤ maxLen) w0 v l) (hb : Below w0.heap.size w0 w) (h0 : R 0 w)
    (hf : ∀ (k : Nat) (x : Ou) (wr : World), l[k]? = some x → Below w0.heap.size w0 wr → R k wr → Calls Try.prog 37 #[.agg #[txt x.name, .int .i64 x.to], .pointer (some ⟨b, 0, none⟩)] wr fun e w' => e = .returned (.bool (t k)) ∧ Below w0.heap.size w0 w' ∧ R (k + 1) w') :
    Calls Try.prog 36 #[v, .func (.func 37) #[] #[.pointer (some ⟨b, 0, none⟩)]] w fun e w' => e = .returned (.bool ((List.range l.length).any t)) ∧ Below w0.heap.size w0 w' ∧ ∃ k, R k w' := by
  have IXH := Lib.hid (ix_keep w0 w v l b t R hl hb h0 hf)
  have EQ := Lib.hid (fst_ge (t := t) (n := l.length))
  clear hl hb h0 hf
  generalize (List.range l.length).any t = B at *
  generalize fstI t l.length = z at *
  go_enter Try.func36, Try.ntmps36
  go_wp2_with (go_at_call 53; (with_reducible refine IXH.out.mono ?_); rintro e w1 ⟨rfl, hb1, hr1⟩; have H1 := Lib.hid (And.intro hb1 hr1); clear hb1 hr1)
  go_ret
  exact ⟨by rw [← EQ.out]; rfl, H1.out⟩
end Go.Proofs.Ytgfenklcelfkiaa
