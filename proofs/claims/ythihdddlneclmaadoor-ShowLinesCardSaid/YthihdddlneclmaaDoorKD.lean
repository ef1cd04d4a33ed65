/-
  The walk of separated, at any closure that it is handed. (Template: by-name.py fills it.)
-/
import Derived.Test.YthihdddlneclmaaDoorJShoH
import Derived.Test.YthihdddlneclmaaDoorKC
import Derived.Test.YthihdddlneclmaaDoorKB
namespace Go.Proofs.YthihdddlneclmaaDoor
open Go.RowKit

set_option maxRecDepth 10000 in
set_option maxHeartbeats 4000000 in
theorem set_any (w0 w : World) (bp dp f : Nat) (t : Txt) (vn : Value) (ns : List Nd) (x : NdV × Nd) (h : PrS w0 w bp t dp vn) (hN : NodesAt w0 vn ns) (hx : NdAt w0 x) (hE : ExprCalls w0 ns f) (s : Txt) (r : List Txt) (k : Nat) (hn : x.2.words = s :: r) (hi : x.2.kids[0]? = some (k : Int)) (hkn : k < ns.length) (hv : ExprOk ns f (ndAt ns k)) (hl : t.length + (setT ns f x.2).length + 100 ≤ 140737488355328) :
    Calls Tryd.prog 45 #[.pointer (some ⟨bp, 0, none⟩), ndX x] w fun e w' => e = .returned (.tuple #[]) ∧ PrS w0 w' bp (t ++ setT ns f x.2) dp vn ∧ Fr w w' bp := by
  have hq := hx
  obtain ⟨⟨vw, vu, vk⟩, kd, ws, nums, ks, ps⟩ := x
  obtain ⟨hw, hu, hkk⟩ := hx
  dsimp only at hn hi hw hu hkk hl ⊢
  obtain ⟨Aw, cw, rfl, hwl, hwm, hW, hWl⟩ := hw
  obtain ⟨Au, cu, rfl, hul, hum, hU⟩ := hu
  obtain ⟨Ak, ck, rfl, hkl, hkm, hK⟩ := hkk
  have a1 := below_alloc1 w (.cells #[.int .i64 kd, .slice Aw ws.length cw, .slice Au nums.length cu, .slice Ak ks.length ck, .int .i64 ps] 30)
  have B1 : TBlk _ _ _ _ := TBlk.start w #[.int .i64 kd, .slice Aw ws.length cw, .slice Au nums.length cu, .slice Ak ks.length ck, .int .i64 ps] 30
  have p1 := h.keep a1
  obtain ⟨z, hz⟩ : ∃ z, ns[k]? = some z := ⟨_, List.getElem?_eq_getElem hkn⟩
  have he : setT ns f ⟨kd, ws, nums, ks, ps⟩ = s ++ [32, 61, 32] ++ exprT ns f z ++ [59] := by
    unfold setT word
    rw [kidN_of (n := ⟨kd, ws, nums, ks, ps⟩) hi hz]
    dsimp only
    rw [hn]
    rfl
  rw [ndAtS hz] at hv
  rw [he] at hl ⊢
  simp only [List.length_append, List.length_cons, List.length_nil] at hl
  obtain ⟨c0, c1, c2, c3, c4⟩ := nd_cells (x := ((.slice Aw ws.length cw, .slice Au nums.length cu, .slice Ak ks.length ck), ⟨kd, ws, nums, ks, ps⟩)) (B1)
  dsimp only at c0 c1 c2 c3 c4
  generalize hw1 : w.alloc (.cells #[.int .i64 kd, .slice Aw ws.length cw, .slice Au nums.length cu, .slice Ak ks.length ck, .int .i64 ps] 30) = w1 at *
  obtain ⟨au, rfl, u0⟩ := strs_at (k := 0) (x := s) hW (p1.keep (below_drw w1)).below (by rw [hn]; rfl) (by rw [hn]; exact Nat.succ_pos _)
  have u1 : w1.drew.cell? au = some (txt s) := u0
  have u2 : w1.cell? au = some (txt s) := u0
  have hl2 : 0 < ws.length := by rw [hn]; exact Nat.succ_pos _
  obtain ⟨d0, d1, d2, d3, d4⟩ := nd_cells (x := ((.slice (some au) ws.length cw, .slice Au nums.length cu, .slice Ak ks.length ck), ⟨kd, ws, nums, ks, ps⟩)) (B1.keep (below_drw w1))
  dsimp only at d0 d1 d2 d3 d4
  have AD := Lib.hid (add2_any w0 w1.drew bp dp t vn s [32, 61, 32] (p1.keep (below_drw w1)) (by simp only [List.length_cons, List.length_nil]; omega))
  have HX := Lib.hid (And.intro a1 (And.intro (B1.keep (below_drw w1)) (And.intro hq (And.intro hN (And.intro hE (And.intro hl (p1.keep (below_drw w1))))))))
  have HI := Lib.hid (And.intro hi (And.intro hkn (And.intro hz hv)))
  clear p1 B1 a1 hq hwl hwm hW hWl hul hum hU hkl hkm hK h hl he u0 hn hi hkn hz hv hE hN
  go_enter Tryd.func45, Tryd.ntmps45
  go_upto_region 1 with fail
  go_region_with (go_at_call 15; (refine AD.out.mono ?_); rintro e w3 ⟨rfl, hp, hf⟩; have H3 := Lib.hid (And.intro hp hf); clear hp hf)
  have K3 := H3.out.2.at_ _ _ _ (nd_off HX.out.2.2.2.2.2.2 HX.out.2.1) (by decide) HX.out.2.1
  obtain ⟨b0, b1, b2, b3, b4⟩ := nd_cells (x := ((.slice (some au) ws.length cw, .slice Au nums.length cu, .slice Ak ks.length ck), ⟨kd, ws, nums, ks, ps⟩)) (K3)
  dsimp only at b0 b1 b2 b3 b4
  have KI := Lib.hid (kid_any w0 w3 bp dp _ vn ns _ 0 k ⟨H3.out.1, HX.out.2.2.2.1⟩ HX.out.2.2.1 HI.out.1 HI.out.2.1)
  clear K3
  go_upto_region 3 with (first
    | (go_at_call 21; (refine KI.out.mono ?_); rintro e w4 ⟨y, rfl, hy, hy2, hb⟩; have ey : y.2 = z := Option.some.inj (hy.symm.trans HI.out.2.2.1); have H4 := Lib.hid (And.intro hy2 (And.intro hb ey)); clear hy hy2 hb ey; have EX := Lib.hid (HX.out.2.2.2.2.1 w4 bp dp _ vn y (H3.out.1.keep H4.out.2.1) HX.out.2.2.2.1 H4.out.1 (H4.out.2.2 ▸ HI.out.2.2.2) (by rw [H4.out.2.2]; have := HX.out.2.2.2.2.2.1; simp only [List.length_append, List.length_cons, List.length_nil]; omega)))
    | (go_at_call 50; (refine EX.out.mono ?_); rintro e w5 ⟨rfl, hp, hf⟩; have H5 := Lib.hid (And.intro (show PrS w0 w5 bp (t ++ (s ++ [32, 61, 32]) ++ exprT ns f z) dp vn from H4.out.2.2 ▸ hp) hf); clear hp hf))
  have AE := Lib.hid (add1_any w0 w5 bp dp _ vn [59] H5.out.1 (by have := HX.out.2.2.2.2.2.1; simp only [List.length_append, List.length_cons, List.length_nil]; omega))
  go_wp2_with (go_at_call 15; (refine AE.out.mono ?_); rintro e w6 ⟨rfl, hp, hf⟩; have H6 := Lib.hid (And.intro hp hf); clear hp hf)
  go_end0
  refine ⟨rfl, ?_, (((((Fr.of_below bp (hw1 ▸ HX.out.1)).trans (Fr.of_below bp (below_drw w1))).trans H3.out.2).trans (Fr.of_below bp H4.out.2.1)).trans H5.out.2).trans H6.out.2⟩
  have := H6.out.1
  simp only [List.append_assoc] at this ⊢
  exact this
theorem sepT_cons (s x : Txt) (r : List Txt) : sepT s (x :: r) = x ++ Lib.joinTail s r := by
  induction r generalizing x with
  | nil => simp [sepT, Lib.joinTail]
  | cons y r ih => rw [sepT, ih y]; simp [Lib.joinTail, List.append_assoc]
theorem sepT_join (s : Txt) (l : List Txt) : sepT s l = Lib.join l s := by
  cases l with
  | nil => rfl
  | cons x r => rw [sepT_cons, Lib.join_cons]
theorem sepT_len (s : Txt) (hs : 0 < s.length) (l : List Txt) : l.length ≤ (sepT s l).length + 1 := by
  cases l with
  | nil => simp
  | cons x r =>
    rw [sepT_cons, List.length_append, List.length_cons]
    have : r.length ≤ (Lib.joinTail s r).length := by
      unfold Lib.joinTail
      induction r with
      | nil => simp
      | cons y r ih => simp only [List.map_cons, List.flatten_cons, List.length_append, List.length_cons]; omega
    omega
theorem int0_at {w : World} {A : Option Addr} {n : Nat} {l : List Int} {x : Int} (h4 : Reads w w.heap.size 1 A n (l.map (Value.int .i64))) (hx : l[0]? = some x) (hn : 0 < n) : ∃ ad, A = some ad ∧ ∀ W : World, Below w.heap.size w W → W.cell? ad = some (.int .i64 x) := by
  obtain ⟨ad, e, hbk, hc⟩ := h4.2 hn
  exact ⟨ad, e, fun W hb => (hb.cell (p := ad) hbk).trans (hc 0 _ (by rw [List.getElem?_map, hx]; rfl))⟩
theorem tab_cell {w0 W : World} {g k : Nat} {l : List Txt} {s : Txt} (h : StrRow w0 g l) (hb : Below w0.heap.size w0 W) (hk : l[k]? = some s) : W.cell? ⟨g, k, none⟩ = some (txt s) := by
  obtain ⟨t, fr, e⟩ := h.below hb
  simp [World.cell?, e, hk]
/-- A slice of texts that holds one lies at a plain address. -/
theorem strs_plain {w : World} {A : Option Addr} {l : List Txt} (h : Reads w w.heap.size 1 A l.length (l.map txt)) (hl : 0 < l.length) : ∃ b o, A = some ⟨b, o, none⟩ ∧ b < w.heap.size ∧ ∀ j s, l[j]? = some s → w.cell? ⟨b, o + j, none⟩ = some (txt s) := by
  obtain ⟨⟨b, o, sp⟩, e, hb, hc⟩ := h.2 hl
  have h0 := hc 0 (txt l[0]) (by rw [List.getElem?_map, List.getElem?_eq_getElem hl]; rfl)
  have hsp : sp = none := by
    cases sp with
    | none => rfl
    | some v =>
      exfalso
      unfold World.cell? Addr.add at h0
      simp at h0
      split at h0 <;> simp at h0
  subst hsp
  refine ⟨b, o, e, hb, fun j s hj => ?_⟩
  have := hc j (txt s) (by rw [List.getElem?_map, hj]; rfl)
  unfold Addr.add at this
  by_cases hz : j = 0
  · subst hz; simpa using this
  · rw [if_neg hz] at this; exact this
theorem join_any (w0 W : World) (A : Option Addr) (c : Nat) (l : List Txt) (h : Reads w0 w0.heap.size 1 A l.length (l.map txt)) (hl : 0 < l.length) (hlm : l.length ≤ 140737488355328) (hc : l.length ≤ c) (hb : Below w0.heap.size w0 W) (hm : (sepT [124] l).length ≤ 140737488355328) :
    Calls Tryd.prog 44 #[.slice A l.length c, .string ⟨#[124]⟩] W fun e w' => e = .returned (txt (sepT [124] l)) ∧ Below W.heap.size W w' := by
  obtain ⟨b, o, rfl, hlt, hcs⟩ := strs_plain h hl
  have hm2 : (l.map fun s => (⟨s.toArray⟩ : ByteArray)).map (·.data.toList) = l := by rw [List.map_map]; exact List.map_id'' (fun _ => rfl) l
  have k := Tryd.strings_Join b o c (l.map fun s => (⟨s.toArray⟩ : ByteArray)) ⟨#[124]⟩ W (fun j x hj => by
    rw [List.getElem?_map] at hj
    cases e : l[j]? with
    | none => rw [e] at hj; cases hj
    | some s =>
      rw [e] at hj
      obtain rfl := Option.some.inj hj
      exact (hb.cell (p := ⟨b, o + j, none⟩) hlt).trans (hcs j s e)) (Nat.lt_of_lt_of_le hlt hb.size) (by rw [List.length_map]; exact hlm) (by rw [List.length_map]; exact hc) (by rw [hm2]; rw [sepT_join] at hm; exact hm)
  rw [List.length_map] at k
  refine k.mono fun e w' he => ⟨?_, he.2⟩
  rw [he.1, hm2, sepT_join]
def namesWordsT : List Txt := [headT 0, headT 1, headT 2]
end Go.Proofs.YthihdddlneclmaaDoor

namespace Go.Proofs.YthihdddlneclmaaDoor
open Go.RowKit

def KidsOk (ns : List Nd) (ks : List Int) (P : Nd → Prop) : Prop := ∀ k ∈ ks, 0 ≤ k ∧ k < (ns.length : Int) ∧ P (ndAt ns k)
theorem KidsOk.mono {ns : List Nd} {ks : List Int} {P Q : Nd → Prop} (h : KidsOk ns ks P) (g : ∀ n, P n → Q n) : KidsOk ns ks Q := fun k hk => ⟨(h k hk).1, (h k hk).2.1, g _ (h k hk).2.2⟩
def NamesOk (n : Nd) : Prop := 0 < n.words.length ∧ ∃ g r, n.nums = g :: r ∧ 0 ≤ g ∧ g ≤ 2
def NumOk (x : Int) : Prop := 0 ≤ x ∧ x < 1000000000000000000
def ArgOk (ns : List Nd) (f : Nat) (n : Nd) : Prop := (n.kind = 15 ∧ ∃ s r, n.words = s :: r) ∨ (n.kind ≠ 15 ∧ ExprOk ns f n)
def BlockOk (ns : List Nd) (P : Nd → Prop) (m : Nd) : Prop := KidsOk ns m.kids P
def CaseOk (ns : List Nd) (P : Nd → Prop) (n : Nd) : Prop := (∃ s r, n.words = s :: r) ∧ ∃ k, n.kids = [k] ∧ KidsOk ns [k] (BlockOk ns P)
def StmtOk (ns : List Nd) : Nat → Nd → Prop
  | 0, _ => False
  | f + 1, n =>
    ((n.kind = 8 ∨ n.kind = 9) ∧ (∃ s, n.words = [s]) ∧ ∃ k, n.kids = [k] ∧ KidsOk ns [k] (ExprOk ns f)) ∨
    (n.kind = 10 ∧ (∃ a b, n.words = [a, b]) ∧ (∃ j k, n.kids = [j, k]) ∧ KidsOk ns n.kids (BlockOk ns fun x => StmtOk ns f x)) ∨
    (n.kind = 11 ∧ (∃ a b, n.words = [a, b]) ∧ KidsOk ns n.kids (CaseOk ns fun x => StmtOk ns f x)) ∨
    (n.kind = 13 ∧ (∃ a b, n.words = [a, b]) ∧ (∃ p q r, n.nums = [p, q, r] ∧ 0 ≤ p ∧ p ≤ 4 ∧ NumOk q ∧ NumOk r) ∧ ∃ l k, n.kids = l ++ [k] ∧ KidsOk ns l NamesOk ∧ KidsOk ns [k] (BlockOk ns fun x => StmtOk ns f x)) ∨
    (n.kind = 14 ∧ ((∃ a, n.words = [a]) ∨ ∃ a b, n.words = [a, b]) ∧ KidsOk ns n.kids (ArgOk ns f)) ∨
    (n.kind = 16 ∧ ∃ k r, n.kids = k :: r ∧ r ≠ [] ∧ KidsOk ns [k] (ExprOk ns f) ∧ KidsOk ns r (BlockOk ns fun x => StmtOk ns f x)) ∨
    (n.kind = 17 ∧ ∃ j k, n.kids = [j, k] ∧ KidsOk ns [j] (ExprOk ns f) ∧ KidsOk ns [k] (BlockOk ns fun x => StmtOk ns f x)) ∨
    (n.kind = 18 ∧ ∃ k, n.kids = [k] ∧ KidsOk ns [k] (ExprOk ns f)) ∨
    n.kind = 19
def PartOk (n : Nd) : Prop := (n.kind = 3 ∧ ∃ a b r, n.words = a :: b :: r ∧ r.length % 2 = 0 ∧ 2 ≤ r.length) ∨ (n.kind = 2 ∧ (∃ s, n.words = [s]) ∧ ∃ x, n.nums = [x] ∧ 0 ≤ x ∧ x ≤ 1)
def ParamOk (ns : List Nd) (n : Nd) : Prop := (∃ s, n.words = [s]) ∨ ((∃ a b, n.words = [a, b]) ∧ (∃ p q r, n.nums = [p, q, r] ∧ 0 ≤ p ∧ p ≤ 4 ∧ NumOk q ∧ NumOk r) ∧ KidsOk ns n.kids NamesOk)
def ItemOk (ns : List Nd) (f : Nat) (n : Nd) : Prop :=
  (n.kind = 1 ∧ (∃ s, n.words = [s]) ∧ KidsOk ns n.kids PartOk) ∨ (n.kind = 4 ∧ (∃ s, n.words = [s]) ∧ ∃ l k, n.kids = l ++ [k] ∧ KidsOk ns l (ParamOk ns) ∧ KidsOk ns [k] (BlockOk ns fun x => StmtOk ns f x))

/-! ### A right tree -/
structure RightP (ns : List Nd) : Prop where
  some_ : 0 < ns.length
  len : ns.length ≤ 1500
  root : kindAt ns 0 = 0
  kids : ∀ (i : Nat) (d : Nd), ns[i]? = some d → ∀ k ∈ d.kids, (i : Int) < k ∧ k < (ns.length : Int)
  node : ∀ (i : Nat) (d : Nd), ns[i]? = some d → namesB d.words = true ∧ numbersB d.nums = true ∧ listedB ns d = true
theorem right_says {ns : List Nd} (h : rightN ns = true) : RightP ns := by
  cases hp : parT ns with
  | none => rw [rightN_none hp] at h; cases h
  | some p =>
    rw [rightN_some hp, Bool.and_eq_true, Bool.and_eq_true] at h
    obtain ⟨⟨h0, _⟩, hv⟩ := h
    have hl : 0 < ns.length ∧ ns.length ≤ 1500 := by
      unfold parT at hp
      split at hp
      · cases hp
      · omega
    refine ⟨hl.1, hl.2, by simpa using h0, fun i d hd => parT_in hp hd, fun i d hd => ?_⟩
    have := List.all_eq_true.mp hv d (List.mem_of_getElem? hd)
    unfold validB at this
    rw [Bool.and_eq_true, Bool.and_eq_true] at this
    exact ⟨this.1.1, this.1.2, this.2⟩
theorem kid_nd {ns : List Nd} {i : Nat} {d : Nd} (R : RightP ns) (hd : ns[i]? = some d) {k : Int} (hk : k ∈ d.kids) : ∃ (m : Nat) (e : Nd), k = m ∧ i < m ∧ m < ns.length ∧ ns[m]? = some e ∧ ndAt ns k = e ∧ kindAt ns k = e.kind := by
  obtain ⟨a, b⟩ := R.kids i d hd k hk
  obtain ⟨m, rfl⟩ : ∃ m : Nat, k = m := ⟨k.toNat, by omega⟩
  have hm : m < ns.length := by omega
  have he : ns[m]? = some ns[m] := List.getElem?_eq_getElem hm
  exact ⟨m, ns[m], rfl, by omega, hm, he, ndAt_of he, kindAt_of he⟩
theorem has_says {n : Nd} {a b : Nat} (h : hasB n a b = true) : n.words.length = a ∧ n.nums.length = b := by
  unfold hasB at h
  rw [Bool.and_eq_true, decide_eq_true_eq, decide_eq_true_eq] at h
  exact h
theorem l_one {α : Type} {l : List α} (h : l.length = 1) : ∃ a, l = [a] := by
  match l, h with
  | [a], _ => exact ⟨a, rfl⟩
theorem l_two {α : Type} {l : List α} (h : l.length = 2) : ∃ a b, l = [a, b] := by
  match l, h with
  | [a, b], _ => exact ⟨a, b, rfl⟩
theorem l_three {α : Type} {l : List α} (h : l.length = 3) : ∃ a b c, l = [a, b, c] := by
  match l, h with
  | [a, b, c], _ => exact ⟨a, b, c, rfl⟩
theorem are0 {ns : List Nd} {ks : List Int} (h : arePB ns ks [] = true) : ks = [] := by
  cases ks with
  | nil => rfl
  | cons a r => simp [arePB] at h
theorem are1 {ns : List Nd} {ks : List Int} {f : Int → Bool} (h : arePB ns ks [f] = true) : ∃ k, ks = [k] ∧ f (kindAt ns k) = true := by
  match ks, h with
  | [], h => simp [arePB] at h
  | [k], h => exact ⟨k, rfl, by simpa [arePB] using h⟩
  | _ :: _ :: _, h => simp [arePB] at h
theorem are2 {ns : List Nd} {ks : List Int} {f g : Int → Bool} (h : arePB ns ks [f, g] = true) : ∃ j k, ks = [j, k] ∧ f (kindAt ns j) = true ∧ g (kindAt ns k) = true := by
  match ks, h with
  | [], h => simp [arePB] at h
  | [_], h => simp [arePB] at h
  | [j, k], h => exact ⟨j, k, rfl, by simpa [arePB] using h⟩
  | _ :: _ :: _ :: _, h => simp [arePB] at h
theorem are3 {ns : List Nd} {ks : List Int} {f g e : Int → Bool} (h : arePB ns ks [f, g, e] = true) : ∃ j k l, ks = [j, k, l] ∧ f (kindAt ns j) = true ∧ g (kindAt ns k) = true ∧ e (kindAt ns l) = true := by
  match ks, h with
  | [], h => simp [arePB] at h
  | [_], h => simp [arePB] at h
  | [_, _], h => simp [arePB] at h
  | [j, k, l], h => exact ⟨j, k, l, rfl, by simpa [arePB, and_assoc] using h⟩
  | _ :: _ :: _ :: _ :: _, h => simp [arePB] at h
theorem all_kind {ns : List Nd} {ks : List Int} {f : Int → Bool} (h : allB ns ks f = true) {k : Int} (hk : k ∈ ks) : f (kindAt ns k) = true := by
  unfold allB at h
  exact List.all_eq_true.mp h k hk
theorem is_one {k a : Int} (h : isB [a] k = true) : k = a := by simpa [isB] using h
theorem is_two {k a b : Int} (h : isB [a, b] k = true) : k = a ∨ k = b := by simpa [isB] using h
theorem nums_in {l : List Int} (h : numbersB l = true) {x : Int} (hx : x ∈ l) : NumOk x := by
  have := List.all_eq_true.mp h x hx
  simpa [NumOk] using this
theorem l_last {α : Type} (l : List α) (h : l ≠ []) : ∃ a b, l = a ++ [b] := ⟨l.dropLast, l.getLast h, (List.dropLast_concat_getLast h).symm⟩

theorem expr_right {ns : List Nd} (R : RightP ns) : ∀ (f i : Nat) (d : Nd), ns[i]? = some d → ns.length ≤ i + f → exprB d.kind = true → ExprOk ns f d
  | 0, i, d, hd, hf, _ => by have := (List.getElem?_eq_some_iff.1 hd).1; omega
  | f + 1, i, d, hd, hf, hk => by
    obtain ⟨_, hu, hl⟩ := R.node i d hd
    have kk : ∀ k ∈ d.kids, exprB (kindAt ns k) = true → ∃ m : Nat, k = m ∧ m < ns.length ∧ ExprOk ns f (ndAt ns k) := fun k h1 h2 => by
      obtain ⟨m, e, e1, e2, e3, e4, e5, e6⟩ := kid_nd R hd h1
      refine ⟨m, e1, e3, ?_⟩
      rw [e5]
      exact expr_right R f m e e4 (by omega) (by rw [← e6]; exact h2)
    have hc : d.kind = 20 ∨ d.kind = 21 ∨ d.kind = 22 ∨ d.kind = 23 := by
      unfold exprB at hk
      rw [Bool.and_eq_true, decide_eq_true_eq, decide_eq_true_eq] at hk
      omega
    rw [ExprOk]
    rcases hc with e | e | e | e
    · simp [listedB, e] at hl
      obtain ⟨n1, n2⟩ := has_says hl.1
      obtain ⟨v, hv⟩ := l_one n2
      have := nums_in hu (x := v) (by rw [hv]; simp)
      unfold NumOk at this
      exact ⟨fun h => by rw [e] at h; exact absurd h (by decide), .inl ⟨e, v, [], hv, by omega, by omega⟩⟩
    · simp [listedB, e] at hl
      obtain ⟨n1, n2⟩ := has_says hl.1
      obtain ⟨s, hs⟩ := l_one n1
      exact ⟨fun h => by rw [e] at h; exact absurd h (by decide), .inr (.inl ⟨e, s, [], hs⟩)⟩
    · simp [listedB, e] at hl
      obtain ⟨⟨h1, h2⟩, h3⟩ := hl
      obtain ⟨n1, n2⟩ := has_says h1
      obtain ⟨v, hv⟩ := l_one n2
      have := nums_in hu (x := v) (by rw [hv]; simp)
      unfold NumOk at this
      have hv5 : v ≤ 5 := by simpa [num, hv] using h2
      obtain ⟨j, k, hks, a, b⟩ := are2 h3
      obtain ⟨j', rfl, j1, j2⟩ := kk j (by rw [hks]; simp) a
      obtain ⟨k', rfl, k1, k2⟩ := kk k (by rw [hks]; simp) b
      exact ⟨fun _ => ⟨v, [], hv, this.1, hv5⟩, .inr (.inr (.inr ⟨e, j', k', by rw [hks]; rfl, j1, j2, by rw [hks]; rfl, k1, k2⟩))⟩
    · simp [listedB, e] at hl
      obtain ⟨k, hks, a⟩ := are1 hl.2
      obtain ⟨k', rfl, k1, k2⟩ := kk k (by rw [hks]; simp) a
      exact ⟨fun h => by rw [e] at h; exact absurd h (by decide), .inr (.inr (.inl ⟨e, k', by rw [hks]; rfl, k1, k2⟩))⟩
theorem names_right {ns : List Nd} (R : RightP ns) {i : Nat} {d : Nd} (hd : ns[i]? = some d) (e : d.kind = 6) : NamesOk d := by
  obtain ⟨_, hu, hl⟩ := R.node i d hd
  simp [listedB, e] at hl
  obtain ⟨⟨⟨h1, h2⟩, h3⟩, _⟩ := hl
  obtain ⟨_, n2⟩ := has_says h2
  obtain ⟨v, hv⟩ := l_one n2
  have := nums_in hu (x := v) (by rw [hv]; simp)
  exact ⟨by omega, v, [], hv, this.1, by simpa [num, hv] using h3⟩
/-- What all kids of a node are. -/
theorem kids_right {ns : List Nd} (R : RightP ns) {i : Nat} {d : Nd} (hd : ns[i]? = some d) {ks : List Int} (hs : ∀ k ∈ ks, k ∈ d.kids) {P : Nd → Prop} (h : ∀ (m : Nat) (e : Nd), i < m → ns[m]? = some e → (m : Int) ∈ ks → kindAt ns m = e.kind → P e) : KidsOk ns ks P := fun k hk => by
  obtain ⟨m, e, rfl, e2, e3, e4, e5, e6⟩ := kid_nd R hd (hs k hk)
  refine ⟨by omega, by omega, ?_⟩
  rw [e5]
  exact h m e e2 e4 hk e6
theorem stmt_right {ns : List Nd} (R : RightP ns) : ∀ (f i : Nat) (d : Nd), ns[i]? = some d → ns.length ≤ i + f → stmtB d.kind = true → StmtOk ns f d
  | 0, i, d, hd, hf, _ => by have := (List.getElem?_eq_some_iff.1 hd).1; omega
  | f + 1, i, d, hd, hf, hk => by
    obtain ⟨hw, hu, hl⟩ := R.node i d hd
    have blk : ∀ (m : Nat) (e : Nd), i < m → ns[m]? = some e → e.kind = 7 → BlockOk ns (fun x => StmtOk ns f x) e := fun m e hm he e7 => by
      obtain ⟨_, _, hl⟩ := R.node m e he
      simp [listedB, e7] at hl
      refine kids_right R he (fun k hk => hk) fun q g hq hg hin hkd => stmt_right R f q g hg (by omega) (by rw [← hkd]; exact all_kind hl.2 hin)
    have ex : ∀ k, k ∈ d.kids → exprB (kindAt ns k) = true → KidsOk ns [k] (ExprOk ns f) := fun k h1 h2 =>
      kids_right R hd (fun y hy => by rw [List.mem_singleton.1 hy]; exact h1) fun m e hm he hin hkd => expr_right R f m e he (by omega) (by rw [← hkd]; rw [List.mem_singleton.1 hin]; exact h2)
    have b1 : ∀ k, k ∈ d.kids → kindAt ns k = 7 → KidsOk ns [k] (BlockOk ns fun x => StmtOk ns f x) := fun k h1 h2 =>
      kids_right R hd (fun y hy => by rw [List.mem_singleton.1 hy]; exact h1) fun m e hm he hin hkd => blk m e hm he (by rw [← hkd]; rw [List.mem_singleton.1 hin]; exact h2)
    have hc : d.kind = 8 ∨ d.kind = 9 ∨ d.kind = 10 ∨ d.kind = 11 ∨ d.kind = 13 ∨ d.kind = 14 ∨ d.kind = 16 ∨ d.kind = 17 ∨ d.kind = 18 ∨ d.kind = 19 := by
      unfold stmtB at hk
      simp at hk
      omega
    rw [StmtOk]
    rcases hc with e | e | e | e | e | e | e | e | e | e
    · simp [listedB, e] at hl
      obtain ⟨k, hks, a⟩ := are1 hl.2
      exact .inl ⟨.inl e, l_one (has_says hl.1).1, k, hks, ex k (by rw [hks]; simp) a⟩
    · simp [listedB, e] at hl
      obtain ⟨k, hks, a⟩ := are1 hl.2
      exact .inl ⟨.inr e, l_one (has_says hl.1).1, k, hks, ex k (by rw [hks]; simp) a⟩
    · simp [listedB, e] at hl
      obtain ⟨j, k, hks, a, b⟩ := are2 hl.2
      refine .inr (.inl ⟨e, l_two (has_says hl.1).1, ⟨j, k, hks⟩, fun y hy => ?_⟩)
      have hy7 : kindAt ns y = 7 := by
        rw [hks] at hy
        rcases List.mem_cons.1 hy with rfl | hy
        · exact is_one a
        · rw [List.mem_singleton.1 hy]; exact is_one b
      exact b1 y hy hy7 y (by simp)
    · simp [listedB, e] at hl
      refine .inr (.inr (.inl ⟨e, l_two (has_says hl.1).1, kids_right R hd (fun k hk => hk) fun m g hm hg hin hkd => ?_⟩))
      have g12 : g.kind = 12 := by rw [← hkd]; exact is_one (all_kind hl.2 hin)
      obtain ⟨_, _, hl2⟩ := R.node m g hg
      simp [listedB, g12] at hl2
      obtain ⟨k, hks, a⟩ := are1 hl2.2
      obtain ⟨s, hs⟩ := l_one (has_says hl2.1).1
      exact ⟨⟨s, [], hs⟩, k, hks, kids_right R hg (fun y hy => by rw [List.mem_singleton.1 hy, hks]; simp) fun q u hq hu hin hkd => blk q u (by omega) hu (by rw [← hkd]; rw [List.mem_singleton.1 hin]; exact is_one a)⟩
    · simp [listedB, e] at hl
      obtain ⟨h1, h2⟩ := hl
      obtain ⟨p, q, r, hn⟩ := l_three (has_says h1).2
      have np := nums_in hu (x := p) (by rw [hn]; simp)
      have nq := nums_in hu (x := q) (by rw [hn]; simp)
      have nr := nums_in hu (x := r) (by rw [hn]; simp)
      unfold partB at h2
      simp at h2
      obtain ⟨⟨⟨_, h4⟩, _⟩, h5⟩ := h2
      have p4 : p ≤ 4 := by simpa [num, hn] using h4
      refine .inr (.inr (.inr (.inl ⟨e, l_two (has_says h1).1, ⟨p, q, r, hn, np.1, p4, nq, nr⟩, ?_⟩)))
      rcases h5 with h5 | ⟨h5, _⟩
      · obtain ⟨k, hks, a⟩ := are1 h5
        exact ⟨[], k, hks, (fun y hy => nomatch hy), b1 k (by rw [hks]; simp) (is_one a)⟩
      · obtain ⟨j, k, hks, a, b⟩ := are2 h5
        exact ⟨[j], k, hks, kids_right R hd (fun y hy => by rw [List.mem_singleton.1 hy, hks]; simp) fun m g hm hg hin hkd => names_right R hg (by rw [← hkd]; rw [List.mem_singleton.1 hin]; exact is_one a), b1 k (by rw [hks]; simp) (is_one b)⟩
    · simp [listedB, e] at hl
      refine .inr (.inr (.inr (.inr (.inl ⟨e, ?_, kids_right R hd (fun k hk => hk) fun m g hm hg hin hkd => ?_⟩))))
      · rcases hl.1 with h | h
        · exact .inl (l_one (has_says h).1)
        · exact .inr (l_two (has_says h).1)
      · have ha := all_kind hl.2 hin
        rw [hkd] at ha
        unfold argB at ha
        by_cases g15 : g.kind = 15
        · obtain ⟨_, _, hl2⟩ := R.node m g hg
          simp [listedB, g15] at hl2
          obtain ⟨s, hs⟩ := l_one (has_says hl2.1).1
          exact .inl ⟨g15, s, [], hs⟩
        · exact .inr ⟨g15, expr_right R f m g hg (by omega) (by simpa [g15] using ha)⟩
    · simp [listedB, e] at hl
      refine .inr (.inr (.inr (.inr (.inr (.inl ⟨e, ?_⟩)))))
      rcases hl.2 with h | h
      · obtain ⟨j, k, hks, a, b⟩ := are2 h
        exact ⟨j, [k], hks, by simp, ex j (by rw [hks]; simp) a, b1 k (by rw [hks]; simp) (is_one b)⟩
      · obtain ⟨j, k, l, hks, a, b, c⟩ := are3 h
        refine ⟨j, [k, l], hks, by simp, ex j (by rw [hks]; simp) a, fun y hy => ?_⟩
        have hy7 : kindAt ns y = 7 := by
          rcases List.mem_cons.1 hy with rfl | hy
          · exact is_one b
          · rw [List.mem_singleton.1 hy]; exact is_one c
        exact b1 y (by rw [hks]; exact List.mem_cons_of_mem _ hy) hy7 y (by simp)
    · simp [listedB, e] at hl
      obtain ⟨j, k, hks, a, b⟩ := are2 hl.2
      exact .inr (.inr (.inr (.inr (.inr (.inr (.inl ⟨e, j, k, hks, ex j (by rw [hks]; simp) a, b1 k (by rw [hks]; simp) (is_one b)⟩))))))
    · simp [listedB, e] at hl
      obtain ⟨k, hks, a⟩ := are1 hl.2
      exact .inr (.inr (.inr (.inr (.inr (.inr (.inr (.inl ⟨e, k, hks, ex k (by rw [hks]; simp) a⟩)))))))
    · exact .inr (.inr (.inr (.inr (.inr (.inr (.inr (.inr e)))))))
theorem item_right {ns : List Nd} (R : RightP ns) : KidsOk ns (ndAt ns 0).kids (ItemOk ns ns.length) := by
  have h0 : ns[0]? = some (ns[0]'R.some_) := List.getElem?_eq_getElem R.some_
  have e0 := ndAt_of (k := 0) h0
  have k0 := kindAt_of (k := 0) h0
  rw [show ((0 : Nat) : Int) = 0 from rfl] at e0 k0
  obtain ⟨_, _, hl⟩ := R.node 0 _ h0
  have z : (ns[0]'R.some_).kind = 0 := by rw [← k0]; exact R.root
  simp [listedB, z] at hl
  rw [e0]
  refine kids_right R h0 (fun k hk => hk) fun m d hm hd hin hkd => ?_
  obtain ⟨_, hu, hl2⟩ := R.node m d hd
  rcases is_two (all_kind hl.2 hin) with e | e
  · rw [hkd] at e
    simp [listedB, e] at hl2
    refine .inl ⟨e, l_one (has_says hl2.1).1, kids_right R hd (fun k hk => hk) fun q g hq hg hin hkd => ?_⟩
    obtain ⟨_, hu3, hl3⟩ := R.node q g hg
    rcases is_two (all_kind hl2.2 hin) with e3 | e3
    · rw [hkd] at e3
      simp [listedB, e3] at hl3
      obtain ⟨⟨h1, h2⟩, _⟩ := hl3
      obtain ⟨v, hv⟩ := l_one (has_says h1).2
      have := nums_in hu3 (x := v) (by rw [hv]; simp)
      exact .inr ⟨e3, l_one (has_says h1).1, v, hv, this.1, by simpa [num, hv] using h2⟩
    · rw [hkd] at e3
      simp [listedB, e3] at hl3
      obtain ⟨⟨⟨h1, h2⟩, _⟩, _⟩ := hl3
      match hg2 : g.words with
      | [] => rw [hg2] at h1; simp at h1
      | [_] => rw [hg2] at h1; simp at h1
      | a :: b :: r => exact .inl ⟨e3, a, b, r, hg2, by rw [hg2] at h2; simp at h2; omega, by rw [hg2] at h1; simp at h1; omega⟩
  · rw [hkd] at e
    simp [listedB, e] at hl2
    obtain ⟨⟨h1, h2⟩, h3⟩ := hl2
    obtain ⟨k, hks, a⟩ := are1 h3
    have hne : d.kids ≠ [] := fun q => by rw [q] at hks; simp at hks
    obtain ⟨l, k', hk'⟩ := l_last d.kids hne
    have el : d.kids.take (d.kids.length - 1) = l := by rw [hk']; simp
    have ek : k = k' := by rw [hk'] at hks; simpa using hks.symm
    rw [el] at h2
    subst ek
    refine .inr ⟨e, l_one (has_says h1).1, l, k, hk', kids_right R hd (fun y hy => by rw [hk']; simp [hy]) fun q g hq hg hin hkd => ?_, kids_right R hd (fun y hy => by rw [hk', List.mem_singleton.1 hy]; simp) fun q g hq hg hin hkd => ?_⟩
    · have g5 : g.kind = 5 := by rw [← hkd]; exact is_one (all_kind h2 hin)
      obtain ⟨_, hu3, hl3⟩ := R.node q g hg
      simp [listedB, g5] at hl3
      rcases hl3 with h | ⟨h, hc⟩
      · exact .inl (l_one (has_says h.1).1)
      · obtain ⟨p, q', r, hn⟩ := l_three (has_says h).2
        have np := nums_in hu3 (x := p) (by rw [hn]; simp)
        have nq := nums_in hu3 (x := q') (by rw [hn]; simp)
        have nr := nums_in hu3 (x := r) (by rw [hn]; simp)
        unfold contractB at hc
        simp at hc
        obtain ⟨⟨⟨h4, _⟩, h5⟩, _⟩ := hc
        refine .inr ⟨l_two (has_says h).1, ⟨p, q', r, hn, np.1, by simpa [num, hn] using h4, nq, nr⟩, kids_right R hg (fun k hk => hk) fun q2 g2 hq2 hg2 hin2 hkd2 => names_right R hg2 (by rw [← hkd2]; exact is_one (all_kind h5 hin2))⟩
    · have g7 : g.kind = 7 := by rw [← hkd, List.mem_singleton.1 hin]; exact is_one a
      obtain ⟨_, _, hl3⟩ := R.node q g hg
      simp [listedB, g7] at hl3
      exact kids_right R hg (fun k hk => hk) fun q2 g2 hq2 hg2 hin2 hkd2 => stmt_right R _ q2 g2 hg2 (by omega) (by rw [← hkd2]; exact all_kind hl3.2 hin2)
end Go.Proofs.YthihdddlneclmaaDoor

namespace Go.Proofs.YthihdddlneclmaaDoor
open Go.RowKit

theorem linesT_snoc (d : Nat) (l : List Txt) (x : Txt) : linesT d (l ++ [x]) = linesT d l ++ (indT d ++ x ++ [10]) := by
  unfold linesT
  rw [List.map_append, List.flatten_append]
  simp
theorem linesT_at (d : Nat) (l : List Txt) (k : Nat) (x : Txt) (h : l[k]? = some x) : linesT d (l.take (k + 1)) = linesT d (l.take k) ++ (indT d ++ x ++ [10]) := by
  rw [List.take_add_one, h]
  exact linesT_snoc d _ x
theorem linesT_le (d : Nat) (l : List Txt) (k : Nat) : (linesT d (l.take k)).length ≤ (linesT d l).length := by
  have e : linesT d l = linesT d (l.take k) ++ linesT d (l.drop k) := by
    unfold linesT
    rw [← List.flatten_append, ← List.map_append, List.take_append_drop]
  rw [e, List.length_append]
  omega
/-- A function that is entered when it is called by a value. -/
def Enters (F : Nat) : Prop := ∀ (args : Array Value) (w : World), Sem.run Tryd.prog (callFunc F args) w = .ok (.enter F args) w
/-- What a method of the printer's answers, at nodes of a kind, at a depth. -/
def Each (F : Nat) (w0 : World) (ns : List Nd) (dp : Nat) (Ok : Nd → Prop) (T : Nd → Txt) : Prop :=
  ∀ (w : World) (bp : Nat) (t : Txt) (vn : Value) (x : NdV × Nd), PrS w0 w bp t dp vn → NodesAt w0 vn ns → NdAt w0 x → Ok x.2 → t.length + (T x.2).length + 10000 ≤ 140737488355328 →
    Calls Tryd.prog F #[.pointer (some ⟨bp, 0, none⟩), ndX x] w fun e w' => e = .returned (.tuple #[]) ∧ PrS w0 w' bp (t ++ T x.2) dp vn ∧ Fr w w' bp
set_option maxRecDepth 10000 in
set_option maxHeartbeats 8000000 in
theorem lines_any (F : Nat) (hF : Enters F) (w0 w : World) (bp dp : Nat) (t : Txt) (vn : Value) (ns : List Nd) (A : Option Addr) (c : Nat) (ks : List Int) (Ok : Nd → Prop) (T : Nd → Txt) (h : PrS w0 w bp t dp vn) (hN : NodesAt w0 vn ns) (hd : dp ≤ 4000)
    (hK : Reads w0 w0.heap.size 1 A ks.length (ks.map (Value.int .i64))) (hkl : ks.length ≤ maxLen) (hok : KidsOk ns ks Ok) (hE : Each F w0 ns dp Ok T) (hl : t.length + (linesT dp (ks.map fun k => T (ndAt ns k))).length + 10000 ≤ 140737488355328) :
    Calls Tryd.prog 8 #[.pointer (some ⟨bp, 0, none⟩), .slice A ks.length c, .func (.func F) #[.pointer (some ⟨bp, 0, none⟩)] #[]] w fun e w' => e = .returned (.tuple #[]) ∧ PrS w0 w' bp (t ++ linesT dp (ks.map fun k => T (ndAt ns k))) dp vn ∧ Fr w w' bp := by
  obtain ⟨An, cn, rs, rfl, _, hcn, hm, hR, hNd⟩ := id hN
  generalize hL : (ks.map fun k => T (ndAt ns k)) = L at *
  have HS := Lib.hid (And.intro h (And.intro hN (And.intro hd (And.intro hK (And.intro hkl (And.intro hok (And.intro hE (And.intro hl hL))))))))
  have HR := Lib.hid (And.intro hcn (And.intro hm (And.intro hR hNd)))
  clear h hN hd hK hkl hok hE hl hL hcn hm hR hNd
  go_enter Tryd.func8, Tryd.ntmps8
  go_wp2_with fail
  go_loopg [10] ks.length (fun g v10 wr => ∃ k : Nat, v10 = .int .i64 k ∧ k ≤ ks.length ∧ g = ks.length - k ∧ PrS w0 wr bp (t ++ linesT dp (L.take k)) dp (.slice An ns.length cn) ∧ Fr w wr bp)
  case atStart => exact ⟨0, rfl, Nat.zero_le _, rfl, by simpa [linesT] using HS.out.1, Fr.refl _ _⟩
  case round =>
    obtain ⟨k, rfl, hk, hg, hS, hF⟩ := hrel
    by_cases hkn : k = ks.length
    · have j1 : decide (k < ks.length) = false := decide_eq_false (by omega)
      have j2 : ¬ ((k : Int) < (ks.length : Int)) := by omega
      have FIN := Lib.hid (And.intro (show PrS w0 wr bp (t ++ linesT dp L) dp (.slice An ns.length cn) by rw [show L.take k = L by rw [← HS.out.2.2.2.2.2.2.2.2, hkn, List.take_of_length_le]; rw [List.length_map]; exact Nat.le_refl _] at hS; exact hS) hF)
      clear hk hg hS hF hkn
      go_wp2_with fail
      go_end0
      exact ⟨rfl, FIN.out⟩
    · have hlt : k < ks.length := by omega
      obtain ⟨y, hy⟩ : ∃ y, ks[k]? = some y := ⟨_, List.getElem?_eq_getElem hlt⟩
      obtain ⟨hy0, hyn, hyo⟩ := HS.out.2.2.2.2.2.1 y (List.mem_of_getElem? hy)
      obtain ⟨n, rfl⟩ := Int.eq_ofNat_of_zero_le hy0
      have hnl : n < ns.length := by omega
      obtain ⟨r, hr⟩ : ∃ r, rs[n]? = some r := ⟨_, List.getElem?_eq_getElem (by rw [← HR.out.2.1, List.length_map] at hnl; exact hnl)⟩
      have hrn : ns[n]? = some r.2 := by rw [← HR.out.2.1, List.getElem?_map, hr]; rfl
      have hL1 : L[k]? = some (T r.2) := by rw [← HS.out.2.2.2.2.2.2.2.2, List.getElem?_map, hy]; exact congrArg some (congrArg T (ndAtS hrn))
      obtain ⟨ak, rfl, q0⟩ := ints_at HS.out.2.2.2.1 hS.below hy (by omega)
      have j1 : (k : Int) < (ks.length : Int) := by omega
      have j0 : (0 : Int) ≤ (k : Int) := by omega
      have wk : IntKind.i64.wrap ((k : Int) + 1) = (k : Int) + 1 := IntWalk.i64_in _ (by have := HS.out.2.2.2.2.1; have e : maxLen = 9223372036854775807 := rfl; omega)
      have i0 : (0 : Int) ≤ (n : Int) := by omega
      have i1 : (n : Int) < (ns.length : Int) := by omega
      have hlen : t.length + (linesT dp (L.take k)).length + (indT dp).length + (T r.2).length + 1 + 10000 ≤ 140737488355328 := by
        have e1 := linesT_at dp L k _ hL1
        have e2 := linesT_le dp L (k + 1)
        have e3 := HS.out.2.2.2.2.2.2.2.1
        rw [e1] at e2
        simp only [List.length_append, List.length_cons, List.length_nil] at e2
        omega
      have IN := Lib.hid (indent_any w0 wr bp dp _ _ hS HS.out.2.2.1 (by rw [List.length_append]; omega))
      have HK := Lib.hid (And.intro hlt (And.intro hg (And.intro hF (And.intro hr (And.intro hL1 (And.intro hlen ((ndAtS hrn) ▸ hyo)))))))
      clear hkn hlt hk hg hF hS hy hy0 hyn hyo hnl hrn hL1 hlen
      obtain ⟨⟨yw, yu, yk⟩, kd2, ws2, nums2, ks2, ps2⟩ := r
      have HY := Lib.hid (HR.out.2.2.2 _ (List.mem_of_getElem? HK.out.2.2.2.1))
      obtain ⟨h61, h62, h63⟩ := HY.out
      dsimp only at h61 h62 h63
      obtain ⟨Bw, dw, rfl, _⟩ := h61
      obtain ⟨Bu, du, rfl, _⟩ := h62
      obtain ⟨Bk, dk, rfl, _⟩ := h63
      go_upto_region 4 with (go_at_call 14; (refine IN.out.mono ?_); rintro e w1 ⟨rfl, hp, hf⟩; have H1 := Lib.hid (And.intro hp hf); clear hp hf)
      obtain ⟨an, rfl, n0, n1, n2, n3, n4⟩ := nodes_cells HR.out.2.2.1 H1.out.1.below HK.out.2.2.2.1 (by omega)
      dsimp only at n0 n1 n2 n3 n4
      obtain ⟨v, hv, _⟩ := H1.out.1.box
      have c2 := hv.blk.cell 2
      simp only [List.getElem?_toArray, List.getElem?_cons_zero, List.getElem?_cons_succ] at c2
      clear hv
      have EC := Lib.hid (HS.out.2.2.2.2.2.2.1 w1 bp _ _ _ H1.out.1 HS.out.2.1 HY.out HK.out.2.2.2.2.2.2 (by have := HK.out.2.2.2.2.2.1; simp only [List.length_append]; omega))
      unfold ndX at EC
      dsimp only at EC
      have door := hF
      unfold Enters at door
      go_upto_region 5 with (with_reducible refine EC.out.mono ?_; rintro e w2 ⟨rfl, hp, hf⟩; have H2 := Lib.hid (And.intro hp hf); clear hp hf)
      have AD := Lib.hid (add1_any w0 w2 bp dp _ _ [10] H2.out.1 (by have := HK.out.2.2.2.2.2.1; simp only [List.length_append, List.length_cons, List.length_nil]; omega))
      go_wp2_with (go_at_call 15; (refine AD.out.mono ?_); rintro e w3 ⟨rfl, hp, hf⟩; have H3 := Lib.hid (And.intro hp hf); clear hp hf)
      go_roundg (ks.length - (k + 1))
      case measure => have := HK.out.1; have := HK.out.2.1; omega
      case rel =>
        refine ⟨k + 1, by push_cast; rfl, HK.out.1, rfl, ?_, ((HK.out.2.2.1.trans H1.out.2).trans H2.out.2).trans H3.out.2⟩
        rw [linesT_at dp L k _ HK.out.2.2.2.2.1]
        have := H3.out.1
        simp only [List.append_assoc] at this ⊢
        exact this
end Go.Proofs.YthihdddlneclmaaDoor

namespace Go.Proofs.YthihdddlneclmaaDoor
open Go.RowKit

theorem PrS.deep {w0 w : World} {bp dp : Nat} {t : Txt} {vn : Value} (h : PrS w0 w bp t dp vn) (d : Nat) : PrS w0 (w.setCell ⟨bp, 1, none⟩ (.int .i64 (d : Int))) bp t d vn := by
  obtain ⟨v, h1, h2⟩ := h.box
  exact ⟨⟨v, by simpa using h1.set 1 (.int .i64 (d : Int)), own_past h2 (h1.off h2 (by decide))⟩, h.below.setCell h.ge _, h.ge⟩
theorem Fr.cell (w : World) (bp i : Nat) (v : Value) : Fr w (w.setCell ⟨bp, i, none⟩ v) bp :=
  ⟨by simp [World.setCell], fun b ty cs h1 _ h3 => TBlk.other h3 (fun e => h1 e.symm) _⟩
theorem PrS.cells {w0 w : World} {bp dp : Nat} {t : Txt} {vn : Value} (h : PrS w0 w bp t dp vn) : w.cell? ⟨bp, 1, none⟩ = some (.int .i64 dp) ∧ w.frozen? ⟨bp, 1, none⟩ = false ∧ w.cell? ⟨bp, 2, none⟩ = some vn := by
  obtain ⟨v, h1, _⟩ := h.box
  have c1 := h1.blk.cell 1
  have c2 := h1.blk.cell 2
  have f1 := h1.blk.free 1
  simp only [List.getElem?_toArray, List.getElem?_cons_zero, List.getElem?_cons_succ] at c1 c2
  exact ⟨c1, f1, c2⟩
set_option maxRecDepth 10000 in
set_option maxHeartbeats 8000000 in
theorem braces_any (F : Nat) (hF : Enters F) (w0 w : World) (bp dp : Nat) (t : Txt) (vn : Value) (ns : List Nd) (A : Option Addr) (c : Nat) (ks : List Int) (Ok : Nd → Prop) (T : Nd → Txt) (h : PrS w0 w bp t dp vn) (hN : NodesAt w0 vn ns) (hd : dp < 4000)
    (hK : Reads w0 w0.heap.size 1 A ks.length (ks.map (Value.int .i64))) (hkl : ks.length ≤ maxLen) (hok : KidsOk ns ks Ok) (hE : Each F w0 ns (dp + 1) Ok T) (hl : t.length + (bracesT dp (ks.map fun k => T (ndAt ns k))).length + 10000 ≤ 140737488355328) :
    Calls Tryd.prog 16 #[.pointer (some ⟨bp, 0, none⟩), .slice A ks.length c, .func (.func F) #[.pointer (some ⟨bp, 0, none⟩)] #[]] w fun e w' => e = .returned (.tuple #[]) ∧ PrS w0 w' bp (t ++ bracesT dp (ks.map fun k => T (ndAt ns k))) dp vn ∧ Fr w w' bp := by
  by_cases hz : ks = []
  · subst hz
    have e1 : bracesT dp (([] : List Int).map fun k => T (ndAt ns k)) = [32, 123, 32, 125] := rfl
    rw [e1] at hl ⊢
    have AD := Lib.hid (add1_any w0 w bp dp t vn [32, 123, 32, 125] h (by simp only [List.length_cons, List.length_nil] at hl ⊢; omega))
    have t0 : (((([] : List Int).length : Nat) : Int) == 0) = true := rfl
    clear hl e1 hE hok hkl hK hN h
    go_enter Tryd.func16, Tryd.ntmps16
    go_wp2_with (go_at_call 15; (refine AD.out.mono ?_); rintro e w1 ⟨rfl, hp, hf⟩; have H1 := Lib.hid (And.intro hp hf); clear hp hf)
    refine bodyPost_ret (v := .tuple #[]) (results_none (by kernel_rfl) _ _ _) rfl ⟨rfl, H1.out⟩
  · have e1 : bracesT dp (ks.map fun k => T (ndAt ns k)) = [32, 123, 10] ++ linesT (dp + 1) (ks.map fun k => T (ndAt ns k)) ++ indT dp ++ [125] := by
      cases ks with
      | nil => exact absurd rfl hz
      | cons a r => rfl
    rw [e1] at hl ⊢
    simp only [List.length_append, List.length_cons, List.length_nil] at hl
    have t0 : ((ks.length : Int) == 0) = false := by
      cases ks with
      | nil => exact absurd rfl hz
      | cons a r => rw [beq_eq_false_iff_ne]; simp only [List.length_cons]; omega
    have wd : IntKind.i64.wrap ((dp : Int) + 1) = ((dp + 1 : Nat) : Int) := (IntWalk.i64_in _ (by omega)).trans (by push_cast; rfl)
    have wd2 : IntKind.i64.wrap (((dp + 1 : Nat) : Int) - 1) = (dp : Int) := (IntWalk.i64_in _ (by omega)).trans (by push_cast; omega)
    have wd3 : IntKind.i64.wrap (dp : Int) = (dp : Int) := IntWalk.i64_in _ (by omega)
    have wd4 : wrap64 (dp : Int) = (dp : Int) := IntWalk.wrap64_in _ (by omega)
    have AD := Lib.hid (add1_any w0 w bp dp t vn [32, 123, 10] h (by simp only [List.length_cons, List.length_nil]; omega))
    have HL := Lib.hid (fun (w1 : World) (p1 : PrS w0 w1 bp (t ++ [32, 123, 10]) (dp + 1) vn) => lines_any F hF w0 w1 bp (dp + 1) _ vn ns A c ks Ok T p1 hN (by omega) hK hkl hok hE (by simp only [List.length_append, List.length_cons, List.length_nil]; omega))
    have HS := Lib.hid (And.intro hl hd)
    clear hz e1 hE hok hkl hK hN h hd hl
    go_enter Tryd.func16, Tryd.ntmps16
    go_upto_region 3 with (go_at_call 15; (refine AD.out.mono ?_); rintro e w1 ⟨rfl, hp, hf⟩; have H1 := Lib.hid (And.intro hp hf); clear hp hf)
    obtain ⟨c1, f1, c2⟩ := H1.out.1.cells
    have P2 := Lib.hid (H1.out.1.deep (dp + 1))
    have L2 := Lib.hid (HL.out _ P2.out)
    go_upto_region 5 with (go_at_call 8; (refine L2.out.mono ?_); rintro e w3 ⟨rfl, hp, hf⟩; have H3 := Lib.hid (And.intro hp hf); clear hp hf)
    obtain ⟨d1, g1, d2⟩ := H3.out.1.cells
    have P4 := Lib.hid (H3.out.1.deep dp)
    have IN := Lib.hid (indent_any w0 _ bp dp _ vn P4.out (by have := HS.out.2; omega) (by have := HS.out.1; simp only [List.length_append, List.length_cons, List.length_nil]; omega))
    go_upto_region 7 with (go_at_call 14; (refine IN.out.mono ?_); rintro e w5 ⟨rfl, hp, hf⟩; have H5 := Lib.hid (And.intro hp hf); clear hp hf)
    have AE := Lib.hid (add1_any w0 w5 bp dp _ vn [125] H5.out.1 (by have := HS.out.1; simp only [List.length_append, List.length_cons, List.length_nil]; omega))
    go_wp2_with (go_at_call 15; (refine AE.out.mono ?_); rintro e w6 ⟨rfl, hp, hf⟩; have H6 := Lib.hid (And.intro hp hf); clear hp hf)
    go_end0
    refine ⟨rfl, ?_, ((((H1.out.2.trans (Fr.cell _ _ _ _)).trans H3.out.2).trans (Fr.cell _ _ _ _)).trans H5.out.2).trans H6.out.2⟩
    have := H6.out.1
    simp only [List.append_assoc] at this ⊢
    exact this
end Go.Proofs.YthihdddlneclmaaDoor

namespace Go.Proofs.YthihdddlneclmaaDoor
open Go.RowKit

theorem joinTail_app (s : Txt) (a b : List Txt) : Lib.joinTail s (a ++ b) = Lib.joinTail s a ++ Lib.joinTail s b := by
  unfold Lib.joinTail
  rw [List.map_append, List.flatten_append]
theorem sepT_snoc (s : Txt) (l : List Txt) (x : Txt) (h : l ≠ []) : sepT s (l ++ [x]) = sepT s l ++ s ++ x := by
  cases l with
  | nil => exact absurd rfl h
  | cons a r => rw [List.cons_append, sepT_cons, sepT_cons, joinTail_app]; simp [Lib.joinTail]
theorem sepT_le (s : Txt) (l : List Txt) (k : Nat) : (sepT s (l.take k)).length ≤ (sepT s l).length := by
  cases l with
  | nil => simp
  | cons a r =>
    cases k with
    | zero => simp [sepT]
    | succ k =>
      rw [List.take_succ_cons, sepT_cons, sepT_cons]
      have e : Lib.joinTail s r = Lib.joinTail s (r.take k) ++ Lib.joinTail s (r.drop k) := by rw [← joinTail_app, List.take_append_drop]
      rw [e]
      simp only [List.length_append]
      omega
/-- What a closure of the printer's answers to each number. -/
def EachI (F : Nat) (fr : Array Value) (w0 w1 : World) (bp dp : Nat) (vn : Value) (L : List Txt) : Prop :=
  ∀ (k : Nat) (x : Txt) (w : World) (t : Txt), L[k]? = some x → PrS w0 w bp t dp vn → Fr w1 w bp → t.length + x.length + 10000 ≤ 140737488355328 →
    Calls Tryd.prog F (#[.int .i64 (k : Int)] ++ fr) w fun e w' => e = .returned (.tuple #[]) ∧ PrS w0 w' bp (t ++ x) dp vn ∧ Fr w w' bp
set_option maxRecDepth 10000 in
set_option maxHeartbeats 8000000 in
theorem separated_any (F : Nat) (fr : Array Value) (hF : Enters F) (w0 w : World) (bp dp : Nat) (t s : Txt) (vn : Value) (L : List Txt) (h : PrS w0 w bp t dp vn) (hE : EachI F fr w0 w bp dp vn L) (hll : L.length ≤ maxLen) (hl : t.length + (sepT s L).length + 10000 ≤ 140737488355328) :
    Calls Tryd.prog 26 #[.pointer (some ⟨bp, 0, none⟩), txt s, .int .i64 (L.length : Nat), .func (.func F) #[] fr] w fun e w' => e = .returned (.tuple #[]) ∧ PrS w0 w' bp (t ++ sepT s L) dp vn ∧ Fr w w' bp := by
  have HS := Lib.hid (And.intro h (And.intro hE (And.intro hll hl)))
  have door := hF
  unfold Enters at door
  clear h hE hll hl
  obtain ⟨m, hm⟩ : ∃ m, m = L.length := ⟨_, rfl⟩
  rw [← hm]
  have HM := Lib.hid hm
  clear hm
  go_enter Tryd.func26, Tryd.ntmps26
  go_wp2_with fail
  go_loopg [10] m (fun g v10 wr => ∃ k : Nat, v10 = .int .i64 k ∧ k ≤ m ∧ g = m - k ∧ PrS w0 wr bp (t ++ sepT s (L.take k)) dp vn ∧ Fr w wr bp)
  case atStart => exact ⟨0, rfl, Nat.zero_le _, rfl, by simpa [sepT] using HS.out.1, Fr.refl _ _⟩
  case round =>
    obtain ⟨k, rfl, hk, hg, hS, hFr⟩ := hrel
    by_cases hkn : k = m
    · have j1 : decide (k < m) = false := decide_eq_false (by omega)
      have j2 : ¬ ((k : Int) < (m : Int)) := by omega
      have FIN := Lib.hid (And.intro (show PrS w0 wr bp (t ++ sepT s L) dp vn by rw [show L.take k = L by rw [hkn, HM.out, List.take_length]] at hS; exact hS) hFr)
      clear hk hg hS hFr hkn
      go_wp2_with fail
      go_end0
      exact ⟨rfl, FIN.out⟩
    · have hlt : k < m := by omega
      obtain ⟨x, hx⟩ : ∃ x, L[k]? = some x := ⟨_, List.getElem?_eq_getElem (by rw [← HM.out]; exact hlt)⟩
      have j1 : (k : Int) < (m : Int) := by omega
      have wk : IntKind.i64.wrap ((k : Int) + 1) = (k : Int) + 1 := IntWalk.i64_in _ (by have := HS.out.2.2.1; have := HM.out; have e : maxLen = 9223372036854775807 := rfl; omega)
      have le := sepT_le s L (k + 1)
      rw [List.take_add_one, hx] at le
      dsimp only [Option.toList] at le
      by_cases hk0 : k = 0
      · have e0 : sepT s (L.take k) = [] := by rw [hk0]; rfl
        have e1 : sepT s (L.take (k + 1)) = x := by rw [List.take_add_one, hx, hk0]; rfl
        have j2 : ¬ ((0 : Int) < (k : Int)) := by omega
        rw [e0, List.append_nil] at hS
        have EC := Lib.hid (HS.out.2.1 k x wr _ hx hS hFr (by
          have := HS.out.2.2.2
          rw [hk0] at le
          have : (sepT s (L.take 0 ++ [x])) = x := rfl
          rw [this] at le
          omega))
        have HK := Lib.hid (And.intro hlt (And.intro hg (And.intro e1 hFr)))
        clear hkn hlt hk hg hFr hS hx e0 e1 le hk0
        go_wp2_with (with_reducible refine EC.out.mono ?_; rintro e w2 ⟨rfl, hp, hf⟩; have H2 := Lib.hid (And.intro hp hf); clear hp hf)
        go_roundg (m - (k + 1))
        case measure => have := HK.out.1; have := HK.out.2.1; omega
        case rel => exact ⟨k + 1, by push_cast; rfl, HK.out.1, rfl, by rw [HK.out.2.2.1]; exact H2.out.1, HK.out.2.2.2.trans H2.out.2⟩
      · have ne : L.take k ≠ [] := fun e => by
          have := congrArg List.length e
          rw [List.length_take, List.length_nil] at this
          have := HM.out
          omega
        have e1 : sepT s (L.take (k + 1)) = sepT s (L.take k) ++ s ++ x := by rw [List.take_add_one, hx]; exact sepT_snoc s _ x ne
        have j2 : (0 : Int) < (k : Int) := by omega
        have le2 : (sepT s (L.take k)).length + s.length + x.length ≤ (sepT s L).length := by
          have := sepT_le s L (k + 1)
          rw [e1] at this
          simp only [List.length_append] at this
          exact this
        have AD := Lib.hid (add1_any w0 wr bp dp _ vn s hS (by have := HS.out.2.2.2; rw [List.length_append]; omega))
        have HK := Lib.hid (And.intro hlt (And.intro hg (And.intro e1 (And.intro hFr (And.intro hx le2)))))
        clear hkn hlt hk hg hFr hS hx e1 le le2 hk0 ne
        go_upto_region 5 with (go_at_call 15; (refine AD.out.mono ?_); rintro e w1 ⟨rfl, hp, hf⟩; have H1 := Lib.hid (And.intro hp hf); clear hp hf)
        have EC := Lib.hid (HS.out.2.1 k x w1 _ HK.out.2.2.2.2.1 H1.out.1 (HK.out.2.2.2.1.trans H1.out.2) (by
          have := HS.out.2.2.2
          have := HK.out.2.2.2.2.2
          simp only [List.length_append]
          omega))
        go_wp2_with (with_reducible refine EC.out.mono ?_; rintro e w2 ⟨rfl, hp, hf⟩; have H2 := Lib.hid (And.intro hp hf); clear hp hf)
        go_roundg (m - (k + 1))
        case measure => have := HK.out.1; have := HK.out.2.1; omega
        case rel =>
          refine ⟨k + 1, by push_cast; rfl, HK.out.1, rfl, ?_, (HK.out.2.2.2.1.trans H1.out.2).trans H2.out.2⟩
          rw [HK.out.2.2.1]
          have := H2.out.1
          simp only [List.append_assoc] at this ⊢
          exact this
end Go.Proofs.YthihdddlneclmaaDoor
