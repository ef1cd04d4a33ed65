/-
  Tokens' answers for any text; the walks of the reference's Same and of layer 5's awake. (Template: by-name.py fills it.)
-/
import Derived.Test.YtmmlmbfnabgobaaDoorLexH
import Derived.Test.YtmmlmbfnabgobaaDoorLexK
namespace Go.Proofs.YtmmlmbfnabgobaaDoor
open Go.RowKit

/-- What Tokens answers: the tokens, the error, the place. -/
def resOf (l : List UInt8) : List Tok × Int × Nat :=
  if 6000 < l.length then ([], 13, 0) else match lexR l 0 with
    | .bad a => ([], 10, a)
    | .ok ts => (ts, 0, 0)
def ResPut (w : World) (r : List Tok × Int × Nat) (e : Ending) (w' : World) : Prop :=
  ∃ A c, e = .returned (.tuple #[.slice A r.1.length c, .agg #[.int .i64 r.2.1, .int .i64 r.2.2]]) ∧ TokensAt w' (.slice A r.1.length c) r.1 ∧ Below w.heap.size w w'
theorem res_of_big {l : List UInt8} (h : 6000 < l.length) : resOf l = ([], 13, 0) := if_pos h
theorem res_of_bad {l : List UInt8} {a : Nat} (h : l.length ≤ 6000) (q : lexR l 0 = .bad a) : resOf l = ([], 10, a) := by
  unfold resOf
  rw [if_neg (by omega), q]
theorem res_of_ok {l : List UInt8} {ts : List Tok} (h : l.length ≤ 6000) (q : lexR l 0 = .ok ts) : resOf l = (ts, 0, 0) := by
  unfold resOf
  rw [if_neg (by omega), q]
theorem res_put {w : World} {s : ByteArray} {e : Ending} {w' : World} (h : s.size ≤ 6000) (hp : TokPut w (lexR s.data.toList 0) e w') : ResPut w (resOf s.data.toList) e w' := by
  have hl : s.data.toList.length ≤ 6000 := by rw [len_of]; exact h
  cases q : lexR s.data.toList 0 with
  | bad a =>
    rw [q] at hp
    rw [res_of_bad hl q]
    exact ⟨none, 0, hp.1, TokensAt.nil _, hp.2⟩
  | ok ts =>
    rw [q] at hp
    rw [res_of_ok hl q]
    exact hp
theorem res_big {w : World} {s : ByteArray} {e : Ending} {w' : World} (h : 6000 < s.size) (hp : e = .returned (.tuple #[.slice none 0 0, .agg #[.int .i64 13, .int .i64 0]]) ∧ Below w.heap.size w w') : ResPut w (resOf s.data.toList) e w' := by
  rw [res_of_big (by rw [len_of]; exact h)]
  exact ⟨none, 0, hp.1, TokensAt.nil _, hp.2⟩
theorem tokens_res (s : ByteArray) (w : World) (ht : StrRow w 1 signsL) : Calls Tryd.prog 11 #[.string s] w (ResPut w (resOf s.data.toList)) := by
  by_cases h : s.size ≤ 6000
  · exact (tokens_any s w h ht).mono fun _ _ hp => res_put h hp
  · exact (tokens_big s w (by omega)).mono fun _ _ hp => res_big (by omega) hp
theorem rtokens_res (s : ByteArray) (w : World) : Calls Tryd.prog 12 #[.string s] w (ResPut w (resOf s.data.toList)) := by
  by_cases h : s.size ≤ 6000
  · exact (rtokens_any s w h).mono fun _ _ hp => res_put h hp
  · exact (rtokens_big s w (by omega)).mono fun _ _ hp => res_big (by omega) hp

/-- The cells of a token in memory. -/
theorem tok_cells {w wr : World} {A : Option Addr} {n k : Nat} {l : List Tok} {t : Tok} (h4 : Reads w w.heap.size 3 A n (tokCells l)) (hb : Below w.heap.size w wr) (hx : l[k]? = some t) (hn : 0 < n) :
    ∃ ad, A = some ad ∧ wr.cell? (ad.add (k * 3)) = some (.int .i64 t.1) ∧ wr.cell? (ad.add (k * 3 + 1)) = some (txt t.2.1) ∧ wr.cell? (ad.add (k * 3 + 2)) = some (.int .i64 t.2.2) := by
  obtain ⟨ad, ha, hlt, hc⟩ := h4.2 hn
  obtain ⟨a, b, c⟩ := tokCells_at l k t hx
  exact ⟨ad, ha, (hb.cell (by rw [block_of_add]; exact hlt)).trans (hc _ _ a), (hb.cell (by rw [block_of_add]; exact hlt)).trans (hc _ _ b), (hb.cell (by rw [block_of_add]; exact hlt)).trans (hc _ _ c)⟩
theorem add_next (ad : Addr) (k j : Nat) : ad.add (k + (j + 1)) = ⟨(ad.add k).block, (ad.add k).off + (j + 1), none⟩ := by
  unfold Addr.add
  split <;> split <;> simp_all <;> omega
theorem tok_cells' {w wr : World} {A : Option Addr} {n k : Nat} {l : List Tok} {t : Tok} (h4 : Reads w w.heap.size 3 A n (tokCells l)) (hb : Below w.heap.size w wr) (hx : l[k]? = some t) (hn : 0 < n) :
    ∃ ad, A = some ad ∧ wr.cell? (ad.add (k * 3)) = some (.int .i64 t.1) ∧ wr.cell? ⟨(ad.add (k * 3)).block, (ad.add (k * 3)).off + 1, none⟩ = some (txt t.2.1) ∧ wr.cell? ⟨(ad.add (k * 3)).block, (ad.add (k * 3)).off + 2, none⟩ = some (.int .i64 t.2.2) := by
  obtain ⟨ad, e, a, b, c⟩ := tok_cells h4 hb hx hn
  exact ⟨ad, e, a, by rw [← add_next ad (k * 3) 0]; exact b, by rw [← add_next ad (k * 3) 1]; exact c⟩

set_option maxRecDepth 10000 in
set_option maxHeartbeats 4000000 in
theorem same_yes (w : World) (va vb : Value) (ts : List Tok) (ha : TokensAt w va ts) (hb : TokensAt w vb ts) : Calls Tryd.prog 13 #[va, vb] w fun e w' => e = .returned (.bool true) ∧ Below w.heap.size w w' := by
  obtain ⟨A, c, rfl, _, hc, hr⟩ := ha
  obtain ⟨B, d, rfl, _, _, gr⟩ := hb
  have hmx : ts.length ≤ 9223372036854775807 := by unfold maxLen at hc; omega
  obtain ⟨n, hn⟩ : ∃ n, n = ts.length := ⟨_, rfl⟩
  rw [← hn] at hr gr hmx ⊢
  have HN := Lib.hid (And.intro hr (And.intro gr (And.intro hmx hn)))
  clear hr gr hmx hn hc
  go_enter Tryd.func13, Tryd.ntmps13
  go_wp2_with fail
  go_loopg [5] n (fun g v5 wr => ∃ k : Nat, v5 = .int .i64 k ∧ k ≤ n ∧ g = n - k ∧ Below w.heap.size w wr)
  case atStart => exact ⟨0, rfl, Nat.zero_le _, rfl, Below.refl _ _⟩
  case round =>
    obtain ⟨k, rfl, hk, hg, hb⟩ := hrel
    by_cases hlt : k < n
    · obtain ⟨t, ht⟩ : ∃ t, ts[k]? = some t := ⟨_, List.getElem?_eq_getElem (by have := HN.out.2.2.2; omega)⟩
      obtain ⟨ad, rfl, c0, c1, c2⟩ := tok_cells' HN.out.1 hb ht (by omega)
      obtain ⟨bd, rfl, d0, d1, d2⟩ := tok_cells' HN.out.2.1 hb ht (by omega)
      have i1 : (k : Int) < (n : Int) := by omega
      have i2 : (0 : Int) ≤ (k : Int) := by omega
      have wk : IntKind.i64.wrap ((k : Int) + 1) = (k : Int) + 1 := IntWalk.i64_in _ (by have := HN.out.2.2.1; omega)
      obtain ⟨t0, t1, t2⟩ := t
      dsimp only at *
      have HK := Lib.hid (And.intro hlt (And.intro hg hb))
      clear hlt hg hb ht hk
      go_wp2_with fail
      go_quiet (fail)
      go_wp2_with fail
      go_roundg (n - (k + 1))
      case measure => have := HK.out; omega
      case rel => exact ⟨k + 1, by push_cast; rfl, by have := HK.out; omega, rfl, below_drewN HK.out.2.2 _⟩
    · obtain rfl : k = n := by omega
      have HK := Lib.hid hb
      clear hk hg hlt hb
      go_wp2_with fail
      go_ret
      exact ⟨rfl, HK.out⟩

theorem res_ab : resOf [97, 45, 62, 98] = ([(0, [97], 0), (2, [45, 62], 1), (0, [98], 3), (3, [], 4)], 0, 0) := by
  refine res_of_ok (by decide) ?_
  rw [show lexR [97, 45, 62, 98] 0 = (lexR [45, 62, 98] 1).push (0, [97], 0) from lexR_here rfl rfl rfl,
    show lexR [45, 62, 98] 1 = (lexR [98] 3).push (2, [45, 62], 1) from lexR_here rfl rfl rfl,
    show lexR [98] 3 = (lexR [] 4).push (0, [98], 3) from lexR_here rfl rfl rfl, lexR_nil]
  rfl
theorem res_e : resOf [195, 169] = ([], 10, 0) := res_of_bad (by decide) (lexR_fault rfl rfl rfl)
theorem name_ab : isName [97, 98] = true := by decide
theorem key_proto : isKey [112, 114, 111, 116, 111] = true := by decide

set_option maxRecDepth 10000 in
set_option maxHeartbeats 8000000 in
theorem awake_yes (w : World) (ht : Tabs w) : Calls Tryd.prog 10 #[] w fun e w' => e = .returned (.bool true) ∧ Below w.heap.size w w' := by
  have ta := fun w' (h : Below w.heap.size w w') => tokens_res ⟨#[97, 45, 62, 98]⟩ w' (ht.below h).1
  have te := fun w' (h : Below w.heap.size w w') => tokens_res ⟨#[195, 169]⟩ w' (ht.below h).1
  have na := fun w' (h : Below w.heap.size w w') => name_any ⟨#[97, 98]⟩ w' (by decide) (ht.below h).2
  have ke := fun w' (h : Below w.heap.size w w') => key_any ⟨#[112, 114, 111, 116, 111]⟩ w' (ht.below h).2
  rw [show resOf (⟨#[97, 45, 62, 98]⟩ : ByteArray).data.toList = ([(0, [97], 0), (2, [45, 62], 1), (0, [98], 3), (3, [], 4)], 0, 0) from res_ab] at ta
  rw [show resOf (⟨#[195, 169]⟩ : ByteArray).data.toList = ([], 10, 0) from res_e] at te
  rw [show isName (⟨#[97, 98]⟩ : ByteArray).data.toList = true from name_ab] at na
  rw [show isKey (⟨#[112, 114, 111, 116, 111]⟩ : ByteArray).data.toList = true from key_proto] at ke
  have TA := Lib.hid ta
  have TE := Lib.hid te
  have NA := Lib.hid na
  have KE := Lib.hid ke
  clear ta te na ke ht
  go_enter Tryd.func10, Tryd.ntmps10
  go_upto_region 2 with (go_at_call 11; (with_reducible refine (TA.out _ (Below.refl _ _)).mono ?_); rintro e w1 ⟨A, c, rfl, hT, hb⟩)
  (try dsimp only at hT hb)
  have F1 := Blk.start w1 #[.int .i64 0, .int .i64 0] 26
  have a1 := below_alloc1 w1 (.cells #[.int .i64 0, .int .i64 0] 26)
  have HB := Lib.hid (And.intro (hb.trans (a1.mono hb.size)) (And.intro F1 (hT.below a1)))
  clear hT hb F1 a1
  generalize w1.heap.size = bf at *
  generalize w1.alloc (.cells #[.int .i64 0, .int .i64 0] 26) = w2 at *
  go_upto_region 3 with (go_at_call 11; (with_reducible refine (TE.out _ HB.out.1).mono ?_); rintro e w3 ⟨A2, c2, rfl, hT2, hb2⟩)
  (try dsimp only at hT2 hb2)
  have F2 := Blk.start w3 #[.int .i64 10, .int .i64 0] 26
  have a2 := below_alloc1 w3 (.cells #[.int .i64 10, .int .i64 0] 26)
  have b2 := hb2.trans (a2.mono hb2.size)
  have HB2 := Lib.hid (And.intro (HB.out.1.trans (b2.mono HB.out.1.size)) (And.intro (HB.out.2.1.keep b2) (And.intro (HB.out.2.2.below b2) F2)))
  clear hT2 hb2 F2 a2 b2
  generalize w3.heap.size = bg at *
  generalize w3.alloc (.cells #[.int .i64 10, .int .i64 0] 26) = w4 at *
  obtain ⟨Az, cz, eq, _, _, hr⟩ := HB2.out.2.2.1
  obtain ⟨rfl, _, rfl⟩ : A = Az ∧ (4 : Nat) = 4 ∧ c = cz := by injection eq with a b c; exact ⟨a, rfl, c⟩
  obtain ⟨ad, rfl, _, hc⟩ := hr.2 (by decide)
  have c1 : w4.cell? ⟨ad.block, ad.off + 3 + 1, none⟩ = some (txt [45, 62]) := by
    have := hc 4 (txt [45, 62]) rfl
    rwa [show ad.add 4 = ⟨ad.block, ad.off + 3 + 1, none⟩ from rfl] at this
  have c3 : w4.cell? ⟨ad.block, ad.off + 9, none⟩ = some (.int .i64 3) := hc 9 (.int .i64 3) rfl
  have f0 := HB2.out.2.1.cell 0
  have f1 := HB2.out.2.1.cell 1
  have g0 := HB2.out.2.2.2.cell 0
  have g1 := HB2.out.2.2.2.cell 1
  clear hr hc eq
  go_wp2_with (first | (go_at_call 16; (with_reducible refine (NA.out _ HB2.out.1).mono ?_); rintro e w5 ⟨rfl, rfl⟩) | (go_at_call 14; (with_reducible refine (KE.out _ HB2.out.1).mono ?_); rintro e w5 ⟨rfl, rfl⟩))
  go_ret
  exact ⟨rfl, HB2.out.1⟩
end Go.Proofs.YtmmlmbfnabgobaaDoor
