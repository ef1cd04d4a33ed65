/-
  The walks of the library's IndexFunc, ContainsFunc, Clone on rows of terms. (Template: by-name.py fills it; gen/genGauH.py writes it.)
-/
import Derived.Test.YtkinbbhbencipaaJE
import Derived.Test.YtkinbbhbencipaaJGauG
namespace Go.Proofs.Ytkinbbhbencipaa
open Go.RowKit

/-- Where the first one stands, or -1. -/
def IdxOf (pr : Trm → Bool) (ts : List Trm) (z : Int) : Prop :=
  (z = -1 ∧ ts.any pr = false) ∨ ∃ k : Nat, z = k ∧ (∃ t, ts[k]? = some t ∧ pr t = true) ∧ (ts.take k).any pr = false
def IdxPut (w : World) (pr : Trm → Bool) (ts : List Trm) (e : Ending) (w' : World) : Prop := ∃ z : Int, e = .returned (.int .i64 z) ∧ IdxOf pr ts z ∧ Below w.heap.size w w'

theorem IdxOf.has {pr : Trm → Bool} {ts : List Trm} {z : Int} (h : IdxOf pr ts z) : decide (0 ≤ z) = ts.any pr := by
  rcases h with ⟨rfl, h⟩ | ⟨k, rfl, ⟨t, ht, hp⟩, _⟩
  · rw [h]; rfl
  · rw [List.any_eq_true.2 ⟨t, List.mem_of_getElem? ht, hp⟩]
    exact decide_eq_true (by omega)
theorem any_take {pr : Trm → Bool} {l : List Trm} {k : Nat} {t : Trm} (hk : l[k]? = some t) (h : (l.take k).any pr = false) : (l.take (k + 1)).any pr = pr t := by
  rw [List.take_add_one, hk, List.any_append, h, Bool.false_or]
  simp

def prWrong (t : Trm) : Bool := !rightT t.1 t.2.1 t.2.2
def prHas (i : Int) (t : Trm) : Bool := (atL t.1 i).1 != 0
def prK (t : Trm) : Bool := t.2.1 != 0

set_option maxRecDepth 10000 in
set_option maxHeartbeats 2000000 in
theorem index1_any (w : World) (vs : Value) (ts : List Trm) (hw : ∀ t ∈ ts, Wide t.1 ∧ Bd t.2) (h : TermsAt w vs ts) :
    Calls Try.prog 37 #[vs, .func (.func 35) #[] #[]] w (IdxPut w prWrong ts) := by
  obtain ⟨A, c, rs, rfl, h2, h3, h4, h5, h6⟩ := h
  obtain ⟨n, hn⟩ : ∃ n, n = ts.length := ⟨_, rfl⟩
  have hrn : rs.length = n := by rw [hn, ← h4, List.length_map]
  have hmx : n ≤ 9223372036854775807 := by unfold maxLen at h3; omega
  rw [← hn] at h2 h5 ⊢
  have fn : ∀ (wx : World) (v : Value) (t : Trm), Below w.heap.size w wx → t ∈ ts → RatsAt wx v t.1 → Calls Try.prog 35 #[.agg #[v, .int .i64 t.2.1, .int .i64 t.2.2]] wx fun r w' => r = .returned (.bool (prWrong t)) ∧ Below wx.heap.size wx w' :=
    fun wx v t _ ht hr => solve1_any wx v t.1 t.2.1 t.2.2 hr (hw t ht).1 (hw t ht).2
  have HN := Lib.hid (And.intro hrn (And.intro h4 (And.intro hmx (And.intro h6 (And.intro hn fn)))))
  have H5 := Lib.hid h5
  clear hn hrn h2 h3 h4 h5 h6 hmx fn hw
  go_enter Try.func37, Try.ntmps37
  go_wp2_with fail
  go_loopg [8] n (fun g v8 wr => ∃ k : Nat, v8 = .int .i64 k ∧ k ≤ n ∧ g = n - k ∧ (ts.take k).any prWrong = false ∧ Below w.heap.size w wr)
  case atStart => exact ⟨0, rfl, Nat.zero_le _, rfl, rfl, Below.refl _ _⟩
  case round =>
    obtain ⟨k, rfl, hk, hg, hall, hb⟩ := hrel
    by_cases hkn : k = n
    · have e : ts.take k = ts := by rw [hkn, HN.out.2.2.2.2.1]; exact List.take_length
      rw [e] at hall
      have FIN := Lib.hid (show IdxPut w prWrong ts (.returned (.int .i64 (-1))) wr from ⟨-1, rfl, .inl ⟨rfl, hall⟩, hb⟩)
      subst hkn
      clear hk hg hall hb e
      go_wp2_with fail
      go_ret
      exact FIN.out
    · have hlt : k < n := by omega
      obtain ⟨x, hx⟩ : ∃ x, rs[k]? = some x := ⟨_, List.getElem?_eq_getElem (by have := HN.out.1; omega)⟩
      obtain ⟨ad, rfl, d0, d1, d2⟩ := terms_cells H5.out hb hx (by omega)
      have hr := (HN.out.2.2.2.1 x (List.mem_of_getElem? hx)).below hb
      have hxt : ts[k]? = some x.2 := by rw [← HN.out.2.1, List.getElem?_map, hx]; rfl
      have sm := HN.out.2.2.2.2.2 wr x.1 x.2 hb (List.mem_of_getElem? hxt) hr
      have nxt := any_take (pr := prWrong) hxt hall
      have hit : prWrong x.2 = true → IdxOf prWrong ts k := fun hp => .inr ⟨k, rfl, ⟨_, hxt, hp⟩, hall⟩
      have i1 : (k : Int) < (n : Int) := by omega
      have i2 : (0 : Int) ≤ (k : Int) := by omega
      have wk : IntKind.i64.wrap ((k : Int) + 1) = (k : Int) + 1 := IntWalk.i64_in _ (by have := HN.out.2.2.1; omega)
      generalize prWrong x.2 = R at *
      obtain ⟨x1, x2, x3, x4⟩ := x
      dsimp only at *
      have HB := Lib.hid hb
      have HK := Lib.hid (And.intro hlt hg)
      have SM := Lib.hid sm
      have NX := Lib.hid (And.intro nxt hit)
      clear hr hxt nxt hit hx hkn hlt hk hg hall hb sm
      cases R
      · go_wp2_with (go_at_call 35; (with_reducible refine SM.out.mono ?_); rintro e w1 ⟨rfl, hb1⟩)
        go_roundg (n - (k + 1))
        case measure => have := HK.out; omega
        case rel => exact ⟨k + 1, by push_cast; rfl, by have := HK.out; omega, rfl, NX.out.1, HB.out.trans (hb1.mono HB.out.size)⟩
      · go_wp2_with (go_at_call 35; (with_reducible refine SM.out.mono ?_); rintro e w1 ⟨rfl, hb1⟩)
        go_ret
        exact ⟨k, rfl, NX.out.2 trivial, HB.out.trans (hb1.mono HB.out.size)⟩

set_option maxRecDepth 10000 in
set_option maxHeartbeats 2000000 in
theorem index2_any (w : World) (vs : Value) (ts : List Trm) (b : Nat) (i : Int) (hi : w.cell? ⟨b, 0, none⟩ = some (.int .i64 i)) (h : TermsAt w vs ts) :
    Calls Try.prog 37 #[vs, .func (.func 38) #[] #[.pointer (some ⟨b, 0, none⟩)]] w (IdxPut w (prHas i) ts) := by
  obtain ⟨A, c, rs, rfl, h2, h3, h4, h5, h6⟩ := h
  obtain ⟨n, hn⟩ : ∃ n, n = ts.length := ⟨_, rfl⟩
  have hrn : rs.length = n := by rw [hn, ← h4, List.length_map]
  have hmx : n ≤ 9223372036854775807 := by unfold maxLen at h3; omega
  rw [← hn] at h2 h5 ⊢
  have fn : ∀ (wx : World) (v : Value) (t : Trm), Below w.heap.size w wx → t ∈ ts → RatsAt wx v t.1 → Calls Try.prog 38 #[.agg #[v, .int .i64 t.2.1, .int .i64 t.2.2], .pointer (some ⟨b, 0, none⟩)] wx fun r w' => r = .returned (.bool ((prHas i) t)) ∧ Below wx.heap.size wx w' :=
    fun wx v t hb _ hr => solve2_any wx v t.1 t.2.1 t.2.2 i b hr ((hb.cell (World.block_lt_of_cell? _ _ hi)).trans hi)
  have HN := Lib.hid (And.intro hrn (And.intro h4 (And.intro hmx (And.intro h6 (And.intro hn fn)))))
  have H5 := Lib.hid h5
  clear hn hrn h2 h3 h4 h5 h6 hmx fn hi
  go_enter Try.func37, Try.ntmps37
  go_wp2_with fail
  go_loopg [8] n (fun g v8 wr => ∃ k : Nat, v8 = .int .i64 k ∧ k ≤ n ∧ g = n - k ∧ (ts.take k).any (prHas i) = false ∧ Below w.heap.size w wr)
  case atStart => exact ⟨0, rfl, Nat.zero_le _, rfl, rfl, Below.refl _ _⟩
  case round =>
    obtain ⟨k, rfl, hk, hg, hall, hb⟩ := hrel
    by_cases hkn : k = n
    · have e : ts.take k = ts := by rw [hkn, HN.out.2.2.2.2.1]; exact List.take_length
      rw [e] at hall
      have FIN := Lib.hid (show IdxPut w (prHas i) ts (.returned (.int .i64 (-1))) wr from ⟨-1, rfl, .inl ⟨rfl, hall⟩, hb⟩)
      subst hkn
      clear hk hg hall hb e
      go_wp2_with fail
      go_ret
      exact FIN.out
    · have hlt : k < n := by omega
      obtain ⟨x, hx⟩ : ∃ x, rs[k]? = some x := ⟨_, List.getElem?_eq_getElem (by have := HN.out.1; omega)⟩
      obtain ⟨ad, rfl, d0, d1, d2⟩ := terms_cells H5.out hb hx (by omega)
      have hr := (HN.out.2.2.2.1 x (List.mem_of_getElem? hx)).below hb
      have hxt : ts[k]? = some x.2 := by rw [← HN.out.2.1, List.getElem?_map, hx]; rfl
      have sm := HN.out.2.2.2.2.2 wr x.1 x.2 hb (List.mem_of_getElem? hxt) hr
      have nxt := any_take (pr := (prHas i)) hxt hall
      have hit : (prHas i) x.2 = true → IdxOf (prHas i) ts k := fun hp => .inr ⟨k, rfl, ⟨_, hxt, hp⟩, hall⟩
      have i1 : (k : Int) < (n : Int) := by omega
      have i2 : (0 : Int) ≤ (k : Int) := by omega
      have wk : IntKind.i64.wrap ((k : Int) + 1) = (k : Int) + 1 := IntWalk.i64_in _ (by have := HN.out.2.2.1; omega)
      generalize (prHas i) x.2 = R at *
      obtain ⟨x1, x2, x3, x4⟩ := x
      dsimp only at *
      have HB := Lib.hid hb
      have HK := Lib.hid (And.intro hlt hg)
      have SM := Lib.hid sm
      have NX := Lib.hid (And.intro nxt hit)
      clear hr hxt nxt hit hx hkn hlt hk hg hall hb sm
      cases R
      · go_wp2_with (go_at_call 38; (with_reducible refine SM.out.mono ?_); rintro e w1 ⟨rfl, hb1⟩)
        go_roundg (n - (k + 1))
        case measure => have := HK.out; omega
        case rel => exact ⟨k + 1, by push_cast; rfl, by have := HK.out; omega, rfl, NX.out.1, HB.out.trans (hb1.mono HB.out.size)⟩
      · go_wp2_with (go_at_call 38; (with_reducible refine SM.out.mono ?_); rintro e w1 ⟨rfl, hb1⟩)
        go_ret
        exact ⟨k, rfl, NX.out.2 trivial, HB.out.trans (hb1.mono HB.out.size)⟩

set_option maxRecDepth 10000 in
set_option maxHeartbeats 2000000 in
theorem index3_any (w : World) (vs : Value) (ts : List Trm) (h : TermsAt w vs ts) :
    Calls Try.prog 37 #[vs, .func (.func 44) #[] #[]] w (IdxPut w prK ts) := by
  obtain ⟨A, c, rs, rfl, h2, h3, h4, h5, h6⟩ := h
  obtain ⟨n, hn⟩ : ∃ n, n = ts.length := ⟨_, rfl⟩
  have hrn : rs.length = n := by rw [hn, ← h4, List.length_map]
  have hmx : n ≤ 9223372036854775807 := by unfold maxLen at h3; omega
  rw [← hn] at h2 h5 ⊢
  have fn : ∀ (wx : World) (v : Value) (t : Trm), Below w.heap.size w wx → t ∈ ts → RatsAt wx v t.1 → Calls Try.prog 44 #[.agg #[v, .int .i64 t.2.1, .int .i64 t.2.2]] wx fun r w' => r = .returned (.bool (prK t)) ∧ Below wx.heap.size wx w' :=
    fun wx v t _ _ hr => solve3_any wx v t.1 t.2.1 t.2.2 hr
  have HN := Lib.hid (And.intro hrn (And.intro h4 (And.intro hmx (And.intro h6 (And.intro hn fn)))))
  have H5 := Lib.hid h5
  clear hn hrn h2 h3 h4 h5 h6 hmx fn
  go_enter Try.func37, Try.ntmps37
  go_wp2_with fail
  go_loopg [8] n (fun g v8 wr => ∃ k : Nat, v8 = .int .i64 k ∧ k ≤ n ∧ g = n - k ∧ (ts.take k).any prK = false ∧ Below w.heap.size w wr)
  case atStart => exact ⟨0, rfl, Nat.zero_le _, rfl, rfl, Below.refl _ _⟩
  case round =>
    obtain ⟨k, rfl, hk, hg, hall, hb⟩ := hrel
    by_cases hkn : k = n
    · have e : ts.take k = ts := by rw [hkn, HN.out.2.2.2.2.1]; exact List.take_length
      rw [e] at hall
      have FIN := Lib.hid (show IdxPut w prK ts (.returned (.int .i64 (-1))) wr from ⟨-1, rfl, .inl ⟨rfl, hall⟩, hb⟩)
      subst hkn
      clear hk hg hall hb e
      go_wp2_with fail
      go_ret
      exact FIN.out
    · have hlt : k < n := by omega
      obtain ⟨x, hx⟩ : ∃ x, rs[k]? = some x := ⟨_, List.getElem?_eq_getElem (by have := HN.out.1; omega)⟩
      obtain ⟨ad, rfl, d0, d1, d2⟩ := terms_cells H5.out hb hx (by omega)
      have hr := (HN.out.2.2.2.1 x (List.mem_of_getElem? hx)).below hb
      have hxt : ts[k]? = some x.2 := by rw [← HN.out.2.1, List.getElem?_map, hx]; rfl
      have sm := HN.out.2.2.2.2.2 wr x.1 x.2 hb (List.mem_of_getElem? hxt) hr
      have nxt := any_take (pr := prK) hxt hall
      have hit : prK x.2 = true → IdxOf prK ts k := fun hp => .inr ⟨k, rfl, ⟨_, hxt, hp⟩, hall⟩
      have i1 : (k : Int) < (n : Int) := by omega
      have i2 : (0 : Int) ≤ (k : Int) := by omega
      have wk : IntKind.i64.wrap ((k : Int) + 1) = (k : Int) + 1 := IntWalk.i64_in _ (by have := HN.out.2.2.1; omega)
      generalize prK x.2 = R at *
      obtain ⟨x1, x2, x3, x4⟩ := x
      dsimp only at *
      have HB := Lib.hid hb
      have HK := Lib.hid (And.intro hlt hg)
      have SM := Lib.hid sm
      have NX := Lib.hid (And.intro nxt hit)
      clear hr hxt nxt hit hx hkn hlt hk hg hall hb sm
      cases R
      · go_wp2_with (go_at_call 44; (with_reducible refine SM.out.mono ?_); rintro e w1 ⟨rfl, hb1⟩)
        go_roundg (n - (k + 1))
        case measure => have := HK.out; omega
        case rel => exact ⟨k + 1, by push_cast; rfl, by have := HK.out; omega, rfl, NX.out.1, HB.out.trans (hb1.mono HB.out.size)⟩
      · go_wp2_with (go_at_call 44; (with_reducible refine SM.out.mono ?_); rintro e w1 ⟨rfl, hb1⟩)
        go_ret
        exact ⟨k, rfl, NX.out.2 trivial, HB.out.trans (hb1.mono HB.out.size)⟩

set_option maxHeartbeats 1000000 in
theorem contains1_any (w : World) (vs : Value) (ts : List Trm) (hw : ∀ t ∈ ts, Wide t.1 ∧ Bd t.2) (h : TermsAt w vs ts) :
    Calls Try.prog 34 #[vs, .func (.func 35) #[] #[]] w fun r w' => r = .returned (.bool (ts.any prWrong)) ∧ Below w.heap.size w w' := by
  have ix := index1_any w vs ts hw h
  clear h hw
  go_enter Try.func34, Try.ntmps34
  go_wp2_with (go_at_call 37; (with_reducible refine ix.mono ?_); rintro e w1 ⟨z, rfl, hz, hb⟩)
  go_ret
  exact ⟨by rw [← hz.has]; rfl, hb⟩

set_option maxHeartbeats 1000000 in
theorem contains3_any (w : World) (vs : Value) (ts : List Trm) (h : TermsAt w vs ts) :
    Calls Try.prog 34 #[vs, .func (.func 44) #[] #[]] w fun r w' => r = .returned (.bool (ts.any prK)) ∧ Below w.heap.size w w' := by
  have ix := index3_any w vs ts h
  clear h
  go_enter Try.func34, Try.ntmps34
  go_wp2_with (go_at_call 37; (with_reducible refine ix.mono ?_); rintro e w1 ⟨z, rfl, hz, hb⟩)
  go_ret
  exact ⟨by rw [← hz.has]; rfl, hb⟩

theorem infoT : (Try.prog.info? 27).map (fun i => (i.zero, i.size, i.bytes)) = some (some (.agg #[.slice none 0 0, .int .i64 0, .int .i64 0]), 3, 40) := by kernel_rfl

theorem tnil_no (w : World) (ad : Addr) (n c : Nat) : (binOp .eql 47 (.slice (some ad) n c) (.slice none 0 0)).run Try.prog w = .ok (.bool false) w := by kernel_rfl
theorem tnil_yes (w : World) (n c : Nat) : (binOp .eql 47 (.slice none n c) (.slice none 0 0)).run Try.prog w = .ok (.bool true) w := by kernel_rfl
theorem own_emptyT (w : World) : (w.alloc (.cells #[] 27)).ownsRow w.heap.size 27 3 (.slice (some ⟨w.heap.size, 0, none⟩) 0 0) 0 [] :=
  ⟨rfl, .inr ⟨w.heap.size, 0, #[], rfl, Nat.le_refl _, heap_alloc_new w _, Nat.le_refl _, by decide, rfl, rfl⟩⟩

/-- A row of terms that a call answers, in its own memory; what stands in it lies in older memory. -/
def TermsNew (w : World) (ts : List Trm) (e : Ending) (w' : World) : Prop := ∃ A c, e = .returned (.slice A ts.length c) ∧ OwnT w' w.heap.size (.slice A ts.length c) ts (fun b => w.heap.size ≤ b) ∧ Below w.heap.size w w'

set_option maxRecDepth 10000 in
set_option maxHeartbeats 2000000 in
theorem tclone_any (w : World) (v : Value) (ts : List Trm) (h : TermsAt w v ts) (hl : ts.length ≤ 1000) :
    Calls Try.prog 36 #[v] w (TermsNew w ts) := by
  obtain ⟨i0, hi, hz0, hz1, hz2⟩ := info_parts infoT
  obtain ⟨A, c, rs, rfl, h2, h3, h4, h5, h6⟩ := h
  rcases A with _ | ad
  · have hn : ts = [] := by
      rcases Nat.eq_zero_or_pos ts.length with h0 | h0
      · exact List.eq_nil_of_length_eq_zero h0
      · obtain ⟨_, e, _⟩ := h5.2 h0
        cases e
    subst hn
    have hq := tnil_yes w 0 c
    clear h2 h3 h4 h5 h6 hl
    go_enter Try.func36, Try.ntmps36
    go_wp2_with fail
    go_ret
    exact ⟨_, _, rfl, OwnT.nil w _ _, Below.refl _ _⟩
  · have hq := tnil_no w ad ts.length c
    have one : ∀ u ∈ termCells rs, u.oneCell' = true := termCells_one rs fun x hx => by
      obtain ⟨A', c', e⟩ := rats_shape (h6 x hx)
      exact ⟨_, _, _, e⟩
    have ON := Lib.hid (And.intro one (And.intro h4 (And.intro h6 hl)))
    clear one h4 h6 hl
    go_enter Try.func36, Try.ntmps36
    go_wp2_with (at_builtin; refine wpList_append_any _ rfl _ _ 47 rfl w.heap.size 27 i0 (.agg #[.slice none 0 0, .int .i64 0, .int .i64 0]) 3 40 Try.underlying47 hi hz0 hz1 hz2 rfl (by decide) _ 0 [] rfl (own_emptyT w) w.heap.size (some ad) _ c _ rfl (h5.alloc (Nat.le_refl _) _) ?c2 ?c3 ?c4 ?c5 ?_)
    case c2 => exact ON.out.1
    case c3 => have := ON.out.2.2.2; unfold maxLen; omega
    case c4 => have := ON.out.2.2.2; omega
    case c5 => simp
    intro v' w1 hown' hgrow _
    have hown2 : w1.ownsRow w.heap.size 27 3 v' ts.length (termCells rs) := by simpa using hown'
    have hb : Below w.heap.size w w1 := by
      refine (below_alloc1 w _).grown hgrow (by simp) (fun k hk => ?_)
      have e : w.heap.size = k := by simpa [Value.ownBlock] using hk
      omega
    have hT : OwnT w1 w.heap.size v' ts (fun b => w.heap.size ≤ b) := by
      refine ⟨rs, ON.out.2.1, hown2, fun x hx => ⟨(ON.out.2.2.1 x hx).below hb, fun hl b hb' q => ?_⟩⟩
      have := (ON.out.2.2.1 x hx).lt hl b hb'
      omega
    obtain ⟨A', c', e', hT'⟩ : ∃ A' c', v' = .slice A' ts.length c' ∧ OwnT w1 w.heap.size (.slice A' ts.length c') ts (fun b => w.heap.size ≤ b) := by
      obtain ⟨A', c', _, e, _⟩ := hT.terms
      exact ⟨A', c', e, e ▸ hT⟩
    subst e'
    have FIN := Lib.hid (And.intro hT' hb)
    clear hown' hown2 hgrow hb h5 hq hT hT'
    go_wp2_with fail
    go_ret
    exact ⟨_, _, rfl, FIN.out.1, FIN.out.2⟩
end Go.Proofs.Ytkinbbhbencipaa
