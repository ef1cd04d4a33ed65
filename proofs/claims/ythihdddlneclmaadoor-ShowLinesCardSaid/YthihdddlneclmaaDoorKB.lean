/-
  Plain: a tree's parents; a walk has each node once. (Template: by-name.py fills it.)
-/
import Derived.Test.YthihdddlneclmaaDoorKA
import Derived.BigQuiet
import Derived.Deep.QuietTactic
import Derived.Test.YthihdddlneclmaaDoorShelf
import Derived.Laws.CopyOwn
import Derived.Deep.LoopGhost
namespace Go.Proofs.YthihdddlneclmaaDoor
open Go.RowKit

theorem all_snoc {α : Type} {f : α → Bool} {l : List α} {k : Nat} {x : α} (hk : l[k]? = some x) (h : (l.take k).all f = true) : (l.take (k + 1)).all f = f x := by
  rw [List.take_add_one, hk, List.all_append, h, Bool.true_and]
  simp
theorem all_not {α : Type} {f : α → Bool} {l : List α} {k : Nat} {x : α} (hk : l[k]? = some x) (h : f x = false) : l.all f = false := by
  rw [List.all_eq_false]
  exact ⟨x, List.mem_of_getElem? hk, by rw [h]; decide⟩

set_option maxHeartbeats 2000000 in
theorem numbers_any (w : World) (v : Value) (l : List Int) (h : IntsL w v l) :
    Calls Tryd.prog 24 #[v] w fun e w' => e = .returned (.bool (numbersB l)) ∧ w = w' := by
  obtain ⟨A, cp, rfl, h2, h3, h4⟩ := h
  obtain ⟨n, hn⟩ : ∃ n, n = l.length := ⟨_, rfl⟩
  have hmx : n ≤ 9223372036854775807 := by unfold maxLen at h3; omega
  rw [← hn] at h2 h4 ⊢
  have HN := Lib.hid (And.intro hn hmx)
  have H4 := Lib.hid h4
  clear hn h2 h3 h4 hmx
  go_enter Tryd.func24, Tryd.ntmps24
  go_wp2_with fail
  go_loopg [7] n (fun g v7 wr => w = wr ∧ ∃ k : Nat, v7 = .int .i64 k ∧ k ≤ n ∧ g = n - k ∧ numbersB (l.take k) = true)
  case atStart => exact ⟨rfl, 0, rfl, Nat.zero_le _, rfl, rfl⟩
  case round =>
    obtain ⟨rfl, k, rfl, hk, hg, hall⟩ := hrel
    by_cases hkn : k = n
    · have e : l.take k = l := by rw [hkn, HN.out.1]; exact List.take_length
      rw [e] at hall
      have FIN := Lib.hid hall
      subst hkn
      clear hk hg hall e
      go_wp2_with fail
      go_ret
      exact ⟨by rw [FIN.out]; rfl, rfl⟩
    · have hlt : k < n := by omega
      obtain ⟨x, hx⟩ : ∃ x, l[k]? = some x := ⟨_, List.getElem?_eq_getElem (by have := HN.out.1; omega)⟩
      obtain ⟨ad, rfl, d0⟩ := ints_at H4.out (Below.refl _ _) hx (by omega)
      have nxt : numbersB (l.take (k + 1)) = _ := all_snoc hx hall
      have bad : _ → numbersB l = false := all_not hx
      have i1 : (k : Int) < (n : Int) := by omega
      have i2 : (0 : Int) ≤ (k : Int) := by omega
      have wk : IntKind.i64.wrap ((k : Int) + 1) = (k : Int) + 1 := IntWalk.i64_in _ (by have := HN.out.2; omega)
      have HK := Lib.hid (And.intro hlt hg)
      have NX := Lib.hid (And.intro nxt bad)
      clear nxt bad hx hkn hlt hk hg hall
      by_cases q1 : x < 0
      · have e : numbersB l = false := NX.out.2 (by rw [decide_eq_false (show ¬ 0 ≤ x by omega)]; rfl)
        have FIN := Lib.hid e
        clear e
        go_wp2_with fail
        go_ret
        exact ⟨by rw [FIN.out]; rfl, rfl⟩
      · by_cases q2 : 1000000000000000000 ≤ x
        · have e : numbersB l = false := NX.out.2 (by rw [decide_eq_false (show ¬ x < 1000000000000000000 by omega), Bool.and_false])
          have FIN := Lib.hid e
          clear e
          go_wp2_with fail
          go_ret
          exact ⟨by rw [FIN.out]; rfl, rfl⟩
        · have e := Lib.hid (NX.out.1.trans (by rw [decide_eq_true (show 0 ≤ x by omega), decide_eq_true (show x < 1000000000000000000 by omega)]; rfl : _ = true))
          go_wp2_with fail
          go_roundg (n - (k + 1))
          case measure => have := HK.out; omega
          case rel => exact ⟨rfl, k + 1, by push_cast; rfl, by have := HK.out; omega, rfl, e.out⟩

set_option maxHeartbeats 2000000 in
theorem names_any (w : World) (v : Value) (l : List (List UInt8)) (h : StrsL w v l) (ht : StrRow w 3 keysL) :
    Calls Tryd.prog 23 #[v] w fun e w' => e = .returned (.bool (namesB l)) ∧ w = w' := by
  obtain ⟨A, cp, rfl, h2, h3, h4, h5⟩ := h
  obtain ⟨n, hn⟩ : ∃ n, n = l.length := ⟨_, rfl⟩
  have hmx : n ≤ 9223372036854775807 := by unfold maxLen at h3; omega
  rw [← hn] at h2 h4 ⊢
  have HN := Lib.hid (And.intro hn (And.intro hmx (And.intro h5 ht)))
  have H4 := Lib.hid h4
  clear hn h2 h3 h4 hmx h5 ht
  go_enter Tryd.func23, Tryd.ntmps23
  go_wp2_with fail
  go_loopg [7] n (fun g v7 wr => w = wr ∧ ∃ k : Nat, v7 = .int .i64 k ∧ k ≤ n ∧ g = n - k ∧ namesB (l.take k) = true)
  case atStart => exact ⟨rfl, 0, rfl, Nat.zero_le _, rfl, rfl⟩
  case round =>
    obtain ⟨rfl, k, rfl, hk, hg, hall⟩ := hrel
    by_cases hkn : k = n
    · have e : l.take k = l := by rw [hkn, HN.out.1]; exact List.take_length
      rw [e] at hall
      have FIN := Lib.hid hall
      subst hkn
      clear hk hg hall e
      go_wp2_with fail
      go_ret
      exact ⟨by rw [FIN.out]; rfl, rfl⟩
    · have hlt : k < n := by omega
      obtain ⟨x, hx⟩ : ∃ x, l[k]? = some x := ⟨_, List.getElem?_eq_getElem (by have := HN.out.1; omega)⟩
      obtain ⟨ad, rfl, d0⟩ := strs_at H4.out (Below.refl _ _) hx (by omega)
      have nxt : namesB (l.take (k + 1)) = isName x := all_snoc hx hall
      have bad : isName x = false → namesB l = false := all_not hx
      have na := name_any ⟨x.toArray⟩ w (by show x.toArray.size ≤ maxLen; simpa using HN.out.2.2.1 x (List.mem_of_getElem? hx)) HN.out.2.2.2
      have na : Calls Tryd.prog 33 #[txt x] w (Still w (.bool (isName x))) := by simpa using na
      have i1 : (k : Int) < (n : Int) := by omega
      have i2 : (0 : Int) ≤ (k : Int) := by omega
      have wk : IntKind.i64.wrap ((k : Int) + 1) = (k : Int) + 1 := IntWalk.i64_in _ (by have := HN.out.2.1; omega)
      have HK := Lib.hid (And.intro hlt hg)
      have NX := Lib.hid (And.intro nxt bad)
      have NA := Lib.hid na
      clear nxt bad hx hkn hlt hk hg hall na
      generalize isName x = B at *
      cases B
      · have FIN := Lib.hid (NX.out.2 rfl)
        go_wp2_with (go_at_call 33; (with_reducible refine NA.out.mono ?_); rintro e1 w1 ⟨rfl, rfl⟩)
        go_ret
        exact ⟨by rw [FIN.out]; rfl, rfl⟩
      · go_wp2_with (go_at_call 33; (with_reducible refine NA.out.mono ?_); rintro e1 w1 ⟨rfl, rfl⟩)
        go_roundg (n - (k + 1))
        case measure => have := HK.out; omega
        case rel => exact ⟨rfl, k + 1, by push_cast; rfl, by have := HK.out; omega, rfl, NX.out.1⟩

/-- A node as a value. -/
def ndV (x : NdV × Nd) : Value := .agg #[.int .i64 x.2.kind, x.1.1, x.1.2.1, x.1.2.2, .int .i64 x.2.pos]
set_option maxHeartbeats 1000000 in
theorem has_any (w : World) (x : NdV × Nd) (a b : Nat) (h : NdAt w x) :
    Calls Tryd.prog 35 #[ndV x, .int .i64 a, .int .i64 b] w fun e w' => e = .returned (.bool (hasB x.2 a b)) ∧ Below w.heap.size w w' := by
  obtain ⟨⟨A, c, e1, _⟩, ⟨A2, c2, e2, _⟩, A3, c3, e3, _⟩ := h
  obtain ⟨⟨v1, v2, v3⟩, kd, ws, ns, ks, ps⟩ := x
  dsimp only at e1 e2 e3
  subst e1 e2 e3
  unfold ndV hasB
  dsimp only
  have hb := Lib.hid (below_alloc1 w (.cells #[.int .i64 kd, .slice A ws.length c, .slice A2 ns.length c2, .slice A3 ks.length c3, .int .i64 ps] 30))
  by_cases q : ws.length = a
  · have t1 : ((ws.length : Int) == (a : Int)) = true := by rw [q]; exact beq_self_eq_true _
    by_cases q2 : ns.length = b
    · have t2 : ((ns.length : Int) == (b : Int)) = true := by rw [q2]; exact beq_self_eq_true _
      have Q := Lib.hid (And.intro q q2)
      clear q q2
      go_enter Tryd.func35, Tryd.ntmps35
      go_wp2_with fail
      go_ret
      exact ⟨by rw [decide_eq_true Q.out.1, decide_eq_true Q.out.2]; rfl, hb.out⟩
    · have t2 : ((ns.length : Int) == (b : Int)) = false := by simpa using fun e => q2 (by omega)
      have Q := Lib.hid (And.intro q q2)
      clear q q2
      go_enter Tryd.func35, Tryd.ntmps35
      go_wp2_with fail
      go_ret
      exact ⟨by rw [decide_eq_true Q.out.1, decide_eq_false Q.out.2]; rfl, hb.out⟩
  · have t1 : ((ws.length : Int) == (a : Int)) = false := by simpa using fun e => q (by omega)
    have Q := Lib.hid q
    clear q
    go_enter Tryd.func35, Tryd.ntmps35
    go_wp2_with fail
    go_ret
    exact ⟨by rw [decide_eq_false Q.out]; rfl, hb.out⟩

/-! ### Numbers in a list -/
theorem int_snoc {l : List Int} {k : Nat} {x c : Int} (hk : l[k]? = some x) (h : (l.take k).contains c = false) : (l.take (k + 1)).contains c = (c == x) := by
  rw [List.take_add_one, hk, List.contains_eq_any_beq, List.any_append, ← List.contains_eq_any_beq, h, Bool.false_or]
  simp
set_option maxHeartbeats 2000000 in
theorem tidx_any (w : World) (v : Value) (l : List Int) (c : Int) (h : IntsL w v l) :
    Calls Tryd.prog 74 #[v, .int .i64 c] w fun e w' => (∃ z : Int, e = .returned (.int .i64 z) ∧ decide (0 ≤ z) = l.contains c) ∧ w = w' := by
  obtain ⟨A, cp, rfl, h2, h3, h4⟩ := h
  obtain ⟨n, hn⟩ : ∃ n, n = l.length := ⟨_, rfl⟩
  have hmx : n ≤ 9223372036854775807 := by unfold maxLen at h3; omega
  rw [← hn] at h2 h4 ⊢
  have HN := Lib.hid (And.intro hn hmx)
  have H4 := Lib.hid h4
  clear hn h2 h3 h4 hmx
  go_enter Tryd.func74, Tryd.ntmps74
  go_wp2_with fail
  go_loopg [8] n (fun g v8 wr => w = wr ∧ ∃ k : Nat, v8 = .int .i64 k ∧ k ≤ n ∧ g = n - k ∧ (l.take k).contains c = false)
  case atStart => exact ⟨rfl, 0, rfl, Nat.zero_le _, rfl, rfl⟩
  case round =>
    obtain ⟨rfl, k, rfl, hk, hg, hall⟩ := hrel
    by_cases hkn : k = n
    · have e : l.take k = l := by rw [hkn, HN.out.1]; exact List.take_length
      rw [e] at hall
      have FIN := Lib.hid (show decide ((0 : Int) ≤ -1) = l.contains c from by rw [hall]; rfl)
      subst hkn
      clear hk hg hall e
      go_wp2_with fail
      go_ret
      exact ⟨⟨_, rfl, FIN.out⟩, rfl⟩
    · have hlt : k < n := by omega
      obtain ⟨x, hx⟩ : ∃ x, l[k]? = some x := ⟨_, List.getElem?_eq_getElem (by have := HN.out.1; omega)⟩
      obtain ⟨ad, rfl, d0⟩ := ints_at H4.out (Below.refl _ _) hx (by omega)
      have nxt := int_snoc (c := c) hx hall
      have hit : (c == x) = true → decide ((0 : Int) ≤ (k : Int)) = l.contains c := fun q => by
        have q : c = x := by simpa using q
        rw [show l.contains c = true by rw [q]; simpa using List.mem_of_getElem? hx]
        exact decide_eq_true (by omega)
      have i1 : (k : Int) < (n : Int) := by omega
      have i2 : (0 : Int) ≤ (k : Int) := by omega
      have wk : IntKind.i64.wrap ((k : Int) + 1) = (k : Int) + 1 := IntWalk.i64_in _ (by have := HN.out.2; omega)
      have HK := Lib.hid (And.intro hlt hg)
      have NX := Lib.hid (And.intro nxt hit)
      clear nxt hit hx hkn hlt hk hg hall
      cases hq : (c == x)
      · go_wp2_with fail
        go_roundg (n - (k + 1))
        case measure => have := HK.out; omega
        case rel => exact ⟨rfl, k + 1, by push_cast; rfl, by have := HK.out; omega, rfl, NX.out.1.trans hq⟩
      · go_wp2_with fail
        go_ret
        exact ⟨⟨_, rfl, NX.out.2 hq⟩, rfl⟩
set_option maxHeartbeats 1000000 in
theorem tcon_any (w : World) (v : Value) (l : List Int) (c : Int) (h : IntsL w v l) :
    Calls Tryd.prog 58 #[v, .int .i64 c] w fun e w' => e = .returned (.bool (l.contains c)) ∧ w = w' := by
  have ix := tidx_any w v l c h
  clear h
  go_enter Tryd.func58, Tryd.ntmps58
  go_wp2_with (go_at_call 74; (with_reducible refine ix.mono ?_); rintro e w1 ⟨⟨z, rfl, hz⟩, rfl⟩; have HZ := Lib.hid hz; clear hz)
  go_ret
  exact ⟨by rw [← HZ.out]; rfl, rfl⟩
end Go.Proofs.YthihdddlneclmaaDoor

namespace Go.Proofs.YthihdddlneclmaaDoor
open Go.RowKit

theorem cpy_run {P : Program} (w : World) (dT sT ty elem : TypeId) (g o dLen dCap : Nat) (a : Addr) (sLen sCap size n : Nat) (cur : Array Value) (t : TypeId) (cs : List Value)
    (hu : P.underlying dT = some (.slice elem)) (hs : (P.info? elem).map (·.size) = some size)
    (hg : w.heap[g]? = some (.cells cur t (0, 0))) (hn : n = Nat.min sLen dLen) (hc : cs.length = n * size)
    (hsrc : ∀ j v, cs[j]? = some v → w.cell? (a.add j) = some v) (hfit : o + cs.length ≤ cur.size) (h1 : ∀ v ∈ cs, v.oneCell' = true) :
    (Builtin.copy_ #[dT, sT] ty #[.slice (some ⟨g, o, none⟩) dLen dCap, .slice (some a) sLen sCap]).run P w =
      .ok (goInt n) (w.setRow g (cur.toList.take o ++ cs ++ cur.toList.drop (o + cs.length)).toArray) := by
  have hl := run_loadCells_list (P := P) w a cs hsrc
  have hst := run_storeCells_at P g o t cs 0 cur w hg (by simpa using hfit) h1
  rw [hc] at hl
  cases hq : P.info? elem with
  | none => simp [hq] at hs
  | some i =>
    have hi : i.size = size := by simpa [hq] using hs
    simp [Builtin.copy_, run_underlying hu, Builtin.lenOf, Builtin.firstCells, sizeOf, typeInfo, hq, hi, ← hn, hl, hst]
theorem cpy_step {P : Program} {ops : Array Oper} {o : Oper} {a : Act} {w : World} {K : Act → World → Prop} {Q : Exit → Act → World → Prop} {E : Prop} (hgd : o.guard = none) (d s : Operand) (dT sT : TypeId)
    (ho : o.op = .call { callee := .builtin .copy, args := #[d, s], argTypes := #[dT, sT] }) (elem : TypeId) (size : Nat) (hu : P.underlying dT = some (.slice elem)) (hsz : (P.info? elem).map (·.size) = some size)
    (g off dLen dCap : Nat) (ad : Addr) (sLen sCap n : Nat) (hd : a.eval d = .slice (some ⟨g, off, none⟩) dLen dCap) (hs : a.eval s = .slice (some ad) sLen sCap)
    (cur : Array Value) (t : TypeId) (hg : w.heap[g]? = some (.cells cur t (0, 0))) (cs : List Value) (hn : n = Nat.min sLen dLen) (hc : cs.length = n * size)
    (hsrc : ∀ j v, cs[j]? = some v → w.cell? (ad.add j) = some v) (hfit : off + cs.length ≤ cur.size) (h1 : ∀ v ∈ cs, v.oneCell' = true)
    (h : ∀ w', w' = w.setRow g (cur.toList.take off ++ (cs ++ cur.toList.drop (off + cs.length))).toArray → K (a.put o.dst (goInt n)) w') :
    if Region.wanted o (yielded ops a.tmps) = true then Oper.wp P o a w K Q else E := by
  have hw : Region.wanted o (yielded ops a.tmps) = true := by simp [Region.wanted, hgd]
  rw [if_pos hw]
  have hrun := cpy_run (P := P) w dT sT o.type elem g off dLen dCap ad sLen sCap size n cur t cs hu hsz hg hn hc hsrc hfit h1
  unfold Oper.wp
  simp [execOp, ho, resolve, invoke, builtin, hd, hs, hrun, Result.andThen]
  exact h _ rfl
theorem row_reads {w : World} {b : Nat} {cs : Array Value} (h : Blk w b cs) (j : Nat) (v : Value) (hj : cs.toList[j]? = some v) : w.cell? ((⟨b, 0, none⟩ : Addr).add j) = some v := by
  rw [Addr.add_lit, Nat.zero_add, h.cell j]
  simpa using hj
theorem infoInt : (Tryd.prog.info? 3).map (fun i => (i.zero, i.size, i.bytes)) = some (some (.int .i64 0), 1, 8) := by kernel_rfl
theorem info_three {P : Program} {e : TypeId} {z : Value} {s b : Nat} (h : (P.info? e).map (fun i => (i.zero, i.size, i.bytes)) = some (some z, s, b)) : ∃ i, P.info? e = some i ∧ i.zero = some z ∧ i.size = s ∧ i.bytes = b := by
  cases hi : P.info? e with
  | none => rw [hi] at h; cases h
  | some i =>
    rw [hi] at h
    injection h with h
    injection h with h1 h
    injection h with h2 h3
    exact ⟨i, rfl, h1, h2, h3⟩

theorem below_drew (w : World) : Below w.heap.size w w.drew := (Below.refl _ _).drew
/-- A row of n numbers, the first k of them -1, the others 0. -/
def repC (k n : Nat) : List Value := List.replicate k (.int .i64 (-1)) ++ List.replicate (n - k) (.int .i64 0)
theorem repC_len {k n : Nat} (h : k ≤ n) : (repC k n).length = n := by
  unfold repC
  rw [List.length_append, List.length_replicate, List.length_replicate]
  omega
theorem repC_more {k d n : Nat} (h : k + d ≤ n) : (repC k n).take k ++ (List.replicate d (Value.int .i64 (-1)) ++ (repC k n).drop (k + (List.replicate d (Value.int .i64 (-1))).length)) = repC (k + d) n := by
  unfold repC
  rw [List.length_replicate, List.take_append_of_le_length (by simp), List.take_of_length_le (by simp), List.drop_append, List.drop_of_length_le (by simp), List.nil_append, List.length_replicate, List.drop_replicate, ← List.append_assoc, List.replicate_append_replicate]
  congr 2
  omega
theorem repC_at {k n j : Nat} {v : Value} {d : Nat} (hd : d ≤ k) (h : (List.replicate d (Value.int .i64 (-1)))[j]? = some v) : (repC k n).toArray.toList[j]? = some v := by
  rw [List.getElem?_replicate] at h
  split at h
  · rename_i q
    unfold repC
    rw [List.toList_toArray, List.getElem?_append_left (by rw [List.length_replicate]; omega), List.getElem?_replicate, if_pos (by omega)]
    exact h
  · cases h
theorem rep_one (d : Nat) : ∀ v ∈ List.replicate d (Value.int .i64 (-1)), v.oneCell' = true := fun v hv => by
  rw [List.eq_of_mem_replicate hv]
  rfl
theorem blk_row {w : World} {b : Nat} {cs : Array Value} {ty : TypeId} (h : w.heap[b]? = some (.cells cs ty (0, 0))) : Blk w b cs := ⟨ty, h⟩
theorem row_set {w : World} {g : Nat} {cur cs : Array Value} {t : TypeId} (h : w.heap[g]? = some (.cells cur t (0, 0))) : (w.setRow g cs).heap[g]? = some (.cells cs t (0, 0)) := setRow_heap w g _ _ t _ h

set_option maxRecDepth 100000 in
set_option maxHeartbeats 4000000 in
theorem trepeat_any (w : World) (bx c n : Nat) (hx : Blk w bx #[.int .i64 (-1)]) (hn1 : 1 ≤ n) (hn : n ≤ 1500) :
    Calls Tryd.prog 22 #[.slice (some ⟨bx, 0, none⟩) 1 c, .int .i64 n] w fun e w' => ∃ v, e = .returned v ∧ w'.ownsRow w.heap.size 3 1 v n (repC n n) ∧ Below w.heap.size w w' := by
  obtain ⟨i0, hi, hz0, hz1, hz2⟩ := info_three infoInt
  have HSZ := Lib.hid (show (Tryd.prog.info? 3).map (·.size) = some 1 by rw [hi]; simp [hz1])
  have bm : ∀ w : World, Calls Tryd.prog 32 #[.int .u64 1, .int .u64 n] w fun e w' => e = .returned (.tuple #[.int .u64 0, .int .u64 n]) ∧ w = w' := fun w => by
    have := Tryd.bits_Mul 1 n (by decide) (by omega) w
    rw [show (1 * n / 18446744073709551616 : Nat) = 0 by omega, show (1 * n % 18446744073709551616 : Nat) = n by omega] at this
    exact this.mono fun _ _ q => ⟨q.1, q.2.symm⟩
  have u1 : IntKind.u64.wrap (n : Int) = (n : Int) := IntWalk.u64_in _ (by omega)
  have u2 : IntKind.i64.wrap (n : Int) = (n : Int) := IntWalk.i64_in _ (by omega)
  have u3 : ¬ (n : Int) < 0 := by omega
  have u4 : ¬ (9223372036854775807 : Int) < (n : Int) := by omega
  have BM := Lib.hid bm
  have HN := Lib.hid (And.intro hn1 hn)
  clear bm hn hn1
  go_enter Tryd.func22, Tryd.ntmps22
  go_upto_region 7 with (first
    | (go_at_call 32; (with_reducible refine (BM.out _).mono ?_); rintro e w1 ⟨rfl, rfl⟩)
    | (at_make; refine wpList_make_full _ rfl _ _ 26 rfl w.heap.size 3 i0 (.int .i64 0) 1 Tryd.underlying26 hi hz0 hz1 .i64 .i64 _ _ n rfl rfl ?c1 ?c2 ?c3 ?c4 ?c5 ?_))
  case c1 => rfl
  case c2 => have := HN.out; omega
  case c3 => rw [hz2]; have := HN.out; omega
  case c4 => have := HN.out; unfold maxLen; omega
  case c5 => simp
  intro w2 hown hgrow
  have b2 : Below w.heap.size w w2 := (Below.refl _ _).grown hgrow (Nat.le_refl _) (fun k hk => by cases hk)
  have hg2 : w2.heap[w.heap.size]? = some (.cells (repC 0 n).toArray 3 (0, 0)) := by
    rcases hown.2 with ⟨e, _⟩ | ⟨g, cap, cur, e, _, hh, _, _, hsz, htk⟩
    · cases e
    · injection e with e1 e2 e3
      injection e1 with e1
      injection e1 with e1
      rw [e1, hh]
      have : cur = (repC 0 n).toArray := by
        apply Array.ext'
        have e5 : cur.toList.take (n * 1) = cur.toList := List.take_of_length_le (by rw [Array.length_toList, hsz, ← e3]; omega)
        rw [← e5, htk]
        simp only [repC, madeCells]
        apply List.ext_getElem
        · simp
        · intro i h1 h2
          simp [Nat.mod_one]
      rw [this]
  have H2 := Lib.hid (And.intro hg2 (And.intro b2 (hx.keep b2)))
  clear hown hgrow b2 hg2
  have s1 := row_reads H2.out.2.2
  have S1 := Lib.hid s1
  clear s1 hx
  obtain ⟨w3, hw3⟩ : ∃ w3, w3 = w2.setRow w.heap.size ((repC 0 n).toArray.toList.take 0 ++ [Value.int .i64 (-1)] ++ (repC 0 n).toArray.toList.drop (0 + 1)).toArray := ⟨_, rfl⟩
  have HW3 := Lib.hid hw3
  have rc : (Builtin.copy_ #[26, 26] 3 #[.slice (some ⟨w.heap.size, 0, none⟩) n n, .slice (some ⟨bx, 0, none⟩) 1 c]).run Tryd.prog w2 = .ok (.int .i64 1) w3 := by
    rw [hw3]
    exact cpy_run w2 26 26 3 3 w.heap.size 0 n n ⟨bx, 0, none⟩ 1 c 1 1 (repC 0 n).toArray 3 [.int .i64 (-1)] Tryd.underlying26 HSZ.out H2.out.1 (by show 1 = min 1 n; have := HN.out; omega) rfl S1.out (by rw [List.size_toArray, repC_len (Nat.zero_le _)]; have := HN.out; simpa using this.1) (fun v hv => by simp at hv; rw [hv]; rfl)
  clear hw3
  go_upto_region 8 with fail
  have hg3 : w3.heap[w.heap.size]? = some (.cells (repC 1 n).toArray 3 (0, 0)) := by
    rw [HW3.out, row_set H2.out.1]
    have := repC_more (k := 0) (d := 1) (n := n) (by have := HN.out; omega)
    rw [← this]
    simp
  have b3 : Below w.heap.size w w3 := by rw [HW3.out]; exact below_setRow H2.out.2.1 (Nat.le_refl _) _
  have H3 := Lib.hid (And.intro hg3 b3)
  clear hg3 b3 S1 H2 rc
  go_wp2_with fail
  go_loopg [8] (n - 1) (fun gk v8 wr => ∃ k : Nat, v8 = .int .i64 k ∧ 1 ≤ k ∧ k ≤ n ∧ gk = n - k ∧ wr.heap[w.heap.size]? = some (.cells (repC k n).toArray 3 (0, 0)) ∧ Below w.heap.size w wr)
  case atStart => exact ⟨1, rfl, Nat.le_refl _, HN.out.1, by omega, H3.out.1, H3.out.2⟩
  case round =>
    clear H3
    obtain ⟨k, rfl, hk1, hk, hgk, hg, hb⟩ := hrel
    have HG := Lib.hid (And.intro hg (And.intro hb (And.intro hgk (And.intro hk1 hk))))
    have BR := Lib.hid (row_reads (blk_row hg))
    by_cases hkn : k = n
    · subst hkn
      clear hg hb hgk hk1 hk
      go_wp2_with fail
      go_ret
      exact ⟨_, rfl, ⟨by rw [repC_len (Nat.le_refl _)]; omega, .inr ⟨w.heap.size, k, (repC k k).toArray, rfl, Nat.le_refl _, HG.out.1, Nat.le_refl _, by have := HN.out; unfold maxLen; omega, by rw [List.size_toArray, repC_len (Nat.le_refl _)]; omega, by rw [List.toList_toArray, List.take_of_length_le (by rw [repC_len (Nat.le_refl _)]; omega)]⟩⟩, HG.out.2.1⟩
    · have hlt : k < n := by omega
      have i1 : (k : Int) < (n : Int) := by omega
      have i2 : (0 : Int) ≤ (k : Int) := by omega
      have i3 : (k : Int) ≤ (n : Int) := by omega
      clear hg hb hgk hk1 hk hkn
      have HL := Lib.hid hlt
      clear hlt
      go_wp2_with fail
      go_region_law (refine cpy_step rfl (.tmp 41) (.tmp 44) 26 26 rfl 3 1 Tryd.underlying26 HSZ.out w.heap.size k (n - k) (n - k) ⟨w.heap.size, 0, none⟩ k n (min k (n - k)) (by simp [Act.eval, Act.put]; have := HL.out; omega) (by simp [Act.eval, Act.put]) (repC k n).toArray 3 HG.out.1 (List.replicate (min k (n - k)) (.int .i64 (-1))) (by first | rfl | exact Nat.min_comm _ _) (by rw [List.length_replicate, Nat.mul_one]) (fun j v hj => BR.out j v (repC_at (Nat.min_le_left _ _) hj)) (by rw [List.length_replicate, List.size_toArray, repC_len HG.out.2.2.2.2]; have := HG.out.2.2.2.2; omega) (rep_one _) ?_; intro w4 hw4; have HW4 := Lib.hid hw4; clear hw4)
      have hd4 : k + min k (n - k) ≤ n := by have := HL.out; omega
      have hg4 : w4.heap[w.heap.size]? = some (.cells (repC (k + min k (n - k)) n).toArray 3 (0, 0)) := by
        rw [HW4.out, ← repC_more hd4]
        exact row_set HG.out.1
      have b4 : Below w.heap.size w w4 := by rw [HW4.out]; exact below_setRow (HG.out.2.1.trans ((below_drew _).mono HG.out.2.1.size)) (Nat.le_refl _) _
      have u7 : IntKind.i64.wrap ((k : Int) + (min k (n - k) : Nat)) = ((k + min k (n - k) : Nat) : Int) := by
        have := HN.out
        rw [IntWalk.i64_in _ (by omega)]
        omega
      have H4 := Lib.hid (And.intro hg4 (And.intro b4 hd4))
      clear hg4 b4 hd4
      go_wp2_with fail
      go_roundg (n - (k + min k (n - k)))
      case measure => have := HL.out; have := HG.out.2.2; omega
      case rel => exact ⟨k + min k (n - k), rfl, by have := HG.out.2.2; omega, H4.out.2.2, rfl, H4.out.1, H4.out.2.1⟩
end Go.Proofs.YthihdddlneclmaaDoor

namespace Go.Proofs.YthihdddlneclmaaDoor
open Go.RowKit

/-! ### Plain -/
theorem kidsO_append (n a : Nat) : ∀ (x y : List Int) (p : List Int), kidsO n a (x ++ y) p = (kidsO n a x p).bind (kidsO n a y)
  | [], y, p => rfl
  | k :: r, y, p => by
    rw [List.cons_append, kidsO, kidsO]
    split
    · rfl
    · exact kidsO_append n a r y _
theorem kidsO_len (n a : Nat) : ∀ (x : List Int) (p q : List Int), kidsO n a x p = some q → q.length = p.length
  | [], p, q, h => by
    injection h with h
    rw [h]
  | k :: r, p, q, h => by
    rw [kidsO] at h
    split at h
    · cases h
    · rw [kidsO_len n a r _ q h, List.length_set]
theorem parK_len (ns : List Nd) : ∀ (j : Nat) (p : List Int), parK ns j = some p → p.length = ns.length
  | 0, p, h => by
    injection h with h
    rw [← h, List.length_replicate]
  | j + 1, p, h => by
    rw [parK] at h
    cases hq : parK ns j with
    | none => rw [hq] at h; cases h
    | some q =>
      rw [hq, Option.bind_some] at h
      split at h
      · cases h
      · rw [kidsO_len _ _ _ _ _ h, parK_len ns j q hq]
theorem parK_none (ns : List Nd) {j : Nat} (h : parK ns j = none) : ∀ d, parK ns (j + d) = none
  | 0 => h
  | d + 1 => by rw [Nat.add_succ, parK, parK_none ns h d]; rfl
theorem parT_of {ns : List Nd} (h0 : ns.length ≠ 0) (h1 : ¬ 1500 < ns.length) : parT ns = parK ns ns.length := by
  unfold parT
  rw [if_neg (by omega)]
theorem parT_bad {ns : List Nd} {j : Nat} (h : parK ns j = none) (hj : j ≤ ns.length) : parT ns = none := by
  unfold parT
  split
  · rfl
  · have := parK_none ns h (ns.length - j)
    rwa [Nat.add_sub_cancel' hj] at this
theorem atI_of {p : List Int} {k : Nat} {x : Int} (h : p[k]? = some x) : atI p k = x := by
  unfold atI
  rw [Int.toNat_natCast, h]
  rfl
theorem ndAt_of {ns : List Nd} {k : Nat} {x : Nd} (h : ns[k]? = some x) : ndAt ns k = x := by
  unfold ndAt
  rw [Int.toNat_natCast, h]
  rfl
theorem parK_lacks {ns : List Nd} {j : Nat} {p : List Int} {x : Int} (h : parK ns j = some p) (h0 : 0 < j) (hx : p[j]? = some x) (hn : x < 0) : parK ns (j + 1) = none := by
  rw [parK, h, Option.bind_some, if_pos ⟨h0, by rw [atI_of hx]; exact hn⟩]
theorem parK_step {ns : List Nd} {j : Nat} {p : List Int} {x : Int} (h : parK ns j = some p) (hx : p[j]? = some x) (hn : ¬ (0 < j ∧ x < 0)) {d : Nd} (hd : ns[j]? = some d) : parK ns (j + 1) = kidsO ns.length j d.kids p := by
  rw [parK, h, Option.bind_some, if_neg (by rw [atI_of hx]; exact hn), ndAt_of hd]
theorem kids_split {l : List Int} {i : Nat} {k : Int} (h : l[i]? = some k) : l = l.take i ++ k :: l.drop (i + 1) := by
  obtain ⟨hi, e⟩ := List.getElem?_eq_some_iff.mp h
  rw [← e, List.getElem_cons_drop, List.take_append_drop]
theorem kidsO_bad {n a i : Nat} {l p q : List Int} {k : Int} (h : kidsO n a (l.take i) p = some q) (hk : l[i]? = some k) (hb : k ≤ (a : Int) ∨ (n : Int) ≤ k ∨ 0 ≤ atI q k) : kidsO n a l p = none := by
  rw [kids_split hk, kidsO_append, h, Option.bind_some, kidsO, if_pos hb]
theorem kidsO_next {n a i : Nat} {l p q : List Int} {k : Int} (h : kidsO n a (l.take i) p = some q) (hk : l[i]? = some k) (hb : ¬ (k ≤ (a : Int) ∨ (n : Int) ≤ k ∨ 0 ≤ atI q k)) : kidsO n a (l.take (i + 1)) p = some (q.set k.toNat a) := by
  rw [List.take_add_one, hk, kidsO_append, h, Option.bind_some]
  show kidsO n a [k] q = _
  rw [kidsO, if_neg hb]
  rfl

/-! ### A row of numbers of our own -/
def PIn (w : World) (g : Nat) (p : List Int) : Prop := ∃ cs : Array Value, Blk w g cs ∧ ∀ (k : Nat) (x : Int), p[k]? = some x → cs[k]? = some (Value.int .i64 x)
theorem PIn.cell {w : World} {g k : Nat} {p : List Int} {x : Int} (h : PIn w g p) (hx : p[k]? = some x) : w.cell? ⟨g, k, none⟩ = some (.int .i64 x) := by
  obtain ⟨cs, hb, hc⟩ := h
  rw [hb.cell]
  exact hc k x hx
theorem PIn.free {w : World} {g : Nat} {p : List Int} (h : PIn w g p) (k : Nat) : w.frozen? ⟨g, k, none⟩ = false := by
  obtain ⟨cs, hb, _⟩ := h
  exact hb.free k
theorem PIn.keepB {w w' : World} {g B : Nat} {p : List Int} (h : PIn w g p) (hb : Below B w w') (hlt : g < B) : PIn w' g p := by
  obtain ⟨cs, h1, hc⟩ := h
  exact ⟨cs, h1.keepB hb hlt, hc⟩
theorem PIn.lt {w : World} {g : Nat} {p : List Int} (h : PIn w g p) : g < w.heap.size := by
  obtain ⟨cs, h1, _⟩ := h
  exact h1.lt
theorem PIn.keep {w w' : World} {g : Nat} {p : List Int} (h : PIn w g p) (hb : Below w.heap.size w w') : PIn w' g p := h.keepB hb h.lt
theorem PIn.set {w : World} {g k : Nat} {p : List Int} (h : PIn w g p) (hk : k < p.length) (x : Int) : PIn (w.setCell ⟨g, k, none⟩ (.int .i64 x)) g (p.set k x) := by
  obtain ⟨cs, h1, hc⟩ := h
  refine ⟨_, h1.set k _, fun j y hj => ?_⟩
  rw [List.getElem?_set] at hj
  rw [Array.getElem?_setIfInBounds]
  split at hj
  · rename_i e
    rw [if_pos e]
    have := hc k _ (List.getElem?_eq_getElem hk)
    obtain ⟨q, _⟩ := Array.getElem?_eq_some_iff.mp this
    rw [if_pos q]
    injection hj with hj
    rw [hj]
  · rename_i e
    rw [if_neg e]
    exact hc j y hj
theorem pin_of_repeat {w : World} {B n : Nat} {v : Value} (h : w.ownsRow B 3 1 v n (repC n n)) (hn : 0 < n) : ∃ g c, v = .slice (some ⟨g, 0, none⟩) n c ∧ n ≤ c ∧ c ≤ maxLen ∧ B ≤ g ∧ PIn w g (List.replicate n (-1)) := by
  rcases h.2 with ⟨e, he⟩ | ⟨g, cap, cur, e, hge, hh, hc, hm, hsz, htk⟩
  · exfalso
    omega
  · refine ⟨g, cap, e, hc, hm, hge, cur, ⟨_, hh⟩, fun k x hx => ?_⟩
    rw [List.getElem?_replicate] at hx
    split at hx
    · rename_i q
      injection hx with hx
      have : (cur.toList.take (n * 1))[k]? = some (.int .i64 x) := by
        rw [htk]
        unfold repC
        rw [List.getElem?_append_left (by rw [List.length_replicate]; omega), List.getElem?_replicate, if_pos q, hx]
      rw [List.getElem?_take_of_lt (by omega)] at this
      simpa using this
    · cases hx

/-- What parentsOf answers. -/
def ParPut (w : World) (ns : List Nd) (e : Ending) (w' : World) : Prop :=
  Below w.heap.size w w' ∧ match parT ns with
    | none => e = .returned (.tuple #[.slice none 0 0, .bool false])
    | some p => ∃ g c, e = .returned (.tuple #[.slice (some ⟨g, 0, none⟩) ns.length c, .bool true]) ∧ ns.length ≤ c ∧ c ≤ maxLen ∧ w.heap.size ≤ g ∧ PIn w' g p
theorem ParPut.bad {w w' : World} {ns : List Nd} (h : parT ns = none) (hb : Below w.heap.size w w') : ParPut w ns (.returned (.tuple #[.slice none 0 0, .bool false])) w' := by
  refine ⟨hb, ?_⟩
  rw [h]
theorem ParPut.good {w w' : World} {ns : List Nd} {p : List Int} {g c : Nat} (h : parT ns = some p) (hb : Below w.heap.size w w') (h1 : ns.length ≤ c) (h2 : c ≤ maxLen) (h3 : w.heap.size ≤ g) (h4 : PIn w' g p) :
    ParPut w ns (.returned (.tuple #[.slice (some ⟨g, 0, none⟩) ns.length c, .bool true])) w' := by
  refine ⟨hb, ?_⟩
  rw [h]
  exact ⟨g, c, rfl, h1, h2, h3, h4⟩

set_option maxHeartbeats 8000000 in
theorem parents_any (w : World) (v : Value) (ns : List Nd) (h : NodesAt w v ns) :
    Calls Tryd.prog 10 #[v] w (ParPut w ns) := by
  obtain ⟨A, cp, rs, rfl, h2, h3, h4, h5, h6⟩ := h
  obtain ⟨n, hn⟩ : ∃ n, n = ns.length := ⟨_, rfl⟩
  have hmx : n ≤ 9223372036854775807 := by unfold maxLen at h3; omega
  rw [← hn] at h2 h5 ⊢
  by_cases q0 : n = 0
  · have t1 : ((n : Int) == 0) = true := by rw [q0]; rfl
    have FIN := Lib.hid (ParPut.bad (w := w) (w' := w) (ns := ns) (by unfold parT; rw [if_pos (.inl (by omega))]) (Below.refl _ _))
    clear hn h2 h3 h4 h5 h6 hmx q0
    go_enter Tryd.func10, Tryd.ntmps10
    go_wp2_with fail
    exact bodyPost_ret (v := .tuple #[.slice none 0 0, .bool false]) (by simp [results, Tryd.results10, go_sem]) rfl FIN.out
  have t1 : ((n : Int) == 0) = false := by simpa using fun e => q0 (by omega)
  by_cases q1 : 1500 < n
  · have i1 : (1500 : Int) < (n : Int) := by omega
    have FIN := Lib.hid (ParPut.bad (w := w) (w' := w) (ns := ns) (by unfold parT; rw [if_pos (.inr (by omega))]) (Below.refl _ _))
    clear hn h2 h3 h4 h5 h6 hmx q0 q1
    go_enter Tryd.func10, Tryd.ntmps10
    go_wp2_with fail
    exact bodyPost_ret (v := .tuple #[.slice none 0 0, .bool false]) (by simp [results, Tryd.results10, go_sem]) rfl FIN.out
  have i1 : (n : Int) ≤ 1500 := by omega
  have tr := fun w => trepeat_any w
  have HN := Lib.hid (And.intro hn (And.intro q0 q1))
  have H4 := Lib.hid (And.intro h4 (And.intro h5 h6))
  have TR := Lib.hid tr
  clear hn q0 q1 h2 h3 h4 h5 h6 tr hmx
  go_enter Tryd.func10, Tryd.ntmps10
  go_upto_region 4 with (go_at_call 22; (with_reducible refine (TR.out _ _ _ _ (Blk.start _ _ _) (by have := HN.out; omega) (by have := HN.out; omega)).mono ?_); rintro e w1 ⟨v1, rfl, hO, bO⟩)
  have bA := below_alloc1 w (.cells #[.int .i64 (-1)] 3)
  have b1 := bA.trans (bO.mono bA.size)
  have sz := (World.size_alloc w (.cells #[.int .i64 (-1)] 3))
  obtain ⟨g, c, rfl, hc, hm, hg, hP⟩ := pin_of_repeat hO (by have := HN.out; omega)
  rw [sz] at hg
  have HG := Lib.hid (And.intro hc (And.intro hm (And.intro (show w.heap.size ≤ g by omega) (And.intro hP b1))))
  clear hc hm hg hP b1 bO hO bA sz TR
  go_wp2_with fail
  go_loopg [23] n (fun gk v23 wr => ∃ (j : Nat) (p : List Int), v23 = .int .i64 j ∧ j ≤ n ∧ gk = n - j ∧ parK ns j = some p ∧ PIn wr g p ∧ Below w.heap.size w wr)
  case atStart => exact ⟨0, _, rfl, Nat.zero_le _, rfl, (show parK ns 0 = some (List.replicate ns.length (-1)) from rfl), by rw [← HN.out.1]; exact HG.out.2.2.2.1, HG.out.2.2.2.2⟩
  case round =>
    obtain ⟨j, p, rfl, hj, hgk, hpk, hP, hb⟩ := hrel
    by_cases hjn : j = n
    · subst hjn
      have fin : parT ns = some p := by rw [parT_of (by have := HN.out; omega) (by have := HN.out; omega), ← HN.out.1]; exact hpk
      have FIN := Lib.hid (ParPut.good fin hb (by rw [← HN.out.1]; exact HG.out.1) HG.out.2.1 HG.out.2.2.1 hP)
      rw [← HN.out.1] at FIN
      clear fin hpk hP hb hj hgk
      go_wp2_with fail
      exact bodyPost_ret (v := .tuple #[.slice (some ⟨g, 0, none⟩) j c, .bool true]) (by simp [results, Tryd.results10, go_sem]) rfl FIN.out
    have hlt : j < n := by omega
    obtain ⟨x, hx⟩ : ∃ x, rs[j]? = some x := ⟨_, List.getElem?_eq_getElem (by have := congrArg List.length H4.out.1; rw [List.length_map] at this; have := HN.out.1; omega)⟩
    have hd : ns[j]? = some x.2 := by rw [← H4.out.1, List.getElem?_map, hx]; rfl
    obtain ⟨ad, rfl, d0, d1, d2, d3, d4⟩ := nodes_cells H4.out.2.1 hb hx (by omega)
    have hp := parK_len ns j p hpk
    obtain ⟨y, hy⟩ : ∃ y, p[j]? = some y := ⟨_, List.getElem?_eq_getElem (by have := HN.out.1; omega)⟩
    have i2 : (j : Int) < (n : Int) := by omega
    have i3 : (0 : Int) ≤ (j : Int) := by omega
    have u1 : IntKind.i64.wrap ((j : Int) + 1) = (j : Int) + 1 := IntWalk.i64_in _ (by have := HN.out; omega)
    obtain ⟨⟨A1, c1, ev1, _⟩, ⟨A2, c2, ev2, _⟩, A3, c3, ev3, k2, k3, k4⟩ := H4.out.2.2 x (List.mem_of_getElem? hx)
    have HJ := Lib.hid (And.intro hgk (And.intro hpk (And.intro hP (And.intro hb (And.intro hd (And.intro hp (And.intro hy hlt)))))))
    obtain ⟨⟨va, vb, vc⟩, kd, ws, nums, ks, ps⟩ := x
    dsimp only at d0 d1 d2 d3 d4 ev1 ev2 ev3 k2 k3 k4
    subst ev1 ev2 ev3
    obtain ⟨m, hmm⟩ : ∃ m, m = ks.length := ⟨_, rfl⟩
    have HM := Lib.hid (And.intro hmm (And.intro (show m ≤ 9223372036854775807 by unfold maxLen at k3; omega) k4))
    rw [← hmm] at d3
    clear hgk hpk hP hb hd hp hy hlt hjn hj hx k2 k3 k4 hmm
    go_upto_region 7 with fail
    have f3 : (wr.alloc (.cells #[.int .i64 kd, .slice A1 ws.length c1, .slice A2 nums.length c2, .slice A3 m c3, .int .i64 ps] 30)).cell? ⟨wr.heap.size, 3, none⟩ = some (.slice A3 m c3) := (Blk.start wr #[.int .i64 kd, .slice A1 ws.length c1, .slice A2 nums.length c2, .slice A3 m c3, .int .i64 ps] 30).cell 3
    have a5 := below_alloc1 wr (.cells #[.int .i64 kd, .slice A1 ws.length c1, .slice A2 nums.length c2, .slice A3 m c3, .int .i64 ps] 30)
    have b5 := HJ.out.2.2.2.1.trans (a5.mono HJ.out.2.2.2.1.size)
    have p5 := HJ.out.2.2.1.keep a5
    have cy := p5.cell HJ.out.2.2.2.2.2.2.1
    have H5 := Lib.hid (And.intro p5 b5)
    clear p5 b5 a5 d0 d1 d2 d3 d4
    generalize wr.alloc (.cells #[.int .i64 kd, .slice A1 ws.length c1, .slice A2 nums.length c2, .slice A3 m c3, .int .i64 ps] 30) = w5 at *
    generalize hnb : wr.heap.size = nb at *
    clear hnb
    by_cases hbd : 0 < j ∧ y < 0
    · have i4 : (0 : Int) < (j : Int) := by omega
      have i5 := hbd.2
      have FIN := Lib.hid (ParPut.bad (parT_bad (parK_lacks HJ.out.2.1 hbd.1 HJ.out.2.2.2.2.2.2.1 hbd.2) (by have := HJ.out; have := HN.out; omega)) H5.out.2)
      clear hbd
      go_wp2_with fail
      exact bodyPost_ret (v := .tuple #[.slice none 0 0, .bool false]) (by simp [results, Tryd.results10, go_sem]) rfl FIN.out
    have BD := Lib.hid (parK_step HJ.out.2.1 HJ.out.2.2.2.2.2.2.1 hbd HJ.out.2.2.2.2.1)
    rw [← HN.out.1] at BD
    have ways : ((j : Int) ≤ 0 ∧ j = 0) ∨ ((0 : Int) < (j : Int) ∧ 0 ≤ y) := by omega
    clear hbd
    rcases ways with ⟨i4, _⟩ | ⟨i4, i5⟩
    all_goals
      go_wp2_with fail
      go_loopg [40] m (fun gi v40 wi => ∃ (i : Nat) (q : List Int), v40 = .int .i64 i ∧ i ≤ m ∧ gi = m - i ∧ kidsO n j (ks.take i) p = some q ∧ PIn wi g q ∧ Below w.heap.size w wi)
      case atStart => exact ⟨0, p, rfl, Nat.zero_le _, rfl, rfl, H5.out.1, H5.out.2⟩
      case round =>
        obtain ⟨i, q, rfl, hi, hgi, hk, hP, hb⟩ := hrel
        by_cases him : i = m
        · have e : ks.take i = ks := by rw [him, HM.out.1]; exact List.take_length
          rw [e] at hk
          have NX := Lib.hid (And.intro (BD.out.trans hk) (And.intro hP hb))
          subst him
          clear e hk hP hb hgi hi
          go_wp2_with fail
          go_roundg (n - (j + 1))
          case measure => have := HJ.out; omega
          case rel => exact ⟨j + 1, q, by first | (push_cast; rfl) | (rw [show j = 0 by omega]; rfl), by have := HJ.out; omega, rfl, NX.out.1, NX.out.2.1, NX.out.2.2⟩
        · have hlt : i < m := by omega
          obtain ⟨k, hk1⟩ : ∃ k, ks[i]? = some k := ⟨_, List.getElem?_eq_getElem (by have := HM.out.1; omega)⟩
          obtain ⟨ad3, rfl, dk⟩ := ints_at HM.out.2.2 hb hk1 (by have := HM.out.1; omega)
          have i6 : (i : Int) < (m : Int) := by omega
          have i7 : (0 : Int) ≤ (i : Int) := by omega
          have u2 : IntKind.i64.wrap ((i : Int) + 1) = (i : Int) + 1 := IntWalk.i64_in _ (by have := HM.out.2.1; omega)
          have hq := kidsO_len _ _ _ _ _ hk
          have HK := Lib.hid (And.intro hk (And.intro hP (And.intro hb (And.intro hk1 (And.intro hgi (And.intro hlt hq))))))
          clear hk hb hk1 hgi hlt hi him
          by_cases k1 : k ≤ (j : Int)
          ·
            have FIN := Lib.hid (ParPut.bad (parT_bad (BD.out.trans (kidsO_bad HK.out.1 HK.out.2.2.2.1 (.inl k1))) (by have := HJ.out; have := HN.out; omega)) HK.out.2.2.1)
            go_wp2_with fail
            exact bodyPost_ret (v := .tuple #[.slice none 0 0, .bool false]) (by simp [results, Tryd.results10, go_sem]) rfl FIN.out
          have k1' : (j : Int) < k := by omega
          by_cases k2 : (n : Int) ≤ k
          ·
            have FIN := Lib.hid (ParPut.bad (parT_bad (BD.out.trans (kidsO_bad HK.out.1 HK.out.2.2.2.1 (.inr (.inl k2)))) (by have := HJ.out; have := HN.out; omega)) HK.out.2.2.1)
            clear k1
            go_wp2_with fail
            exact bodyPost_ret (v := .tuple #[.slice none 0 0, .bool false]) (by simp [results, Tryd.results10, go_sem]) rfl FIN.out
          obtain ⟨kn, rfl⟩ : ∃ kn : Nat, k = kn := ⟨k.toNat, by omega⟩
          have k2' : (kn : Int) < (n : Int) := by omega
          have k0 : (0 : Int) ≤ (kn : Int) := by omega
          obtain ⟨z, hz⟩ : ∃ z, q[kn]? = some z := ⟨_, List.getElem?_eq_getElem (by have := HJ.out.2.2.2.2.2.1; have := HN.out.1; omega)⟩
          have cz := hP.cell hz
          have fz := hP.free kn
          clear hP hq
          by_cases k3 : 0 ≤ z
          ·
            have FIN := Lib.hid (ParPut.bad (parT_bad (BD.out.trans (kidsO_bad HK.out.1 HK.out.2.2.2.1 (.inr (.inr (by rw [atI_of hz]; exact k3))))) (by have := HJ.out; have := HN.out; omega)) HK.out.2.2.1)
            clear k1 k2 hz
            go_wp2_with fail
            exact bodyPost_ret (v := .tuple #[.slice none 0 0, .bool false]) (by simp [results, Tryd.results10, go_sem]) rfl FIN.out
          have NX := Lib.hid (kidsO_next HK.out.1 HK.out.2.2.2.1 (show ¬ ((kn : Int) ≤ (j : Int) ∨ (n : Int) ≤ (kn : Int) ∨ 0 ≤ atI q (kn : Int)) by rw [atI_of hz]; omega))
          have k3' : z < 0 := by omega
          have KL := Lib.hid (show kn < q.length from (List.getElem?_eq_some_iff.mp hz).1)
          clear k1 k2 k3 hz
          go_wp2_with fail
          go_roundg (m - (i + 1))
          case measure => have := HK.out; omega
          case rel => exact ⟨i + 1, _, by push_cast; rfl, by have := HK.out; omega, rfl, NX.out, by first | exact HK.out.2.1.set KL.out _ | simpa [show j = 0 by omega] using HK.out.2.1.set KL.out 0, HK.out.2.2.1.setCell (p := ⟨g, kn, none⟩) HG.out.2.2.1 _⟩
end Go.Proofs.YthihdddlneclmaaDoor

namespace Go.Proofs.YthihdddlneclmaaDoor
open Go.RowKit

/-! ### Plain -/
/-- Each parent stands ahead. -/
def Ahead (p : List Int) : Prop := ∀ (k : Nat) (x : Int), p[k]? = some x → x < k
theorem Ahead.set {p : List Int} (h : Ahead p) {k : Nat} {x : Int} (hx : x < k) : Ahead (p.set k x) := fun i y hi => by
  rw [List.getElem?_set] at hi
  split at hi
  · rename_i e
    split at hi
    · injection hi with hi
      omega
    · cases hi
  · exact h i y hi
theorem kidsO_ahead (n a : Nat) : ∀ (x : List Int) (p q : List Int), kidsO n a x p = some q → Ahead p → Ahead q
  | [], p, q, h, hp => by
    injection h with h
    rwa [← h]
  | k :: r, p, q, h, hp => by
    rw [kidsO] at h
    split at h
    · cases h
    · rename_i hb
      exact kidsO_ahead n a r _ q h (hp.set (by omega))
theorem parK_ahead (ns : List Nd) : ∀ (j : Nat) (p : List Int), parK ns j = some p → Ahead p
  | 0, p, h => by
    injection h with h
    rw [← h]
    intro k x hx
    rw [List.getElem?_replicate] at hx
    split at hx
    · injection hx with hx
      omega
    · cases hx
  | j + 1, p, h => by
    rw [parK] at h
    cases hq : parK ns j with
    | none => rw [hq] at h; cases h
    | some q =>
      rw [hq, Option.bind_some] at h
      split at h
      · cases h
      · exact kidsO_ahead _ _ _ _ _ h (parK_ahead ns j q hq)
theorem depK_len (p : List Int) : ∀ j, (depK p j).length = j
  | 0 => rfl
  | j + 1 => by rw [depK, List.length_append, depK_len p j]; rfl
theorem depK_low {p : List Int} (ha : Ahead p) : ∀ (j : Nat), j ≤ p.length → ∀ (k : Nat) (x : Int), (depK p j)[k]? = some x → 1 ≤ x ∧ x ≤ (k : Int) + 1
  | 0, _, k, x, h => by simp [depK] at h
  | j + 1, hj, k, x, h => by
    rw [depK, List.getElem?_append, depK_len] at h
    split at h
    · exact depK_low ha j (by omega) k x h
    · rename_i hk
      have e : k = j := by
        have := (List.getElem?_eq_some_iff.mp h).1
        simp at this
        omega
      subst e
      rw [Nat.sub_self] at h
      injection h with h
      obtain ⟨y, hy⟩ : ∃ y, p[k]? = some y := ⟨_, List.getElem?_eq_getElem (by omega)⟩
      rw [atI_of hy] at h
      have := ha k y hy
      split at h
      · rename_i h0
        obtain ⟨m, rfl⟩ : ∃ m : Nat, y = m := ⟨y.toNat, by omega⟩
        obtain ⟨z, hz⟩ : ∃ z, (depK p k)[m]? = some z := ⟨_, List.getElem?_eq_getElem (by rw [depK_len]; omega)⟩
        rw [atI_of hz] at h
        have := depK_low ha k (by omega) m z hz
        omega
      · omega
/-- The row of the depths while it is filled. -/
def depR (p : List Int) (n j : Nat) : List Int := depK p j ++ List.replicate (n - j) 0
theorem depR_len {p : List Int} {n j : Nat} (h : j ≤ n) : (depR p n j).length = n := by
  unfold depR
  rw [List.length_append, depK_len, List.length_replicate]
  omega
theorem depR_at {p : List Int} {n j k : Nat} (h : k < j) : (depR p n j)[k]? = (depK p j)[k]? := by
  unfold depR
  rw [List.getElem?_append_left (by rw [depK_len]; exact h)]
theorem depR_set {p : List Int} {n j : Nat} {x : Int} (h : j < n) (hx : x = if 0 ≤ atI p j then 1 + atI (depK p j) (atI p j) else 1) : (depR p n j).set j x = depR p n (j + 1) := by
  unfold depR
  rw [List.set_append_right _ _ (by rw [depK_len]; exact Nat.le_refl _), depK_len, Nat.sub_self, depK, ← hx, List.append_assoc]
  congr 1
  rw [show n - j = (n - (j + 1)) + 1 by omega, List.replicate_succ, List.set_cons_zero]
  rfl
theorem depR_end (p : List Int) : depR p p.length p.length = depT p := by
  unfold depR depT
  rw [Nat.sub_self, List.replicate_zero, List.append_nil]

theorem pin_of_made {w : World} {B n : Nat} {v : Value} (h : w.ownsRow B 3 1 v n (madeCells #[Value.int .i64 0] n).toList) (hn : 0 < n) : ∃ g c, v = .slice (some ⟨g, 0, none⟩) n c ∧ n ≤ c ∧ c ≤ maxLen ∧ B ≤ g ∧ PIn w g (List.replicate n 0) := by
  rcases h.2 with ⟨e, he⟩ | ⟨g, cap, cur, e, hge, hh, hc, hm, hsz, htk⟩
  · exfalso
    omega
  · refine ⟨g, cap, e, hc, hm, hge, cur, ⟨_, hh⟩, fun k x hx => ?_⟩
    rw [List.getElem?_replicate] at hx
    split at hx
    · rename_i q
      injection hx with hx
      have : (cur.toList.take (n * 1))[k]? = some (.int .i64 x) := by
        rw [htk, ← hx]
        simp [madeCells, q, Nat.mod_one]
      rw [List.getElem?_take_of_lt (by omega)] at this
      simpa using this
    · cases hx

theorem PIn.other {w : World} {g : Nat} {p : List Int} (h : PIn w g p) {q : Addr} (hq : q.block ≠ g) (v : Value) : PIn (w.setCell q v) g p := by
  obtain ⟨cs, h1, hc⟩ := h
  exact ⟨cs, h1.other hq v, hc⟩
theorem PIn.drew {w : World} {g : Nat} {p : List Int} (h : PIn w g p) : PIn w.drew g p := by
  obtain ⟨cs, h1, hc⟩ := h
  exact ⟨cs, h1.drew, hc⟩

set_option maxHeartbeats 8000000 in
theorem depths_any (w : World) (g c n : Nat) (p : List Int) (hp : PIn w g p) (hn : p.length = n) (h1 : 1 ≤ n) (h2 : n ≤ 1500) (ha : Ahead p) :
    Calls Tryd.prog 12 #[.slice (some ⟨g, 0, none⟩) n c] w fun e w' => Below w.heap.size w w' ∧ ∃ g2 c2, e = .returned (.slice (some ⟨g2, 0, none⟩) n c2) ∧ n ≤ c2 ∧ c2 ≤ maxLen ∧ PIn w' g2 (depT p) := by
  obtain ⟨i0, hi, hz0, hz1, hz2⟩ := info_three infoInt
  have HN := Lib.hid (And.intro hn (And.intro h1 (And.intro h2 (And.intro hp ha))))
  clear hn h1 h2 ha hp
  go_enter Tryd.func12, Tryd.ntmps12
  go_upto_region 2 with (at_make; refine wpList_make_full _ rfl _ _ 26 rfl w.heap.size 3 i0 (.int .i64 0) 1 Tryd.underlying26 hi hz0 hz1 .i64 .i64 _ _ n rfl rfl ?c1 ?c2 ?c3 ?c4 ?c5 ?_)
  case c1 => rfl
  case c2 => have := HN.out; omega
  case c3 => rw [hz2]; have := HN.out; omega
  case c4 => have := HN.out; unfold maxLen; omega
  case c5 => simp
  intro w2 hown hgrow
  have b2 : Below w.heap.size w w2 := (Below.refl _ _).grown hgrow (Nat.le_refl _) (fun k hk => by cases hk)
  obtain ⟨gd, cd, ed, hcd, hmd, hgd, hD⟩ := pin_of_made hown (by have := HN.out; omega)
  rw [ed]
  have p2 := HN.out.2.2.2.1.keep b2
  have H2 := Lib.hid (And.intro hcd (And.intro hmd (And.intro hgd (And.intro HN.out.2.2.2.1.lt b2))))
  have D2 := Lib.hid (And.intro hD p2)
  clear hcd hmd hgd hD p2 b2 hown hgrow ed hi hz0 hz1 hz2 i0
  go_wp2_with fail
  go_loopg [11] n (fun gk v11 wr => ∃ j : Nat, v11 = .int .i64 j ∧ j ≤ n ∧ gk = n - j ∧ PIn wr gd (depR p n j) ∧ PIn wr g p ∧ Below w.heap.size w wr)
  case atStart => exact ⟨0, rfl, Nat.zero_le _, rfl, D2.out.1, D2.out.2, H2.out.2.2.2.2⟩
  case round =>
    obtain ⟨j, rfl, hj, hgk, hD, hP, hb⟩ := hrel
    by_cases hjn : j = n
    · subst hjn
      have e : depR p j j = depT p := by
        have := depR_end p
        rwa [HN.out.1] at this
      rw [e] at hD
      have FIN := Lib.hid (And.intro hb hD)
      clear e hj hgk hD hP hb
      go_wp2_with fail
      go_ret
      exact ⟨FIN.out.1, gd, cd, rfl, H2.out.1, H2.out.2.1, FIN.out.2⟩
    have hlt : j < n := by omega
    obtain ⟨y, hy⟩ : ∃ y, p[j]? = some y := ⟨_, List.getElem?_eq_getElem (by have := HN.out.1; omega)⟩
    have cy := hP.cell hy
    have ay := HN.out.2.2.2.2 j y hy
    obtain ⟨z0, hz0⟩ : ∃ z0, (depR p n j)[j]? = some z0 := ⟨_, List.getElem?_eq_getElem (by rw [depR_len hj]; exact hlt)⟩
    have cz := hD.cell hz0
    have fz := hD.free j
    have i2 : (j : Int) < (n : Int) := by omega
    have i3 : (0 : Int) ≤ (j : Int) := by omega
    have u1 : IntKind.i64.wrap ((j : Int) + 1) = (j : Int) + 1 := IntWalk.i64_in _ (by have := HN.out; omega)
    have len := depR_len (p := p) hj
    have D5 := hD.set (k := j) (by omega) 1
    have P5 : PIn (wr.setCell ⟨gd, j, none⟩ (.int .i64 1)) g p := hP.other (q := ⟨gd, j, none⟩) (by show gd ≠ g; have := H2.out; omega) _
    have b5 : Below w.heap.size w (wr.setCell ⟨gd, j, none⟩ (.int .i64 1)) := hb.setCell (p := ⟨gd, j, none⟩) H2.out.2.2.1 _
    have H5 := Lib.hid (And.intro D5 (And.intro P5 b5))
    have HJ := Lib.hid (And.intro hlt (And.intro hgk (And.intro hy (And.intro ay len))))
    clear hj hgk hP hD hy ay hz0 hlt D5 P5 b5 len hb hjn
    go_upto_region 6 with fail
    clear cy cz fz
    generalize wr.setCell ⟨gd, j, none⟩ (.int .i64 1) = w5 at *
    by_cases h0 : 0 ≤ y
    · obtain ⟨m, rfl⟩ : ∃ m : Nat, y = m := ⟨y.toNat, by omega⟩
      have hm : m < j := by have := HJ.out.2.2.2.1; omega
      obtain ⟨z, hz⟩ : ∃ z, (depK p j)[m]? = some z := ⟨_, List.getElem?_eq_getElem (by rw [depK_len]; exact hm)⟩
      have bz := depK_low HN.out.2.2.2.2 j (by have := HJ.out; have := HN.out; omega) m z hz
      have cm := H5.out.1.cell (k := m) (x := z) (by rw [List.getElem?_set_ne (by omega), depR_at hm]; exact hz)
      have cj := H5.out.1.cell (k := j) (x := 1) (by rw [List.getElem?_set_self (by rw [HJ.out.2.2.2.2]; exact HJ.out.1)])
      have fj := H5.out.1.free j
      have u2 : IntKind.i64.wrap (1 + z) = 1 + z := IntWalk.i64_in _ (by have := HJ.out; have := HN.out; omega)
      have i5 : (m : Int) < (n : Int) := by have := HJ.out; omega
      have D8 := H5.out.1.set (k := j) (by rw [List.length_set, HJ.out.2.2.2.2]; exact HJ.out.1) (1 + z)
      rw [List.set_set, depR_set HJ.out.1 (by rw [atI_of HJ.out.2.2.1, if_pos h0, atI_of hz])] at D8
      have P8 := H5.out.2.1.other (q := ⟨gd, j, none⟩) (by show gd ≠ g; have := H2.out; omega) (.int .i64 (1 + z))
      have b8 := H5.out.2.2.setCell (p := ⟨gd, j, none⟩) H2.out.2.2.1 (.int .i64 (1 + z))
      have H8 := Lib.hid (And.intro D8 (And.intro P8 b8))
      clear D8 P8 b8 hz bz hm
      go_wp2_with fail
      go_region
      all_goals
        go_wp2_with fail
        go_roundg (n - (j + 1))
        case measure => have := HJ.out; omega
        case rel => exact ⟨j + 1, by push_cast; rfl, by have := HJ.out; omega, rfl, H8.out.1.drew, H8.out.2.1.drew, H8.out.2.2.drew⟩
    · have i4 : y < 0 := by omega
      have D8 := H5.out.1
      rw [depR_set HJ.out.1 (by rw [atI_of HJ.out.2.2.1, if_neg h0])] at D8
      have H8 := Lib.hid D8
      clear D8 h0
      go_wp2_with fail
      go_roundg (n - (j + 1))
      case measure => have := HJ.out; omega
      case rel => exact ⟨j + 1, by push_cast; rfl, by have := HJ.out; omega, rfl, H8.out, H5.out.2.1, H5.out.2.2⟩
end Go.Proofs.YthihdddlneclmaaDoor

namespace Go.Proofs.YthihdddlneclmaaDoor
open Go.RowKit

theorem fold_snoc {l : List Int} {k : Nat} {x a : Int} (h : l[k]? = some x) : (l.take (k + 1)).foldl max a = max ((l.take k).foldl max a) x := by
  rw [List.take_add_one, h, List.foldl_append]
  rfl
/-- The greatest of the first ones. -/
def maxK (l : List Int) (k : Nat) : Int := maxL (l.take k)
theorem maxK_one {l : List Int} {x : Int} (h : l[0]? = some x) : maxK l 1 = x := by
  cases l with
  | nil => simp at h
  | cons a r =>
    obtain rfl : a = x := by simpa using h
    rfl
theorem maxK_next {l : List Int} {k : Nat} {x : Int} (hk : 0 < k) (h : l[k]? = some x) : maxK l (k + 1) = max (maxK l k) x := by
  cases l with
  | nil => simp at h
  | cons a r =>
    obtain ⟨m, rfl⟩ : ∃ m, k = m + 1 := ⟨k - 1, by omega⟩
    rw [List.getElem?_cons_succ] at h
    show maxL (a :: r.take (m + 1)) = max (maxL (a :: r.take m)) x
    exact fold_snoc h
theorem maxK_end {l : List Int} {n : Nat} (h : l.length = n) : maxK l n = maxL l := by
  unfold maxK
  rw [← h, List.take_length]
set_option maxHeartbeats 4000000 in
theorem tmax_any (w : World) (g c n : Nat) (p : List Int) (hp : PIn w g p) (hn : p.length = n) (h1 : 1 ≤ n) (h2 : n ≤ 1500) :
    Calls Tryd.prog 11 #[.slice (some ⟨g, 0, none⟩) n c] w fun e w' => e = .returned (.int .i64 (maxL p)) ∧ w = w' := by
  obtain ⟨x0, hx0⟩ : ∃ x0, p[0]? = some x0 := ⟨_, List.getElem?_eq_getElem (by omega)⟩
  have c0 := hp.cell hx0
  have i1 : ¬ (n : Int) < 1 := by omega
  have i0 : (0 : Int) < (n : Int) := by omega
  have HN := Lib.hid (And.intro hn (And.intro h1 (And.intro h2 (And.intro hp (maxK_one hx0)))))
  clear hn h1 h2 hp hx0
  go_enter Tryd.func11, Tryd.ntmps11
  go_wp2_with fail
  go_loopg [3, 4] (n - 1) (fun gk v3 v4 wr => w = wr ∧ ∃ k : Nat, v3 = .int .i64 (maxK p k) ∧ v4 = .int .i64 k ∧ 1 ≤ k ∧ k ≤ n ∧ gk = n - k)
  case atStart => exact ⟨rfl, 1, by rw [HN.out.2.2.2.2], rfl, Nat.le_refl _, HN.out.2.1, rfl⟩
  case round =>
    obtain ⟨rfl, k, rfl, rfl, hk1, hk, hgk⟩ := hrel
    by_cases hkn : k = n
    · subst hkn
      have e := Lib.hid (maxK_end (l := p) HN.out.1)
      clear hk1 hk hgk
      go_wp2_with fail
      go_ret
      exact ⟨by rw [← e.out]; rfl, rfl⟩
    · obtain ⟨x, hx⟩ : ∃ x, p[k]? = some x := ⟨_, List.getElem?_eq_getElem (by have := HN.out.1; omega)⟩
      have cx := HN.out.2.2.2.1.cell hx
      have i2 : (k : Int) < (n : Int) := by omega
      have i3 : (0 : Int) ≤ (k : Int) := by omega
      have u1 : IntKind.i64.wrap ((k : Int) + 1) = (k : Int) + 1 := IntWalk.i64_in _ (by have := HN.out; omega)
      have NX := Lib.hid (maxK_next (by omega) hx)
      have HK := Lib.hid (And.intro hk1 (And.intro i2 hgk))
      clear hk1 hk hgk hkn hx
      go_wp2_with fail
      go_roundg (n - (k + 1))
      case measure => have := HK.out; omega
      case rel => exact ⟨rfl, k + 1, by rw [NX.out], by push_cast; rfl, by omega, by have := HK.out; omega, rfl⟩
end Go.Proofs.YthihdddlneclmaaDoor

namespace Go.Proofs.YthihdddlneclmaaDoor
open Go.RowKit

theorem parents_none {w : World} {v : Value} {ns : List Nd} (h : NodesAt w v ns) (hp : parT ns = none) :
    Calls Tryd.prog 10 #[v] w fun e w' => e = .returned (.tuple #[.slice none 0 0, .bool false]) ∧ Below w.heap.size w w' :=
  (parents_any w v ns h).mono fun e w' q => by
    obtain ⟨hb, hm⟩ := q
    rw [hp] at hm
    exact ⟨hm, hb⟩
theorem parents_some {w : World} {v : Value} {ns : List Nd} {p : List Int} (h : NodesAt w v ns) (hp : parT ns = some p) :
    Calls Tryd.prog 10 #[v] w fun e w' => ∃ g c, e = .returned (.tuple #[.slice (some ⟨g, 0, none⟩) ns.length c, .bool true]) ∧ PIn w' g p ∧ Below w.heap.size w w' :=
  (parents_any w v ns h).mono fun e w' q => by
    obtain ⟨hb, hm⟩ := q
    rw [hp] at hm
    obtain ⟨g, c, e, _, _, _, h⟩ := hm
    exact ⟨g, c, e, h, hb⟩
theorem parT_facts {ns : List Nd} {p : List Int} (h : parT ns = some p) : 1 ≤ ns.length ∧ ns.length ≤ 1500 ∧ p.length = ns.length ∧ Ahead p := by
  have h0 := h
  unfold parT at h
  split at h
  · cases h
  · exact ⟨by omega, by omega, parK_len _ _ _ h, parK_ahead _ _ _ h⟩
/-- The depths, then the greatest. -/
theorem depths_of {w : World} {g c : Nat} {ns : List Nd} {p : List Int} (h : parT ns = some p) (hP : PIn w g p) :
    Calls Tryd.prog 12 #[.slice (some ⟨g, 0, none⟩) ns.length c] w fun e w' => ∃ g2 c2, e = .returned (.slice (some ⟨g2, 0, none⟩) ns.length c2) ∧ PIn w' g2 (depT p) ∧ Below w.heap.size w w' := by
  obtain ⟨f1, f2, f3, f4⟩ := parT_facts h
  exact (depths_any w g c ns.length p hP f3 f1 f2 f4).mono fun e w' ⟨b, g2, c2, e, _, _, q⟩ => ⟨g2, c2, e, q, b⟩
theorem max_of {w : World} {g c : Nat} {ns : List Nd} {p : List Int} (h : parT ns = some p) (hP : PIn w g (depT p)) :
    Calls Tryd.prog 11 #[.slice (some ⟨g, 0, none⟩) ns.length c] w fun e w' => e = .returned (.int .i64 (maxL (depT p))) ∧ w = w' := by
  obtain ⟨f1, f2, f3, f4⟩ := parT_facts h
  exact tmax_any w g c ns.length (depT p) hP (by unfold depT; rw [depK_len, f3]) f1 f2
theorem deepB_none {ns : List Nd} (h : parT ns = none) : deepB ns = 0 := by
  unfold deepB
  rw [h]
theorem deepB_some {ns : List Nd} {p : List Int} (h : parT ns = some p) : deepB ns = maxL (depT p) := by
  unfold deepB
  rw [h]

end Go.Proofs.YthihdddlneclmaaDoor

namespace Go.Proofs.YthihdddlneclmaaDoor
open Go.RowKit

theorem whichB_nil {ns : List Nd} {k : Nat} {d : Nd} (h : ns[k]? = some d) (h0 : d.nums = []) : whichB ns k = -1 := by
  unfold whichB
  rw [ndAt_of h, h0]
theorem whichB_cons {ns : List Nd} {k : Nat} {d : Nd} {x : Int} {r : List Int} (h : ns[k]? = some d) (h0 : d.nums = x :: r) : whichB ns k = x := by
  unfold whichB
  rw [ndAt_of h, h0]
set_option maxHeartbeats 2000000 in
theorem which_any (w : World) (v : Value) (ns : List Nd) (k : Nat) (h : NodesAt w v ns) (hk : k < ns.length) :
    Calls Tryd.prog 63 #[v, .int .i64 k] w fun e w' => e = .returned (.int .i64 (whichB ns k)) ∧ w = w' := by
  obtain ⟨A, cp, rs, rfl, h2, h3, h4, h5, h6⟩ := h
  obtain ⟨x, hx⟩ : ∃ x, rs[k]? = some x := ⟨_, List.getElem?_eq_getElem (by have := congrArg List.length h4; rw [List.length_map] at this; omega)⟩
  have hd : ns[k]? = some x.2 := by rw [← h4, List.getElem?_map, hx]; rfl
  obtain ⟨ad, rfl, d0, d1, d2, d3, d4⟩ := nodes_cells h5 (Below.refl _ _) hx (by omega)
  obtain ⟨_, ⟨A2, c2, ev2, k2, k3, k4⟩, _⟩ := h6 x (List.mem_of_getElem? hx)
  obtain ⟨⟨va, vb, vc⟩, kd, ws, nums, ks, ps⟩ := x
  dsimp only at d0 d1 d2 d3 d4 ev2 k2 k3 k4 hd
  subst ev2
  obtain ⟨n, hn⟩ : ∃ n, n = ns.length := ⟨_, rfl⟩
  rw [← hn] at hk ⊢
  have i1 : (k : Int) < (n : Int) := by omega
  have i2 : (0 : Int) ≤ (k : Int) := by omega
  clear h2 h3 h4 h5 h6 hx hk hn d0 d1 d3 d4
  cases nums with
  | nil =>
    have t1 : ((0 : Int) == 0) = true := rfl
    have FIN := Lib.hid (whichB_nil hd rfl)
    simp only [List.length_nil] at d2 k2 k4
    clear hd k2 k3 k4
    go_enter Tryd.func63, Tryd.ntmps63
    go_wp2_with fail
    go_ret
    exact ⟨by rw [FIN.out]; rfl, rfl⟩
  | cons y r =>
    obtain ⟨ad2, rfl, e0⟩ := ints_at (k := 0) (x := y) k4 (Below.refl _ _) rfl (by simp)
    rw [show ad2.add 0 = ad2 by unfold Addr.add; simp] at e0
    have FIN := Lib.hid (whichB_cons hd rfl)
    obtain ⟨m, hm⟩ : ∃ m, m = (y :: r).length := ⟨_, rfl⟩
    rw [← hm] at d2
    have t1 : ((m : Int) == 0) = false := by
      have : m = r.length + 1 := hm
      simpa using fun e => by omega
    have i3 : (0 : Int) < (m : Int) := by
      have : m = r.length + 1 := hm
      omega
    clear hd k2 k3 k4 hm
    go_enter Tryd.func63, Tryd.ntmps63
    go_wp2_with fail
    go_ret
    exact ⟨by rw [FIN.out]; rfl, rfl⟩

theorem num_of {n : Nd} {k : Nat} {x : Int} (h : n.nums[k]? = some x) : num n k = x := by
  unfold num
  rw [h]
  rfl
set_option maxHeartbeats 2000000 in
theorem fraction_any (w : World) (x : NdV × Nd) (h : NdAt w x) (h3 : x.2.nums.length = 3) :
    Calls Tryd.prog 61 #[ndV x] w fun e w' => e = .returned (.bool (fracB x.2)) ∧ Below w.heap.size w w' := by
  obtain ⟨⟨A, c, e1, _⟩, ⟨A2, c2, e2, g1, g2, g3⟩, A3, c3, e3, _⟩ := h
  obtain ⟨⟨v1, v2, v3⟩, kd, ws, ns, ks, ps⟩ := x
  dsimp only at e1 e2 e3 h3 g1 g2 g3
  subst e1 e2 e3
  obtain ⟨y1, hy1⟩ : ∃ y, ns[1]? = some y := ⟨_, List.getElem?_eq_getElem (by omega)⟩
  obtain ⟨y2, hy2⟩ : ∃ y, ns[2]? = some y := ⟨_, List.getElem?_eq_getElem (by omega)⟩
  unfold fracB
  rw [num_of (n := (⟨kd, ws, ns, ks, ps⟩ : Nd)) hy1, num_of (n := (⟨kd, ws, ns, ks, ps⟩ : Nd)) hy2]
  have hb := below_alloc1 w (.cells #[.int .i64 kd, .slice A ws.length c, .slice A2 ns.length c2, .slice A3 ks.length c3, .int .i64 ps] 30)
  obtain ⟨ad, rfl, a1⟩ := ints_at (k := 1) g3 hb hy1 (by omega)
  obtain ⟨ad', ea, a2⟩ := ints_at (k := 2) g3 hb hy2 (by omega)
  injection ea with ea
  subst ea
  rw [show ad.add 1 = ⟨ad.block, ad.off + 1, none⟩ by unfold Addr.add; simp] at a1
  rw [show ad.add 2 = ⟨ad.block, ad.off + 2, none⟩ by unfold Addr.add; simp] at a2
  have HB := Lib.hid hb
  unfold ndV
  dsimp only
  rw [h3] at *
  clear g1 g2 g3 hy1 hy2 hb
  by_cases q1 : 1 ≤ y1
  · by_cases q2 : 1 ≤ y2
    · have Q := Lib.hid (And.intro q1 q2)
      go_enter Tryd.func61, Tryd.ntmps61
      go_wp2_with fail
      go_ret
      exact ⟨by first | rfl | (have := Q.out; simp; omega) | (have := Q.out; simp_all), HB.out⟩
    · have q2' : y2 < 1 := by omega
      have Q := Lib.hid (And.intro q1 q2)
      go_enter Tryd.func61, Tryd.ntmps61
      go_wp2_with fail
      go_ret
      exact ⟨by first | rfl | (have := Q.out; simp; omega) | (have := Q.out; simp_all), HB.out⟩
  · have q1' : y1 < 1 := by omega
    have Q := Lib.hid q1
    go_enter Tryd.func61, Tryd.ntmps61
    go_wp2_with fail
    go_ret
    exact ⟨by first | rfl | (have := Q.out; simp; omega) | (have := Q.out; simp_all), HB.out⟩
end Go.Proofs.YthihdddlneclmaaDoor

namespace Go.Proofs.YthihdddlneclmaaDoor
open Go.RowKit

set_option maxHeartbeats 2000000 in
theorem stmt_any (w : World) (k : Int) : Calls Tryd.prog 39 #[.int .i64 k] w fun e w' => e = .returned (.bool (stmtB k)) ∧ w = w' := by
  by_cases q8 : k = 8
  · subst q8
    go_enter Tryd.func39, Tryd.ntmps39
    go_wp2_with fail
    go_ret
    exact ⟨rfl, rfl⟩
  have e8 : (k == 8) = false := by simpa using q8
  by_cases q9 : k = 9
  · subst q9
    go_enter Tryd.func39, Tryd.ntmps39
    go_wp2_with fail
    go_ret
    exact ⟨rfl, rfl⟩
  have e9 : (k == 9) = false := by simpa using q9
  by_cases q10 : k = 10
  · subst q10
    go_enter Tryd.func39, Tryd.ntmps39
    go_wp2_with fail
    go_ret
    exact ⟨rfl, rfl⟩
  have e10 : (k == 10) = false := by simpa using q10
  by_cases q11 : k = 11
  · subst q11
    go_enter Tryd.func39, Tryd.ntmps39
    go_wp2_with fail
    go_ret
    exact ⟨rfl, rfl⟩
  have e11 : (k == 11) = false := by simpa using q11
  by_cases q13 : k = 13
  · subst q13
    go_enter Tryd.func39, Tryd.ntmps39
    go_wp2_with fail
    go_ret
    exact ⟨rfl, rfl⟩
  have e13 : (k == 13) = false := by simpa using q13
  by_cases q14 : k = 14
  · subst q14
    go_enter Tryd.func39, Tryd.ntmps39
    go_wp2_with fail
    go_ret
    exact ⟨rfl, rfl⟩
  have e14 : (k == 14) = false := by simpa using q14
  by_cases q16 : k = 16
  · subst q16
    go_enter Tryd.func39, Tryd.ntmps39
    go_wp2_with fail
    go_ret
    exact ⟨rfl, rfl⟩
  have e16 : (k == 16) = false := by simpa using q16
  by_cases q17 : k = 17
  · subst q17
    go_enter Tryd.func39, Tryd.ntmps39
    go_wp2_with fail
    go_ret
    exact ⟨rfl, rfl⟩
  have e17 : (k == 17) = false := by simpa using q17
  by_cases q18 : k = 18
  · subst q18
    go_enter Tryd.func39, Tryd.ntmps39
    go_wp2_with fail
    go_ret
    exact ⟨rfl, rfl⟩
  have e18 : (k == 18) = false := by simpa using q18
  by_cases q19 : k = 19
  · subst q19
    go_enter Tryd.func39, Tryd.ntmps39
    go_wp2_with fail
    go_ret
    exact ⟨rfl, rfl⟩
  have e19 : (k == 19) = false := by simpa using q19
  have hz : stmtB k = false := by
    unfold stmtB
    simp; omega
  have HZ := Lib.hid hz
  clear hz q8 q9 q10 q11 q13 q14 q16 q17 q18 q19
  go_enter Tryd.func39, Tryd.ntmps39
  go_wp2_with fail
  go_ret
  exact ⟨by rw [HZ.out]; rfl, rfl⟩

set_option maxHeartbeats 2000000 in
theorem expr_any (w : World) (k : Int) : Calls Tryd.prog 40 #[.int .i64 k] w fun e w' => e = .returned (.bool (exprB k)) ∧ w = w' := by
  by_cases q20 : k = 20
  · subst q20
    go_enter Tryd.func40, Tryd.ntmps40
    go_wp2_with fail
    go_ret
    exact ⟨rfl, rfl⟩
  have e20 : (k == 20) = false := by simpa using q20
  by_cases q21 : k = 21
  · subst q21
    go_enter Tryd.func40, Tryd.ntmps40
    go_wp2_with fail
    go_ret
    exact ⟨rfl, rfl⟩
  have e21 : (k == 21) = false := by simpa using q21
  by_cases q22 : k = 22
  · subst q22
    go_enter Tryd.func40, Tryd.ntmps40
    go_wp2_with fail
    go_ret
    exact ⟨rfl, rfl⟩
  have e22 : (k == 22) = false := by simpa using q22
  by_cases q23 : k = 23
  · subst q23
    go_enter Tryd.func40, Tryd.ntmps40
    go_wp2_with fail
    go_ret
    exact ⟨rfl, rfl⟩
  have e23 : (k == 23) = false := by simpa using q23
  have hz : exprB k = false := by
    unfold exprB
    simp; omega
  have HZ := Lib.hid hz
  clear hz q20 q21 q22 q23
  go_enter Tryd.func40, Tryd.ntmps40
  go_wp2_with fail
  go_ret
  exact ⟨by rw [HZ.out]; rfl, rfl⟩

set_option maxHeartbeats 1000000 in
theorem arg_any (w : World) (k : Int) : Calls Tryd.prog 42 #[.int .i64 k] w fun e w' => e = .returned (.bool (argB k)) ∧ w = w' := by
  have ex := expr_any w k
  unfold argB
  generalize exprB k = B at *
  by_cases q : k = 15
  · subst q
    clear ex
    go_enter Tryd.func42, Tryd.ntmps42
    go_wp2_with fail
    go_ret
    exact ⟨rfl, rfl⟩
  · have e1 : (k == 15) = false := by simpa using q
    rw [e1, Bool.false_or]
    clear q
    go_enter Tryd.func42, Tryd.ntmps42
    go_wp2_with (go_at_call 40; (with_reducible refine ex.mono ?_); rintro e w1 ⟨rfl, rfl⟩)
    go_ret
    exact ⟨rfl, rfl⟩

/-- A test of a kind. -/
inductive Tst where
  | is (ks : List Int)
  | stmt
  | expr
  | arg
def Tst.f : Tst → Int → Bool
  | .is ks => isB ks
  | .stmt => stmtB
  | .expr => exprB
  | .arg => argB
/-- It stands in a value. -/
def TstAt (w : World) (t : Tst) (v : Value) : Prop := match t with
  | .is ks => ∃ b A c, v = .func (.func 57) #[] #[.pointer (some ⟨b, 0, none⟩)] ∧ Blk w b #[.slice A ks.length c] ∧ IntsL w (.slice A ks.length c) ks
  | .stmt => v = .func (.func 39) #[] #[]
  | .expr => v = .func (.func 40) #[] #[]
  | .arg => v = .func (.func 42) #[] #[]
theorem TstAt.below {w w' : World} {t : Tst} {v : Value} (h : TstAt w t v) (hb : Below w.heap.size w w') : TstAt w' t v := by
  cases t with
  | is ks =>
    obtain ⟨b, A, c, e, h1, h2⟩ := h
    exact ⟨b, A, c, e, h1.keep hb, h2.below hb⟩
  | stmt => exact h
  | expr => exact h
  | arg => exact h

set_option maxHeartbeats 1000000 in
theorem is1_any (w : World) (b : Nat) (A : Option Addr) (n c : Nat) (ks : List Int) (k : Int) (hB : Blk w b #[.slice A n c]) (h : IntsL w (.slice A n c) ks) :
    Calls Tryd.prog 57 #[.int .i64 k, .pointer (some ⟨b, 0, none⟩)] w fun e w' => e = .returned (.bool (isB ks k)) ∧ w = w' := by
  have cn := tcon_any w _ ks k h
  have c0 := hB.cell 0
  have hz : ks.contains k = isB ks k := rfl
  rw [hz] at cn
  generalize isB ks k = B at *
  have CN := Lib.hid cn
  clear cn h hB hz
  go_enter Tryd.func57, Tryd.ntmps57
  go_wp2_with (go_at_call 58; (with_reducible refine CN.out.mono ?_); rintro e w1 ⟨rfl, rfl⟩)
  go_ret
  exact ⟨rfl, rfl⟩
theorem is_any (w : World) (v : Value) (ks : List Int) (h : IntsL w v ks) : Calls Tryd.prog 34 #[v] w fun e w' => (∃ u, e = .returned u ∧ TstAt w' (.is ks) u) ∧ Below w.heap.size w w' := by
  have hmf : ∀ (fn : Fn) (first cap : Array Value) (w : World), (Instr.makeFunc fn first cap).run Tryd.prog w = .ok (.func fn first cap) w := fun _ _ _ _ => rfl
  obtain ⟨A, c, rfl, h2, h3, h4⟩ := id h
  have a := Lib.hid (below_alloc1 w (.cells #[.slice A ks.length c] 26))
  have B := Lib.hid (Blk.start w #[.slice A ks.length c] 26)
  have HI := Lib.hid h
  clear h h2 h3 h4
  generalize hn : ks.length = n at *
  have HN := Lib.hid hn
  clear hn
  go_enter Tryd.func34, Tryd.ntmps34
  go_wp2_with fail
  go_ret
  exact ⟨⟨_, rfl, w.heap.size, A, c, rfl, by rw [HN.out]; exact B.out, by rw [HN.out]; exact HI.out.below a.out⟩, a.out⟩
end Go.Proofs.YthihdddlneclmaaDoor

namespace Go.Proofs.YthihdddlneclmaaDoor
open Go.RowKit

/-! ### What stays where only new memory turns -/
def Stb (P : World → Prop) : Prop := ∀ w1 w2 : World, Below w1.heap.size w1 w2 → P w1 → P w2
theorem stb_cell (p : Addr) (x : Value) : Stb fun w => w.cell? p = some x := fun _ _ hb h => (hb.cell (World.block_lt_of_cell? _ _ h)).trans h
theorem stb_and {P Q : World → Prop} (hp : Stb P) (hq : Stb Q) : Stb fun w => P w ∧ Q w := fun _ _ hb h => ⟨hp _ _ hb h.1, hq _ _ hb h.2⟩
theorem stb_below (wq : World) : Stb fun w => Below wq.heap.size wq w := fun _ _ hb h => h.trans (hb.mono h.size)
theorem bl_of {A : Prop} {wq w' : World} (h : A ∧ Below wq.heap.size wq w') : Below wq.heap.size wq w' := h.2
theorem belowD (w : World) : Below w.heap.size w w.drew := (Below.refl _ _).drew

/-- A call of a test. -/
def TstCall (f : FuncId) (cap : Array Value) (t : Tst) (w : World) : Prop := ∀ (w' : World) (k : Int), Below w.heap.size w w' → Calls Tryd.prog f (#[.int .i64 k] ++ cap) w' fun e w2 => e = .returned (.bool (t.f k)) ∧ Below w'.heap.size w' w2
theorem still_below {f : FuncId} {xs : Array Value} {w : World} {v : Value} (h : Calls Tryd.prog f xs w fun e w' => e = .returned v ∧ w = w') : Calls Tryd.prog f xs w fun e w2 => e = .returned v ∧ Below w.heap.size w w2 := h.mono fun _ _ q => ⟨q.1, q.2 ▸ Below.refl _ _⟩
theorem tst_call {w : World} {t : Tst} {u : Value} (h : TstAt w t u) : ∃ f cap, u = .func (.func f) #[] cap ∧ TstCall f cap t w := by
  cases t with
  | is ks =>
    obtain ⟨b, A, c, rfl, h1, h2⟩ := h
    exact ⟨_, _, rfl, fun w' k hb => still_below (is1_any w' b A _ c ks k (h1.keep hb) (h2.below hb))⟩
  | stmt => exact ⟨_, _, h, fun w' k _ => still_below (stmt_any w' k)⟩
  | expr => exact ⟨_, _, h, fun w' k _ => still_below (expr_any w' k)⟩
  | arg => exact ⟨_, _, h, fun w' k _ => still_below (arg_any w' k)⟩

set_option maxRecDepth 10000 in
set_option maxHeartbeats 4000000 in
theorem all1_is (w : World) (bf : Nat) (ks : List Int) (b1 b2 : Nat) (A : Option Addr) (c : Nat) (ns : List Nd) (k : Nat) (hB1 : Blk w b1 #[.func (.func 57) #[] #[.pointer (some ⟨bf, 0, none⟩)]]) (hB2 : Blk w b2 #[.slice A ns.length c]) (hN : NodesAt w (.slice A ns.length c) ns) (hc : TstCall 57 #[.pointer (some ⟨bf, 0, none⟩)] (.is ks) w) (hk : k < ns.length) :
    Calls Tryd.prog 60 #[.int .i64 k, .pointer (some ⟨b1, 0, none⟩), .pointer (some ⟨b2, 0, none⟩)] w fun e w' => e = .returned (.bool (!Tst.f (.is ks) (kindAt ns k))) ∧ Below w.heap.size w w' := by
  obtain ⟨A', c', rs, e0, h2, h3, h4, h5, h6⟩ := hN
  injection e0 with e1 _ e2
  subst e1 e2
  obtain ⟨n, hn⟩ : ∃ n, n = ns.length := ⟨_, rfl⟩
  obtain ⟨x, hx⟩ : ∃ x, rs[k]? = some x := ⟨_, List.getElem?_eq_getElem (by rw [show rs.length = ns.length by rw [← h4, List.length_map]]; exact hk)⟩
  have hnx : ns[k]? = some x.2 := by rw [← h4, List.getElem?_map, hx]; rfl
  rw [← hn] at h5 hk hB2
  obtain ⟨ad, rfl, d0, _⟩ := nodes_cells h5 (Below.refl _ _) hx (by omega)
  have hkd : kindAt ns k = x.2.kind := by unfold kindAt ndAt; rw [Int.toNat_natCast, hnx]; rfl
  rw [hkd]
  have cl : ∀ w' : World, Below w.heap.size w w' → Calls Tryd.prog 57 #[.int .i64 x.2.kind, .pointer (some ⟨bf, 0, none⟩)] w' (fun e w2 => e = .returned (.bool (Tst.f (.is ks) x.2.kind)) ∧ Below w'.heap.size w' w2) := fun w' hb => hc w' x.2.kind hb
  have i1 : (k : Int) < (n : Int) := by omega
  have i2 : (0 : Int) ≤ (k : Int) := by omega
  have b10 : w.cell? ⟨b1, 0, none⟩ = some (.func (.func 57) #[] #[.pointer (some ⟨bf, 0, none⟩)]) := hB1.cell 0
  have b20 : w.cell? ⟨b2, 0, none⟩ = some (.slice (some ad) n c) := hB2.cell 0
  generalize x.2.kind = kd at *
  generalize Tst.f (.is ks) kd = BV at *
  have CL := Lib.hid cl
  clear cl hc hkd hnx hx hk h2 h3 h4 h5 h6 hB1 hB2 hn
  have STB := Lib.hid (show Stb (fun w' => (w'.cell? ⟨b1, 0, none⟩ = some (.func (.func 57) #[] #[.pointer (some ⟨bf, 0, none⟩)]) ∧ (w'.cell? ⟨b2, 0, none⟩ = some (.slice (some ad) n c) ∧ w'.cell? (ad.add (k * 5)) = some (.int .i64 kd))) ∧ Below w.heap.size w w') from stb_and (stb_and (stb_cell _ _) (stb_and (stb_cell _ _) (stb_cell _ _))) (stb_below w))
  go_enter Tryd.func60, Tryd.ntmps60
  go_upto_region 1 with fail
  have HS : ((w.drew.cell? ⟨b1, 0, none⟩ = some (.func (.func 57) #[] #[.pointer (some ⟨bf, 0, none⟩)]) ∧ (w.drew.cell? ⟨b2, 0, none⟩ = some (.slice (some ad) n c) ∧ w.drew.cell? (ad.add (k * 5)) = some (.int .i64 kd))) ∧ Below w.heap.size w w.drew) := ⟨⟨b10, b20, d0⟩, belowD w⟩
  clear b10 b20 d0
  refine wp_region_noPanic ?_
  refine wp_region_held_drew (S := (fun w' => (w'.cell? ⟨b1, 0, none⟩ = some (.func (.func 57) #[] #[.pointer (some ⟨bf, 0, none⟩)]) ∧ (w'.cell? ⟨b2, 0, none⟩ = some (.slice (some ad) n c) ∧ w'.cell? (ad.add (k * 5)) = some (.int .i64 kd))) ∧ Below w.heap.size w w')) (by kernel_rfl) HS (fun hHeld => ?_)
  clear HS
  refine tk 0 rfl ?_
  refine tk 1 rfl ?_
  refine tk 2 rfl ?_
  refine tk 3 rfl ?_
  refine tk 4 rfl ?_
  refine tk 5 rfl ?_
  (try simp only [cl, Act.put])
  refine rd 6 rfl fun K hK => ?_
  go_simp
  (go_at_call 57; (with_reducible refine (CL.out _ (bl_of (by with_reducible assumption))).mono ?_); rintro e5 w5 ⟨rfl, hb⟩)
  go_wp2_with fail
  refine hK.out _ _ (STB.out _ _ hb (by with_reducible assumption)) (fun hH2 => ?_)
  clear hK K hHeld hb; have hHeld := hH2; clear hH2
  (try simp only [cl, Act.put])
  refine tk 7 rfl ?_
  refine tk 8 rfl ?_
  (try simp only [cl, Act.put])
  refine wpAnyH_done (by kernel_rfl) ?_ _
  refine NoPanic.normal ?_
  have HB := Lib.hid (bl_of hHeld)
  clear hHeld
  go_wp2_with fail
  go_ret
  exact ⟨rfl, HB.out⟩

set_option maxRecDepth 10000 in
set_option maxHeartbeats 4000000 in
theorem all1_stmt (w : World) (b1 b2 : Nat) (A : Option Addr) (c : Nat) (ns : List Nd) (k : Nat) (hB1 : Blk w b1 #[.func (.func 39) #[] #[]]) (hB2 : Blk w b2 #[.slice A ns.length c]) (hN : NodesAt w (.slice A ns.length c) ns) (hc : TstCall 39 #[] (.stmt) w) (hk : k < ns.length) :
    Calls Tryd.prog 60 #[.int .i64 k, .pointer (some ⟨b1, 0, none⟩), .pointer (some ⟨b2, 0, none⟩)] w fun e w' => e = .returned (.bool (!Tst.f (.stmt) (kindAt ns k))) ∧ Below w.heap.size w w' := by
  obtain ⟨A', c', rs, e0, h2, h3, h4, h5, h6⟩ := hN
  injection e0 with e1 _ e2
  subst e1 e2
  obtain ⟨n, hn⟩ : ∃ n, n = ns.length := ⟨_, rfl⟩
  obtain ⟨x, hx⟩ : ∃ x, rs[k]? = some x := ⟨_, List.getElem?_eq_getElem (by rw [show rs.length = ns.length by rw [← h4, List.length_map]]; exact hk)⟩
  have hnx : ns[k]? = some x.2 := by rw [← h4, List.getElem?_map, hx]; rfl
  rw [← hn] at h5 hk hB2
  obtain ⟨ad, rfl, d0, _⟩ := nodes_cells h5 (Below.refl _ _) hx (by omega)
  have hkd : kindAt ns k = x.2.kind := by unfold kindAt ndAt; rw [Int.toNat_natCast, hnx]; rfl
  rw [hkd]
  have cl : ∀ w' : World, Below w.heap.size w w' → Calls Tryd.prog 39 #[.int .i64 x.2.kind] w' (fun e w2 => e = .returned (.bool (Tst.f (.stmt) x.2.kind)) ∧ Below w'.heap.size w' w2) := fun w' hb => hc w' x.2.kind hb
  have i1 : (k : Int) < (n : Int) := by omega
  have i2 : (0 : Int) ≤ (k : Int) := by omega
  have b10 : w.cell? ⟨b1, 0, none⟩ = some (.func (.func 39) #[] #[]) := hB1.cell 0
  have b20 : w.cell? ⟨b2, 0, none⟩ = some (.slice (some ad) n c) := hB2.cell 0
  generalize x.2.kind = kd at *
  generalize Tst.f (.stmt) kd = BV at *
  have CL := Lib.hid cl
  clear cl hc hkd hnx hx hk h2 h3 h4 h5 h6 hB1 hB2 hn
  have STB := Lib.hid (show Stb (fun w' => (w'.cell? ⟨b1, 0, none⟩ = some (.func (.func 39) #[] #[]) ∧ (w'.cell? ⟨b2, 0, none⟩ = some (.slice (some ad) n c) ∧ w'.cell? (ad.add (k * 5)) = some (.int .i64 kd))) ∧ Below w.heap.size w w') from stb_and (stb_and (stb_cell _ _) (stb_and (stb_cell _ _) (stb_cell _ _))) (stb_below w))
  go_enter Tryd.func60, Tryd.ntmps60
  go_upto_region 1 with fail
  have HS : ((w.drew.cell? ⟨b1, 0, none⟩ = some (.func (.func 39) #[] #[]) ∧ (w.drew.cell? ⟨b2, 0, none⟩ = some (.slice (some ad) n c) ∧ w.drew.cell? (ad.add (k * 5)) = some (.int .i64 kd))) ∧ Below w.heap.size w w.drew) := ⟨⟨b10, b20, d0⟩, belowD w⟩
  clear b10 b20 d0
  refine wp_region_noPanic ?_
  refine wp_region_held_drew (S := (fun w' => (w'.cell? ⟨b1, 0, none⟩ = some (.func (.func 39) #[] #[]) ∧ (w'.cell? ⟨b2, 0, none⟩ = some (.slice (some ad) n c) ∧ w'.cell? (ad.add (k * 5)) = some (.int .i64 kd))) ∧ Below w.heap.size w w')) (by kernel_rfl) HS (fun hHeld => ?_)
  clear HS
  refine tk 0 rfl ?_
  refine tk 1 rfl ?_
  refine tk 2 rfl ?_
  refine tk 3 rfl ?_
  refine tk 4 rfl ?_
  refine tk 5 rfl ?_
  (try simp only [cl, Act.put])
  refine rd 6 rfl fun K hK => ?_
  go_simp
  (go_at_call 39; (with_reducible refine (CL.out _ (bl_of (by with_reducible assumption))).mono ?_); rintro e5 w5 ⟨rfl, hb⟩)
  go_wp2_with fail
  refine hK.out _ _ (STB.out _ _ hb (by with_reducible assumption)) (fun hH2 => ?_)
  clear hK K hHeld hb; have hHeld := hH2; clear hH2
  (try simp only [cl, Act.put])
  refine tk 7 rfl ?_
  refine tk 8 rfl ?_
  (try simp only [cl, Act.put])
  refine wpAnyH_done (by kernel_rfl) ?_ _
  refine NoPanic.normal ?_
  have HB := Lib.hid (bl_of hHeld)
  clear hHeld
  go_wp2_with fail
  go_ret
  exact ⟨rfl, HB.out⟩

set_option maxRecDepth 10000 in
set_option maxHeartbeats 4000000 in
theorem all1_expr (w : World) (b1 b2 : Nat) (A : Option Addr) (c : Nat) (ns : List Nd) (k : Nat) (hB1 : Blk w b1 #[.func (.func 40) #[] #[]]) (hB2 : Blk w b2 #[.slice A ns.length c]) (hN : NodesAt w (.slice A ns.length c) ns) (hc : TstCall 40 #[] (.expr) w) (hk : k < ns.length) :
    Calls Tryd.prog 60 #[.int .i64 k, .pointer (some ⟨b1, 0, none⟩), .pointer (some ⟨b2, 0, none⟩)] w fun e w' => e = .returned (.bool (!Tst.f (.expr) (kindAt ns k))) ∧ Below w.heap.size w w' := by
  obtain ⟨A', c', rs, e0, h2, h3, h4, h5, h6⟩ := hN
  injection e0 with e1 _ e2
  subst e1 e2
  obtain ⟨n, hn⟩ : ∃ n, n = ns.length := ⟨_, rfl⟩
  obtain ⟨x, hx⟩ : ∃ x, rs[k]? = some x := ⟨_, List.getElem?_eq_getElem (by rw [show rs.length = ns.length by rw [← h4, List.length_map]]; exact hk)⟩
  have hnx : ns[k]? = some x.2 := by rw [← h4, List.getElem?_map, hx]; rfl
  rw [← hn] at h5 hk hB2
  obtain ⟨ad, rfl, d0, _⟩ := nodes_cells h5 (Below.refl _ _) hx (by omega)
  have hkd : kindAt ns k = x.2.kind := by unfold kindAt ndAt; rw [Int.toNat_natCast, hnx]; rfl
  rw [hkd]
  have cl : ∀ w' : World, Below w.heap.size w w' → Calls Tryd.prog 40 #[.int .i64 x.2.kind] w' (fun e w2 => e = .returned (.bool (Tst.f (.expr) x.2.kind)) ∧ Below w'.heap.size w' w2) := fun w' hb => hc w' x.2.kind hb
  have i1 : (k : Int) < (n : Int) := by omega
  have i2 : (0 : Int) ≤ (k : Int) := by omega
  have b10 : w.cell? ⟨b1, 0, none⟩ = some (.func (.func 40) #[] #[]) := hB1.cell 0
  have b20 : w.cell? ⟨b2, 0, none⟩ = some (.slice (some ad) n c) := hB2.cell 0
  generalize x.2.kind = kd at *
  generalize Tst.f (.expr) kd = BV at *
  have CL := Lib.hid cl
  clear cl hc hkd hnx hx hk h2 h3 h4 h5 h6 hB1 hB2 hn
  have STB := Lib.hid (show Stb (fun w' => (w'.cell? ⟨b1, 0, none⟩ = some (.func (.func 40) #[] #[]) ∧ (w'.cell? ⟨b2, 0, none⟩ = some (.slice (some ad) n c) ∧ w'.cell? (ad.add (k * 5)) = some (.int .i64 kd))) ∧ Below w.heap.size w w') from stb_and (stb_and (stb_cell _ _) (stb_and (stb_cell _ _) (stb_cell _ _))) (stb_below w))
  go_enter Tryd.func60, Tryd.ntmps60
  go_upto_region 1 with fail
  have HS : ((w.drew.cell? ⟨b1, 0, none⟩ = some (.func (.func 40) #[] #[]) ∧ (w.drew.cell? ⟨b2, 0, none⟩ = some (.slice (some ad) n c) ∧ w.drew.cell? (ad.add (k * 5)) = some (.int .i64 kd))) ∧ Below w.heap.size w w.drew) := ⟨⟨b10, b20, d0⟩, belowD w⟩
  clear b10 b20 d0
  refine wp_region_noPanic ?_
  refine wp_region_held_drew (S := (fun w' => (w'.cell? ⟨b1, 0, none⟩ = some (.func (.func 40) #[] #[]) ∧ (w'.cell? ⟨b2, 0, none⟩ = some (.slice (some ad) n c) ∧ w'.cell? (ad.add (k * 5)) = some (.int .i64 kd))) ∧ Below w.heap.size w w')) (by kernel_rfl) HS (fun hHeld => ?_)
  clear HS
  refine tk 0 rfl ?_
  refine tk 1 rfl ?_
  refine tk 2 rfl ?_
  refine tk 3 rfl ?_
  refine tk 4 rfl ?_
  refine tk 5 rfl ?_
  (try simp only [cl, Act.put])
  refine rd 6 rfl fun K hK => ?_
  go_simp
  (go_at_call 40; (with_reducible refine (CL.out _ (bl_of (by with_reducible assumption))).mono ?_); rintro e5 w5 ⟨rfl, hb⟩)
  go_wp2_with fail
  refine hK.out _ _ (STB.out _ _ hb (by with_reducible assumption)) (fun hH2 => ?_)
  clear hK K hHeld hb; have hHeld := hH2; clear hH2
  (try simp only [cl, Act.put])
  refine tk 7 rfl ?_
  refine tk 8 rfl ?_
  (try simp only [cl, Act.put])
  refine wpAnyH_done (by kernel_rfl) ?_ _
  refine NoPanic.normal ?_
  have HB := Lib.hid (bl_of hHeld)
  clear hHeld
  go_wp2_with fail
  go_ret
  exact ⟨rfl, HB.out⟩

set_option maxRecDepth 10000 in
set_option maxHeartbeats 4000000 in
theorem all1_arg (w : World) (b1 b2 : Nat) (A : Option Addr) (c : Nat) (ns : List Nd) (k : Nat) (hB1 : Blk w b1 #[.func (.func 42) #[] #[]]) (hB2 : Blk w b2 #[.slice A ns.length c]) (hN : NodesAt w (.slice A ns.length c) ns) (hc : TstCall 42 #[] (.arg) w) (hk : k < ns.length) :
    Calls Tryd.prog 60 #[.int .i64 k, .pointer (some ⟨b1, 0, none⟩), .pointer (some ⟨b2, 0, none⟩)] w fun e w' => e = .returned (.bool (!Tst.f (.arg) (kindAt ns k))) ∧ Below w.heap.size w w' := by
  obtain ⟨A', c', rs, e0, h2, h3, h4, h5, h6⟩ := hN
  injection e0 with e1 _ e2
  subst e1 e2
  obtain ⟨n, hn⟩ : ∃ n, n = ns.length := ⟨_, rfl⟩
  obtain ⟨x, hx⟩ : ∃ x, rs[k]? = some x := ⟨_, List.getElem?_eq_getElem (by rw [show rs.length = ns.length by rw [← h4, List.length_map]]; exact hk)⟩
  have hnx : ns[k]? = some x.2 := by rw [← h4, List.getElem?_map, hx]; rfl
  rw [← hn] at h5 hk hB2
  obtain ⟨ad, rfl, d0, _⟩ := nodes_cells h5 (Below.refl _ _) hx (by omega)
  have hkd : kindAt ns k = x.2.kind := by unfold kindAt ndAt; rw [Int.toNat_natCast, hnx]; rfl
  rw [hkd]
  have cl : ∀ w' : World, Below w.heap.size w w' → Calls Tryd.prog 42 #[.int .i64 x.2.kind] w' (fun e w2 => e = .returned (.bool (Tst.f (.arg) x.2.kind)) ∧ Below w'.heap.size w' w2) := fun w' hb => hc w' x.2.kind hb
  have i1 : (k : Int) < (n : Int) := by omega
  have i2 : (0 : Int) ≤ (k : Int) := by omega
  have b10 : w.cell? ⟨b1, 0, none⟩ = some (.func (.func 42) #[] #[]) := hB1.cell 0
  have b20 : w.cell? ⟨b2, 0, none⟩ = some (.slice (some ad) n c) := hB2.cell 0
  generalize x.2.kind = kd at *
  generalize Tst.f (.arg) kd = BV at *
  have CL := Lib.hid cl
  clear cl hc hkd hnx hx hk h2 h3 h4 h5 h6 hB1 hB2 hn
  have STB := Lib.hid (show Stb (fun w' => (w'.cell? ⟨b1, 0, none⟩ = some (.func (.func 42) #[] #[]) ∧ (w'.cell? ⟨b2, 0, none⟩ = some (.slice (some ad) n c) ∧ w'.cell? (ad.add (k * 5)) = some (.int .i64 kd))) ∧ Below w.heap.size w w') from stb_and (stb_and (stb_cell _ _) (stb_and (stb_cell _ _) (stb_cell _ _))) (stb_below w))
  go_enter Tryd.func60, Tryd.ntmps60
  go_upto_region 1 with fail
  have HS : ((w.drew.cell? ⟨b1, 0, none⟩ = some (.func (.func 42) #[] #[]) ∧ (w.drew.cell? ⟨b2, 0, none⟩ = some (.slice (some ad) n c) ∧ w.drew.cell? (ad.add (k * 5)) = some (.int .i64 kd))) ∧ Below w.heap.size w w.drew) := ⟨⟨b10, b20, d0⟩, belowD w⟩
  clear b10 b20 d0
  refine wp_region_noPanic ?_
  refine wp_region_held_drew (S := (fun w' => (w'.cell? ⟨b1, 0, none⟩ = some (.func (.func 42) #[] #[]) ∧ (w'.cell? ⟨b2, 0, none⟩ = some (.slice (some ad) n c) ∧ w'.cell? (ad.add (k * 5)) = some (.int .i64 kd))) ∧ Below w.heap.size w w')) (by kernel_rfl) HS (fun hHeld => ?_)
  clear HS
  refine tk 0 rfl ?_
  refine tk 1 rfl ?_
  refine tk 2 rfl ?_
  refine tk 3 rfl ?_
  refine tk 4 rfl ?_
  refine tk 5 rfl ?_
  (try simp only [cl, Act.put])
  refine rd 6 rfl fun K hK => ?_
  go_simp
  (go_at_call 42; (with_reducible refine (CL.out _ (bl_of (by with_reducible assumption))).mono ?_); rintro e5 w5 ⟨rfl, hb⟩)
  go_wp2_with fail
  refine hK.out _ _ (STB.out _ _ hb (by with_reducible assumption)) (fun hH2 => ?_)
  clear hK K hHeld hb; have hHeld := hH2; clear hH2
  (try simp only [cl, Act.put])
  refine tk 7 rfl ?_
  refine tk 8 rfl ?_
  (try simp only [cl, Act.put])
  refine wpAnyH_done (by kernel_rfl) ?_ _
  refine NoPanic.normal ?_
  have HB := Lib.hid (bl_of hHeld)
  clear hHeld
  go_wp2_with fail
  go_ret
  exact ⟨rfl, HB.out⟩
end Go.Proofs.YthihdddlneclmaaDoor

namespace Go.Proofs.YthihdddlneclmaaDoor
open Go.RowKit

/-- All kids stand in the list. -/
def KidsIn (ks : List Int) (n : Nat) : Prop := ∀ k ∈ ks, 0 ≤ k ∧ k < n
theorem all1_any (w : World) (t : Tst) (u : Value) (b1 b2 : Nat) (A : Option Addr) (c : Nat) (ns : List Nd) (hu : TstAt w t u) (hB1 : Blk w b1 #[u]) (hB2 : Blk w b2 #[.slice A ns.length c]) (hN : NodesAt w (.slice A ns.length c) ns) (w' : World) (hb : Below w.heap.size w w') (k : Int) (hk : 0 ≤ k ∧ k < ns.length) :
    Calls Tryd.prog 60 #[.int .i64 k, .pointer (some ⟨b1, 0, none⟩), .pointer (some ⟨b2, 0, none⟩)] w' fun e w2 => e = .returned (.bool (!t.f (kindAt ns k))) ∧ Below w'.heap.size w' w2 := by
  obtain ⟨j, rfl⟩ : ∃ j : Nat, k = j := ⟨k.toNat, by omega⟩
  have hu' := hu.below hb
  have hc := tst_call hu'
  obtain ⟨f, cap, e, hc⟩ := hc
  have B1 := hB1.keep hb
  rw [e] at B1
  have B2 := hB2.keep hb
  have N := hN.below hb
  have hj : j < ns.length := by omega
  cases t with
  | is ks =>
    obtain ⟨b, A', c', e', h1, h2⟩ := hu'
    rw [e'] at e
    injection e with e1 e2 e3
    injection e1 with e1
    subst e1 e3
    exact all1_is w' b ks b1 b2 A c ns j B1 B2 N hc hj
  | stmt =>
    rw [show u = _ from hu'] at e
    injection e with e1 e2 e3
    injection e1 with e1
    subst e1 e3
    exact all1_stmt w' b1 b2 A c ns j B1 B2 N hc hj
  | expr =>
    rw [show u = _ from hu'] at e
    injection e with e1 e2 e3
    injection e1 with e1
    subst e1 e3
    exact all1_expr w' b1 b2 A c ns j B1 B2 N hc hj
  | arg =>
    rw [show u = _ from hu'] at e
    injection e with e1 e2 e3
    injection e1 with e1
    subst e1 e3
    exact all1_arg w' b1 b2 A c ns j B1 B2 N hc hj

theorem any_snoc {l : List Int} {f : Int → Bool} {k : Nat} {x : Int} (hk : l[k]? = some x) (h : (l.take k).any f = false) : (l.take (k + 1)).any f = f x := by
  rw [List.take_add_one, hk, List.any_append, h, Bool.false_or]
  simp
set_option maxHeartbeats 2000000 in
theorem tindexf_any (w : World) (v : Value) (l : List Int) (f : Int → Bool) (b1 b2 : Nat) (h : IntsL w v l) (hf : ∀ (w' : World), Below w.heap.size w w' → ∀ k ∈ l, Calls Tryd.prog 60 #[.int .i64 k, .pointer (some ⟨b1, 0, none⟩), .pointer (some ⟨b2, 0, none⟩)] w' fun e w2 => e = .returned (.bool (f k)) ∧ Below w'.heap.size w' w2) :
    Calls Tryd.prog 75 #[v, .func (.func 60) #[] #[.pointer (some ⟨b1, 0, none⟩), .pointer (some ⟨b2, 0, none⟩)]] w fun e w' => (∃ z : Int, e = .returned (.int .i64 z) ∧ decide (0 ≤ z) = l.any f) ∧ Below w.heap.size w w' := by
  obtain ⟨A, cp, rfl, h2, h3, h4⟩ := h
  obtain ⟨n, hn⟩ : ∃ n, n = l.length := ⟨_, rfl⟩
  have hmx : n ≤ 9223372036854775807 := by unfold maxLen at h3; omega
  rw [← hn] at h2 h4 ⊢
  have HN := Lib.hid (And.intro hn (And.intro hmx hf))
  have H4 := Lib.hid h4
  clear hn h2 h3 h4 hmx hf
  go_enter Tryd.func75, Tryd.ntmps75
  go_wp2_with fail
  go_loopg [8] n (fun g v8 wr => Below w.heap.size w wr ∧ ∃ k : Nat, v8 = .int .i64 k ∧ k ≤ n ∧ g = n - k ∧ (l.take k).any f = false)
  case atStart => exact ⟨Below.refl _ _, 0, rfl, Nat.zero_le _, rfl, rfl⟩
  case round =>
    obtain ⟨hb, k, rfl, hk, hg, hall⟩ := hrel
    by_cases hkn : k = n
    · have e : l.take k = l := by rw [hkn, HN.out.1]; exact List.take_length
      rw [e] at hall
      have FIN := Lib.hid (And.intro (show decide ((0 : Int) ≤ -1) = l.any f from by rw [hall]; rfl) hb)
      subst hkn
      clear hk hg hall e hb
      go_wp2_with fail
      go_ret
      exact ⟨⟨_, rfl, FIN.out.1⟩, FIN.out.2⟩
    · have hlt : k < n := by omega
      obtain ⟨x, hx⟩ : ∃ x, l[k]? = some x := ⟨_, List.getElem?_eq_getElem (by have := HN.out.1; omega)⟩
      obtain ⟨ad, rfl, d0⟩ := ints_at H4.out hb hx (by omega)
      have cl := HN.out.2.2 wr hb x (List.mem_of_getElem? hx)
      have nxt := any_snoc (f := f) hx hall
      have hit : f x = true → decide ((0 : Int) ≤ (k : Int)) = l.any f := fun q => by
        rw [List.any_eq_true.2 ⟨x, List.mem_of_getElem? hx, q⟩]
        exact decide_eq_true (by omega)
      have i1 : (k : Int) < (n : Int) := by omega
      have i2 : (0 : Int) ≤ (k : Int) := by omega
      have wk : IntKind.i64.wrap ((k : Int) + 1) = (k : Int) + 1 := IntWalk.i64_in _ (by have := HN.out.2.1; omega)
      generalize f x = BX at *
      have HK := Lib.hid (And.intro hlt (And.intro hg hb))
      have NX := Lib.hid (And.intro nxt hit)
      have CL := Lib.hid cl
      clear nxt hit hx hkn hlt hk hg hall hb cl
      cases BX
      · go_wp2_with (go_at_call 60; (with_reducible refine CL.out.mono ?_); rintro e w1 ⟨rfl, hb1⟩)
        go_roundg (n - (k + 1))
        case measure => have := HK.out.1; have := HK.out.2.1; omega
        case rel => exact ⟨HK.out.2.2.trans (hb1.mono HK.out.2.2.size), k + 1, by push_cast; rfl, by have := HK.out.1; omega, rfl, NX.out.1⟩
      · go_wp2_with (go_at_call 60; (with_reducible refine CL.out.mono ?_); rintro e w1 ⟨rfl, hb1⟩)
        go_ret
        exact ⟨⟨_, rfl, NX.out.2 (by first | rfl | trivial)⟩, HK.out.2.2.trans (hb1.mono HK.out.2.2.size)⟩
set_option maxHeartbeats 1000000 in
theorem tcontf_any (w : World) (v : Value) (l : List Int) (f : Int → Bool) (b1 b2 : Nat) (h : IntsL w v l) (hf : ∀ (w' : World), Below w.heap.size w w' → ∀ k ∈ l, Calls Tryd.prog 60 #[.int .i64 k, .pointer (some ⟨b1, 0, none⟩), .pointer (some ⟨b2, 0, none⟩)] w' fun e w2 => e = .returned (.bool (f k)) ∧ Below w'.heap.size w' w2) :
    Calls Tryd.prog 59 #[v, .func (.func 60) #[] #[.pointer (some ⟨b1, 0, none⟩), .pointer (some ⟨b2, 0, none⟩)]] w fun e w' => e = .returned (.bool (l.any f)) ∧ Below w.heap.size w w' := by
  have ix := tindexf_any w v l f b1 b2 h hf
  clear h hf
  generalize l.any f = B at *
  have IX := Lib.hid ix
  clear ix
  go_enter Tryd.func59, Tryd.ntmps59
  go_wp2_with (go_at_call 75; (with_reducible refine IX.out.mono ?_); rintro e w1 ⟨⟨z, rfl, hz⟩, hb⟩; have HZ := Lib.hid (And.intro hz hb); clear hz hb)
  go_ret
  exact ⟨by rw [← HZ.out.1]; rfl, HZ.out.2⟩
theorem any_all {ns : List Nd} {ks : List Int} {f : Int → Bool} : (!ks.any fun k => !f (kindAt ns k)) = allB ns ks f := by
  unfold allB
  rw [List.all_eq_not_any_not]
set_option maxHeartbeats 1000000 in
theorem all_any (w : World) (v vk u : Value) (ns : List Nd) (ks : List Int) (t : Tst) (hN : NodesAt w v ns) (hK : IntsL w vk ks) (hu : TstAt w t u) (hk : KidsIn ks ns.length) :
    Calls Tryd.prog 36 #[v, vk, u] w fun e w' => e = .returned (.bool (allB ns ks t.f)) ∧ Below w.heap.size w w' := by
  have hmf : ∀ (fn : Fn) (first cap : Array Value) (w : World), (Instr.makeFunc fn first cap).run Tryd.prog w = .ok (.func fn first cap) w := fun _ _ _ _ => rfl
  obtain ⟨A, c, rfl⟩ : ∃ A c, v = .slice A ns.length c := by obtain ⟨A, c, _, e, _⟩ := hN; exact ⟨A, c, e⟩
  have a1 := below_alloc1 w (.cells #[.slice A ns.length c] 22)
  have a2 := below_alloc1 (w.alloc (.cells #[.slice A ns.length c] 22)) (.cells #[u] 58)
  have a := a1.trans (a2.mono a1.size)
  have B2 := (Blk.start w #[.slice A ns.length c] 22).keep a2
  have B1 := Blk.start (w.alloc (.cells #[.slice A ns.length c] 22)) #[u] 58
  rw [World.size_alloc] at B1
  have cf := tcontf_any _ vk ks (fun k => !t.f (kindAt ns k)) (w.heap.size + 1) w.heap.size (hK.below a) (fun w' hb k hm => all1_any _ t u (w.heap.size + 1) w.heap.size A c ns (hu.below a) B1 B2 (hN.below a) w' hb k (hk k hm))
  rw [← any_all]
  generalize ks.any (fun k => !t.f (kindAt ns k)) = B at *
  have CFH := Lib.hid cf
  have HA := Lib.hid a
  clear cf a a1 a2 B1 B2 hN hK hk
  obtain ⟨f, cap, hu2, _⟩ := tst_call hu
  subst hu2
  clear hu
  generalize ns.length = n at *
  go_enter Tryd.func36, Tryd.ntmps36
  go_wp2_with (go_at_call 59; (with_reducible refine CFH.out.mono ?_); rintro e w1 ⟨rfl, hb⟩)
  go_ret
  exact ⟨rfl, HA.out.trans (hb.mono HA.out.size)⟩
end Go.Proofs.YthihdddlneclmaaDoor

namespace Go.Proofs.YthihdddlneclmaaDoor
open Go.RowKit

theorem rises_snoc (ns : List Nd) : ∀ (l : List Int) (a b : Int), risesB ns (l ++ [a, b]) = (risesB ns (l ++ [a]) && decide (whichB ns a < whichB ns b))
  | [], a, b => by simp [risesB]
  | [x], a, b => by simp [risesB, Bool.and_comm]
  | x :: y :: r, a, b => by
    have := rises_snoc ns (y :: r) a b
    simp only [List.cons_append] at this ⊢
    rw [risesB, risesB, this, Bool.and_assoc]
theorem take_two {l : List Int} {k : Nat} {a b : Int} (ha : l[k]? = some a) (hb : l[k + 1]? = some b) : l.take (k + 1) = l.take k ++ [a] ∧ l.take (k + 1 + 1) = l.take k ++ [a, b] := by
  have e1 : l.take (k + 1) = l.take k ++ [a] := by rw [List.take_add_one, ha]; rfl
  exact ⟨e1, by rw [List.take_add_one, hb, e1, List.append_assoc]; rfl⟩
theorem rises_next {ns : List Nd} {l : List Int} {k : Nat} {a b : Int} (ha : l[k]? = some a) (hb : l[k + 1]? = some b) (h : risesB ns (l.take (k + 1)) = true) : risesB ns (l.take (k + 1 + 1)) = decide (whichB ns a < whichB ns b) := by
  obtain ⟨e1, e2⟩ := take_two ha hb
  rw [e2, rises_snoc, ← e1, h, Bool.true_and]
theorem rises_cut (ns : List Nd) : ∀ (l m : List Int), risesB ns l = false → risesB ns (l ++ m) = false
  | [], m, h => by simp [risesB] at h
  | [x], m, h => by simp [risesB] at h
  | x :: y :: r, m, h => by
    rw [risesB] at h
    simp only [List.cons_append]
    rw [risesB]
    rcases Bool.and_eq_false_iff.mp h with h | h
    · rw [h, Bool.false_and]
    · rw [show (y :: (r ++ m)) = (y :: r) ++ m from rfl, rises_cut ns (y :: r) m h, Bool.and_false]
theorem rises_bad {ns : List Nd} {l : List Int} {k : Nat} (h : risesB ns (l.take k) = false) : risesB ns l = false := by
  rw [← List.take_append_drop k l]
  exact rises_cut ns _ _ h

set_option maxHeartbeats 4000000 in
theorem increasing_any (w : World) (v vk : Value) (ns : List Nd) (ks : List Int) (h : NodesAt w v ns) (hk : IntsL w vk ks) (hi : KidsIn ks ns.length) :
    Calls Tryd.prog 62 #[v, vk] w fun e w' => e = .returned (.bool (risesB ns ks)) ∧ Below w.heap.size w w' := by
  have WH := Lib.hid (fun (wr : World) (hb : Below w.heap.size w wr) (k : Nat) (q : k < ns.length) => (which_any wr v ns k (h.below hb) q).mono (fun _ _ q => (⟨q.1, q.2.symm⟩ : _ ∧ _)))
  obtain ⟨A, cp, rfl, h2, h3, h4⟩ := hk
  obtain ⟨n, hn⟩ : ∃ n, n = ks.length := ⟨_, rfl⟩
  have hmx : n ≤ 9223372036854775807 := by unfold maxLen at h3; omega
  rw [← hn] at h2 h4 ⊢
  have HN := Lib.hid (And.intro hn (And.intro hmx hi))
  have H4 := Lib.hid h4
  clear hn h2 h3 h4 hmx hi h
  go_enter Tryd.func62, Tryd.ntmps62
  go_wp2_with fail
  go_loopg [5] (n - 1) (fun g v5 wr => ∃ k : Nat, v5 = .int .i64 ((k : Int) + 1) ∧ (k + 1 ≤ n ∨ k = 0) ∧ g = n - (k + 1) ∧ risesB ns (ks.take (k + 1)) = true ∧ Below w.heap.size w wr)
  case atStart => exact ⟨0, rfl, .inr rfl, rfl, by cases ks <;> rfl, Below.refl _ _⟩
  case round =>
    obtain ⟨k, rfl, hk, hg, hr, hb⟩ := hrel
    by_cases hlt : k + 1 < n
    · obtain ⟨a, ha⟩ : ∃ a, ks[k]? = some a := ⟨_, List.getElem?_eq_getElem (by have := HN.out.1; omega)⟩
      obtain ⟨b, hb2⟩ : ∃ b, ks[k + 1]? = some b := ⟨_, List.getElem?_eq_getElem (by have := HN.out.1; omega)⟩
      have ka := HN.out.2.2 a (List.mem_of_getElem? ha)
      have kb := HN.out.2.2 b (List.mem_of_getElem? hb2)
      obtain ⟨an, rfl⟩ : ∃ an : Nat, a = an := ⟨a.toNat, by omega⟩
      obtain ⟨bn, rfl⟩ : ∃ bn : Nat, b = bn := ⟨b.toNat, by omega⟩
      obtain ⟨ad, rfl, da⟩ := ints_at H4.out hb ha (by omega)
      obtain ⟨ad', ea, db⟩ := ints_at H4.out hb hb2 (by omega)
      injection ea with ea
      subst ea
      have nx := rises_next ha hb2 hr
      have NX := Lib.hid (And.intro nx (fun q => rises_bad (nx.trans q)))
      have WA := Lib.hid (fun d => WH.out (wr.drewN d) (below_drewN hb d) an (by omega))
      have WB := Lib.hid (fun d => WH.out (wr.drewN d) (below_drewN hb d) bn (by omega))
      obtain ⟨j, hj⟩ : ∃ j, j = k + 1 := ⟨_, rfl⟩
      have ej : (k : Int) + 1 = (j : Int) := by omega
      rw [ej]
      rw [← hj] at db
      have i1 : (j : Int) < (n : Int) := by omega
      have i2 : (0 : Int) ≤ (j : Int) := by omega
      have i3 : (k : Int) < (n : Int) := by omega
      have i4 : (0 : Int) ≤ (k : Int) := by omega
      have u1 : IntKind.i64.wrap ((j : Int) - 1) = (k : Int) := by rw [IntWalk.i64_in _ (by have := HN.out; omega)]; omega
      have u2 : IntKind.i64.wrap ((j : Int) + 1) = (j : Int) + 1 := IntWalk.i64_in _ (by have := HN.out; omega)
      have HK := Lib.hid (And.intro hlt (And.intro hg (And.intro hj hb)))
      clear hlt hg hj ej nx ha hb2 hk hr hb ka kb
      generalize whichB ns (an : Int) = X at *
      generalize whichB ns (bn : Int) = Y at *
      go_upto_region 4 with fail
      go_quiet (first
        | (go_at_call 63; with_reducible exact Calls.quiet_of_same (WA.out _))
        | (go_at_call 63; with_reducible exact Calls.quiet_of_same (WB.out _)))
      by_cases q : X < Y
      · have nq : ¬ Y ≤ X := by omega
        have RN := Lib.hid (NX.out.1.trans (decide_eq_true q))
        go_wp2_with fail
        go_roundg (n - (k + 1 + 1))
        case measure => have := HK.out; omega
        case rel => exact ⟨k + 1, by rw [HK.out.2.2.1], by have := HK.out; omega, rfl, RN.out, below_drewN HK.out.2.2.2 _⟩
      · have nq : Y ≤ X := by omega
        have FIN := Lib.hid (NX.out.2 (decide_eq_false q))
        clear q
        go_wp2_with fail
        go_ret
        exact ⟨by rw [FIN.out]; rfl, below_drewN HK.out.2.2.2 _⟩
    · have e : ks.take (k + 1) = ks := List.take_of_length_le (by have := HN.out.1; omega)
      rw [e] at hr
      have i1 : ¬ (k : Int) + 1 < (n : Int) := by omega
      have FIN := Lib.hid (And.intro hr hb)
      clear hk hg hr hb hlt e
      go_wp2_with fail
      go_ret
      exact ⟨by rw [FIN.out.1]; rfl, FIN.out.2⟩
end Go.Proofs.YthihdddlneclmaaDoor

namespace Go.Proofs.YthihdddlneclmaaDoor
open Go.RowKit

/-! ### Plain: the kids of a tree's nodes -/
theorem kidsO_in (n a : Nat) : ∀ (x : List Int) (p q : List Int), kidsO n a x p = some q → ∀ k ∈ x, (a : Int) < k ∧ k < (n : Int)
  | [], p, q, h, k, hk => by cases hk
  | y :: r, p, q, h, k, hk => by
    rw [kidsO] at h
    split at h
    · cases h
    · rename_i hb
      rcases List.mem_cons.mp hk with e | e
      · subst e
        omega
      · exact kidsO_in n a r _ q h k e
theorem parK_in (ns : List Nd) : ∀ (j : Nat) (p : List Int), parK ns j = some p → ∀ (i : Nat) (d : Nd), i < j → ns[i]? = some d → ∀ k ∈ d.kids, (i : Int) < k ∧ k < (ns.length : Int)
  | 0, p, h, i, d, hi, hd => absurd hi (Nat.not_lt_zero _)
  | j + 1, p, h, i, d, hi, hd => by
    rw [parK] at h
    cases hq : parK ns j with
    | none => rw [hq] at h; cases h
    | some q =>
      rw [hq, Option.bind_some] at h
      split at h
      · cases h
      · by_cases e : i = j
        · subst e
          rw [ndAt_of hd] at h
          exact kidsO_in _ _ _ _ _ h
        · exact parK_in ns j q hq i d (by omega) hd
theorem parT_in {ns : List Nd} {p : List Int} (h : parT ns = some p) {i : Nat} {d : Nd} (hd : ns[i]? = some d) : ∀ k ∈ d.kids, (i : Int) < k ∧ k < (ns.length : Int) := by
  have hi := (List.getElem?_eq_some_iff.mp hd).1
  unfold parT at h
  split at h
  · cases h
  · exact parK_in ns _ p h i d hi hd
theorem parT_kids {ns : List Nd} {p : List Int} (h : parT ns = some p) {i : Nat} {d : Nd} (hd : ns[i]? = some d) : KidsIn d.kids ns.length := fun k hk => by
  have := parT_in h hd k hk
  omega

/-- What valid answers. -/
def ValidCalls : Prop := ∀ (w : World) (v : Value) (ns : List Nd) (x : NdV × Nd), StrRow w 3 keysL → NodesAt w v ns → NdAt w x → KidsIn x.2.kids ns.length →
  Calls Tryd.prog 13 #[v, ndV x] w fun e w' => e = .returned (.bool (validB ns x.2)) ∧ Below w.heap.size w w'
theorem rightN_none {ns : List Nd} (h : parT ns = none) : rightN ns = false := by
  unfold rightN
  rw [h]
theorem rightN_some {ns : List Nd} {p : List Int} (h : parT ns = some p) : rightN ns = (kindAt ns 0 == 0 && decide (maxL (depT p) ≤ 24) && ns.all (validB ns)) := by
  unfold rightN
  rw [h]
theorem kindAt_of {ns : List Nd} {k : Nat} {d : Nd} (h : ns[k]? = some d) : kindAt ns k = d.kind := by
  unfold kindAt
  rw [ndAt_of h]

set_option maxHeartbeats 8000000 in
theorem right_of (hV : ValidCalls) (w : World) (v : Value) (ns : List Nd) (h : NodesAt w v ns) (ht : StrRow w 3 keysL) :
    Calls Tryd.prog 7 #[v] w fun e w' => e = .returned (.bool (rightN ns)) ∧ Below w.heap.size w w' := by
  cases hp : parT ns with
  | none =>
    have pn := parents_none h hp
    rw [rightN_none hp]
    clear h hp ht hV
    go_enter Tryd.func7, Tryd.ntmps7
    go_wp2_with (go_at_call 10; (with_reducible refine pn.mono ?_); rintro e w1 ⟨rfl, hb⟩; have HB := Lib.hid hb; clear hb)
    go_ret
    exact ⟨rfl, HB.out⟩
  | some p =>
    have pn := parents_some h hp
    have hr := rightN_some hp
    obtain ⟨f1, f2, _, _⟩ := parT_facts hp
    have de := fun w g c => depths_of (w := w) (g := g) (c := c) hp
    have mx := fun w g c => max_of (w := w) (g := g) (c := c) hp
    have hv := (fun (w' : World) (hb : Below w.heap.size w w') (i : Nat) (x : NdV × Nd) (hx : NdAt w x) (hd : ns[i]? = some x.2) => hV w' v ns x (ht.below hb) (h.below hb) (hx.below hb) (parT_kids hp hd))
    obtain ⟨A, cp, rs, rfl, h2, h3, h4, h5, h6⟩ := h
    obtain ⟨n, hn⟩ : ∃ n, n = ns.length := ⟨_, rfl⟩
    rw [← hn] at h2 h5 f1 f2 ⊢
    rw [← hn] at pn
    simp only [← hn] at de mx hv
    have HV := Lib.hid hv
    have DE := Lib.hid de
    have MX := Lib.hid mx
    obtain ⟨x0, hx0⟩ : ∃ x, rs[0]? = some x := ⟨_, List.getElem?_eq_getElem (by have := congrArg List.length h4; rw [List.length_map] at this; omega)⟩
    have hk0 : kindAt ns 0 = x0.2.kind := kindAt_of (k := 0) (by rw [← h4, List.getElem?_map, hx0]; rfl)
    obtain ⟨ad, rfl, _⟩ := nodes_cells h5 (Below.refl _ _) hx0 (by omega)
    have D0 := Lib.hid (fun (w' : World) (hb : Below w.heap.size w w') => show w'.cell? ad = some (.int .i64 (kindAt ns 0)) from by
      obtain ⟨ad', e, d0, _⟩ := nodes_cells h5 hb hx0 (by omega)
      injection e with e
      rw [e, hk0]
      rwa [show ad'.add (0 * 5) = ad' by unfold Addr.add; simp] at d0)
    rw [hr]
    have HN := Lib.hid (And.intro hn (And.intro f1 f2))
    have H4 := Lib.hid (And.intro h4 (And.intro h5 h6))
    have i0 : (0 : Int) < (n : Int) := by omega
    clear hn f1 f2 h2 h3 h4 h5 h6 hx0 hk0 hr hp ht hV de mx hv
    generalize kindAt ns 0 = K0 at *
    generalize maxL (depT p) = M at *
    cases t1 : (K0 == 0)
    · have t2 : (K0 != 0) = true := by rw [bne, t1]; rfl
      go_enter Tryd.func7, Tryd.ntmps7
      go_wp2_with (go_at_call 10; (with_reducible refine pn.mono ?_); rintro e w1 ⟨g, c, rfl, hP, hb⟩; have HB := Lib.hid (And.intro hP hb); have d0 := D0.out w1 hb; clear hP hb)
      go_ret
      exact ⟨rfl, HB.out.2⟩
    · have t2 : (K0 != 0) = false := by rw [bne, t1]; rfl
      by_cases q : 24 < M
      · have q2 : ¬ M ≤ 24 := by omega
        rw [decide_eq_false q2]
        go_enter Tryd.func7, Tryd.ntmps7
        go_wp2_with (first
          | (go_at_call 10; (with_reducible refine pn.mono ?_); rintro e w1 ⟨g, c, rfl, hP, hb⟩; have HB := Lib.hid (And.intro hP hb); have d0 := D0.out w1 hb; clear hP hb)
          | (go_at_call 12; (with_reducible refine (DE.out _ _ _ HB.out.1).mono ?_); rintro e w2 ⟨g2, c2, rfl, hP2, hb2⟩; have HC := Lib.hid (And.intro hP2 hb2); clear hP2 hb2)
          | (go_at_call 11; (with_reducible refine (MX.out _ _ _ HC.out.1).mono ?_); rintro e w3 ⟨rfl, rfl⟩))
        go_ret
        exact ⟨rfl, HB.out.2.trans (HC.out.2.mono HB.out.2.size)⟩
      · have q2 : M ≤ 24 := by omega
        rw [decide_eq_true q2]
        go_enter Tryd.func7, Tryd.ntmps7
        go_wp2_with (first
          | (go_at_call 10; (with_reducible refine pn.mono ?_); rintro e w1 ⟨g, c, rfl, hP, hb⟩; have HB := Lib.hid (And.intro hP hb); have d0 := D0.out w1 hb; clear hP hb)
          | (go_at_call 12; (with_reducible refine (DE.out _ _ _ HB.out.1).mono ?_); rintro e w2 ⟨g2, c2, rfl, hP2, hb2⟩; have HC := Lib.hid (And.intro hP2 hb2); clear hP2 hb2)
          | (go_at_call 11; (with_reducible refine (MX.out _ _ _ HC.out.1).mono ?_); rintro e w3 ⟨rfl, rfl⟩))
        have bC := HB.out.2.trans (HC.out.2.mono HB.out.2.size)
        clear DE MX HC d0
        go_loopg [29] n (fun gk v29 wr => ∃ j : Nat, v29 = .int .i64 j ∧ j ≤ n ∧ gk = n - j ∧ (ns.take j).all (validB ns) = true ∧ Below w.heap.size w wr)
        case atStart => exact ⟨0, rfl, Nat.zero_le _, rfl, rfl, bC⟩
        case round =>
          clear bC HB
          obtain ⟨j, rfl, hj, hgk, hall, hb⟩ := hrel
          by_cases hjn : j = n
          · have e : ns.take j = ns := by rw [hjn, HN.out.1]; exact List.take_length
            rw [e] at hall
            subst hjn
            have FIN := Lib.hid (And.intro hall hb)
            clear e hall hb hgk hj
            go_wp2_with fail
            go_ret
            exact ⟨by rw [FIN.out.1]; rfl, FIN.out.2⟩
          have hlt : j < n := by omega
          obtain ⟨x, hx⟩ : ∃ x, rs[j]? = some x := ⟨_, List.getElem?_eq_getElem (by have := congrArg List.length H4.out.1; rw [List.length_map] at this; have := HN.out.1; omega)⟩
          have hd : ns[j]? = some x.2 := by rw [← H4.out.1, List.getElem?_map, hx]; rfl
          have VX := Lib.hid (fun w' hb => HV.out w' hb j x (H4.out.2.2 x (List.mem_of_getElem? hx)) hd)
          have nxt := all_snoc (f := validB ns) hd hall
          have bad : validB ns x.2 = false → ns.all (validB ns) = false := all_not hd
          obtain ⟨ad', ea, d0, d1, d2, d3, d4⟩ := nodes_cells H4.out.2.1 hb hx (by omega)
          injection ea with ea
          subst ea
          have i2 : (j : Int) < (n : Int) := by omega
          have i3 : (0 : Int) ≤ (j : Int) := by omega
          have u1 : IntKind.i64.wrap ((j : Int) + 1) = (j : Int) + 1 := IntWalk.i64_in _ (by have := HN.out; omega)
          obtain ⟨⟨A1, c1, ev1, _⟩, ⟨A2, c2', ev2, _⟩, A3, c3, ev3, _⟩ := H4.out.2.2 x (List.mem_of_getElem? hx)
          have HJ := Lib.hid (And.intro hgk (And.intro hb hlt))
          have NX := Lib.hid (And.intro nxt bad)
          clear hgk hb hlt hjn hj hx hd hall nxt bad
          obtain ⟨⟨va, vb, vc⟩, kd, ws, nums, ks, ps⟩ := x
          dsimp only at d0 d1 d2 d3 d4 ev1 ev2 ev3
          subst ev1 ev2 ev3
          unfold ndV at VX
          dsimp only at VX
          generalize validB ns ⟨kd, ws, nums, ks, ps⟩ = B at *
          go_upto_region 7 with fail
          have a5 := below_alloc1 wr (.cells #[.int .i64 kd, .slice A1 ws.length c1, .slice A2 nums.length c2', .slice A3 ks.length c3, .int .i64 ps] 30)
          have b5 := HJ.out.2.1.trans (a5.mono HJ.out.2.1.size)
          have B5 := Blk.start wr #[.int .i64 kd, .slice A1 ws.length c1, .slice A2 nums.length c2', .slice A3 ks.length c3, .int .i64 ps] 30
          have H5 := Lib.hid b5
          have g0 := B5.cell 0
          have g1 := B5.cell 1
          have g2' := B5.cell 2
          have g3 := B5.cell 3
          have g4 := B5.cell 4
          clear a5 b5 B5 d0 d1 d2 d3 d4
          generalize wr.alloc (.cells #[.int .i64 kd, .slice A1 ws.length c1, .slice A2 nums.length c2', .slice A3 ks.length c3, .int .i64 ps] 30) = w5 at *
          generalize hnb : wr.heap.size = nb at *
          clear hnb
          simp only [List.getElem?_toArray, List.getElem?_cons_zero, List.getElem?_cons_succ] at g0 g1 g2' g3 g4
          cases B
          · have FIN := Lib.hid (NX.out.2 rfl)
            go_wp2_with (go_at_call 13; (with_reducible refine (VX.out _ H5.out).mono ?_); rintro e w6 ⟨rfl, hb6⟩; have H6 := Lib.hid hb6; clear hb6)
            go_ret
            exact ⟨by rw [FIN.out]; rfl, H5.out.trans (H6.out.mono H5.out.size)⟩
          · go_wp2_with (go_at_call 13; (with_reducible refine (VX.out _ H5.out).mono ?_); rintro e w6 ⟨rfl, hb6⟩; have H6 := Lib.hid hb6; clear hb6)
            go_roundg (n - (j + 1))
            case measure => have := HJ.out; omega
            case rel => exact ⟨j + 1, by push_cast; rfl, by have := HJ.out; omega, rfl, NX.out.1, H5.out.trans (H6.out.mono H5.out.size)⟩
end Go.Proofs.YthihdddlneclmaaDoor

namespace Go.Proofs.YthihdddlneclmaaDoor
open Go.RowKit

/-- Depth beyond what the list can hold adds nothing. -/
theorem preF_more {ns : List Nd} {p : List Int} (h : parT ns = some p) : ∀ (d k : Nat), k < ns.length → ns.length ≤ k + d + 1 → preF ns (d + 1) (k : Int) = preF ns d (k : Int)
  | 0, k, hk, hn => by
    have hx : ns[k]? = some ns[k] := List.getElem?_eq_getElem hk
    have : ns[k].kids = [] := List.eq_nil_iff_forall_not_mem.mpr (fun y hy => by have := parT_in h hx y hy; omega)
    rw [preF, preF, ndAt_of hx, this]
    rfl
  | d + 1, k, hk, hn => by
    have hx : ns[k]? = some ns[k] := List.getElem?_eq_getElem hk
    rw [preF, preF, ndAt_of hx]
    congr 1
    unfold List.flatMap
    congr 1
    apply List.map_congr_left
    intro y hy
    have := parT_in h hx y hy
    obtain ⟨m, rfl⟩ : ∃ m : Nat, y = m := ⟨y.toNat, by omega⟩
    exact preF_more h d m (by omega) (by omega)
/-- What Walk answers. -/
def walkT (ns : List Nd) : List Int := if rightN ns = true then preF ns ns.length 0 else []
theorem right_par {ns : List Nd} (h : rightN ns = true) : ∃ p, parT ns = some p := by
  unfold rightN at h
  split at h
  · cases h
  · exact ⟨_, by assumption⟩
end Go.Proofs.YthihdddlneclmaaDoor

namespace Go.Proofs.YthihdddlneclmaaDoor
open Go.RowKit

theorem atI_get (p : List Int) (m : Nat) : atI p (m : Int) = (p[m]?).getD (-1) := by unfold atI; rw [Int.toNat_natCast]
theorem atI_putNe {p : List Int} {j m : Nat} (a : Int) (h : j ≠ m) : atI (p.set j a) (m : Int) = atI p m := by
  rw [atI_get, atI_get, List.getElem?_set_ne h]
theorem atI_putEq {p : List Int} {m : Nat} (a : Int) (h : m < p.length) : atI (p.set m a) (m : Int) = a := by
  rw [atI_get, List.getElem?_set_self h]; rfl
/-- What putting a node's kids says. -/
theorem kidsO_says (n a : Nat) : ∀ (x : List Int) (p q : List Int), p.length = n → kidsO n a x p = some q →
    (∀ m : Nat, 0 ≤ atI p m → atI q m = atI p m) ∧ (∀ k ∈ x, atI p k < 0 ∧ atI q k = a) ∧ x.Nodup ∧ (∀ m : Nat, (m : Int) ∉ x → atI q m = atI p m)
  | [], p, q, hn, h => by
    rw [kidsO] at h
    injection h with h
    subst h
    exact ⟨fun _ _ => rfl, (fun k hk => absurd hk List.not_mem_nil), List.nodup_nil, fun _ _ => rfl⟩
  | k :: r, p, q, hn, h => by
    rw [kidsO] at h
    split at h
    · cases h
    · rename_i hb
      obtain ⟨m, rfl⟩ : ∃ m : Nat, k = m := ⟨k.toNat, by omega⟩
      rw [Int.toNat_natCast] at h
      have hm : m < p.length := by omega
      obtain ⟨i1, i2, i3, i4⟩ := kidsO_says n a r (p.set m a) q (by rw [List.length_set]; exact hn) h
      have ea : atI (p.set m a) (m : Int) = a := atI_putEq _ hm
      have eq : atI q (m : Int) = a := by rw [i1 m (by rw [ea]; omega), ea]
      have nr : (m : Int) ∉ r := fun hr => by have := (i2 _ hr).1; rw [ea] at this; omega
      have hin := kidsO_in n a _ _ _ h
      refine ⟨fun j hj => ?_, fun y hy => ?_, List.nodup_cons.mpr ⟨nr, i3⟩, fun j hj => ?_⟩
      · have ne : m ≠ j := fun e => by subst e; omega
        rw [i1 j (by rw [atI_putNe _ ne]; exact hj), atI_putNe _ ne]
      · rcases List.mem_cons.mp hy with e | e
        · subst e
          exact ⟨by omega, eq⟩
        · obtain ⟨y', rfl⟩ : ∃ y' : Nat, y = y' := ⟨y.toNat, by have := hin y e; omega⟩
          have := i2 _ e
          refine ⟨?_, this.2⟩
          have ne : m ≠ y' := fun e' => nr (by rw [e']; exact e)
          rw [atI_putNe _ ne] at this
          exact this.1
      · have ne : m ≠ j := fun e => hj (by rw [e]; exact List.mem_cons_self)
        rw [i4 j (fun e => hj (List.mem_cons_of_mem _ e)), atI_putNe _ ne]
structure Links (ns : List Nd) (j : Nat) (p : List Int) : Prop where
  len : p.length = ns.length
  of : ∀ (i : Nat) (d : Nd), i < j → ns[i]? = some d → d.kids.Nodup ∧ ∀ k ∈ d.kids, (i : Int) < k ∧ k < (ns.length : Int) ∧ atI p k = i
  at_ : ∀ m : Nat, 0 ≤ atI p m → ∃ (i : Nat) (d : Nd), i < j ∧ ns[i]? = some d ∧ atI p m = i ∧ (m : Int) ∈ d.kids
  each : ∀ m : Nat, 0 < m → m < j → 0 ≤ atI p m
theorem parK_links (ns : List Nd) : ∀ (j : Nat) (p : List Int), j ≤ ns.length → parK ns j = some p → Links ns j p
  | 0, p, hj, h => by
    rw [parK] at h
    injection h with h
    subst h
    refine ⟨List.length_replicate, fun i d hi => absurd hi (Nat.not_lt_zero _), fun m hm => ?_, fun m _ h => absurd h (Nat.not_lt_zero _)⟩
    rw [atI_get, List.getElem?_replicate] at hm
    split at hm <;> simp at hm
  | j + 1, p, hj, h => by
    rw [parK] at h
    cases hq : parK ns j with
    | none => rw [hq] at h; cases h
    | some q =>
      rw [hq, Option.bind_some] at h
      have L := parK_links ns j q (by omega) hq
      split at h
      · cases h
      · rename_i hz
        obtain ⟨d, hd⟩ : ∃ d, ns[j]? = some d := ⟨_, List.getElem?_eq_getElem (by omega)⟩
        rw [ndAt_of hd] at h
        obtain ⟨i1, i2, i3, i4⟩ := kidsO_says _ _ _ _ _ L.len h
        have hin := kidsO_in _ _ _ _ _ h
        refine ⟨(kidsO_len _ _ _ _ _ h).trans L.len, fun i e hi he => ?_, fun m hm => ?_, fun m h0 h1 => ?_⟩
        · by_cases e' : i = j
          · subst e'
            obtain rfl : d = e := Option.some.inj (hd.symm.trans he)
            exact ⟨i3, fun k hk => ⟨(hin k hk).1, (hin k hk).2, (i2 k hk).2⟩⟩
          · obtain ⟨a, b⟩ := L.of i e (by omega) he
            refine ⟨a, fun k hk => ?_⟩
            obtain ⟨b1, b2, b3⟩ := b k hk
            obtain ⟨k', rfl⟩ : ∃ k' : Nat, k = k' := ⟨k.toNat, by omega⟩
            exact ⟨b1, b2, by rw [i1 k' (by omega)]; exact b3⟩
        · by_cases e' : (m : Int) ∈ d.kids
          · exact ⟨j, d, by omega, hd, (i2 _ e').2, e'⟩
          · rw [i4 m e'] at hm ⊢
            obtain ⟨i, d', a, b, c⟩ := L.at_ m hm
            exact ⟨i, d', by omega, b, c⟩
        · by_cases e' : m = j
          · have : 0 ≤ atI q (j : Int) := by omega
            rw [e', i1 j this]
            exact this
          · have := L.each m h0 (by omega)
            rw [i1 m this]
            exact this
theorem parT_links {ns : List Nd} {p : List Int} (h : parT ns = some p) : Links ns ns.length p := by
  unfold parT at h
  split at h
  · cases h
  · exact parK_links ns _ p (Nat.le_refl _) h

/-! ### Ancestors -/
/-- The node so many steps up. -/
def up (p : List Int) : Nat → Int → Int
  | 0, x => x
  | j + 1, x => up p j (atI p x)
theorem up_add (p : List Int) : ∀ (a b : Nat) (x : Int), up p (a + b) x = up p b (up p a x)
  | 0, b, x => by rw [Nat.zero_add]; rfl
  | a + 1, b, x => by rw [show a + 1 + b = (a + b) + 1 by omega]; exact up_add p a b (atI p x)
section
variable {ns : List Nd} {p : List Int}
theorem kid_par (L : Links ns ns.length p) {i : Nat} {d : Nd} (hd : ns[i]? = some d) {k : Int} (hk : k ∈ d.kids) : (i : Int) < k ∧ k < (ns.length : Int) ∧ atI p k = i :=
  (L.of i d (List.getElem?_eq_some_iff.mp hd).1 hd).2 k hk
theorem pre_up (L : Links ns ns.length p) : ∀ (d k : Nat), k < ns.length → ∀ x ∈ preF ns d (k : Int), (k : Int) ≤ x ∧ x < (ns.length : Int) ∧ ∃ j, up p j x = (k : Int)
  | 0, k, hk, x, hx => by
    rw [preF] at hx
    obtain rfl : x = k := by simpa using hx
    exact ⟨Int.le_refl _, by omega, 0, rfl⟩
  | d + 1, k, hk, x, hx => by
    rw [preF] at hx
    rcases List.mem_cons.mp hx with e | e
    · subst e
      exact ⟨Int.le_refl _, by omega, 0, rfl⟩
    · obtain ⟨c, hc, hx⟩ := List.mem_flatMap.mp e
      have hd : ns[k]? = some ns[k] := List.getElem?_eq_getElem hk
      rw [ndAt_of hd] at hc
      obtain ⟨b1, b2, b3⟩ := kid_par L hd hc
      obtain ⟨c', rfl⟩ : ∃ c' : Nat, c = c' := ⟨c.toNat, by omega⟩
      obtain ⟨a1, a2, j, a3⟩ := pre_up L d c' (by omega) x hx
      refine ⟨by omega, a2, j + 1, ?_⟩
      rw [up_add, a3]
      exact b3
/-- A parent stands ahead. -/
theorem par_lt (L : Links ns ns.length p) {m : Nat} (h : 0 ≤ atI p m) : atI p m < (m : Int) := by
  obtain ⟨i, d, hi, hd, e, hm⟩ := L.at_ m h
  have := kid_par L hd hm
  omega
theorem up_le (L : Links ns ns.length p) : ∀ (j : Nat) (x : Nat), 0 ≤ up p j x → up p j x ≤ (x : Int)
  | 0, x, h => Int.le_refl _
  | j + 1, x, h => by
    show up p j (atI p x) ≤ (x : Int)
    by_cases hx : 0 ≤ atI p x
    · obtain ⟨y, hy⟩ : ∃ y : Nat, atI p x = y := ⟨(atI p x).toNat, by omega⟩
      have l1 := par_lt L hx
      have h' : 0 ≤ up p j (atI p x) := h
      rw [hy] at h' l1 ⊢
      have := up_le L j y h'
      omega
    · exact absurd h (by
        show ¬ 0 ≤ up p j (atI p x)
        exact up_neg L j _ (by omega))
where
  up_neg (L : Links ns ns.length p) : ∀ (j : Nat) (x : Int), x < 0 → ¬ 0 ≤ up p j x
    | 0, x, h => by show ¬ 0 ≤ x; omega
    | j + 1, x, h => by
      show ¬ 0 ≤ up p j (atI p x)
      have e : atI p x = atI p ((0 : Nat) : Int) := by unfold atI; rw [show x.toNat = 0 by omega]; rfl
      have : atI p ((0 : Nat) : Int) < 0 := Int.not_le.mp fun q => by
        have := par_lt L q
        omega
      exact up_neg L j _ (by omega)
/-- Kids of one node have nothing below them in common. -/
theorem kids_apart (L : Links ns ns.length p) {i : Nat} {d : Nd} (hd : ns[i]? = some d) {c1 c2 : Int} (h1 : c1 ∈ d.kids) (h2 : c2 ∈ d.kids) {x : Int} {j1 j2 : Nat} (u1 : up p j1 x = c1) (u2 : up p j2 x = c2) : c1 = c2 := by
  have one : ∀ (c1 c2 : Int) (j1 j2 : Nat), c1 ∈ d.kids → c2 ∈ d.kids → up p j1 x = c1 → up p j2 x = c2 → j1 < j2 → False := fun c1 c2 j1 j2 h1 h2 u1 u2 hlt => by
    obtain ⟨m, rfl⟩ : ∃ m, j2 = j1 + (m + 1) := ⟨j2 - j1 - 1, by omega⟩
    obtain ⟨a1, _, a3⟩ := kid_par L hd h1
    obtain ⟨b1, _, b3⟩ := kid_par L hd h2
    rw [up_add, u1] at u2
    have u2 : up p m (atI p c1) = c2 := u2
    rw [a3] at u2
    have := up_le L m i (by omega)
    omega
  rcases Nat.lt_trichotomy j1 j2 with h | h | h
  · exact (one _ _ _ _ h1 h2 u1 u2 h).elim
  · subst h
    exact u1.symm.trans u2
  · exact (one _ _ _ _ h2 h1 u2 u1 h).elim
theorem pre_nodup (L : Links ns ns.length p) : ∀ (d k : Nat), k < ns.length → (preF ns d (k : Int)).Nodup
  | 0, k, hk => by rw [preF]; exact List.nodup_cons.mpr ⟨by simp, List.nodup_nil⟩
  | d + 1, k, hk => by
    rw [preF]
    have hd : ns[k]? = some ns[k] := List.getElem?_eq_getElem hk
    rw [ndAt_of hd]
    have nat : ∀ c ∈ ns[k].kids, ∃ c' : Nat, c = c' ∧ c' < ns.length ∧ (k : Int) < c := fun c hc => by
      have := kid_par L hd hc
      exact ⟨c.toNat, by omega, by omega, by omega⟩
    refine List.nodup_cons.mpr ⟨fun hx => ?_, ?_⟩
    · obtain ⟨c, hc, hx⟩ := List.mem_flatMap.mp hx
      obtain ⟨c', rfl, h1, h2⟩ := nat c hc
      have := (pre_up L d c' h1 _ hx).1
      omega
    · refine List.pairwise_flatMap.mpr ⟨fun c hc => ?_, ?_⟩
      · obtain ⟨c', rfl, h1, h2⟩ := nat c hc
        exact pre_nodup L d c' h1
      · refine List.Pairwise.imp_of_mem (R := fun a b => a ≠ b) (fun {a b} ha hb hne x hx y hy e => hne ?_) (L.of k _ hk hd).1
        obtain ⟨a', rfl, h1, _⟩ := nat a ha
        obtain ⟨b', rfl, h2, _⟩ := nat b hb
        subst e
        obtain ⟨_, _, j1, u1⟩ := pre_up L d a' h1 x hx
        obtain ⟨_, _, j2, u2⟩ := pre_up L d b' h2 x hy
        exact kids_apart L hd ha hb u1 u2
theorem pre_len (L : Links ns ns.length p) (d k : Nat) (hk : k < ns.length) : (preF ns d (k : Int)).length ≤ ns.length := by
  have := List.Nodup.length_le_of_subset (l₂ := (List.range ns.length).map (fun i : Nat => (i : Int))) (pre_nodup L d k hk) (fun x hx => by
    obtain ⟨a, b, _⟩ := pre_up L d k hk x hx
    exact List.mem_map.mpr ⟨x.toNat, List.mem_range.mpr (by omega), by omega⟩)
  simpa using this
end
end Go.Proofs.YthihdddlneclmaaDoor
