/-
  copy over elements of any size; slices.Repeat of one number. (Template: by-name.py fills it.)
-/
import Derived.Test.YtabnjiijgbigbaaDoorTreC
import Derived.Test.YtabnjiijgbigbaaDoorShelf
import Derived.Laws.CopyOwn
import Derived.Deep.LoopGhost
namespace Go.Proofs.YtabnjiijgbigbaaDoor
open Go.RowKit

theorem cpy_run {P : Program} (w : World) (dT sT ty elem : TypeId) (g o dLen dCap : Nat) (a : Addr) (sLen sCap size n : Nat) (cur : Array Value) (t : TypeId) (cs : List Value)
    (hu : P.underlying dT = some (.slice elem)) (hs : (P.info? elem).map (·.size) = some size)
    (hg : w.heap[g]? = some (.cells cur t (0, 0))) (hn : n = Nat.min sLen dLen) (hc : cs.length = n * size)
    (hsrc : ∀ j v, cs[j]? = some v → w.cell? (a.add j) = some v) (hfit : o + cs.length ≤ cur.size) (h1 : ∀ v ∈ cs, v.oneCell' = true) :
    (Builtin.copy_ #[dT, sT] ty #[.slice (some ⟨g, o, none⟩) dLen dCap, .slice (some a) sLen sCap]).run P w =
      .ok (goInt n) (w.setRow g (cur.toList.take o ++ cs ++ cur.toList.drop (o + cs.length)).toArray) := by
  have hl := run_loadCells_list (P := P) w a cs hsrc
  have hst := run_storeCells_at P g o t cs 0 cur w hg (by simpa using hfit) h1
  rw [hc] at hl
  cases hq : P.info? elem with
  | none => simp [hq] at hs
  | some i =>
    have hi : i.size = size := by simpa [hq] using hs
    simp [Builtin.copy_, run_underlying hu, Builtin.lenOf, Builtin.firstCells, sizeOf, typeInfo, hq, hi, ← hn, hl, hst]
theorem cpy_step {P : Program} {ops : Array Oper} {o : Oper} {a : Act} {w : World} {K : Act → World → Prop} {Q : Exit → Act → World → Prop} {E : Prop} (hgd : o.guard = none) (d s : Operand) (dT sT : TypeId)
    (ho : o.op = .call { callee := .builtin .copy, args := #[d, s], argTypes := #[dT, sT] }) (elem : TypeId) (size : Nat) (hu : P.underlying dT = some (.slice elem)) (hsz : (P.info? elem).map (·.size) = some size)
    (g off dLen dCap : Nat) (ad : Addr) (sLen sCap n : Nat) (hd : a.eval d = .slice (some ⟨g, off, none⟩) dLen dCap) (hs : a.eval s = .slice (some ad) sLen sCap)
    (cur : Array Value) (t : TypeId) (hg : w.heap[g]? = some (.cells cur t (0, 0))) (cs : List Value) (hn : n = Nat.min sLen dLen) (hc : cs.length = n * size)
    (hsrc : ∀ j v, cs[j]? = some v → w.cell? (ad.add j) = some v) (hfit : off + cs.length ≤ cur.size) (h1 : ∀ v ∈ cs, v.oneCell' = true)
    (h : ∀ w', w' = w.setRow g (cur.toList.take off ++ (cs ++ cur.toList.drop (off + cs.length))).toArray → K (a.put o.dst (goInt n)) w') :
    if Region.wanted o (yielded ops a.tmps) = true then Oper.wp P o a w K Q else E := by
  have hw : Region.wanted o (yielded ops a.tmps) = true := by simp [Region.wanted, hgd]
  rw [if_pos hw]
  have hrun := cpy_run (P := P) w dT sT o.type elem g off dLen dCap ad sLen sCap size n cur t cs hu hsz hg hn hc hsrc hfit h1
  unfold Oper.wp
  simp [execOp, ho, resolve, invoke, builtin, hd, hs, hrun, Result.andThen]
  exact h _ rfl
theorem row_reads {w : World} {b : Nat} {cs : Array Value} (h : Blk w b cs) (j : Nat) (v : Value) (hj : cs.toList[j]? = some v) : w.cell? ((⟨b, 0, none⟩ : Addr).add j) = some v := by
  rw [Addr.add_lit, Nat.zero_add, h.cell j]
  simpa using hj
theorem infoInt : (Tryd.prog.info? 3).map (fun i => (i.zero, i.size, i.bytes)) = some (some (.int .i64 0), 1, 8) := by kernel_rfl
theorem info_three {P : Program} {e : TypeId} {z : Value} {s b : Nat} (h : (P.info? e).map (fun i => (i.zero, i.size, i.bytes)) = some (some z, s, b)) : ∃ i, P.info? e = some i ∧ i.zero = some z ∧ i.size = s ∧ i.bytes = b := by
  cases hi : P.info? e with
  | none => rw [hi] at h; cases h
  | some i =>
    rw [hi] at h
    injection h with h
    injection h with h1 h
    injection h with h2 h3
    exact ⟨i, rfl, h1, h2, h3⟩

theorem below_drew (w : World) : Below w.heap.size w w.drew := (Below.refl _ _).drew
/-- A row of n numbers, the first k of them -1, the others 0. -/
def repC (k n : Nat) : List Value := List.replicate k (.int .i64 (-1)) ++ List.replicate (n - k) (.int .i64 0)
theorem repC_len {k n : Nat} (h : k ≤ n) : (repC k n).length = n := by
  unfold repC
  rw [List.length_append, List.length_replicate, List.length_replicate]
  omega
theorem repC_more {k d n : Nat} (h : k + d ≤ n) : (repC k n).take k ++ (List.replicate d (Value.int .i64 (-1)) ++ (repC k n).drop (k + (List.replicate d (Value.int .i64 (-1))).length)) = repC (k + d) n := by
  unfold repC
  rw [List.length_replicate, List.take_append_of_le_length (by simp), List.take_of_length_le (by simp), List.drop_append, List.drop_of_length_le (by simp), List.nil_append, List.length_replicate, List.drop_replicate, ← List.append_assoc, List.replicate_append_replicate]
  congr 2
  omega
theorem repC_at {k n j : Nat} {v : Value} {d : Nat} (hd : d ≤ k) (h : (List.replicate d (Value.int .i64 (-1)))[j]? = some v) : (repC k n).toArray.toList[j]? = some v := by
  rw [List.getElem?_replicate] at h
  split at h
  · rename_i q
    unfold repC
    rw [List.toList_toArray, List.getElem?_append_left (by rw [List.length_replicate]; omega), List.getElem?_replicate, if_pos (by omega)]
    exact h
  · cases h
theorem rep_one (d : Nat) : ∀ v ∈ List.replicate d (Value.int .i64 (-1)), v.oneCell' = true := fun v hv => by
  rw [List.eq_of_mem_replicate hv]
  rfl
theorem blk_row {w : World} {b : Nat} {cs : Array Value} {ty : TypeId} (h : w.heap[b]? = some (.cells cs ty (0, 0))) : Blk w b cs := ⟨ty, h⟩
theorem row_set {w : World} {g : Nat} {cur cs : Array Value} {t : TypeId} (h : w.heap[g]? = some (.cells cur t (0, 0))) : (w.setRow g cs).heap[g]? = some (.cells cs t (0, 0)) := setRow_heap w g _ _ t _ h

set_option maxRecDepth 100000 in
set_option maxHeartbeats 4000000 in
theorem trepeat_any (w : World) (bx c n : Nat) (hx : Blk w bx #[.int .i64 (-1)]) (hn1 : 1 ≤ n) (hn : n ≤ 1500) :
    Calls Tryd.prog 37 #[.slice (some ⟨bx, 0, none⟩) 1 c, .int .i64 n] w fun e w' => ∃ v, e = .returned v ∧ w'.ownsRow w.heap.size 3 1 v n (repC n n) ∧ Below w.heap.size w w' := by
  obtain ⟨i0, hi, hz0, hz1, hz2⟩ := info_three infoInt
  have HSZ := Lib.hid (show (Tryd.prog.info? 3).map (·.size) = some 1 by rw [hi]; simp [hz1])
  have bm : ∀ w : World, Calls Tryd.prog 46 #[.int .u64 1, .int .u64 n] w fun e w' => e = .returned (.tuple #[.int .u64 0, .int .u64 n]) ∧ w = w' := fun w => by
    have := Tryd.bits_Mul 1 n (by decide) (by omega) w
    rw [show (1 * n / 18446744073709551616 : Nat) = 0 by omega, show (1 * n % 18446744073709551616 : Nat) = n by omega] at this
    exact this.mono fun _ _ q => ⟨q.1, q.2.symm⟩
  have u1 : IntKind.u64.wrap (n : Int) = (n : Int) := IntWalk.u64_in _ (by omega)
  have u2 : IntKind.i64.wrap (n : Int) = (n : Int) := IntWalk.i64_in _ (by omega)
  have u3 : ¬ (n : Int) < 0 := by omega
  have u4 : ¬ (9223372036854775807 : Int) < (n : Int) := by omega
  have BM := Lib.hid bm
  have HN := Lib.hid (And.intro hn1 hn)
  clear bm hn hn1
  go_enter Tryd.func37, Tryd.ntmps37
  go_upto_region 7 with (first
    | (go_at_call 46; (with_reducible refine (BM.out _).mono ?_); rintro e w1 ⟨rfl, rfl⟩)
    | (at_make; refine wpList_make_full _ rfl _ _ 28 rfl w.heap.size 3 i0 (.int .i64 0) 1 Tryd.underlying28 hi hz0 hz1 .i64 .i64 _ _ n rfl rfl ?c1 ?c2 ?c3 ?c4 ?c5 ?_))
  case c1 => rfl
  case c2 => have := HN.out; omega
  case c3 => rw [hz2]; have := HN.out; omega
  case c4 => have := HN.out; unfold maxLen; omega
  case c5 => simp
  intro w2 hown hgrow
  have b2 : Below w.heap.size w w2 := (Below.refl _ _).grown hgrow (Nat.le_refl _) (fun k hk => by cases hk)
  have hg2 : w2.heap[w.heap.size]? = some (.cells (repC 0 n).toArray 3 (0, 0)) := by
    rcases hown.2 with ⟨e, _⟩ | ⟨g, cap, cur, e, _, hh, _, _, hsz, htk⟩
    · cases e
    · injection e with e1 e2 e3
      injection e1 with e1
      injection e1 with e1
      rw [e1, hh]
      have : cur = (repC 0 n).toArray := by
        apply Array.ext'
        have e5 : cur.toList.take (n * 1) = cur.toList := List.take_of_length_le (by rw [Array.length_toList, hsz, ← e3]; omega)
        rw [← e5, htk]
        simp only [repC, madeCells]
        apply List.ext_getElem
        · simp
        · intro i h1 h2
          simp [Nat.mod_one]
      rw [this]
  have H2 := Lib.hid (And.intro hg2 (And.intro b2 (hx.keep b2)))
  clear hown hgrow b2 hg2
  have s1 := row_reads H2.out.2.2
  have S1 := Lib.hid s1
  clear s1 hx
  obtain ⟨w3, hw3⟩ : ∃ w3, w3 = w2.setRow w.heap.size ((repC 0 n).toArray.toList.take 0 ++ [Value.int .i64 (-1)] ++ (repC 0 n).toArray.toList.drop (0 + 1)).toArray := ⟨_, rfl⟩
  have HW3 := Lib.hid hw3
  have rc : (Builtin.copy_ #[28, 28] 3 #[.slice (some ⟨w.heap.size, 0, none⟩) n n, .slice (some ⟨bx, 0, none⟩) 1 c]).run Tryd.prog w2 = .ok (.int .i64 1) w3 := by
    rw [hw3]
    exact cpy_run w2 28 28 3 3 w.heap.size 0 n n ⟨bx, 0, none⟩ 1 c 1 1 (repC 0 n).toArray 3 [.int .i64 (-1)] Tryd.underlying28 HSZ.out H2.out.1 (by show 1 = min 1 n; have := HN.out; omega) rfl S1.out (by rw [List.size_toArray, repC_len (Nat.zero_le _)]; have := HN.out; simpa using this.1) (fun v hv => by simp at hv; rw [hv]; rfl)
  clear hw3
  go_upto_region 8 with fail
  have hg3 : w3.heap[w.heap.size]? = some (.cells (repC 1 n).toArray 3 (0, 0)) := by
    rw [HW3.out, row_set H2.out.1]
    have := repC_more (k := 0) (d := 1) (n := n) (by have := HN.out; omega)
    rw [← this]
    simp
  have b3 : Below w.heap.size w w3 := by rw [HW3.out]; exact below_setRow H2.out.2.1 (Nat.le_refl _) _
  have H3 := Lib.hid (And.intro hg3 b3)
  clear hg3 b3 S1 H2 rc
  go_wp2_with fail
  go_loopg [8] (n - 1) (fun gk v8 wr => ∃ k : Nat, v8 = .int .i64 k ∧ 1 ≤ k ∧ k ≤ n ∧ gk = n - k ∧ wr.heap[w.heap.size]? = some (.cells (repC k n).toArray 3 (0, 0)) ∧ Below w.heap.size w wr)
  case atStart => exact ⟨1, rfl, Nat.le_refl _, HN.out.1, by omega, H3.out.1, H3.out.2⟩
  case round =>
    clear H3
    obtain ⟨k, rfl, hk1, hk, hgk, hg, hb⟩ := hrel
    have HG := Lib.hid (And.intro hg (And.intro hb (And.intro hgk (And.intro hk1 hk))))
    have BR := Lib.hid (row_reads (blk_row hg))
    by_cases hkn : k = n
    · subst hkn
      clear hg hb hgk hk1 hk
      go_wp2_with fail
      go_ret
      exact ⟨_, rfl, ⟨by rw [repC_len (Nat.le_refl _)]; omega, .inr ⟨w.heap.size, k, (repC k k).toArray, rfl, Nat.le_refl _, HG.out.1, Nat.le_refl _, by have := HN.out; unfold maxLen; omega, by rw [List.size_toArray, repC_len (Nat.le_refl _)]; omega, by rw [List.toList_toArray, List.take_of_length_le (by rw [repC_len (Nat.le_refl _)]; omega)]⟩⟩, HG.out.2.1⟩
    · have hlt : k < n := by omega
      have i1 : (k : Int) < (n : Int) := by omega
      have i2 : (0 : Int) ≤ (k : Int) := by omega
      have i3 : (k : Int) ≤ (n : Int) := by omega
      clear hg hb hgk hk1 hk hkn
      have HL := Lib.hid hlt
      clear hlt
      go_wp2_with fail
      go_region_law (refine cpy_step rfl (.tmp 41) (.tmp 44) 28 28 rfl 3 1 Tryd.underlying28 HSZ.out w.heap.size k (n - k) (n - k) ⟨w.heap.size, 0, none⟩ k n (min k (n - k)) (by simp [Act.eval, Act.put]; have := HL.out; omega) (by simp [Act.eval, Act.put]) (repC k n).toArray 3 HG.out.1 (List.replicate (min k (n - k)) (.int .i64 (-1))) (by first | rfl | exact Nat.min_comm _ _) (by rw [List.length_replicate, Nat.mul_one]) (fun j v hj => BR.out j v (repC_at (Nat.min_le_left _ _) hj)) (by rw [List.length_replicate, List.size_toArray, repC_len HG.out.2.2.2.2]; have := HG.out.2.2.2.2; omega) (rep_one _) ?_; intro w4 hw4; have HW4 := Lib.hid hw4; clear hw4)
      have hd4 : k + min k (n - k) ≤ n := by have := HL.out; omega
      have hg4 : w4.heap[w.heap.size]? = some (.cells (repC (k + min k (n - k)) n).toArray 3 (0, 0)) := by
        rw [HW4.out, ← repC_more hd4]
        exact row_set HG.out.1
      have b4 : Below w.heap.size w w4 := by rw [HW4.out]; exact below_setRow (HG.out.2.1.trans ((below_drew _).mono HG.out.2.1.size)) (Nat.le_refl _) _
      have u7 : IntKind.i64.wrap ((k : Int) + (min k (n - k) : Nat)) = ((k + min k (n - k) : Nat) : Int) := by
        have := HN.out
        rw [IntWalk.i64_in _ (by omega)]
        omega
      have H4 := Lib.hid (And.intro hg4 (And.intro b4 hd4))
      clear hg4 b4 hd4
      go_wp2_with fail
      go_roundg (n - (k + min k (n - k)))
      case measure => have := HL.out; have := HG.out.2.2; omega
      case rel => exact ⟨k + min k (n - k), rfl, by have := HG.out.2.2; omega, H4.out.2.2, rfl, H4.out.1, H4.out.2.1⟩
end Go.Proofs.YtabnjiijgbigbaaDoor
