/-
  The walk of package bound's witness. (Template: by-name.py fills it; gen/genBndR.py writes it.)
-/
import Derived.Test.YtkinbbhbencipaaJBndP
import Derived.Laws.CopyOwn
namespace Go.Proofs.Ytkinbbhbencipaa
open Go.RowKit

theorem run_copy_size {P : Program} (w : World) (dT sT ty elem : TypeId) (g o dLen dCap : Nat) (a : Addr) (sLen sCap size n : Nat) (cur : Array Value) (t : TypeId) (cs : List Value)
    (hu : P.underlying dT = some (.slice elem)) (hs : (P.info? elem).map (·.size) = some size)
    (hg : w.heap[g]? = some (.cells cur t (0, 0))) (hn : n = Nat.min sLen dLen) (hc : cs.length = n * size)
    (hsrc : ∀ j v, cs[j]? = some v → w.cell? (a.add j) = some v) (hfit : o + cs.length ≤ cur.size) (h1 : ∀ v ∈ cs, v.oneCell' = true) :
    (Builtin.copy_ #[dT, sT] ty #[.slice (some ⟨g, o, none⟩) dLen dCap, .slice (some a) sLen sCap]).run P w =
      .ok (goInt n) (w.setRow g (cur.toList.take o ++ cs ++ cur.toList.drop (o + cs.length)).toArray) := by
  have hl := run_loadCells_list (P := P) w a cs hsrc
  have hst := run_storeCells_at P g o t cs 0 cur w hg (by simpa using hfit) h1
  rw [hc] at hl
  cases hq : P.info? elem with
  | none => simp [hq] at hs
  | some i =>
    have hi : i.size = size := by simpa [hq] using hs
    simp [Builtin.copy_, run_underlying hu, Builtin.lenOf, Builtin.firstCells, sizeOf, typeInfo, hq, hi, ← hn, hl, hst]

theorem wpList_copy_size {P : Program} {w : World} {ops : Array Oper} {rest : List Oper} {o : Oper} {a : Act} {Q : Exit → Act → World → Prop} (hgd : o.guard = none) (d s : Operand) (dT sT : TypeId)
    (ho : o.op = .call { callee := .builtin .copy, args := #[d, s], argTypes := #[dT, sT] }) (elem : TypeId) (size : Nat) (hu : P.underlying dT = some (.slice elem)) (hsz : (P.info? elem).map (·.size) = some size)
    (g off dLen dCap : Nat) (ad : Addr) (sLen sCap n : Nat) (hd : a.eval d = .slice (some ⟨g, off, none⟩) dLen dCap) (hs : a.eval s = .slice (some ad) sLen sCap)
    (cur : Array Value) (t : TypeId) (hg : w.heap[g]? = some (.cells cur t (0, 0))) (cs : List Value) (hn : n = Nat.min sLen dLen) (hc : cs.length = n * size)
    (hsrc : ∀ j v, cs[j]? = some v → w.cell? (ad.add j) = some v) (hfit : off + cs.length ≤ cur.size) (h1 : ∀ v ∈ cs, v.oneCell' = true)
    (h : ∀ w', w' = w.setRow g (cur.toList.take off ++ (cs ++ cur.toList.drop (off + cs.length))).toArray → wpList P ops Q rest (a.put o.dst (goInt n)) w') : wpList P ops Q (o :: rest) a w := by
  refine wpList_plain hgd fun K hK => ?_
  have hrun := run_copy_size (P := P) w dT sT o.type elem g off dLen dCap ad sLen sCap size n cur t cs hu hsz hg hn hc hsrc hfit h1
  unfold Oper.wp
  simp [execOp, ho, resolve, invoke, builtin, hd, hs, hrun, Result.andThen]
  exact hK _ _ (h _ rfl)
theorem step_copy_size {P : Program} {ops : Array Oper} {o : Oper} {a : Act} {w : World} {K : Act → World → Prop} {Q : Exit → Act → World → Prop} {E : Prop} (hgd : o.guard = none) (d s : Operand) (dT sT : TypeId)
    (ho : o.op = .call { callee := .builtin .copy, args := #[d, s], argTypes := #[dT, sT] }) (elem : TypeId) (size : Nat) (hu : P.underlying dT = some (.slice elem)) (hsz : (P.info? elem).map (·.size) = some size)
    (g off dLen dCap : Nat) (ad : Addr) (sLen sCap n : Nat) (hd : a.eval d = .slice (some ⟨g, off, none⟩) dLen dCap) (hs : a.eval s = .slice (some ad) sLen sCap)
    (cur : Array Value) (t : TypeId) (hg : w.heap[g]? = some (.cells cur t (0, 0))) (cs : List Value) (hn : n = Nat.min sLen dLen) (hc : cs.length = n * size)
    (hsrc : ∀ j v, cs[j]? = some v → w.cell? (ad.add j) = some v) (hfit : off + cs.length ≤ cur.size) (h1 : ∀ v ∈ cs, v.oneCell' = true)
    (h : ∀ w', w' = w.setRow g (cur.toList.take off ++ (cs ++ cur.toList.drop (off + cs.length))).toArray → K (a.put o.dst (goInt n)) w') :
    if Region.wanted o (yielded ops a.tmps) = true then Oper.wp P o a w K Q else E := by
  have hw : Region.wanted o (yielded ops a.tmps) = true := by simp [Region.wanted, hgd]
  rw [if_pos hw]
  have hrun := run_copy_size (P := P) w dT sT o.type elem g off dLen dCap ad sLen sCap size n cur t cs hu hsz hg hn hc hsrc hfit h1
  unfold Oper.wp
  simp [execOp, ho, resolve, invoke, builtin, hd, hs, hrun, Result.andThen]
  exact h _ rfl

theorem bmul_any (w : World) : Calls Try.prog 74 #[.int .u64 1, .int .u64 8] w fun e w' => e = .returned (.tuple #[.int .u64 0, .int .u64 8]) ∧ w' = w := by
  have h : ∀ w, Calls Try.prog 90 #[.int .u64 1, .int .u64 8] w fun e w' => e = .returned (.tuple #[.int .u64 0, .int .u64 8]) ∧ w = w' := fun w => by
    have := mul64 1 8 w (by decide) (by decide)
    rw [show ((up (1 * 8) : Nat) : Int) = 0 by decide, show ((lw (1 * 8) : Nat) : Int) = 8 by decide] at this
    exact this
  go_enter Try.func74, Try.ntmps74
  go_wp2_with (go_at_call 90; refine (h _).mono ?_; rintro e w1 ⟨rfl, rfl⟩)
  go_ret2
  exact ⟨rfl, rfl⟩

theorem blk_reads {w : World} {b : Nat} {cs : Array Value} (h : Blk w b cs) (j : Nat) (v : Value) (hj : cs.toList[j]? = some v) : w.cell? ((⟨b, 0, none⟩ : Addr).add j) = some v := by
  rw [Addr.add_lit, Nat.zero_add, h.cell j]
  simpa using hj
theorem blk_of {w : World} {b : Nat} {cs : Array Value} {ty : TypeId} (h : w.heap[b]? = some (.cells cs ty (0, 0))) : Blk w b cs := ⟨ty, h⟩
theorem pre_of {cs l : List Value} {n : Nat} (h : l.take n = cs) {j : Nat} {v : Value} (hj : cs[j]? = some v) : l.toArray.toList[j]? = some v := by
  rw [← h, List.getElem?_take] at hj
  split at hj
  · simpa using hj
  · cases hj
theorem ints_one (l : List Int) : ∀ v ∈ l.map (Value.int .i64), v.oneCell' = true := fun v hv => by
  obtain ⟨x, _, rfl⟩ := List.mem_map.1 hv
  rfl
theorem set_row {w : World} {g : Nat} {cur cs : Array Value} {t : TypeId} (h : w.heap[g]? = some (.cells cur t (0, 0))) : (w.setRow g cs).heap[g]? = some (.cells cs t (0, 0)) := setRow_heap w g _ _ t _ h

/-- The cells of a row of eight fractions, the first k noughts. -/
def noughts (k : Nat) : List Value := ratCells (List.replicate k (0, 1) ++ List.replicate (8 - k) (0, 0))

set_option maxRecDepth 100000 in
set_option maxHeartbeats 4000000 in
theorem repeat_any (w : World) (bx c : Nat) (hx : Blk w bx #[.int .i64 0, .int .i64 1]) :
    Calls Try.prog 53 #[.slice (some ⟨bx, 0, none⟩) 1 c, .int .i64 8] w fun e w' => ∃ v, e = .returned v ∧ w'.ownsRow w.heap.size 25 2 v 8 (ratCells (List.replicate 8 (0, 1))) ∧ Below w.heap.size w w' := by
  obtain ⟨i0, hi, hz0, hz1, hz2⟩ := info_parts infoR
  have hsz : (Try.prog.info? 25).map (·.size) = some 2 := by rw [hi]; simp [hz1]
  have HSZ := Lib.hid hsz
  clear hsz
  go_enter Try.func53, Try.ntmps53
  go_upto_region 7 with (first
    | (go_at_call 74; (with_reducible refine (bmul_any _).mono ?_); rintro e w1 ⟨rfl, rfl⟩)
    | (at_make; refine wpList_make_full _ rfl _ _ 23 rfl w1.heap.size 25 i0 (.agg #[.int .i64 0, .int .i64 0]) 2 Try.underlying23 hi hz0 hz1 .i64 .i64 _ _ 8 rfl rfl ?c1 ?c2 ?c3 ?c4 ?c5 ?_))
  case c1 => rfl
  case c2 => rfl
  case c3 => rw [hz2]; omega
  case c4 => unfold maxLen; omega
  case c5 => simp
  intro w2 hown hgrow
  have b2 : Below w1.heap.size w1 w2 := (Below.refl _ _).grown hgrow (Nat.le_refl _) (fun k hk => by cases hk)
  have hg2 : w2.heap[w1.heap.size]? = some (.cells (noughts 0).toArray 25 (0, 0)) := by
    rcases hown.2 with ⟨e, _⟩ | ⟨g, cap, cur, e, _, hh, _, _, hsz, htk⟩
    · cases e
    · injection e with e1 e2 e3
      injection e1 with e1
      injection e1 with e1
      rw [e1, hh]
      have : cur = (noughts 0).toArray := by
        apply Array.ext'
        have e5 : cur.toList.take (8 * 2) = cur.toList := List.take_of_length_le (by rw [Array.length_toList, hsz, ← e3]; decide)
        rw [← e5, htk, List.toList_toArray]
        exact (rowK_start addH [] [] 8).trans rfl
      rw [this]
  have H2 := Lib.hid (And.intro hg2 (And.intro b2 (hx.keep b2)))
  clear hown hgrow b2 hg2
  have s1 := blk_reads H2.out.2.2
  have S1 := Lib.hid s1
  clear s1 hx
  obtain ⟨w3, hw3⟩ : ∃ w3, w3 = w2.setRow w1.heap.size ((noughts 0).toArray.toList.take 0 ++ [Value.int .i64 0, Value.int .i64 1] ++ (noughts 0).toArray.toList.drop (0 + 2)).toArray := ⟨_, rfl⟩
  have HW3 := Lib.hid hw3
  have rc : (Builtin.copy_ #[23, 23] 3 #[.slice (some ⟨w1.heap.size, 0, none⟩) 8 8, .slice (some ⟨bx, 0, none⟩) 1 c]).run Try.prog w2 = .ok (.int .i64 1) w3 := by
    rw [hw3]
    exact run_copy_size w2 23 23 3 25 w1.heap.size 0 8 8 ⟨bx, 0, none⟩ 1 c 2 1 (noughts 0).toArray 25 [.int .i64 0, .int .i64 1] Try.underlying23 HSZ.out H2.out.1 rfl rfl S1.out (by decide) (fun v hv => by simp at hv; rcases hv with rfl | rfl <;> rfl)
  clear hw3
  go_upto_region 8 with fail
  have hg3 : w3.heap[w1.heap.size]? = some (.cells (noughts 1).toArray 25 (0, 0)) := by rw [HW3.out]; exact set_row H2.out.1
  have b3 : Below w1.heap.size w1 w3 := by rw [HW3.out]; exact below_setRow H2.out.2.1 (Nat.le_refl _) _
  have H3 := Lib.hid (And.intro hg3 b3)
  clear hg3 b3 S1 H2 rc
  go_wp2_with fail
  go_loopg [8] 7 (fun gk v8 wr => ∃ k : Nat, v8 = .int .i64 k ∧ (k = 1 ∨ k = 2 ∨ k = 4 ∨ k = 8) ∧ gk = 8 - k ∧ wr.heap[w1.heap.size]? = some (.cells (noughts k).toArray 25 (0, 0)) ∧ Below w1.heap.size w1 wr)
  case atStart => exact ⟨1, rfl, .inl rfl, rfl, H3.out.1, H3.out.2⟩
  case round =>
    clear H3
    obtain ⟨k, rfl, hk, hgk, hg, hb⟩ := hrel
    have HG := Lib.hid (And.intro hg (And.intro hb hgk))
    have BR := Lib.hid (blk_reads (blk_of hg))
    clear hg hb hgk
    rcases hk with rfl | rfl | rfl | rfl
    · go_wp2_with fail
      go_region_law (refine step_copy_size rfl (.tmp 41) (.tmp 44) 23 23 rfl 25 2 Try.underlying23 HSZ.out w1.heap.size 2 7 7 ⟨w1.heap.size, 0, none⟩ 1 8 1 (by simp [Act.eval, Act.put]) (by simp [Act.eval, Act.put]) (noughts 1).toArray 25 HG.out.1 [.int .i64 0, .int .i64 1] rfl rfl (fun j v hj => BR.out j v (pre_of (n := 2) rfl hj)) (by decide) (ints_one [0, 1]) ?_; intro w3 hw3; have HW3 := Lib.hid hw3; clear hw3)
      have hg3 : w3.heap[w1.heap.size]? = some (.cells (noughts 2).toArray 25 (0, 0)) := by rw [HW3.out]; exact set_row HG.out.1
      have b3 : Below w1.heap.size w1 w3 := by rw [HW3.out]; exact below_setRow (HG.out.2.1.trans ((below_drew wr).mono HG.out.2.1.size)) (Nat.le_refl _) _
      have H3 := Lib.hid (And.intro hg3 b3)
      clear hg3 b3
      go_wp2_with fail
      go_roundg 6
      case measure => have := HG.out.2.2; omega
      case rel => exact ⟨2, rfl, by decide, rfl, H3.out.1, H3.out.2⟩
    · go_wp2_with fail
      go_region_law (refine step_copy_size rfl (.tmp 41) (.tmp 44) 23 23 rfl 25 2 Try.underlying23 HSZ.out w1.heap.size 4 6 6 ⟨w1.heap.size, 0, none⟩ 2 8 2 (by simp [Act.eval, Act.put]) (by simp [Act.eval, Act.put]) (noughts 2).toArray 25 HG.out.1 [.int .i64 0, .int .i64 1, .int .i64 0, .int .i64 1] rfl rfl (fun j v hj => BR.out j v (pre_of (n := 4) rfl hj)) (by decide) (ints_one [0, 1, 0, 1]) ?_; intro w3 hw3; have HW3 := Lib.hid hw3; clear hw3)
      have hg3 : w3.heap[w1.heap.size]? = some (.cells (noughts 4).toArray 25 (0, 0)) := by rw [HW3.out]; exact set_row HG.out.1
      have b3 : Below w1.heap.size w1 w3 := by rw [HW3.out]; exact below_setRow (HG.out.2.1.trans ((below_drew wr).mono HG.out.2.1.size)) (Nat.le_refl _) _
      have H3 := Lib.hid (And.intro hg3 b3)
      clear hg3 b3
      go_wp2_with fail
      go_roundg 4
      case measure => have := HG.out.2.2; omega
      case rel => exact ⟨4, rfl, by decide, rfl, H3.out.1, H3.out.2⟩
    · go_wp2_with fail
      go_region_law (refine step_copy_size rfl (.tmp 41) (.tmp 44) 23 23 rfl 25 2 Try.underlying23 HSZ.out w1.heap.size 8 4 4 ⟨w1.heap.size, 0, none⟩ 4 8 4 (by simp [Act.eval, Act.put]) (by simp [Act.eval, Act.put]) (noughts 4).toArray 25 HG.out.1 [.int .i64 0, .int .i64 1, .int .i64 0, .int .i64 1, .int .i64 0, .int .i64 1, .int .i64 0, .int .i64 1] rfl rfl (fun j v hj => BR.out j v (pre_of (n := 8) rfl hj)) (by decide) (ints_one [0, 1, 0, 1, 0, 1, 0, 1]) ?_; intro w3 hw3; have HW3 := Lib.hid hw3; clear hw3)
      have hg3 : w3.heap[w1.heap.size]? = some (.cells (noughts 8).toArray 25 (0, 0)) := by rw [HW3.out]; exact set_row HG.out.1
      have b3 : Below w1.heap.size w1 w3 := by rw [HW3.out]; exact below_setRow (HG.out.2.1.trans ((below_drew wr).mono HG.out.2.1.size)) (Nat.le_refl _) _
      have H3 := Lib.hid (And.intro hg3 b3)
      clear hg3 b3
      go_wp2_with fail
      go_roundg 0
      case measure => have := HG.out.2.2; omega
      case rel => exact ⟨8, rfl, by decide, rfl, H3.out.1, H3.out.2⟩
    · go_wp2_with fail
      go_ret
      exact ⟨_, rfl, ⟨by decide, .inr ⟨w1.heap.size, 8, (noughts 8).toArray, rfl, Nat.le_refl _, HG.out.1, by decide, by decide, rfl, rfl⟩⟩, HG.out.2.1⟩
end Go.Proofs.Ytkinbbhbencipaa

namespace Go.Proofs.Ytkinbbhbencipaa
open Go.RowKit

/-- What the function of a choice answers. -/
def valC (x : Sum (List Rw × List Rw) Trm) (m : List (Int × Int)) : Option (Int × Int) :=
  match x with
  | .inl y => betO y.1 y.2 m
  | .inr s => okO (negH (valT s.1 m s.2).1, (valT s.1 m s.2).2)
def FunOk (x : Sum (List Rw × List Rw) Trm) : Prop :=
  match x with
  | .inl y => (∀ r ∈ y.1, TrmOk r.2) ∧ ∀ r ∈ y.2, TrmOk r.2
  | .inr s => TrmOk s
theorem okO_some {r : (Int × Int) × Int} {x : Int × Int} (h : okO r = some x) : r.2 = 0 ∧ r.1 = x := by
  unfold okO at h
  split at h
  · rename_i g; exact ⟨g, Option.some.inj h⟩
  · cases h
theorem trm_wide {ts : List Rw} (h : ∀ r ∈ ts, TrmOk r.2) : ∀ r ∈ ts, Wide r.2.1 ∧ Bd r.2.2 := fun r hr => ⟨(h r hr).ok.wide, (h r hr).k.wide⟩
theorem valC_ok {x : Sum (List Rw × List Rw) Trm} {m : List (Int × Int)} (hx : FunOk x) (hm : AllOk m) {v : Int × Int} (h : valC x m = some v) : OkR v := by
  cases x with
  | inr s =>
    obtain ⟨h1, h2⟩ := okO_some h
    have hs : TrmOk s := hx
    obtain ⟨a, b, c, _, q⟩ := valT_ok hs.ok.wide hs.k.wide hm.wide h1
    have := okR_neg (sumK_ok a c b 8 _ q)
    rw [← h2]
    exact this
  | inl y =>
    unfold valC betO at h
    dsimp only at h
    rw [Option.bind_eq_some_iff] at h
    obtain ⟨b, hb, h⟩ := h
    rw [Option.bind_eq_some_iff] at h
    obtain ⟨t, ht, h⟩ := h
    have ob := lowK_ok (trm_wide hx.1) hm.wide _ _ hb
    have ot := lowK_ok (trm_wide hx.2) hm.wide _ _ ht
    split at h
    · split at h
      · obtain rfl := Option.some.inj h
        exact okR_nought
      · rename_i g2
        obtain ⟨h1, h2⟩ := okO_some h
        rw [← h2]
        exact addH_ok.ok _ _ (ot.resolve_left (fun q => g2 q.1)) (okR_neg okR_one) h1
    · rename_i g1
      have ob := okR_neg (ob.resolve_left (fun q => g1 q.1))
      split at h
      · obtain ⟨h1, h2⟩ := okO_some h
        rw [← h2]
        exact addH_ok.ok _ _ ob okR_one h1
      · rename_i g2
        rw [Option.bind_eq_some_iff] at h
        obtain ⟨s, hs, h⟩ := h
        obtain ⟨h1, h2⟩ := okO_some hs
        obtain ⟨h3, h4⟩ := okO_some h
        rw [← h4]
        refine mulH_ok.ok _ _ ?_ okR_half h3
        rw [← h2]
        exact addH_ok.ok _ _ ob (ot.resolve_left (fun q => g2 q.1)) h1
/-- The choices in their order. -/
def witO : List Ch → List (Int × Int) → Option (List (Int × Int))
  | [], m => some m
  | c :: r, m => (valC c.2 m).bind fun x => witO r (m.set c.1.toNat x)
theorem witO_app (b : List Ch) : ∀ (a : List Ch) (m : List (Int × Int)), witO (a ++ b) m = (witO a m).bind fun m' => witO b m'
  | [], m => rfl
  | c :: r, m => by
    rw [List.cons_append, witO, witO]
    cases valC c.2 m with
    | none => rfl
    | some x => exact witO_app b r _
theorem chs_cells {w wr : World} {A : Option Addr} {n k : Nat} {rs : List (Value × Ch)} {x : Value × Ch} (h4 : Reads w w.heap.size 2 A n (chCells rs)) (hb : Below w.heap.size w wr) (hx : rs[k]? = some x) (hn : 0 < n) :
    ∃ ad, A = some ad ∧ wr.cell? (ad.add (k * 2)) = some (.int .i64 x.2.1) ∧ wr.cell? ⟨(ad.add (k * 2)).block, (ad.add (k * 2)).off + 1, none⟩ = some x.1 := by
  obtain ⟨ad, e, hbk, hc⟩ := h4.2 hn
  obtain ⟨a, b⟩ := chCells_at rs k x hx
  have d0 := (hb.cell (p := ad.add (k * 2)) (by rw [block_of_add]; exact hbk)).trans (hc _ _ a)
  have d1 := (hb.cell (p := ad.add (k * 2 + 1)) (by rw [block_of_add]; exact hbk)).trans (hc _ _ b)
  rw [← add_of_add] at d1
  exact ⟨ad, e, d0, d1⟩
theorem own_rebase {w : World} {base b2 size n : Nat} {e : TypeId} {v : Value} {xs : List Value} (h : w.ownsRow base e size v n xs) (hb : b2 ≤ base) : w.ownsRow b2 e size v n xs := by
  refine ⟨h.1, ?_⟩
  rcases h.2 with q | ⟨g, cap, cur, e, hg, rest⟩
  · exact .inl q
  · exact .inr ⟨g, cap, cur, e, Nat.le_trans hb hg, rest⟩
/-- The row of values, and what else stands in memory. -/
structure WitS (w wr : World) (g cap : Nat) (m : List (Int × Int)) : Prop where
  o : wr.ownsRow w.heap.size 25 2 (.slice (some ⟨g, 0, none⟩) 8 cap) 8 (ratCells m)
  len : m.length = 8
  ok : AllOk m
  below : Below w.heap.size w wr
section
variable {w wr w2 : World} {g cap : Nat} {m : List (Int × Int)}
theorem WitS.keep (h : WitS w wr g cap m) (hb : Below wr.heap.size wr w2) : WitS w w2 g cap m :=
  ⟨h.o.kept (grown_of_below hb none) (by simp [Value.ownBlock]), h.len, h.ok, h.below.trans (hb.mono h.below.size)⟩
theorem WitS.rats (h : WitS w wr g cap m) : RatsAt wr (.slice (some ⟨g, 0, none⟩) 8 cap) m := own_rats (base := w.heap.size) (by rw [h.len]; exact h.o)
theorem WitS.put (h : WitS w wr g cap m) (p : Nat) (x : Int × Int) (hx : OkR x) : WitS w ((wr.setCell ⟨g, p * 2, none⟩ (.int .i64 x.1)).setCell ⟨g, p * 2 + 1, none⟩ (.int .i64 x.2)) g cap (m.set p x) := by
  obtain ⟨a1, b1⟩ := h.o.stored (p * 2) (.int .i64 x.1)
  obtain ⟨a2, b2⟩ := a1.stored (p * 2 + 1) (.int .i64 x.2)
  refine ⟨by rw [ratCells_set]; exact a2, by rw [List.length_set]; exact h.len, fun y hy => ?_, ?_⟩
  · rcases List.mem_or_eq_of_mem_set hy with q | rfl
    · exact h.ok y q
    · exact hx
  · have hg := (h.o.lt g rfl).1
    exact (h.below.setCell (p := ⟨g, p * 2, none⟩) hg _).setCell (p := ⟨g, p * 2 + 1, none⟩) hg _
theorem WitS.cells (h : WitS w wr g cap m) {p : Nat} (hp : p < 8) : ∃ x : Int × Int, wr.cell? ⟨g, p * 2, none⟩ = some (.int .i64 x.1) ∧ wr.cell? ⟨g, p * 2 + 1, none⟩ = some (.int .i64 x.2) ∧ wr.frozen? ⟨g, p * 2, none⟩ = false ∧ wr.frozen? ⟨g, p * 2 + 1, none⟩ = false := by
  obtain ⟨x, hx⟩ : ∃ x, m[p]? = some x := ⟨_, List.getElem?_eq_getElem (by rw [h.len]; exact hp)⟩
  obtain ⟨a, b⟩ := ratCells_at m p x hx
  refine ⟨x, ?_, ?_, h.o.frozenAt _, h.o.frozenAt _⟩
  · rw [h.o.cellAt _ (by omega)]; exact a
  · rw [h.o.cellAt _ (by omega)]; exact b
end
def m0 : List (Int × Int) := List.replicate 8 (0, 1)
/-- What witness answers. -/
def WitPut (w : World) (o : Option (List (Int × Int))) (e : Ending) (w' : World) : Prop :=
  (∃ m v, o = some m ∧ e = .returned (.tuple #[v, .int .i64 0]) ∧ RatsAt w' v m ∧ m.length = 8 ∧ AllOk m ∧ Below w.heap.size w w') ∨
  (o = none ∧ ∃ z : Int, (z != 0) = true ∧ e = .returned (.tuple #[.slice none 0 0, .int .i64 z]) ∧ Below w.heap.size w w')
theorem sol_any (w : World) (vb : Value) (m : List (Int × Int)) (b : Nat) (vs : Value) (s : Trm) (hB : Blk w b #[vs, .int .i64 s.2.1, .int .i64 s.2.2]) (hs : RatsAt w vs s.1) (hw : TrmOk s) (hb : RatsAt w vb m) (hm : Wide m) :
    Calls Try.prog 54 #[vb, .pointer (some ⟨b, 0, none⟩)] w (FunPut w (valC (.inr s) m)) :=
  (sol1_any w vb m b vs s hB hs ⟨hw.ok.wide, hw.k.wide⟩ hb hm).mono fun e w' h => by
    obtain ⟨rfl, hb⟩ := h
    refine ⟨⟨_, _, _, rfl, ?_⟩, hb⟩
    exact okO_case (negH (valT s.1 m s.2).1, (valT s.1 m s.2).2)

set_option maxRecDepth 100000 in
set_option maxHeartbeats 8000000 in
theorem witness_any (w : World) (v : Value) (cs : List Ch) (S : Nat → Prop) (h : ChsAt w v cs S) (hok : ∀ c ∈ cs, FunOk c.2) (hv : ∀ c ∈ cs, ∃ n : Nat, c.1 = n ∧ n < 8) (hl : cs.length ≤ 1000) :
    Calls Try.prog 23 #[v] w (WitPut w (witO cs m0)) := by
  obtain ⟨A, c, rs, rfl, h2, h3, h4, h5, h6⟩ := h
  obtain ⟨n, hn⟩ : ∃ n, n = cs.length := ⟨_, rfl⟩
  have hrn : rs.length = n := by rw [hn, ← h4, List.length_map]
  rw [← hn] at h2 h5 hl ⊢
  have HN := Lib.hid (And.intro hrn (And.intro h4 (And.intro h5 (And.intro h6 (And.intro hn (And.intro hl (And.intro hok hv)))))))
  clear hn hrn h2 h3 h4 h5 h6 hl hok hv
  have hsf : ∀ (a : Addr) (m : Mode) (fn : Fn) (f c : Array Value) (w : World), (store a (.func fn f c) m).run Try.prog w = stored Try.prog w a (.func fn f c) m := fun a m fn f c w => run_store Try.prog w a _ m rfl
  go_enter Try.func23, Try.ntmps23
  go_upto_region 2 with (first
    | (go_at_call 26; (with_reducible refine (bwhole_any _ _).mono ?_); rintro e1 w1 ⟨rfl, hb1⟩)
    | (go_at_call 53; (with_reducible refine (repeat_any _ _ _ (Blk.start _ _ _)).mono ?_); rintro e2 w2 ⟨vat, rfl, o2, hb2⟩))
  have b1 := hb1.trans ((below_alloc1 w1 (.cells #[.int .i64 0, .int .i64 1] 25)).mono hb1.size)
  have b2 := b1.trans (hb2.mono b1.size)
  obtain ⟨g, cap, rfl⟩ : ∃ g cap, vat = .slice (some ⟨g, 0, none⟩) 8 cap := by
    rcases o2.2 with ⟨_, q⟩ | ⟨g, cap, _, e, _⟩
    · omega
    · exact ⟨g, cap, e⟩
  have D0 := Lib.hid (show WitS w w2 g cap m0 from ⟨own_rebase o2 b1.size, rfl, fun x hx => by rw [List.eq_of_mem_replicate hx]; exact okR_nought, b2⟩)
  clear hb1 b1 hb2 b2 o2
  go_wp2_with fail
  go_loopg [14] n (fun gk v14 wr => ∃ (k : Nat) (m : List (Int × Int)), v14 = .int .i64 k ∧ k ≤ n ∧ gk = n - k ∧ witO (cs.take k) m0 = some m ∧ WitS w wr g cap m)
  case atStart => exact ⟨0, m0, rfl, Nat.zero_le _, rfl, rfl, D0.out⟩
  case round =>
    clear D0
    obtain ⟨k, m, rfl, hk, hgk, hso, D⟩ := hrel
    by_cases hkn : k = n
    · have he : cs.take k = cs := by rw [hkn, HN.out.2.2.2.2.1]; exact List.take_length
      rw [he] at hso
      have FIN := Lib.hid (show WitPut w (witO cs m0) (.returned (.tuple #[.slice (some ⟨g, 0, none⟩) 8 cap, .int .i64 0])) wr from .inl ⟨m, _, hso, rfl, D.rats, D.len, D.ok, D.below⟩)
      subst hkn
      clear hk hgk D he hso
      go_wp2_with fail
      go_ret2
      exact FIN.out
    · have hlt : k < n := by omega
      obtain ⟨y, hy⟩ : ∃ y, rs[k]? = some y := ⟨_, List.getElem?_eq_getElem (by have := HN.out.1; omega)⟩
      have hyt : cs[k]? = some y.2 := by rw [← HN.out.2.1, List.getElem?_map, hy]; rfl
      obtain ⟨ad, rfl, d0, d1⟩ := chs_cells HN.out.2.2.1 D.below hy (by omega)
      have hfa := (HN.out.2.2.2.1 y (List.mem_of_getElem? hy)).below D.below
      have hfo := HN.out.2.2.2.2.2.2.1 y.2 (List.mem_of_getElem? hyt)
      obtain ⟨p8, hp8, hp9⟩ := HN.out.2.2.2.2.2.2.2 y.2 (List.mem_of_getElem? hyt)
      have nx : witO (cs.take (k + 1)) m0 = (valC y.2.2 m).bind fun x => some (m.set p8 x) := by
        rw [List.take_add_one, hyt]
        show witO (cs.take k ++ [y.2]) m0 = _
        rw [witO_app, hso, Option.bind_some, witO, hp8]
        rfl
      have nn : valC y.2.2 m = none → witO cs m0 = none := fun q => by
        rw [← List.take_append_drop (k + 1) cs, witO_app, nx, q]
        rfl
      have i1 : (k : Int) < (n : Int) := by omega
      have i2 : (0 : Int) ≤ (k : Int) := by omega
      have wk : IntKind.i64.wrap ((k : Int) + 1) = (k : Int) + 1 := IntWalk.i64_in _ (by have := HN.out.2.2.2.2.2.1; omega)
      obtain ⟨f, pv, xc⟩ := y
      dsimp only at *
      subst hp8
      have HK := Lib.hid (And.intro hlt (And.intro hgk (And.intro nx (And.intro nn hfo))))
      have HP8 := Lib.hid hp9
      have DD := Lib.hid (fun (w' : World) (hb : Below wr.heap.size wr w') => D.keep hb)
      clear hkn hk hgk hyt hy hfo nx nn hso hlt D hp9
      cases xc with
      | inl z =>
        obtain ⟨b1, b2, v1, v2, rfl, B1, B2, nb1, nb2, R1, R2⟩ := hfa
        have hfa : True := trivial
        have CF := Lib.hid (fun (w' : World) (hb : Below wr.heap.size wr w') => bet_any w' (.slice (some ⟨g, 0, none⟩) 8 cap) m b1 b2 v1 v2 z.1 z.2 (B1.keep hb) (B2.keep hb) (R1.below hb).rows (R2.below hb).rows (trm_wide HK.out.2.2.2.2.1) (trm_wide HK.out.2.2.2.2.2) (DD.out w' hb).rats (DD.out w' hb).ok.wide)
        have HFA := Lib.hid (And.intro hfa DD.out)
        clear hfa B1 B2 nb1 nb2 R1 R2
        go_upto_region 5 with fail
        have a1 := below_alloc1 wr (.cells #[.int .i64 p8, .func (.func 70) #[] #[.pointer (some ⟨b1, 0, none⟩), .pointer (some ⟨b2, 0, none⟩)]] 94)
        have CB := Lib.hid (And.intro (Blk.start wr #[.int .i64 p8, .func (.func 70) #[] #[.pointer (some ⟨b1, 0, none⟩), .pointer (some ⟨b2, 0, none⟩)]] 94) a1)
        clear d0 d1 a1
        generalize wr.alloc (.cells #[.int .i64 p8, .func (.func 70) #[] #[.pointer (some ⟨b1, 0, none⟩), .pointer (some ⟨b2, 0, none⟩)]] 94) = w1 at *
        generalize wr.heap.size = bc at *
        have f1 := CB.out.1.cell 1
        go_upto_region 6 with (go_at_call 70; go_loud ((with_reducible refine (CF.out _ CB.out.2).mono ?_); rintro e5 w5 ⟨⟨x, y, z, rfl, hz⟩, hb5⟩))
        have a6 := below_alloc1 w5 (.cells #[.int .i64 x, .int .i64 y] 25)
        have D6 := Lib.hid ((HFA.out.2 _ CB.out.2 |>.keep hb5).keep a6)
        have V6 := Lib.hid (Blk.start w5 #[.int .i64 x, .int .i64 y] 25)
        have C6 := Lib.hid ((CB.out.1.keep hb5).keep a6)
        clear a6 hb5 f1
        generalize w5.heap.size = bv at *
        generalize w5.alloc (.cells #[.int .i64 x, .int .i64 y] 25) = w6 at *
        rcases hz with ⟨rfl, hz⟩ | ⟨hne, hz⟩
        · have ov := valC_ok HK.out.2.2.2.2 D6.out.ok hz
          have NX := Lib.hid (show witO (cs.take (k + 1)) m0 = some (m.set p8 (x, y)) from by rw [HK.out.2.2.1, show valC (.inl z) m = some (x, y) from hz]; simp)
          obtain ⟨u, u0, u1, q0, q1⟩ := D6.out.cells HP8.out
          have D8 := Lib.hid (D6.out.put p8 (x, y) ov)
          have c0 := C6.out.cell 0
          have v0 := V6.out.cell 0
          have v1 := V6.out.cell 1
          have i5 : (0 : Int) ≤ (p8 : Int) := by omega
          have i6 : (p8 : Int) < 8 := by have := HP8.out; omega
          clear ov hz
          go_wp2_with fail
          go_roundg (n - (k + 1))
          case measure => have := HK.out.1; have := HK.out.2.1; omega
          case rel => exact ⟨k + 1, m.set p8 (x, y), by push_cast; rfl, by have := HK.out.1; omega, rfl, NX.out, D8.out⟩
        · have ne : (z != 0) = true := by simpa using hne
          have FIN := Lib.hid (show WitPut w (witO cs m0) (.returned (.tuple #[.slice none 0 0, .int .i64 z])) w6 from .inr ⟨HK.out.2.2.2.1 hz, z, ne, rfl, D6.out.below⟩)
          clear hz hne
          go_wp2_with fail
          go_ret2
          exact FIN.out
      | inr s =>
        obtain ⟨b1, vs, rfl, B1, nb1, R1, R2⟩ := hfa
        have hfa : True := trivial
        have CF := Lib.hid (fun (w' : World) (hb : Below wr.heap.size wr w') => sol_any w' (.slice (some ⟨g, 0, none⟩) 8 cap) m b1 vs s (B1.keep hb) (R1.below hb) HK.out.2.2.2.2 (DD.out w' hb).rats (DD.out w' hb).ok.wide)
        have HFA := Lib.hid (And.intro hfa DD.out)
        clear hfa B1 nb1 R1 R2
        go_upto_region 5 with fail
        have a1 := below_alloc1 wr (.cells #[.int .i64 p8, .func (.func 54) #[] #[.pointer (some ⟨b1, 0, none⟩)]] 94)
        have CB := Lib.hid (And.intro (Blk.start wr #[.int .i64 p8, .func (.func 54) #[] #[.pointer (some ⟨b1, 0, none⟩)]] 94) a1)
        clear d0 d1 a1
        generalize wr.alloc (.cells #[.int .i64 p8, .func (.func 54) #[] #[.pointer (some ⟨b1, 0, none⟩)]] 94) = w1 at *
        generalize wr.heap.size = bc at *
        have f1 := CB.out.1.cell 1
        go_upto_region 6 with (go_at_call 54; go_loud ((with_reducible refine (CF.out _ CB.out.2).mono ?_); rintro e5 w5 ⟨⟨x, y, z, rfl, hz⟩, hb5⟩))
        have a6 := below_alloc1 w5 (.cells #[.int .i64 x, .int .i64 y] 25)
        have D6 := Lib.hid ((HFA.out.2 _ CB.out.2 |>.keep hb5).keep a6)
        have V6 := Lib.hid (Blk.start w5 #[.int .i64 x, .int .i64 y] 25)
        have C6 := Lib.hid ((CB.out.1.keep hb5).keep a6)
        clear a6 hb5 f1
        generalize w5.heap.size = bv at *
        generalize w5.alloc (.cells #[.int .i64 x, .int .i64 y] 25) = w6 at *
        rcases hz with ⟨rfl, hz⟩ | ⟨hne, hz⟩
        · have ov := valC_ok HK.out.2.2.2.2 D6.out.ok hz
          have NX := Lib.hid (show witO (cs.take (k + 1)) m0 = some (m.set p8 (x, y)) from by rw [HK.out.2.2.1, show valC (.inr s) m = some (x, y) from hz]; simp)
          obtain ⟨u, u0, u1, q0, q1⟩ := D6.out.cells HP8.out
          have D8 := Lib.hid (D6.out.put p8 (x, y) ov)
          have c0 := C6.out.cell 0
          have v0 := V6.out.cell 0
          have v1 := V6.out.cell 1
          have i5 : (0 : Int) ≤ (p8 : Int) := by omega
          have i6 : (p8 : Int) < 8 := by have := HP8.out; omega
          clear ov hz
          go_wp2_with fail
          go_roundg (n - (k + 1))
          case measure => have := HK.out.1; have := HK.out.2.1; omega
          case rel => exact ⟨k + 1, m.set p8 (x, y), by push_cast; rfl, by have := HK.out.1; omega, rfl, NX.out, D8.out⟩
        · have ne : (z != 0) = true := by simpa using hne
          have FIN := Lib.hid (show WitPut w (witO cs m0) (.returned (.tuple #[.slice none 0 0, .int .i64 z])) w6 from .inr ⟨HK.out.2.2.2.1 hz, z, ne, rfl, D6.out.below⟩)
          clear hz hne
          go_wp2_with fail
          go_ret2
          exact FIN.out

end Go.Proofs.Ytkinbbhbencipaa
