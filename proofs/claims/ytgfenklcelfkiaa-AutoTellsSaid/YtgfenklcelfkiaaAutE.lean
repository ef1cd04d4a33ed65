/-
  A map that counts starts (an operation and a state), in memory; the walks of package auto's fresh at starts and of the function that it makes. (Template: by-name.py fills it.)
-/
import Derived.Test.YtgfenklcelfkiaaAutD
import Derived.DeepKeys4
import Derived.WideKeyEntry
namespace Go.Proofs.Ytgfenklcelfkiaa
open Go.RowKit Go.Maps

theorem aut_laid : laidOutB Try.prog = true := by kernel_rfl
theorem rowT : (93 : TypeId) < Try.prog.types.size := of_decide_eq_true (by kernel_rfl)
theorem wideT : (match Try.prog.underlying 93 with | some (.array _ _) | some (.struct _) => true | _ => false) = true := by rw [Try.underlying93]
theorem klawT : WideMaps.KeyLaw Try.prog 93 := Go.deep_law_laid aut_laid (m := 3) (by omega) rowT (by kernel_rfl) wideT
theorem lawT : Keyed Try.prog 93 := Keyed.of_law klawT
abbrev Stt := List UInt8 × Int
def OkT (k : Stt) : Prop := k.1.length ≤ maxLen ∧ (Lit.int .i64 k.2).wf = true
abbrev sttV (k : Stt) : Value := .agg #[txt k.1, .int .i64 k.2]
def keyT (k : Stt) : Lit := .string (keyBytes [.string k.1, .int .i64 k.2])
theorem typesT : Try.prog.keyType 93 = true := by kernel_rfl
theorem cellsT0 : Try.prog.cellsOf 93 = 2 := by kernel_rfl
theorem cellsT1 : Try.prog.cellsOf 9 = 1 := by kernel_rfl
theorem cellsT2 : Try.prog.cellsOf 3 = 1 := by kernel_rfl
set_option maxRecDepth 20000 in
set_option maxHeartbeats 1000000 in
theorem keyOf_start (k : Stt) (h : OkT k) : keyOf Try.prog 93 (sttV k) = some (keyT k) := by
  obtain ⟨d, hd⟩ : ∃ d, Try.prog.types.size + 1 = d + 2 := ⟨Try.prog.types.size - 1, by have := Nat.lt_of_le_of_lt (Nat.zero_le _) rowT; omega⟩
  obtain ⟨h1, h2⟩ := h
  unfold keyOf keyT
  rw [Try.underlying93]
  have hf : (sttV k).formed Try.prog 93 = true := by simp [Value.formed, Try.underlying93, cellsT0]
  have hs : (⟨k.1.toArray⟩ : ByteArray).size ≤ maxLen := by show k.1.toArray.size ≤ maxLen; rw [List.size_toArray]; exact h1
  have e0 : Try.prog.keyLits (d + 1) 9 [txt k.1] = some [.string k.1] := by simp [Program.keyLits, Try.underlying9, hs]
  have e1 : Try.prog.keyLits (d + 1) 3 [.int .i64 k.2] = some [.int .i64 k.2] := by simp [Program.keyLits, Try.underlying3, h2]
  have e : Try.prog.keyLits (d + 2) 93 [txt k.1, .int .i64 k.2] = some [.string k.1, .int .i64 k.2] := by
    rw [Program.keyLits.eq_def]
    simp only [Try.underlying93]
    rw [if_pos ⟨by rw [cellsT0]; rfl, by kernel_rfl⟩]
    simp only [List.mapM_cons, List.mapM_nil, cellsT1, cellsT2, List.drop_zero, List.drop_succ_cons, List.take_succ_cons, List.take_zero, e0, e1, Option.bind_eq_bind, Option.bind_some, Option.pure_def, Option.map_some, List.flatten_cons, List.flatten_nil, List.append_nil, List.cons_append, List.nil_append]
  show (if (Try.prog.keyType 93 && (sttV k).formed Try.prog 93) = true then (Try.prog.keyLits (Try.prog.types.size + 1) 93 [txt k.1, .int .i64 k.2]).map fun ls => Lit.string (keyBytes ls) else none) = _
  rw [typesT, hf, hd, e]
  rfl
theorem keyT_inj {a b : Stt} (ha : OkT a) (hb : OkT b) (h : keyT a = keyT b) : a = b := by
  have e := lawT.inj (keyOf_start a ha) ((keyOf_start b hb).trans (by rw [h]))
  obtain ⟨s, z⟩ := a
  obtain ⟨s', z'⟩ := b
  injection e with e
  simp only [Array.mk.injEq, List.cons.injEq, Value.string.injEq, ByteArray.mk.injEq, Value.int.injEq, true_and, and_true] at e
  rw [e.1, e.2]
/-- Block b is a map that holds how often each start stands in L. -/
def MapT (w : World) (b : Nat) (L : List Stt) : Prop :=
  ∃ D : DataW Unit, w.ownsMap Try.prog 93 (plainElem Try.prog 3) b L.length D ∧ IsMap D ∧ (∀ x ∈ L, OkT x) ∧ ∀ k : Stt, OkT k → D.atKey (keyT k) (.lit (.int .i64 0)) = .lit (.int .i64 (L.count k))
theorem MapT.made (w : World) : MapT (w.alloc (.map #[] 0)) w.heap.size [] := ⟨.map [], World.ownsMap_made _ _ _ _, isMap_empty, fun _ h => (by cases h), fun _ _ => rfl⟩
theorem MapT.lt {w : World} {b : Nat} {L : List Stt} (h : MapT w b L) : b < w.heap.size := by
  obtain ⟨D, h1, _⟩ := h
  exact h1.lt
theorem MapT.keepB {w w' : World} {b B : Nat} {L : List Stt} (h : MapT w b L) (hb : Below B w w') (hlt : b < B) : MapT w' b L := by
  obtain ⟨D, ⟨es, cl, h1, h2⟩, h3⟩ := h
  exact ⟨D, ⟨es, cl, (hb.block b hlt).trans h1, h2⟩, h3⟩
theorem MapT.keep {w w' : World} {b : Nat} {L : List Stt} (h : MapT w b L) (hb : Below w.heap.size w w') : MapT w' b L := h.keepB hb h.lt
theorem MapT.grown {w w' : World} {row : Option Nat} {b : Nat} {L : List Stt} (h : MapT w b L) (hg : w.grownBy w' row) (hne : row ≠ some b) : MapT w' b L := by
  have hlt := h.lt
  obtain ⟨D, ⟨es, cl, h1, h2⟩, h3⟩ := h
  exact ⟨D, ⟨es, cl, (hg.block b hlt (fun e => hne e.symm)).trans h1, h2⟩, h3⟩
theorem MapT.not_blk {w : World} {b c : Nat} {L : List Stt} {cs : Array Value} (h : MapT w b L) (k : Blk w c cs) : b ≠ c := by
  rintro rfl
  obtain ⟨D, ⟨es, cl, h1, _⟩, _⟩ := h
  obtain ⟨ty, h2⟩ := k
  rw [h1] at h2
  cases h2
theorem setBlock_twice {w : World} {b : Nat} {o o' : Obj} : ChangeMaps.setBlock (ChangeMaps.setBlock w b o) b o' = ChangeMaps.setBlock w b o' := by
  unfold ChangeMaps.setBlock
  congr 1
  simp
section
variable {P : Program} {w : World} {t k e : TypeId} {b : Nat} {es : Array MapEntry} {clock : Nat} {z key : Value} {kl : Lit}
theorem entry_new (K : Keyed P k) (ht : P.underlying t = some (.map k e)) (hz : (zeroValue e).run P w = .ok z w) (hb : w.heap[b]? = some (.map es clock)) (hkey : keyOf P k key = some kl) (f1 : (Instr.findKey k key es.toList).run P w = .ok none w) :
    (Instr.mapEntry t (.map (some b)) key).run P w = .ok (.tuple #[z, goInt clock]) (ChangeMaps.setBlock w b (.map (es.push ⟨key, z, clock⟩) (clock + 1))) := by
  simp [Instr.mapEntry, run_underlying ht, MapKept.run_getObj_map hb, K.check w false hkey, f1, hz, MapKept.run_setObj_map _ hb, Result.andThen, ChangeMaps.setBlock]
theorem update_new (K : Keyed P k) (ht : P.underlying t = some (.map k e)) (hb : w.heap[b]? = some (.map es clock)) (hkey : keyOf P k key = some kl) (f1 : (Instr.findKey k key es.toList).run P w = .ok none w) (v : Value) :
    (Instr.mapUpdate t (.map (some b)) key v).run P w = .ok () (ChangeMaps.setBlock w b (.map (es.push ⟨key, v, clock⟩) (clock + 1))) := by
  simp [Instr.mapUpdate, run_underlying ht, MapKept.run_getObj_map hb, K.check w false hkey, f1, MapKept.run_setObj_map _ hb, Result.andThen, ChangeMaps.setBlock]
theorem look_new (K : Keyed P k) (ht : P.underlying t = some (.map k e)) (hz : (zeroValue e).run P w = .ok z w) (hb : w.heap[b]? = some (.map es clock)) (hkey : keyOf P k key = some kl) (f1 : (Instr.findKey k key es.toList).run P w = .ok none w) :
    (Instr.lookup t (.map (some b)) key false).run P w = .ok z w := by
  simp [Instr.lookup, run_underlying ht, MapKept.run_getObj_map hb, K.check w _ hkey, f1, hz, Result.andThen]
theorem look_old (K : Keyed P k) (ht : P.underlying t = some (.map k e)) (hb : w.heap[b]? = some (.map es clock)) (hkey : keyOf P k key = some kl) {j : Nat} {e0 : MapEntry} (f1 : (Instr.findKey k key es.toList).run P w = .ok (some (j, e0.val)) w) :
    (Instr.lookup t (.map (some b)) key false).run P w = .ok e0.val w := by
  simp [Instr.lookup, run_underlying ht, MapKept.run_getObj_map hb, K.check w _ hkey, f1, Result.andThen]
theorem entry_old (K : Keyed P k) (ht : P.underlying t = some (.map k e)) (hb : w.heap[b]? = some (.map es clock)) (hkey : keyOf P k key = some kl) {j : Nat} {e0 : MapEntry} (f1 : (Instr.findKey k key es.toList).run P w = .ok (some (j, e0.val)) w)
    (f2 : es.toList[j]? = some e0) (f3 : e0.key = key) : (Instr.mapEntry t (.map (some b)) key).run P w = .ok (.tuple #[e0.val, goInt e0.born]) (ChangeMaps.setBlock w b (.map es clock)) := by
  have hj : es[j]? = some e0 := by simpa using f2
  have hsame : es.modify j (fun e => { e with key := key }) = es := by
    apply Array.ext'
    rw [Array.toList_modify, ChangeMaps.modify_eq_set _ _ _ _ f2]
    have : ({ e0 with key := key } : MapEntry) = e0 := by rw [← f3]
    rw [this]
    exact WideElems.set_self _ _ _ f2
  simp [Instr.mapEntry, run_underlying ht, MapKept.run_getObj_map hb, K.check w false hkey, f1, hj, f3, K.stays w hkey, hsame, MapKept.run_setObj_map _ hb, Result.andThen, ChangeMaps.setBlock]
end
theorem ok_val {a b : Value} {w w' : World} (h : (Result.ok a w : Result Value) = .ok b w') : a = b := by cases h; rfl
theorem int_val {a b : Int} (h : Value.int .i64 a = .int .i64 b) : a = b := by cases h; rfl
theorem pair_val {a b c d : Value} (h : Value.tuple #[a, b] = .tuple #[c, d]) : a = c := by cases h; rfl
/-- times[k]++ in its parts, in whichever order, and times[k]. -/
theorem count_start (w : World) (b : Nat) (L : List Stt) (h : MapT w b L) (hn : L.length < maxLen) (k : Stt) (hk : OkT k) :
    ∃ st w2 w3, (Instr.lookup 94 (.map (some b)) (sttV k) false).run Try.prog w = .ok (.int .i64 (L.count k)) w ∧
      (Instr.mapEntry 94 (.map (some b)) (sttV k)).run Try.prog w = .ok (.tuple #[.int .i64 (L.count k), .int .i64 (st : Nat)]) w2 ∧
      (Instr.lookup 94 (.map (some b)) (sttV k) false).run Try.prog w2 = .ok (.int .i64 (L.count k)) w2 ∧
      (Instr.entryStore 94 (.map (some b)) (.int .i64 (st : Nat)) (.int .i64 ((L.count k : Int) + 1))).run Try.prog w2 = .ok () w3 ∧
      MapT w3 b (k :: L) ∧ w.grownBy w3 (some b) ∧ w.grownBy w2 (some b) ∧
      (Instr.lookup 94 (.map (some b)) (sttV k) false).run Try.prog w3 = .ok (.int .i64 ((L.count k : Int) + 1)) w3 := by
  obtain ⟨D, h1, h2, h3, h4⟩ := h
  have hkey := keyOf_start k hk
  have hc : L.count k ≤ L.length := List.count_le_length
  have look : ∀ (v : World) (n : Nat) (E : DataW Unit) (c : Int), v.ownsMap Try.prog 93 (plainElem Try.prog 3) b n E → E.atKey (keyT k) (.lit (.int .i64 0)) = .lit (.int .i64 c) → (Instr.lookup 94 (.map (some b)) (sttV k) false).run Try.prog v = .ok (.int .i64 c) v := by
    intro v n E c ho he
    obtain ⟨x, r1, r2, _⟩ := ho.lookup_int lawT Try.underlying94 Try.underlying3 (zeroI v) hkey
    rw [he] at r2
    injection r2 with r2
    injection r2 with _ r2
    rw [r2]
    exact r1
  have hv : plainElem (H := Unit) Try.prog 3 (.int .i64 ((L.count k : Int) + 1)) = some (.lit (.int .i64 ((L.count k : Int) + 1)), []) := plainElem_int Try.underlying3 (WalkArith.wf_i64 (by unfold maxLen at hn; omega))
  obtain ⟨w3, u1, u2, u3⟩ := h1.update lawT Try.underlying94 hn hkey hv
  have hT : MapT w3 b (k :: L) := ⟨_, u2, h2.put _ _, fun x hx => (by
      rcases List.mem_cons.mp hx with rfl | hx
      · exact hk
      · exact h3 x hx), fun x hx => by
    by_cases e : k = x
    · subst e
      rw [List.count_cons_self]
      exact atKey_put_same h2 (by trivial) _ _
    · rw [List.count_cons_of_ne e]
      exact (atKey_put_other (fun q => e (keyT_inj hx hk q).symm) _ _).trans (h4 x hx)⟩
  have hl3 := look w3 _ _ _ u2 (atKey_put_same h2 (by trivial) _ _)
  have hl1 := look w _ _ _ h1 (h4 k hk)
  have hE : ∃ (sv : Value) (w2 : World), (Instr.mapEntry 94 (.map (some b)) (sttV k)).run Try.prog w = .ok (.tuple #[.int .i64 (L.count k), sv]) w2 ∧ (Instr.lookup 94 (.map (some b)) (sttV k) false).run Try.prog w2 = .ok (.int .i64 (L.count k)) w2 ∧ w.grownBy w2 (some b) := by
    have h1' := h1
    obtain ⟨es, cl, q1, q2, q3, q4⟩ := h1
    have grow : ∀ o, w.grownBy (ChangeMaps.setBlock w b o) (some b) := fun o => ⟨rfl, rfl, rfl, by simp [ChangeMaps.setBlock], fun i _ hi => ChangeMaps.heap_setBlock_other q1 _ (fun e => hi (by rw [e]))⟩
    rcases lawT.find w hkey es.toList q2.keys with ⟨f1, f2⟩ | ⟨j, e0, f1, f2, f3⟩
    · have l0 : (Instr.lookup 94 (.map (some b)) (sttV k) false).run Try.prog w = .ok (.int .i64 0) w := by
        exact look_new lawT Try.underlying94 (zeroI w) q1 hkey f1
      have c0 : (L.count k : Int) = 0 := by
        exact int_val (ok_val (hl1.symm.trans l0))
      obtain ⟨w2, y1, y2, y3⟩ := h1'.update (val := .int .i64 0) lawT Try.underlying94 hn hkey (plainElem_int Try.underlying3 (by decide))
      have y4 : (Instr.mapUpdate 94 (.map (some b)) (sttV k) (.int .i64 0)).run Try.prog w = .ok () (ChangeMaps.setBlock w b (.map (es.push ⟨sttV k, .int .i64 0, cl⟩) (cl + 1))) := by
        exact update_new lawT Try.underlying94 q1 hkey f1 _
      have y5 : w2 = ChangeMaps.setBlock w b (.map (es.push ⟨sttV k, .int .i64 0, cl⟩) (cl + 1)) := by rw [y1] at y4; injection y4
      refine ⟨goInt cl, w2, ?_, ?_, y3⟩
      · rw [c0, y5]
        exact entry_new lawT Try.underlying94 (zeroI w) q1 hkey f1
      · rw [c0]
        exact look w2 _ _ _ y2 (atKey_put_same h2 (by trivial) _ _)
    · have l0 : (Instr.lookup 94 (.map (some b)) (sttV k) false).run Try.prog w = .ok e0.val w := by
        exact look_old lawT Try.underlying94 q1 hkey f1
      have c0 : e0.val = .int .i64 (L.count k : Int) := by
        exact ok_val (l0.symm.trans hl1)
      refine ⟨goInt e0.born, ChangeMaps.setBlock w b (.map es cl), ?_, look _ _ _ _ ⟨es, cl, ChangeMaps.heap_setBlock_same q1 _, q2, q3, q4⟩ (h4 k hk), grow _⟩
      rw [← c0]
      exact entry_old lawT Try.underlying94 q1 hkey f1 f2 f3
  obtain ⟨sv, w2, g1, g2, g3⟩ := hE
  obtain ⟨es, cl, q1, q2, q3, q4⟩ := h1
  obtain ⟨v0, st, es1, clock1, m1, m2, m3⟩ := WideElems.entry_then_store klawT Try.underlying94 zeroI q1 q2 hkey
  rw [m1] at g1
  injection g1 with g1 g4
  obtain ⟨es', clock', m4, m5⟩ := m3 w2 (.int .i64 ((L.count k : Int) + 1)) (by rw [← g4]; exact ChangeMaps.heap_setBlock_same q1 _)
  rw [u1] at m5
  have e3 : w3 = ChangeMaps.setBlock w b (.map es' clock') := by injection m5
  have e4 : ChangeMaps.setBlock w2 b (.map es' clock') = w3 := by rw [e3, ← g4]; exact setBlock_twice
  rw [e4] at m4
  have gv : v0 = .int .i64 (L.count k : Int) := by
    exact pair_val g1
  refine ⟨st, w2, w3, hl1, ?_, g2, m4, hT, u3, g3, hl3⟩
  rw [m1, gv, g4]
  rfl
end Go.Proofs.Ytgfenklcelfkiaa
