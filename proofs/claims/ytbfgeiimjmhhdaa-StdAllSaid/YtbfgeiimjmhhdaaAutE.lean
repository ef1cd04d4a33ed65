/-
  A map that counts starts (an operation and a state), in memory; the walks of package auto's fresh at starts and of the function that it makes. (Template: by-name.py fills it.)
-/
import Derived.Test.YtbfgeiimjmhhdaaAutD
import Derived.DeepKeys4
import Derived.WideKeyEntry
namespace Go.Proofs.Ytbfgeiimjmhhdaa
open Go.RowKit Go.Maps

theorem aut_laid : laidOutB Try.prog = true := by kernel_rfl
abbrev Stt := List UInt8 × Int
def OkT (k : Stt) : Prop := k.1.length ≤ maxLen ∧ (Lit.int .i64 k.2).wf = true
abbrev sttV (k : Stt) : Value := .agg #[txt k.1, .int .i64 k.2]
def keyT (k : Stt) : Lit := .string (keyBytes [.string k.1, .int .i64 k.2])
theorem cellsT1 : Try.prog.cellsOf 9 = 1 := by kernel_rfl
theorem cellsT2 : Try.prog.cellsOf 3 = 1 := by kernel_rfl
theorem setBlock_twice {w : World} {b : Nat} {o o' : Obj} : ChangeMaps.setBlock (ChangeMaps.setBlock w b o) b o' = ChangeMaps.setBlock w b o' := by
  unfold ChangeMaps.setBlock
  congr 1
  simp
section
variable {P : Program} {w : World} {t k e : TypeId} {b : Nat} {es : Array MapEntry} {clock : Nat} {z key : Value} {kl : Lit}
theorem entry_new (K : Keyed P k) (ht : P.underlying t = some (.map k e)) (hz : (zeroValue e).run P w = .ok z w) (hb : w.heap[b]? = some (.map es clock)) (hkey : keyOf P k key = some kl) (f1 : (Instr.findKey k key es.toList).run P w = .ok none w) :
    (Instr.mapEntry t (.map (some b)) key).run P w = .ok (.tuple #[z, goInt clock]) (ChangeMaps.setBlock w b (.map (es.push ⟨key, z, clock⟩) (clock + 1))) := by
  simp [Instr.mapEntry, run_underlying ht, MapKept.run_getObj_map hb, K.check w false hkey, f1, hz, MapKept.run_setObj_map _ hb, Result.andThen, ChangeMaps.setBlock]
theorem update_new (K : Keyed P k) (ht : P.underlying t = some (.map k e)) (hb : w.heap[b]? = some (.map es clock)) (hkey : keyOf P k key = some kl) (f1 : (Instr.findKey k key es.toList).run P w = .ok none w) (v : Value) :
    (Instr.mapUpdate t (.map (some b)) key v).run P w = .ok () (ChangeMaps.setBlock w b (.map (es.push ⟨key, v, clock⟩) (clock + 1))) := by
  simp [Instr.mapUpdate, run_underlying ht, MapKept.run_getObj_map hb, K.check w false hkey, f1, MapKept.run_setObj_map _ hb, Result.andThen, ChangeMaps.setBlock]
theorem look_new (K : Keyed P k) (ht : P.underlying t = some (.map k e)) (hz : (zeroValue e).run P w = .ok z w) (hb : w.heap[b]? = some (.map es clock)) (hkey : keyOf P k key = some kl) (f1 : (Instr.findKey k key es.toList).run P w = .ok none w) :
    (Instr.lookup t (.map (some b)) key false).run P w = .ok z w := by
  simp [Instr.lookup, run_underlying ht, MapKept.run_getObj_map hb, K.check w _ hkey, f1, hz, Result.andThen]
theorem look_old (K : Keyed P k) (ht : P.underlying t = some (.map k e)) (hb : w.heap[b]? = some (.map es clock)) (hkey : keyOf P k key = some kl) {j : Nat} {e0 : MapEntry} (f1 : (Instr.findKey k key es.toList).run P w = .ok (some (j, e0.val)) w) :
    (Instr.lookup t (.map (some b)) key false).run P w = .ok e0.val w := by
  simp [Instr.lookup, run_underlying ht, MapKept.run_getObj_map hb, K.check w _ hkey, f1, Result.andThen]
theorem entry_old (K : Keyed P k) (ht : P.underlying t = some (.map k e)) (hb : w.heap[b]? = some (.map es clock)) (hkey : keyOf P k key = some kl) {j : Nat} {e0 : MapEntry} (f1 : (Instr.findKey k key es.toList).run P w = .ok (some (j, e0.val)) w)
    (f2 : es.toList[j]? = some e0) (f3 : e0.key = key) : (Instr.mapEntry t (.map (some b)) key).run P w = .ok (.tuple #[e0.val, goInt e0.born]) (ChangeMaps.setBlock w b (.map es clock)) := by
  have hj : es[j]? = some e0 := by simpa using f2
  have hsame : es.modify j (fun e => { e with key := key }) = es := by
    apply Array.ext'
    rw [Array.toList_modify, ChangeMaps.modify_eq_set _ _ _ _ f2]
    have : ({ e0 with key := key } : MapEntry) = e0 := by rw [← f3]
    rw [this]
    exact WideElems.set_self _ _ _ f2
  simp [Instr.mapEntry, run_underlying ht, MapKept.run_getObj_map hb, K.check w false hkey, f1, hj, f3, K.stays w hkey, hsame, MapKept.run_setObj_map _ hb, Result.andThen, ChangeMaps.setBlock]
end
theorem ok_val {a b : Value} {w w' : World} (h : (Result.ok a w : Result Value) = .ok b w') : a = b := by cases h; rfl
theorem int_val {a b : Int} (h : Value.int .i64 a = .int .i64 b) : a = b := by cases h; rfl
theorem pair_val {a b c d : Value} (h : Value.tuple #[a, b] = .tuple #[c, d]) : a = c := by cases h; rfl
end Go.Proofs.Ytbfgeiimjmhhdaa
