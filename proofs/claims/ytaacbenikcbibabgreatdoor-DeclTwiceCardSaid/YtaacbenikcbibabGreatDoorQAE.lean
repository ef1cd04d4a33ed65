import Derived.DeepKeys4
import Derived.WideKeyEntry
import Derived.Test.YtaacbenikcbibabGreatDoorQAD
set_option maxRecDepth 100000
set_option maxHeartbeats 8000000
namespace Go.Proofs.YtaacbenikcbibabGreatDoor
section
open Go.RowKit
theorem mkF:∀ (fn:Fn) (first cap:Array Value) (w:World),(Instr.makeFunc fn first cap).run Tryz.prog w=.ok (.func fn first cap) w:=fun _ _ _ _=>rfl
theorem stF:∀ (a:Addr) (m:Mode) (fn:Fn) (f c:Array Value) (w:World),(store a (.func fn f c) m).run Tryz.prog w=stored Tryz.prog w a (.func fn f c) m:=fun a m _ _ _ w=>run_store Tryz.prog w a _ m rfl
def Za1 (n:Nat) (x:Int):Bool:=decide (x<0)||decide ((n:Int)<=x)
def ZZ (n:Nat) (m:Mov):Bool:=Za1 n m.at_||decide (m.outs.length=0)||m.outs.any fun o=>Za1 n o.to
theorem Zco {α:Type} {l:List α} {f:α->Bool} {t:Nat->Bool} (h:∀ k x,l[k]? = some x->t k=f x):(List.range l.length).any t=l.any f:=by
 cases q:l.any f with
 | true=>
  obtain ⟨x,hx,hf⟩:=List.any_eq_true.mp q
  obtain ⟨k,hk⟩:=List.mem_iff_getElem?.mp hx
  exact List.any_eq_true.mpr ⟨k,List.mem_range.mpr (List.getElem?_eq_some_iff.mp hk).1,by rw [h k x hk,hf]⟩
 | false=>
  rw [List.any_eq_false] at q ⊢
  intro k hk
  have hl:=List.mem_range.mp hk
  rw [h k l[k] (List.getElem?_eq_getElem hl)]
  exact q _ (List.getElem_mem hl)
theorem ZeP (w:World) (bp n c:Nat) (A:Option Addr) (nm vm:Value) (x:Int) (h:Blk w bp #[nm,.slice A n c,vm]) :
  Calls Tryz.prog 72 #[.int .i64 x,.pointer (some ⟨bp,0,none⟩)] w fun e w'=>e=.returned (.bool (Za1 n x))/\w=w':=by
 have c1:=h.cell 1
 simp only [List.getElem?_toArray,List.getElem?_cons_zero,List.getElem?_cons_succ] at c1
 unfold Za1
 clear h
 by_cases q:x<0
 ·rw [decide_eq_true q]
  go_enter Tryz.func72,Tryz.ntmps72
  go_wp2_with fail
  go_ret
  exact ⟨rfl,rfl⟩
 ·rw [decide_eq_false q]
  go_enter Tryz.func72,Tryz.ntmps72
  go_wp2_with fail
  go_ret
  exact ⟨rfl,rfl⟩
structure NonS (w:World) (bp bn n c:Nat) (A:Option Addr) (nm vm:Value):Prop where
 p:Blk w bp #[nm,.slice A n c,vm]
 f:Blk w bn #[.func (.func 72) #[] #[.pointer (some ⟨bp,0,none⟩)]]
theorem NonS.keep {w w':World} {bp bn n c:Nat} {A:Option Addr} {nm vm:Value} (h:NonS w bp bn n c A nm vm) (hb:Below w.heap.size w w'):NonS w' bp bn n c A nm vm:=⟨h.p.keep hb,h.f.keep hb⟩
theorem Zg3 (w:World) (bp bn n c:Nat) (A:Option Addr) (nm vm:Value) (o:Ou) (h:NonS w bp bn n c A nm vm) :
  Calls Tryz.prog 74 #[.agg #[txt o.name,.int .i64 o.to],.pointer (some ⟨bn,0,none⟩)] w fun e w'=>e=.returned (.bool (Za1 n o.to))/\Below w.heap.size w w':=by
 have a1:=Za w (.cells #[txt o.name,.int .i64 o.to] 100)
 have B1:=Blk.start w #[txt o.name,.int .i64 o.to] 100
 have h1:=h.keep a1
 have NO:=Lib.hid (ZeP _ bp n c A nm vm o.to h1.p)
 have c1:=B1.cell 1
 have c2:=h1.f.cell 0
 simp only [List.getElem?_toArray,List.getElem?_cons_zero,List.getElem?_cons_succ] at c1 c2
 have HA:=Lib.hid a1
 clear h h1 B1 a1
 generalize Za1 n o.to=B at *
 go_enter Tryz.func74,Tryz.ntmps74
 go_wp2_with (go_at_call 72;(refine NO.out.mono ?_);rintro e w1 ⟨rfl,rfl⟩)
 go_ret
 exact ⟨rfl,HA.out⟩
theorem Ze9 (w:World) (bp bn n c:Nat) (A:Option Addr) (nm vm vo:Value) (m:Mov) (h:NonS w bp bn n c A nm vm) (ho:Zaj w vo m.outs) :
  Calls Tryz.prog 73 #[.agg #[txt m.op,.int .i64 m.at_,vo],.pointer (some ⟨bn,0,none⟩)] w fun e w'=>e=.returned (.bool (ZZ n m))/\Below w.heap.size w w':=by
 obtain ⟨Ao,co,rfl,hlo⟩:=ho.len
 have a1:=Za w (.cells #[txt m.op,.int .i64 m.at_,.slice Ao m.outs.length co] 79)
 have B1:=Blk.start w #[txt m.op,.int .i64 m.at_,.slice Ao m.outs.length co] 79
 have h1:=h.keep a1
 have NO:=Lib.hid (ZeP _ bp n c A nm vm m.at_ h1.p)
 have CF:=Lib.hid (Zin _ _ _ m.outs bn (fun k=>match m.outs[k]? with | some o=>Za1 n o.to | none=>false) (fun _ wr=>NonS wr bp bn n c A nm vm) (ho.below a1) (Below.refl _ _) h1 (fun k x wr hx hb hr=>(Zg3 wr bp bn n c A nm vm x hr).mono fun e w' ⟨he,hb'⟩=>⟨by rw [he,hx],hb.trans (hb'.mono hb.size),hr.keep hb'⟩))
 rw [Zco (f:=fun o=>Za1 n o.to) (fun k x hx=>by rw [hx])] at CF
 have c0:=B1.cell 0
 have c1:=B1.cell 1
 have c2:=B1.cell 2
 have c3:=h1.f.cell 0
 simp only [List.getElem?_toArray,List.getElem?_cons_zero,List.getElem?_cons_succ] at c0 c1 c2 c3
 have HA:=Lib.hid a1
 have hlen:((m.outs.length:Int)==0)=decide (m.outs.length=0):=by
  by_cases q:m.outs.length=0
  ·rw [decide_eq_true q,q];rfl
  ·rw [decide_eq_false q];exact beq_eq_false_iff_ne.mpr (by omega)
 have HL:=Lib.hid hlen
 clear h h1 B1 a1 ho hlen
 unfold ZZ
 generalize m.outs.any (fun o=>Za1 n o.to)=B3 at *
 generalize decide (m.outs.length=0)=B2 at *
 generalize Za1 n m.at_=B1 at *
 cases B1
 ·cases B2
  ·have t2:=HL.out
   go_enter Tryz.func73,Tryz.ntmps73
   go_wp2_with (first
    | (go_at_call 72;(refine NO.out.mono ?_);rintro e w1 ⟨rfl,rfl⟩)
    | (go_at_call 45;(refine CF.out.mono ?_);rintro e w1 ⟨rfl,hb,hr⟩;have H1:=Lib.hid hb;clear hb hr))
   go_ret
   exact ⟨rfl,HA.out.trans (H1.out.mono HA.out.size)⟩
  ·have t2:=HL.out
   go_enter Tryz.func73,Tryz.ntmps73
   go_wp2_with (go_at_call 72;(refine NO.out.mono ?_);rintro e w1 ⟨rfl,rfl⟩)
   go_ret
   exact ⟨rfl,HA.out⟩
 ·go_enter Tryz.func73,Tryz.ntmps73
  go_wp2_with (go_at_call 72;(refine NO.out.mono ?_);rintro e w1 ⟨rfl,rfl⟩)
  go_ret
  exact ⟨rfl,HA.out⟩
def ZX {α:Type} (f:α->Bool) (l:List α):Int:=match l.findIdx? f with
 | some k=>(k:Int)
 | none=>-1
theorem Zcx {α:Type} {l:List α} {t:Nat->Bool} {f:α->Bool} (h:∀ k x,l[k]? = some x->t k=f x):ZH t l.length=ZX f l:=by
 unfold ZX
 cases q:l.findIdx? f with
 | none=>
  rw [List.findIdx?_eq_none_iff] at q
  refine Zav fun i hi=>?_
  rw [h i l[i] (List.getElem?_eq_getElem hi)]
  exact q _ (List.getElem_mem hi)
 | some k=>
  rw [List.findIdx?_eq_some_iff_getElem] at q
  obtain ⟨hk,h1,h2⟩:=q
  refine ZaE hk ?_ fun i hi=>?_
  ·rw [h k l[k] (List.getElem?_eq_getElem hk)];exact h1
  ·have hl:i<l.length:=by omega
   rw [h i l[i] (List.getElem?_eq_getElem hl)]
   have:=h2 i hi
   simpa using this
theorem Zev {α β:Type} (g:α->β) (f:β->Bool) (l:List α):ZX f (l.map g)=ZX (fun x=>f (g x)) l:=by
 unfold ZX
 rw [List.findIdx?_map]
 rfl
end
section
open Go.RowKit Go.Maps
theorem Zht:laidOutB Tryz.prog=true:=by kernel_rfl
theorem Zi4:(122:TypeId)<Tryz.prog.types.size:=of_decide_eq_true (by kernel_rfl)
theorem Zjb:(match Tryz.prog.underlying 122 with | some (.array _ _) | some (.struct _)=>true | _=>false)=true:=by rw [Tryz.underlying122]
theorem Zie:WideMaps.KeyLaw Tryz.prog 122:=Go.deep_law_laid Zht (m:=3) (by omega) Zi4 (by kernel_rfl) Zjb
theorem ZbW:Keyed Tryz.prog 122:=Keyed.of_law Zie
abbrev Stt:=List UInt8×Int
def OkT (k:Stt):Prop:=k.1.length<=maxLen/\(Lit.int .i64 k.2).wf=true
abbrev ZaY (k:Stt):Value:=.agg #[txt k.1,.int .i64 k.2]
def ZdC (k:Stt):Lit:=.string (keyBytes [.string k.1,.int .i64 k.2])
theorem Zi5:Tryz.prog.keyType 122=true:=by kernel_rfl
theorem ZfE:Tryz.prog.cellsOf 122=2:=by kernel_rfl
theorem Zil:Tryz.prog.cellsOf 9=1:=by kernel_rfl
theorem Zim:Tryz.prog.cellsOf 3=1:=by kernel_rfl
theorem ZbV (k:Stt) (h:OkT k):keyOf Tryz.prog 122 (ZaY k)=some (ZdC k):=by
 obtain ⟨d,hd⟩:∃ d,Tryz.prog.types.size+1=d+2:=⟨Tryz.prog.types.size-1,by have:=Nat.lt_of_le_of_lt (Nat.zero_le _) Zi4;omega⟩
 obtain ⟨h1,h2⟩:=h
 unfold keyOf ZdC
 rw [Tryz.underlying122]
 have hf:(ZaY k).formed Tryz.prog 122=true:=by simp [Value.formed,Tryz.underlying122,ZfE]
 have hs:(⟨k.1.toArray⟩:ByteArray).size<=maxLen:=by show k.1.toArray.size<=maxLen;rw [List.size_toArray];exact h1
 have e0:Tryz.prog.keyLits (d+1) 9 [txt k.1]=some [.string k.1]:=by simp [Program.keyLits,Tryz.underlying9,hs]
 have e1:Tryz.prog.keyLits (d+1) 3 [.int .i64 k.2]=some [.int .i64 k.2]:=by simp [Program.keyLits,Tryz.underlying3,h2]
 have e:Tryz.prog.keyLits (d+2) 122 [txt k.1,.int .i64 k.2]=some [.string k.1,.int .i64 k.2]:=by
  rw [Program.keyLits.eq_def]
  simp only [Tryz.underlying122]
  rw [if_pos ⟨by rw [ZfE];rfl,by kernel_rfl⟩]
  simp only [List.mapM_cons,List.mapM_nil,Zil,Zim,List.drop_zero,List.drop_succ_cons,List.take_succ_cons,List.take_zero,e0,e1,Option.bind_eq_bind,Option.bind_some,Option.pure_def,Option.map_some,List.flatten_cons,List.flatten_nil,List.append_nil,List.cons_append,List.nil_append]
 show (if (Tryz.prog.keyType 122&&(ZaY k).formed Tryz.prog 122)=true then (Tryz.prog.keyLits (Tryz.prog.types.size+1) 122 [txt k.1,.int .i64 k.2]).map fun ls=>Lit.string (keyBytes ls) else none)=_
 rw [Zi5,hf,hd,e]
 rfl
theorem ZhK {a b:Stt} (ha:OkT a) (hb:OkT b) (h:ZdC a=ZdC b):a=b:=by
 have e:=ZbW.inj (ZbV a ha) ((ZbV b hb).trans (by rw [h]))
 obtain ⟨s,z⟩:=a
 obtain ⟨s',z'⟩:=b
 injection e with e
 simp only [Array.mk.injEq,List.cons.injEq,Value.string.injEq,ByteArray.mk.injEq,Value.int.injEq,true_and,and_true] at e
 rw [e.1,e.2]
def ZaA (w:World) (b:Nat) (L:List Stt):Prop:=
 ∃ D:DataW Unit,w.ownsMap Tryz.prog 122 (plainElem Tryz.prog 3) b L.length D/\IsMap D/\(∀ x∈L,OkT x)/\∀ k:Stt,OkT k->D.atKey (ZdC k) (.lit (.int .i64 0))=.lit (.int .i64 (L.count k))
theorem ZaA.made (w:World):ZaA (w.alloc (.map #[] 0)) w.heap.size []:=⟨.map [],World.ownsMap_made _ _ _ _,isMap_empty,fun _ h=>(by cases h),fun _ _=>rfl⟩
theorem ZaA.lt {w:World} {b:Nat} {L:List Stt} (h:ZaA w b L):b<w.heap.size:=by
 obtain ⟨D,h1,_⟩:=h
 exact h1.lt
theorem ZaA.keepB {w w':World} {b B:Nat} {L:List Stt} (h:ZaA w b L) (hb:Below B w w') (hlt:b<B):ZaA w' b L:=by
 obtain ⟨D,⟨es,cl,h1,h2⟩,h3⟩:=h
 exact ⟨D,⟨es,cl,(hb.block b hlt).trans h1,h2⟩,h3⟩
theorem ZaA.keep {w w':World} {b:Nat} {L:List Stt} (h:ZaA w b L) (hb:Below w.heap.size w w'):ZaA w' b L:=h.keepB hb h.lt
theorem ZaA.grown {w w':World} {row:Option Nat} {b:Nat} {L:List Stt} (h:ZaA w b L) (hg:w.grownBy w' row) (hne:row≠some b):ZaA w' b L:=by
 have hlt:=h.lt
 obtain ⟨D,⟨es,cl,h1,h2⟩,h3⟩:=h
 exact ⟨D,⟨es,cl,(hg.block b hlt (fun e=>hne e.symm)).trans h1,h2⟩,h3⟩
theorem ZaA.not_blk {w:World} {b c:Nat} {L:List Stt} {cs:Array Value} (h:ZaA w b L) (k:Blk w c cs):b≠c:=by
 rintro rfl
 obtain ⟨D,⟨es,cl,h1,_⟩,_⟩:=h
 obtain ⟨ty,h2⟩:=k
 rw [h1] at h2
 cases h2
theorem ZdH {w:World} {b:Nat} {o o':Obj}:ChangeMaps.setBlock (ChangeMaps.setBlock w b o) b o'=ChangeMaps.setBlock w b o':=by
 unfold ChangeMaps.setBlock
 congr 1
 simp
section
variable {P:Program} {w:World} {t k e:TypeId} {b:Nat} {es:Array MapEntry} {clock:Nat} {z key:Value} {kl:Lit}
theorem ZgN (K:Keyed P k) (ht:P.underlying t=some (.map k e)) (hz:(zeroValue e).run P w=.ok z w) (hb:w.heap[b]? = some (.map es clock)) (hkey:keyOf P k key=some kl) (f1:(Instr.findKey k key es.toList).run P w=.ok none w) :
  (Instr.mapEntry t (.map (some b)) key).run P w=.ok (.tuple #[z,goInt clock]) (ChangeMaps.setBlock w b (.map (es.push ⟨key,z,clock⟩) (clock+1))):=by
 simp [Instr.mapEntry,run_underlying ht,MapKept.run_getObj_map hb,K.check w false hkey,f1,hz,MapKept.run_setObj_map _ hb,Result.andThen,ChangeMaps.setBlock]
theorem Zgz (K:Keyed P k) (ht:P.underlying t=some (.map k e)) (hb:w.heap[b]? = some (.map es clock)) (hkey:keyOf P k key=some kl) (f1:(Instr.findKey k key es.toList).run P w=.ok none w) (v:Value) :
  (Instr.mapUpdate t (.map (some b)) key v).run P w=.ok () (ChangeMaps.setBlock w b (.map (es.push ⟨key,v,clock⟩) (clock+1))):=by
 simp [Instr.mapUpdate,run_underlying ht,MapKept.run_getObj_map hb,K.check w false hkey,f1,MapKept.run_setObj_map _ hb,Result.andThen,ChangeMaps.setBlock]
theorem ZhL (K:Keyed P k) (ht:P.underlying t=some (.map k e)) (hz:(zeroValue e).run P w=.ok z w) (hb:w.heap[b]? = some (.map es clock)) (hkey:keyOf P k key=some kl) (f1:(Instr.findKey k key es.toList).run P w=.ok none w) :
  (Instr.lookup t (.map (some b)) key false).run P w=.ok z w:=by
 simp [Instr.lookup,run_underlying ht,MapKept.run_getObj_map hb,K.check w _ hkey,f1,hz,Result.andThen]
theorem ZhM (K:Keyed P k) (ht:P.underlying t=some (.map k e)) (hb:w.heap[b]? = some (.map es clock)) (hkey:keyOf P k key=some kl) {j:Nat} {e0:MapEntry} (f1:(Instr.findKey k key es.toList).run P w=.ok (some (j,e0.val)) w) :
  (Instr.lookup t (.map (some b)) key false).run P w=.ok e0.val w:=by
 simp [Instr.lookup,run_underlying ht,MapKept.run_getObj_map hb,K.check w _ hkey,f1,Result.andThen]
theorem ZgO (K:Keyed P k) (ht:P.underlying t=some (.map k e)) (hb:w.heap[b]? = some (.map es clock)) (hkey:keyOf P k key=some kl) {j:Nat} {e0:MapEntry} (f1:(Instr.findKey k key es.toList).run P w=.ok (some (j,e0.val)) w)
  (f2:es.toList[j]? = some e0) (f3:e0.key=key):(Instr.mapEntry t (.map (some b)) key).run P w=.ok (.tuple #[e0.val,goInt e0.born]) (ChangeMaps.setBlock w b (.map es clock)):=by
 have hj:es[j]? = some e0:=by simpa using f2
 have hsame:es.modify j (fun e=>{ e with key:=key })=es:=by
  apply Array.ext'
  rw [Array.toList_modify,ChangeMaps.modify_eq_set _ _ _ _ f2]
  have:({ e0 with key:=key }:MapEntry)=e0:=by rw [<- f3]
  rw [this]
  exact WideElems.set_self _ _ _ f2
 simp [Instr.mapEntry,run_underlying ht,MapKept.run_getObj_map hb,K.check w false hkey,f1,hj,f3,K.stays w hkey,hsame,MapKept.run_setObj_map _ hb,Result.andThen,ChangeMaps.setBlock]
end
theorem Zg5 {a b:Value} {w w':World} (h:(Result.ok a w:Result Value)=.ok b w'):a=b:=by cases h;rfl
theorem Ziw {a b:Int} (h:Value.int .i64 a=.int .i64 b):a=b:=by cases h;rfl
theorem ZhV {a b c d:Value} (h:Value.tuple #[a,b]=.tuple #[c,d]):a=c:=by cases h;rfl
theorem Zfb (w:World) (b:Nat) (L:List Stt) (h:ZaA w b L) (hn:L.length<maxLen) (k:Stt) (hk:OkT k) :
  ∃ st w2 w3,(Instr.lookup 141 (.map (some b)) (ZaY k) false).run Tryz.prog w=.ok (.int .i64 (L.count k)) w ∧
   (Instr.mapEntry 141 (.map (some b)) (ZaY k)).run Tryz.prog w=.ok (.tuple #[.int .i64 (L.count k),.int .i64 (st:Nat)]) w2 ∧
   (Instr.lookup 141 (.map (some b)) (ZaY k) false).run Tryz.prog w2=.ok (.int .i64 (L.count k)) w2 ∧
   (Instr.entryStore 141 (.map (some b)) (.int .i64 (st:Nat)) (.int .i64 ((L.count k:Int)+1))).run Tryz.prog w2=.ok () w3 ∧
   ZaA w3 b (k::L)/\w.grownBy w3 (some b)/\w.grownBy w2 (some b) ∧
   (Instr.lookup 141 (.map (some b)) (ZaY k) false).run Tryz.prog w3=.ok (.int .i64 ((L.count k:Int)+1)) w3:=by
 obtain ⟨D,h1,h2,h3,h4⟩:=h
 have hkey:=ZbV k hk
 have hc:L.count k<=L.length:=List.count_le_length
 have look:∀ (v:World) (n:Nat) (E:DataW Unit) (c:Int),v.ownsMap Tryz.prog 122 (plainElem Tryz.prog 3) b n E->E.atKey (ZdC k) (.lit (.int .i64 0))=.lit (.int .i64 c)->(Instr.lookup 141 (.map (some b)) (ZaY k) false).run Tryz.prog v=.ok (.int .i64 c) v:=by
  intro v n E c ho he
  obtain ⟨x,r1,r2,_⟩:=ho.lookup_int ZbW Tryz.underlying141 Tryz.underlying3 (Zcm v) hkey
  rw [he] at r2
  injection r2 with r2
  injection r2 with _ r2
  rw [r2]
  exact r1
 have hv:plainElem (H:=Unit) Tryz.prog 3 (.int .i64 ((L.count k:Int)+1))=some (.lit (.int .i64 ((L.count k:Int)+1)),[]):=plainElem_int Tryz.underlying3 (WalkArith.wf_i64 (by unfold maxLen at hn;omega))
 obtain ⟨w3,u1,u2,u3⟩:=h1.update ZbW Tryz.underlying141 hn hkey hv
 have hT:ZaA w3 b (k::L):=⟨_,u2,h2.put _ _,fun x hx=>(by
   rcases List.mem_cons.mp hx with rfl | hx
   ·exact hk
   ·exact h3 x hx),fun x hx=>by
  by_cases e:k=x
  ·subst e
   rw [List.count_cons_self]
   exact atKey_put_same h2 (by trivial) _ _
  ·rw [List.count_cons_of_ne e]
   exact (atKey_put_other (fun q=>e (ZhK hx hk q).symm) _ _).trans (h4 x hx)⟩
 have hl3:=look w3 _ _ _ u2 (atKey_put_same h2 (by trivial) _ _)
 have hl1:=look w _ _ _ h1 (h4 k hk)
 have hE:∃ (sv:Value) (w2:World),(Instr.mapEntry 141 (.map (some b)) (ZaY k)).run Tryz.prog w=.ok (.tuple #[.int .i64 (L.count k),sv]) w2/\(Instr.lookup 141 (.map (some b)) (ZaY k) false).run Tryz.prog w2=.ok (.int .i64 (L.count k)) w2/\w.grownBy w2 (some b):=by
  have h1':=h1
  obtain ⟨es,cl,q1,q2,q3,q4⟩:=h1
  have grow:∀ o,w.grownBy (ChangeMaps.setBlock w b o) (some b):=fun o=>⟨rfl,rfl,rfl,by simp [ChangeMaps.setBlock],fun i _ hi=>ChangeMaps.heap_setBlock_other q1 _ (fun e=>hi (by rw [e]))⟩
  rcases ZbW.find w hkey es.toList q2.keys with ⟨f1,f2⟩ | ⟨j,e0,f1,f2,f3⟩
  ·have l0:(Instr.lookup 141 (.map (some b)) (ZaY k) false).run Tryz.prog w=.ok (.int .i64 0) w:=by
    exact ZhL ZbW Tryz.underlying141 (Zcm w) q1 hkey f1
   have c0:(L.count k:Int)=0:=by
    exact Ziw (Zg5 (hl1.symm.trans l0))
   obtain ⟨w2,y1,y2,y3⟩:=h1'.update (val:=.int .i64 0) ZbW Tryz.underlying141 hn hkey (plainElem_int Tryz.underlying3 (by decide))
   have y4:(Instr.mapUpdate 141 (.map (some b)) (ZaY k) (.int .i64 0)).run Tryz.prog w=.ok () (ChangeMaps.setBlock w b (.map (es.push ⟨ZaY k,.int .i64 0,cl⟩) (cl+1))):=by
    exact Zgz ZbW Tryz.underlying141 q1 hkey f1 _
   have y5:w2=ChangeMaps.setBlock w b (.map (es.push ⟨ZaY k,.int .i64 0,cl⟩) (cl+1)):=by rw [y1] at y4;injection y4
   refine ⟨goInt cl,w2,?_,?_,y3⟩
   ·rw [c0,y5]
    exact ZgN ZbW Tryz.underlying141 (Zcm w) q1 hkey f1
   ·rw [c0]
    exact look w2 _ _ _ y2 (atKey_put_same h2 (by trivial) _ _)
  ·have l0:(Instr.lookup 141 (.map (some b)) (ZaY k) false).run Tryz.prog w=.ok e0.val w:=by
    exact ZhM ZbW Tryz.underlying141 q1 hkey f1
   have c0:e0.val=.int .i64 (L.count k:Int):=by
    exact Zg5 (l0.symm.trans hl1)
   refine ⟨goInt e0.born,ChangeMaps.setBlock w b (.map es cl),?_,look _ _ _ _ ⟨es,cl,ChangeMaps.heap_setBlock_same q1 _,q2,q3,q4⟩ (h4 k hk),grow _⟩
   rw [<- c0]
   exact ZgO ZbW Tryz.underlying141 q1 hkey f1 f2 f3
 obtain ⟨sv,w2,g1,g2,g3⟩:=hE
 obtain ⟨es,cl,q1,q2,q3,q4⟩:=h1
 obtain ⟨v0,st,es1,clock1,m1,m2,m3⟩:=WideElems.entry_then_store Zie Tryz.underlying141 Zcm q1 q2 hkey
 rw [m1] at g1
 injection g1 with g1 g4
 obtain ⟨es',clock',m4,m5⟩:=m3 w2 (.int .i64 ((L.count k:Int)+1)) (by rw [<- g4];exact ChangeMaps.heap_setBlock_same q1 _)
 rw [u1] at m5
 have e3:w3=ChangeMaps.setBlock w b (.map es' clock'):=by injection m5
 have e4:ChangeMaps.setBlock w2 b (.map es' clock')=w3:=by rw [e3,<- g4];exact ZdH
 rw [e4] at m4
 have gv:v0=.int .i64 (L.count k:Int):=by
  exact ZhV g1
 refine ⟨st,w2,w3,hl1,?_,g2,m4,hT,u3,g3,hl3⟩
 rw [m1,gv,g4]
 rfl
end
end Go.Proofs.YtaacbenikcbibabGreatDoor
