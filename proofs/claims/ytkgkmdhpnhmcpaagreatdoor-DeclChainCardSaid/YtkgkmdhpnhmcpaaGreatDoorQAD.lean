import Derived.DeepKeys4
import Derived.WideKeyEntry
import Derived.Test.YtkgkmdhpnhmcpaaGreatDoorQAA
import Derived.Test.YtkgkmdhpnhmcpaaGreatDoorQAC
set_option maxRecDepth 100000
set_option maxHeartbeats 8000000
namespace Go.Proofs.YtkgkmdhpnhmcpaaGreatDoor
section
open Go.RowKit Go.Maps
theorem ZhD:laidOutB Tryz.prog=true:=by kernel_rfl
theorem Zjp:(148:TypeId)<Tryz.prog.types.size:=of_decide_eq_true (by kernel_rfl)
theorem Zjx:(match Tryz.prog.underlying 148 with | some (.array _ _) | some (.struct _)=>true | _=>false)=true:=by rw [Tryz.underlying148]
theorem Ziw:WideMaps.KeyLaw Tryz.prog 148:=Go.deep_law_laid ZhD (m:=3) (by omega) Zjp (by kernel_rfl) Zjx
theorem ZbZ:Keyed Tryz.prog 148:=Keyed.of_law Ziw
abbrev Stt:=List UInt8×Int
def OkT (k:Stt):Prop:=k.1.length<=maxLen/\(Lit.int .i64 k.2).wf=true
abbrev ZaY (k:Stt):Value:=.agg #[txt k.1,.int .i64 k.2]
def ZdJ (k:Stt):Lit:=.string (keyBytes [.string k.1,.int .i64 k.2])
theorem Zjq:Tryz.prog.keyType 148=true:=by kernel_rfl
theorem ZfK:Tryz.prog.cellsOf 148=2:=by kernel_rfl
theorem ZiF:Tryz.prog.cellsOf 9=1:=by kernel_rfl
theorem ZiG:Tryz.prog.cellsOf 3=1:=by kernel_rfl
theorem ZbY (k:Stt) (h:OkT k):keyOf Tryz.prog 148 (ZaY k)=some (ZdJ k):=by
 obtain ⟨d,hd⟩:∃ d,Tryz.prog.types.size+1=d+2:=⟨Tryz.prog.types.size-1,by have:=Nat.lt_of_le_of_lt (Nat.zero_le _) Zjp;omega⟩
 obtain ⟨h1,h2⟩:=h
 unfold keyOf ZdJ
 rw [Tryz.underlying148]
 have hf:(ZaY k).formed Tryz.prog 148=true:=by simp [Value.formed,Tryz.underlying148,ZfK]
 have hs:(⟨k.1.toArray⟩:ByteArray).size<=maxLen:=by show k.1.toArray.size<=maxLen;rw [List.size_toArray];exact h1
 have e0:Tryz.prog.keyLits (d+1) 9 [txt k.1]=some [.string k.1]:=by simp [Program.keyLits,Tryz.underlying9,hs]
 have e1:Tryz.prog.keyLits (d+1) 3 [.int .i64 k.2]=some [.int .i64 k.2]:=by simp [Program.keyLits,Tryz.underlying3,h2]
 have e:Tryz.prog.keyLits (d+2) 148 [txt k.1,.int .i64 k.2]=some [.string k.1,.int .i64 k.2]:=by
  rw [Program.keyLits.eq_def]
  simp only [Tryz.underlying148]
  rw [if_pos ⟨by rw [ZfK];rfl,by kernel_rfl⟩]
  simp only [List.mapM_cons,List.mapM_nil,ZiF,ZiG,List.drop_zero,List.drop_succ_cons,List.take_succ_cons,List.take_zero,e0,e1,Option.bind_eq_bind,Option.bind_some,Option.pure_def,Option.map_some,List.flatten_cons,List.flatten_nil,List.append_nil,List.cons_append,List.nil_append]
 show (if (Tryz.prog.keyType 148&&(ZaY k).formed Tryz.prog 148)=true then (Tryz.prog.keyLits (Tryz.prog.types.size+1) 148 [txt k.1,.int .i64 k.2]).map fun ls=>Lit.string (keyBytes ls) else none)=_
 rw [Zjq,hf,hd,e]
 rfl
theorem Zh1 {a b:Stt} (ha:OkT a) (hb:OkT b) (h:ZdJ a=ZdJ b):a=b:=by
 have e:=ZbZ.inj (ZbY a ha) ((ZbY b hb).trans (by rw [h]))
 obtain ⟨s,z⟩:=a
 obtain ⟨s',z'⟩:=b
 injection e with e
 simp only [Array.mk.injEq,List.cons.injEq,Value.string.injEq,ByteArray.mk.injEq,Value.int.injEq,true_and,and_true] at e
 rw [e.1,e.2]
def Zaw (w:World) (b:Nat) (L:List Stt):Prop:=
 ∃ D:DataW Unit,w.ownsMap Tryz.prog 148 (plainElem Tryz.prog 3) b L.length D/\IsMap D/\(∀ x∈L,OkT x)/\∀ k:Stt,OkT k->D.atKey (ZdJ k) (.lit (.int .i64 0))=.lit (.int .i64 (L.count k))
theorem Zaw.made (w:World):Zaw (w.alloc (.map #[] 0)) w.heap.size []:=⟨.map [],World.ownsMap_made _ _ _ _,isMap_empty,fun _ h=>(by cases h),fun _ _=>rfl⟩
theorem Zaw.lt {w:World} {b:Nat} {L:List Stt} (h:Zaw w b L):b<w.heap.size:=by
 obtain ⟨D,h1,_⟩:=h
 exact h1.lt
theorem Zaw.keepB {w w':World} {b B:Nat} {L:List Stt} (h:Zaw w b L) (hb:Below B w w') (hlt:b<B):Zaw w' b L:=by
 obtain ⟨D,⟨es,cl,h1,h2⟩,h3⟩:=h
 exact ⟨D,⟨es,cl,(hb.block b hlt).trans h1,h2⟩,h3⟩
theorem Zaw.keep {w w':World} {b:Nat} {L:List Stt} (h:Zaw w b L) (hb:Below w.heap.size w w'):Zaw w' b L:=h.keepB hb h.lt
theorem Zaw.grown {w w':World} {row:Option Nat} {b:Nat} {L:List Stt} (h:Zaw w b L) (hg:w.grownBy w' row) (hne:row≠some b):Zaw w' b L:=by
 have hlt:=h.lt
 obtain ⟨D,⟨es,cl,h1,h2⟩,h3⟩:=h
 exact ⟨D,⟨es,cl,(hg.block b hlt (fun e=>hne e.symm)).trans h1,h2⟩,h3⟩
theorem Zaw.not_blk {w:World} {b c:Nat} {L:List Stt} {cs:Array Value} (h:Zaw w b L) (k:Blk w c cs):b≠c:=by
 rintro rfl
 obtain ⟨D,⟨es,cl,h1,_⟩,_⟩:=h
 obtain ⟨ty,h2⟩:=k
 rw [h1] at h2
 cases h2
theorem ZdO {w:World} {b:Nat} {o o':Obj}:ChangeMaps.setBlock (ChangeMaps.setBlock w b o) b o'=ChangeMaps.setBlock w b o':=by
 unfold ChangeMaps.setBlock
 congr 1
 simp
section
variable {P:Program} {w:World} {t k e:TypeId} {b:Nat} {es:Array MapEntry} {clock:Nat} {z key:Value} {kl:Lit}
theorem ZgX (K:Keyed P k) (ht:P.underlying t=some (.map k e)) (hz:(zeroValue e).run P w=.ok z w) (hb:w.heap[b]? = some (.map es clock)) (hkey:keyOf P k key=some kl) (f1:(Instr.findKey k key es.toList).run P w=.ok none w) :
  (Instr.mapEntry t (.map (some b)) key).run P w=.ok (.tuple #[z,goInt clock]) (ChangeMaps.setBlock w b (.map (es.push ⟨key,z,clock⟩) (clock+1))):=by
 simp [Instr.mapEntry,run_underlying ht,MapKept.run_getObj_map hb,K.check w false hkey,f1,hz,MapKept.run_setObj_map _ hb,Result.andThen,ChangeMaps.setBlock]
theorem ZgI (K:Keyed P k) (ht:P.underlying t=some (.map k e)) (hb:w.heap[b]? = some (.map es clock)) (hkey:keyOf P k key=some kl) (f1:(Instr.findKey k key es.toList).run P w=.ok none w) (v:Value) :
  (Instr.mapUpdate t (.map (some b)) key v).run P w=.ok () (ChangeMaps.setBlock w b (.map (es.push ⟨key,v,clock⟩) (clock+1))):=by
 simp [Instr.mapUpdate,run_underlying ht,MapKept.run_getObj_map hb,K.check w false hkey,f1,MapKept.run_setObj_map _ hb,Result.andThen,ChangeMaps.setBlock]
theorem Zh2 (K:Keyed P k) (ht:P.underlying t=some (.map k e)) (hz:(zeroValue e).run P w=.ok z w) (hb:w.heap[b]? = some (.map es clock)) (hkey:keyOf P k key=some kl) (f1:(Instr.findKey k key es.toList).run P w=.ok none w) :
  (Instr.lookup t (.map (some b)) key false).run P w=.ok z w:=by
 simp [Instr.lookup,run_underlying ht,MapKept.run_getObj_map hb,K.check w _ hkey,f1,hz,Result.andThen]
theorem Zh3 (K:Keyed P k) (ht:P.underlying t=some (.map k e)) (hb:w.heap[b]? = some (.map es clock)) (hkey:keyOf P k key=some kl) {j:Nat} {e0:MapEntry} (f1:(Instr.findKey k key es.toList).run P w=.ok (some (j,e0.val)) w) :
  (Instr.lookup t (.map (some b)) key false).run P w=.ok e0.val w:=by
 simp [Instr.lookup,run_underlying ht,MapKept.run_getObj_map hb,K.check w _ hkey,f1,Result.andThen]
theorem ZgY (K:Keyed P k) (ht:P.underlying t=some (.map k e)) (hb:w.heap[b]? = some (.map es clock)) (hkey:keyOf P k key=some kl) {j:Nat} {e0:MapEntry} (f1:(Instr.findKey k key es.toList).run P w=.ok (some (j,e0.val)) w)
  (f2:es.toList[j]? = some e0) (f3:e0.key=key):(Instr.mapEntry t (.map (some b)) key).run P w=.ok (.tuple #[e0.val,goInt e0.born]) (ChangeMaps.setBlock w b (.map es clock)):=by
 have hj:es[j]? = some e0:=by simpa using f2
 have hsame:es.modify j (fun e=>{ e with key:=key })=es:=by
  apply Array.ext'
  rw [Array.toList_modify,ChangeMaps.modify_eq_set _ _ _ _ f2]
  have:({ e0 with key:=key }:MapEntry)=e0:=by rw [<- f3]
  rw [this]
  exact WideElems.set_self _ _ _ f2
 simp [Instr.mapEntry,run_underlying ht,MapKept.run_getObj_map hb,K.check w false hkey,f1,hj,f3,K.stays w hkey,hsame,MapKept.run_setObj_map _ hb,Result.andThen,ChangeMaps.setBlock]
end
theorem Zhg {a b:Value} {w w':World} (h:(Result.ok a w:Result Value)=.ok b w'):a=b:=by cases h;rfl
theorem ZiQ {a b:Int} (h:Value.int .i64 a=.int .i64 b):a=b:=by cases h;rfl
theorem Zic {a b c d:Value} (h:Value.tuple #[a,b]=.tuple #[c,d]):a=c:=by cases h;rfl
theorem Zfi (w:World) (b:Nat) (L:List Stt) (h:Zaw w b L) (hn:L.length<maxLen) (k:Stt) (hk:OkT k) :
  ∃ st w2 w3,(Instr.lookup 161 (.map (some b)) (ZaY k) false).run Tryz.prog w=.ok (.int .i64 (L.count k)) w ∧
   (Instr.mapEntry 161 (.map (some b)) (ZaY k)).run Tryz.prog w=.ok (.tuple #[.int .i64 (L.count k),.int .i64 (st:Nat)]) w2 ∧
   (Instr.lookup 161 (.map (some b)) (ZaY k) false).run Tryz.prog w2=.ok (.int .i64 (L.count k)) w2 ∧
   (Instr.entryStore 161 (.map (some b)) (.int .i64 (st:Nat)) (.int .i64 ((L.count k:Int)+1))).run Tryz.prog w2=.ok () w3 ∧
   Zaw w3 b (k::L)/\w.grownBy w3 (some b)/\w.grownBy w2 (some b) ∧
   (Instr.lookup 161 (.map (some b)) (ZaY k) false).run Tryz.prog w3=.ok (.int .i64 ((L.count k:Int)+1)) w3:=by
 obtain ⟨D,h1,h2,h3,h4⟩:=h
 have hkey:=ZbY k hk
 have hc:L.count k<=L.length:=List.count_le_length
 have look:∀ (v:World) (n:Nat) (E:DataW Unit) (c:Int),v.ownsMap Tryz.prog 148 (plainElem Tryz.prog 3) b n E->E.atKey (ZdJ k) (.lit (.int .i64 0))=.lit (.int .i64 c)->(Instr.lookup 161 (.map (some b)) (ZaY k) false).run Tryz.prog v=.ok (.int .i64 c) v:=by
  intro v n E c ho he
  obtain ⟨x,r1,r2,_⟩:=ho.lookup_int ZbZ Tryz.underlying161 Tryz.underlying3 (Zcr v) hkey
  rw [he] at r2
  injection r2 with r2
  injection r2 with _ r2
  rw [r2]
  exact r1
 have hv:plainElem (H:=Unit) Tryz.prog 3 (.int .i64 ((L.count k:Int)+1))=some (.lit (.int .i64 ((L.count k:Int)+1)),[]):=plainElem_int Tryz.underlying3 (WalkArith.wf_i64 (by unfold maxLen at hn;omega))
 obtain ⟨w3,u1,u2,u3⟩:=h1.update ZbZ Tryz.underlying161 hn hkey hv
 have hT:Zaw w3 b (k::L):=⟨_,u2,h2.put _ _,fun x hx=>(by
   rcases List.mem_cons.mp hx with rfl | hx
   ·exact hk
   ·exact h3 x hx),fun x hx=>by
  by_cases e:k=x
  ·subst e
   rw [List.count_cons_self]
   exact atKey_put_same h2 (by trivial) _ _
  ·rw [List.count_cons_of_ne e]
   exact (atKey_put_other (fun q=>e (Zh1 hx hk q).symm) _ _).trans (h4 x hx)⟩
 have hl3:=look w3 _ _ _ u2 (atKey_put_same h2 (by trivial) _ _)
 have hl1:=look w _ _ _ h1 (h4 k hk)
 have hE:∃ (sv:Value) (w2:World),(Instr.mapEntry 161 (.map (some b)) (ZaY k)).run Tryz.prog w=.ok (.tuple #[.int .i64 (L.count k),sv]) w2/\(Instr.lookup 161 (.map (some b)) (ZaY k) false).run Tryz.prog w2=.ok (.int .i64 (L.count k)) w2/\w.grownBy w2 (some b):=by
  have h1':=h1
  obtain ⟨es,cl,q1,q2,q3,q4⟩:=h1
  have grow:∀ o,w.grownBy (ChangeMaps.setBlock w b o) (some b):=fun o=>⟨rfl,rfl,rfl,by simp [ChangeMaps.setBlock],fun i _ hi=>ChangeMaps.heap_setBlock_other q1 _ (fun e=>hi (by rw [e]))⟩
  rcases ZbZ.find w hkey es.toList q2.keys with ⟨f1,f2⟩ | ⟨j,e0,f1,f2,f3⟩
  ·have l0:(Instr.lookup 161 (.map (some b)) (ZaY k) false).run Tryz.prog w=.ok (.int .i64 0) w:=by
    exact Zh2 ZbZ Tryz.underlying161 (Zcr w) q1 hkey f1
   have c0:(L.count k:Int)=0:=by
    exact ZiQ (Zhg (hl1.symm.trans l0))
   obtain ⟨w2,y1,y2,y3⟩:=h1'.update (val:=.int .i64 0) ZbZ Tryz.underlying161 hn hkey (plainElem_int Tryz.underlying3 (by decide))
   have y4:(Instr.mapUpdate 161 (.map (some b)) (ZaY k) (.int .i64 0)).run Tryz.prog w=.ok () (ChangeMaps.setBlock w b (.map (es.push ⟨ZaY k,.int .i64 0,cl⟩) (cl+1))):=by
    exact ZgI ZbZ Tryz.underlying161 q1 hkey f1 _
   have y5:w2=ChangeMaps.setBlock w b (.map (es.push ⟨ZaY k,.int .i64 0,cl⟩) (cl+1)):=by rw [y1] at y4;injection y4
   refine ⟨goInt cl,w2,?_,?_,y3⟩
   ·rw [c0,y5]
    exact ZgX ZbZ Tryz.underlying161 (Zcr w) q1 hkey f1
   ·rw [c0]
    exact look w2 _ _ _ y2 (atKey_put_same h2 (by trivial) _ _)
  ·have l0:(Instr.lookup 161 (.map (some b)) (ZaY k) false).run Tryz.prog w=.ok e0.val w:=by
    exact Zh3 ZbZ Tryz.underlying161 q1 hkey f1
   have c0:e0.val=.int .i64 (L.count k:Int):=by
    exact Zhg (l0.symm.trans hl1)
   refine ⟨goInt e0.born,ChangeMaps.setBlock w b (.map es cl),?_,look _ _ _ _ ⟨es,cl,ChangeMaps.heap_setBlock_same q1 _,q2,q3,q4⟩ (h4 k hk),grow _⟩
   rw [<- c0]
   exact ZgY ZbZ Tryz.underlying161 q1 hkey f1 f2 f3
 obtain ⟨sv,w2,g1,g2,g3⟩:=hE
 obtain ⟨es,cl,q1,q2,q3,q4⟩:=h1
 obtain ⟨v0,st,es1,clock1,m1,m2,m3⟩:=WideElems.entry_then_store Ziw Tryz.underlying161 Zcr q1 q2 hkey
 rw [m1] at g1
 injection g1 with g1 g4
 obtain ⟨es',clock',m4,m5⟩:=m3 w2 (.int .i64 ((L.count k:Int)+1)) (by rw [<- g4];exact ChangeMaps.heap_setBlock_same q1 _)
 rw [u1] at m5
 have e3:w3=ChangeMaps.setBlock w b (.map es' clock'):=by injection m5
 have e4:ChangeMaps.setBlock w2 b (.map es' clock')=w3:=by rw [e3,<- g4];exact ZdO
 rw [e4] at m4
 have gv:v0=.int .i64 (L.count k:Int):=by
  exact Zic g1
 refine ⟨st,w2,w3,hl1,?_,g2,m4,hT,u3,g3,hl3⟩
 rw [m1,gv,g4]
 rfl
end
section
open Go.RowKit Go.Maps
def frT (bx:Nat):Value:=.func (.func 139) #[] #[.pointer (some ⟨bx,0,none⟩)]
structure FreT (w:World) (bx bm:Nat) (L:List Stt):Prop where
 box:Blk w bx #[.map (some bm)]
 map:Zaw w bm L
theorem FreT.keep {w w':World} {bx bm:Nat} {L:List Stt} (h:FreT w bx bm L) (hb:Below w.heap.size w w'):FreT w' bx bm L:=⟨h.box.keep hb,h.map.keep hb⟩
theorem FreT.grown {w w':World} {row:Option Nat} {bx bm:Nat} {L:List Stt} (h:FreT w bx bm L) (hg:w.grownBy w' row) (h1:row≠some bx) (h2:row≠some bm):FreT w' bx bm L:=⟨h.box.grown hg h1,h.map.grown hg h2⟩
theorem Zgc (w:World):Calls Tryz.prog 114 #[] w fun e w'=>∃ bx bm,e=.returned (frT bx)/\FreT w' bx bm []/\w.heap.size<=bx/\w.heap.size<=bm/\Below w.heap.size w w':=by
 have hmm:=@run_makeMap Tryz.prog
 have hmf:=mkF
 go_enter Tryz.func114,Tryz.ntmps114
 go_wp2_with fail
 go_ret
 have a1:=below_alloc1 w (.map #[] 0)
 have a2:=below_alloc1 (w.alloc (.map #[] 0)) (.cells #[.map (some w.heap.size)] 161)
 have b:=Blk.start (w.alloc (.map #[] 0)) #[.map (some w.heap.size)] 161
 rw [World.size_alloc] at b
 exact ⟨w.heap.size+1,w.heap.size,rfl,⟨b,(Zaw.made w).keep a2⟩,Nat.le_succ _,Nat.le_refl _,a1.trans (a2.mono a1.size)⟩
theorem Zfl (w:World) (bx bm:Nat) (L:List Stt) (k:Stt) (h:FreT w bx bm L) (hn:L.length<1000000) (hk:OkT k) :
  Calls Tryz.prog 139 #[ZaY k,.pointer (some ⟨bx,0,none⟩)] w fun e w'=>e=.returned (.bool (!L.contains k))/\FreT w' bx bm (k::L)/\(w.alloc (.cells #[txt k.1,.int .i64 k.2] 148)).grownBy w' (some bm):=by
 have a1:=below_alloc1 w (.cells #[txt k.1,.int .i64 k.2] 148)
 have B1:=Blk.start w #[txt k.1,.int .i64 k.2] 148
 have h1:=h.keep a1
 have hc:L.count k<=L.length:=List.count_le_length
 have wk:IntKind.i64.wrap ((L.count k:Int)+1)=(L.count k:Int)+1:=IntWalk.i64_in _ (by omega)
 have hct:(L.contains k=true/\¬ ((L.count k:Int)+1=1))\/(L.contains k=false/\(L.count k:Int)+1=1):=by
  cases q:L.contains k with
  | true=>
   have:=List.count_pos_iff.mpr (List.contains_iff_mem.mp q)
   exact .inl ⟨rfl,by omega⟩
  | false=>
   have:=List.count_eq_zero.mpr (fun m=>by rw [List.contains_iff_mem.mpr m] at q;cases q)
   exact .inr ⟨rfl,by omega⟩
 have HT:=zh hct
 have CS:=zh (fun (W:World) (hm:Zaw W bm L)=>Zfi W bm L hm (by unfold maxLen;omega) k hk)
 have H1:=zh (zi h1 (zi B1 hk))
 clear h hn hk hc hct h1 B1 a1
 go_enter Tryz.func139,Tryz.ntmps139
 go_wp2_with fail
 generalize hW:w.alloc (.cells #[txt k.1,.int .i64 k.2] 148)=W at *
 have HW:=zh hW
 clear hW
 obtain ⟨st,w2,w3,e1,e2,e3,e4,m3,g3,g2,e5⟩:=CS.out W.drew H1.out.1.map
 have c0:=H1.out.1.box.drew.cell 0
 have c1:=H1.out.2.1.drew.cell 0
 have c2:=H1.out.2.1.drew.cell 1
 simp only [List.getElem?_toArray,List.getElem?_cons_zero,List.getElem?_cons_succ] at c0 c1 c2
 have H3:=zh g3
 have hb3:=H1.out.1.box.drew.grown g3 (fun e=>by injection e with e;exact H1.out.1.map.not_blk H1.out.1.box e)
 have hk3:=H1.out.2.1.drew.grown g3 (fun e=>by injection e with e;exact H1.out.1.map.not_blk H1.out.2.1 e)
 have d0:=hb3.cell 0
 have d1:=hk3.cell 0
 have d2:=hk3.cell 1
 simp only [List.getElem?_toArray,List.getElem?_cons_zero,List.getElem?_cons_succ] at d0 d1 d2
 have HF:=zh (FreT.mk hb3 m3)
 clear m3 g3 g2 hb3 hk3
 generalize hC:(L.count k:Int)=C at *
 have HC:=zh hC
 clear hC CS
 go_region
 all_goals
  go_wp2_with fail
  go_ret
  refine ⟨?_,HF.out,by rw [HW.out];exact ⟨H3.out.os,H3.out.tape,H3.out.output,H3.out.size,H3.out.block⟩⟩
  show Ending.returned (.bool (C+1==1))=_
  rcases HT.out with ⟨q,i1⟩ | ⟨q,i1⟩
  ·rw [q,show (C+1==1)=false from beq_eq_false_iff_ne.mpr i1]
   rfl
  ·rw [q,show (C+1==1)=true from beq_iff_eq.mpr i1]
   rfl
theorem Zg1 {ss:List Sta} (k:Nat) (x:Sta) (h:ss[k]? = some x):(ss.take (k+1)).map (·.name)=(ss.take k).map (·.name)++[x.name]:=by
 rw [List.take_add_one,h,List.map_append];rfl
structure SamS (w:World) (bn bx bm:Nat) (L:List (List UInt8)):Prop where
 f:Blk w bn #[frF bx]
 m:FreS w bx bm L
theorem SamS.keep {w w':World} {bn bx bm:Nat} {L:List (List UInt8)} (h:SamS w bn bx bm L) (hb:Below w.heap.size w w'):SamS w' bn bx bm L:=⟨h.f.keep hb,h.m.keep hb⟩
theorem SamS.next {w w':World} {bn bx bm:Nat} {L L':List (List UInt8)} (h:SamS w bn bx bm L) (hg:w.grownBy w' (some bm)) (hm:FreS w' bx bm L'):SamS w' bn bx bm L':=
 ⟨h.f.grown hg (fun e=>by injection e with e;exact h.m.map.not_blk h.f e),hm⟩
theorem Zhm (w:World) (bn bx bm:Nat) (L:List (List UInt8)) (s:Sta) (h:SamS w bn bx bm L) (hn:L.length<1000000) (hs:s.name.length<=maxLen) :
  Calls Tryz.prog 110 #[.agg #[txt s.name,.bool s.final],.pointer (some ⟨bn,0,none⟩)] w fun e w'=>e=.returned (.bool (L.contains s.name))/\SamS w' bn bx bm (s.name::L)/\∀ B,B<=w.heap.size->B<=bm->Below B w w':=by
 have a1:=below_alloc1 w (.cells #[txt s.name,.bool s.final] 82)
 have B1:=Blk.start w #[txt s.name,.bool s.final] 82
 have h1:=h.keep a1
 have FR:=zh (Zdh _ bx bm L s.name h1.m hn hs)
 have c0:=B1.cell 0
 have c1:=h1.f.cell 0
 simp only [List.getElem?_toArray,List.getElem?_cons_zero,frF] at c0 c1
 have HA:=zh (zi a1 h1)
 clear h hn hs h1 B1 a1
 generalize L.contains s.name=B at *
 go_enter Tryz.func110,Tryz.ntmps110
 go_wp2_with (go_at_call 138;(with_reducible refine FR.out.mono ?_);rintro e w1 ⟨rfl,hf,hg⟩;have H1:=zh (zi hf hg);clear hf hg)
 go_ret
 refine ⟨rfl,HA.out.2.next H1.out.2 H1.out.1,fun B' h1 h2=>(HA.out.1.mono h1).trans (Zv H1.out.2 (Nat.le_trans h1 HA.out.1.size) (fun k hk=>by injection hk with hk;omega))⟩
def Zcc (ss:List Sta) (k:Nat):Bool:=match ss[k]? with
 | some s=>((ss.take k).map (·.name)).contains s.name
 | none=>false
theorem Zcx (l:List (List UInt8)) (x:List UInt8):l.reverse.contains x=l.contains x:=by
 rw [Bool.eq_iff_iff,List.contains_iff_mem,List.contains_iff_mem,List.mem_reverse]
theorem Zgp {ss:List Sta} {k:Nat} {x:Sta} (h:ss[k]? = some x):((ss.take (k+1)).map (·.name)).reverse=x.name::((ss.take k).map (·.name)).reverse:=by
 rw [Zg1 k x h,List.reverse_append];rfl
theorem Zik (w:World) (vs vm:Value) (p:Pro) (h:ProAt w vs vm p) (hn:p.states.length<=16) :
  Calls Tryz.prog 79 #[ZaH vs vm p] w fun e w'=>e=.returned (.int .i64 (ZE (Zcc p.states) p.states.length))/\Below w.heap.size w w':=by
 have hS:ZaD w vs p.states:=h.states
 have a1:=below_alloc1 w (.cells #[txt p.name,vs,vm] 51)
 have B1:=Blk.start w #[txt p.name,vs,vm] 51
 have FA:=zh (ZdT (w.alloc (.cells #[txt p.name,vs,vm] 51)))
 have IX:=zh (fun (wr:World) (bn bx bm:Nat) (hb:Below w.heap.size w wr) (hm:w.heap.size<=bm) (hs:SamS wr bn bx bm [])=>
  ZiU w wr vs p.states bn (Zcc p.states) (fun k v=>SamS v bn bx bm ((p.states.take k).map (·.name)).reverse) hS hb (by simpa using hs)
   (fun k x v hx hbv hr=>(Zhm v bn bx bm _ x hr (by rw [List.length_reverse,List.length_map,List.length_take];omega) (by
    obtain ⟨_,_,_,_,_,_,h5⟩:=hS
    exact h5 x (List.mem_of_getElem? hx))).mono fun e v' ⟨he,hr',hB⟩=>⟨by rw [he,Zcx];unfold Zcc;rw [hx],hbv.trans (hB _ hbv.size hm),by rw [Zgp hx];exact hr'⟩))
 obtain ⟨As,cs,rfl,hls⟩:=h.states.len
 have c1:=B1.cell 1
 simp only [List.getElem?_toArray,List.getElem?_cons_zero,List.getElem?_cons_succ] at c1
 have HA:=zh (zi a1 B1)
 clear h hS a1 B1 hn hls
 generalize ZE (Zcc p.states) p.states.length=z at *
 have hmf:=mkF
 have hsf:=stF
 go_enter Tryz.func79,Tryz.ntmps79
 go_upto_region 2 with (go_at_call 108;(with_reducible refine FA.out.mono ?_);rintro e w1 ⟨bx,bm,rfl,hf,h1,h2,hb⟩;have H1:=zh (zi hf (zi h1 (zi h2 hb)));clear hf h1 h2 hb;unfold frF)
 have a2:=below_alloc1 w1 (.cells #[frF bx] 59)
 have B2:=Blk.start w1 #[frF bx] 59
 have bw:=(HA.out.1.trans (H1.out.2.2.2.mono HA.out.1.size))
 have c2:=((HA.out.2.keep H1.out.2.2.2).keep a2).cell 1
 simp only [List.getElem?_toArray,List.getElem?_cons_zero,List.getElem?_cons_succ,frF] at c2
 have CX:=zh (IX.out _ w1.heap.size bx bm (bw.trans (a2.mono bw.size)) (Nat.le_trans HA.out.1.size H1.out.2.2.1) ⟨B2,H1.out.1.keep a2⟩)
 unfold frF at CX
 clear a2 B2 bw c1
 go_wp2_with (go_at_call 109;(with_reducible refine CX.out.mono ?_);rintro e w3 ⟨rfl,hb,hr⟩;have H3:=zh hb;clear hb hr)
 go_ret
 exact ⟨rfl,H3.out⟩
end
section
def Zam (p:Pro) (i:Nat):Bool:=match p.states[i]? with
 | some s=>s.final
 | none=>false
def Zx (p:Pro):Nat->Nat->Bool
 | 0,i=>Zam p i
 | k+1,i=>Zam p i||p.moves.any fun m=>decide (m.at_=(i:Int))&&m.outs.any fun o=>Zx p k o.to.toNat
structure Fits (p:Pro):Prop where
 at_:∀ m∈p.moves,0<=m.at_/\m.at_<(p.states.length:Int)
 to:∀ m∈p.moves,∀ o∈m.outs,0<=o.to/\o.to<(p.states.length:Int)
theorem ZcE (p:Pro):∀ k i,Zx p k i=true->Zx p (k+1) i=true
 | 0,i,h=>by
  have h':Zam p i=true:=h
  show (Zam p i||_)=true
  rw [h'];rfl
 | k+1,i,h=>by
  rw [Zx,Bool.or_eq_true,List.any_eq_true] at h ⊢
  rcases h with h | ⟨m,hm,h⟩
  ·exact .inl h
  ·refine .inr ⟨m,hm,?_⟩
   rw [Bool.and_eq_true,List.any_eq_true] at h ⊢
   obtain ⟨h1,o,ho,h2⟩:=h
   exact ⟨h1,o,ho,ZcE p k _ h2⟩
theorem goes_le (p:Pro) {k j i:Nat} (h:k<=j) (hg:Zx p k i=true):Zx p j i=true:=by
 obtain ⟨d,rfl⟩:∃ d,j=k+d:=⟨j-k,by omega⟩
 clear h
 induction d with
 | zero=>exact hg
 | succ d ih=>exact ZcE p _ _ ih
theorem Zdl {p:Pro} (hf:Fits p) {k:Nat} (h:∀ i,i<p.states.length->Zx p (k+1) i=true->Zx p k i=true):∀ d i,i<p.states.length->Zx p (k+d) i=true->Zx p k i=true
 | 0,i,_,hg=>hg
 | d+1,i,hi,hg=>by
  refine h i hi ?_
  rw [<- Nat.add_assoc,Zx,Bool.or_eq_true,List.any_eq_true] at hg
  rw [Zx,Bool.or_eq_true,List.any_eq_true]
  rcases hg with hg | ⟨m,hm,hg⟩
  ·exact .inl hg
  ·refine .inr ⟨m,hm,?_⟩
   rw [Bool.and_eq_true,List.any_eq_true] at hg ⊢
   obtain ⟨h1,o,ho,h2⟩:=hg
   have:=hf.to m hm o ho
   exact ⟨h1,o,ho,Zdl hf h d _ (by omega) h2⟩
theorem ZcP {f g:Nat->Bool}:∀ (l:List Nat),(∀ i∈l,f i=true->g i=true)->l.countP f<=l.countP g/\((∃ i∈l,g i=true/\f i=false)->l.countP f+1<=l.countP g)
 | [],_=>⟨Nat.le_refl _,by rintro ⟨i,hi,_⟩;cases hi⟩
 | x::r,h=>by
  obtain ⟨h1,h2⟩:=ZcP r (fun i hi=>h i (List.mem_cons_of_mem _ hi))
  have hx:=h x (List.mem_cons_self ..)
  rw [List.countP_cons,List.countP_cons]
  cases e1:f x with
  | true=>
   rw [hx e1]
   refine ⟨by omega,?_⟩
   rintro ⟨i,hi,a,b⟩
   rcases List.mem_cons.mp hi with rfl | hi
   ·rw [e1] at b;cases b
   ·have:=h2 ⟨i,hi,a,b⟩;omega
  | false=>
   cases e2:g x with
   | true=>exact ⟨by simp;omega,fun _=>by simp;omega⟩
   | false=>
    refine ⟨by simpa using h1,?_⟩
    rintro ⟨i,hi,a,b⟩
    rcases List.mem_cons.mp hi with rfl | hi
    ·rw [e2] at a;cases a
    ·simpa using h2 ⟨i,hi,a,b⟩
theorem Zdk {p:Pro} (hf:Fits p):∀ k,(∃ j,j<k/\∀ i,i<p.states.length->Zx p (j+1) i=true->Zx p j i=true)\/k<=(List.range p.states.length).countP (Zx p k)
 | 0=>.inr (Nat.zero_le _)
 | k+1=>by
  rcases Zdk hf k with ⟨j,hj,h⟩ | h
  ·exact .inl ⟨j,by omega,h⟩
  ·by_cases q:∀ i,i<p.states.length->Zx p (k+1) i=true->Zx p k i=true
   ·exact .inl ⟨k,by omega,q⟩
   ·refine .inr ?_
    have ⟨i,hi,a,b⟩:∃ i,i<p.states.length/\Zx p (k+1) i=true/\Zx p k i=false:=by
     apply Classical.byContradiction
     intro n
     refine q fun i hi a=>?_
     cases e:Zx p k i with
     | true=>rfl
     | false=>exact (n ⟨i,hi,a,e⟩).elim
    have:=(ZcP (List.range p.states.length) (f:=Zx p k) (g:=Zx p (k+1)) (fun i _=>ZcE p k i)).2 ⟨i,List.mem_range.mpr hi,a,b⟩
    omega
theorem ZhT {p:Pro} (hf:Fits p) {K i:Nat} (hi:i<p.states.length) (h:Zx p K i=true):Zx p p.states.length i=true:=by
 rcases Zdk hf p.states.length with ⟨j,hj,hs⟩ | hc
 ·refine goes_le p (k:=j) (by omega) ?_
  by_cases q:K<=j
  ·exact goes_le p q h
  ·exact Zdl hf hs (K-j) i hi (by rw [show j+(K-j)=K by omega];exact h)
 ·have e:(List.range p.states.length).countP (Zx p p.states.length)=(List.range p.states.length).length:=by
   have:=List.countP_le_length (p:=Zx p p.states.length) (l:=List.range p.states.length)
   rw [List.length_range] at this ⊢
   omega
  exact List.countP_eq_length.mp e i (List.mem_range.mpr hi)
theorem Zdb (s k i:Nat):(s ||| 2 ^ k).testBit i=(s.testBit i||decide (k=i)):=by
 rw [Nat.testBit_or,Nat.testBit_two_pow]
def Zbh (f:Nat->Bool):Nat->Nat
 | 0=>0
 | n+1=>if f n then Zbh f n ||| 2 ^ n else Zbh f n
theorem ZbK (f:Nat->Bool):∀ n i,(Zbh f n).testBit i=(decide (i<n)&&f i)
 | 0,i=>by simp [Zbh]
 | n+1,i=>by
  rw [Zbh]
  cases q:f n with
  | true=>
   rw [if_pos rfl,Zdb,ZbK f n i]
   by_cases e:n=i
   ·subst e;simp [q]
   ·have:(decide (i<n+1))=decide (i<n):=by
     rw [decide_eq_decide];omega
    rw [this,decide_eq_false e,Bool.or_false]
  | false=>
   rw [if_neg (by simp),ZbK f n i]
   by_cases e:n=i
   ·subst e;simp [q]
   ·have:(decide (i<n+1))=decide (i<n):=by
     rw [decide_eq_decide];omega
    rw [this]
theorem ZfU (f:Nat->Bool) (n:Nat):Zbh f n<2 ^ n:=by
 refine Nat.lt_pow_two_of_testBit _ fun i hi=>?_
 rw [ZbK,decide_eq_false (by omega)]
 rfl
def ZaK (p:Pro):Nat:=Zbh (Zam p) p.states.length
def ZbW (s:Nat) (m:Mov):Nat:=if m.outs.any fun o=>s.testBit o.to.toNat then s ||| 2 ^ m.at_.toNat else s
def ZbX (l:List Mov) (s:Nat):Nat:=l.foldl ZbW s
def ZaX (p:Pro):Nat->Nat
 | 0=>ZaK p
 | k+1=>ZbX p.moves (ZaX p k)
theorem ZdS {s i:Nat} {m:Mov} (h:s.testBit i=true):(ZbW s m).testBit i=true:=by
 unfold ZbW
 split
 ·rw [Zdb,h];rfl
 ·exact h
theorem ZcB:∀ (l:List Mov) (s i:Nat),s.testBit i=true->(ZbX l s).testBit i=true
 | [],_,_,h=>h
 | _::r,_,i,h=>ZcB r _ i (ZdS h)
theorem ZeB:∀ (l:List Mov) (s:Nat) (m:Mov),m∈l->(∃ o∈m.outs,s.testBit o.to.toNat=true)->(ZbX l s).testBit m.at_.toNat=true
 | x::r,_,_,hm,⟨o,ho,h⟩=>by
  rcases List.mem_cons.mp hm with rfl | hm
  ·refine ZcB r _ _ ?_
   unfold ZbW
   rw [if_pos (List.any_eq_true.mpr ⟨o,ho,h⟩),Zdb,decide_eq_true rfl,Bool.or_true]
  ·exact ZeB r _ _ hm ⟨o,ho,ZdS h⟩
theorem Zdf {p:Pro}:∀ (l:List Mov) (s:Nat),(∀ m∈l,m∈p.moves/\0<=m.at_)->(∀ i,s.testBit i=true->∃ K,Zx p K i=true)->∀ i,(ZbX l s).testBit i=true->∃ K,Zx p K i=true
 | [],s,_,h,i,hi=>h i hi
 | m::r,s,hl,h,i,hi=>by
  refine Zdf r (ZbW s m) (fun x hx=>hl x (List.mem_cons_of_mem _ hx)) (fun j hj=>?_) i hi
  unfold ZbW at hj
  split at hj
  ·rename_i q
   rw [Zdb,Bool.or_eq_true] at hj
   rcases hj with hj | hj
   ·exact h j hj
   ·obtain ⟨o,ho,hb⟩:=List.any_eq_true.mp q
    obtain ⟨K,hK⟩:=h _ hb
    have hm:=hl m (List.mem_cons_self ..)
    have e:m.at_=(j:Int):=by have:=of_decide_eq_true hj;omega
    refine ⟨K+1,?_⟩
    rw [Zx,Bool.or_eq_true,List.any_eq_true]
    exact .inr ⟨m,hm.1,by rw [Bool.and_eq_true,List.any_eq_true];exact ⟨decide_eq_true e,o,ho,hK⟩⟩
  ·exact h j hj
theorem Zde {p:Pro} (hf:Fits p):∀ k i,(ZaX p k).testBit i=true->∃ K,Zx p K i=true
 | 0,i,h=>by
  rw [ZaX,ZaK,ZbK,Bool.and_eq_true] at h
  exact ⟨0,h.2⟩
 | k+1,i,h=>Zdf p.moves _ (fun m hm=>⟨hm,(hf.at_ m hm).1⟩) (Zde hf k) i h
theorem Zcd {p:Pro} (hf:Fits p):∀ k i,i<p.states.length->Zx p k i=true->(ZaX p k).testBit i=true
 | 0,i,hi,h=>by
  rw [Zx] at h
  rw [ZaX,ZaK,ZbK,h,decide_eq_true hi];rfl
 | k+1,i,hi,h=>by
  rw [Zx,Bool.or_eq_true,List.any_eq_true] at h
  rcases h with h | ⟨m,hm,h⟩
  ·refine ZcB p.moves _ i (Zcd hf k i hi (goes_le p (Nat.zero_le _) ?_))
   rw [Zx];exact h
  ·rw [Bool.and_eq_true,List.any_eq_true] at h
   obtain ⟨h1,o,ho,h2⟩:=h
   have ht:=hf.to m hm o ho
   have:=ZeB p.moves (ZaX p k) m hm ⟨o,ho,Zcd hf k _ (by omega) h2⟩
   rw [show m.at_.toNat=i by have:=of_decide_eq_true h1;omega] at this
   exact this
theorem ZgV {p:Pro} (hf:Fits p) {i:Nat} (hi:i<p.states.length):(ZaX p p.states.length).testBit i=Zx p p.states.length i:=by
 rw [Bool.eq_iff_iff]
 constructor
 ·intro h
  obtain ⟨K,hK⟩:=Zde hf _ i h
  exact ZhT hf hi hK
 ·exact Zcd hf _ i hi
theorem ZiL {s n:Nat} {m:Mov} (hs:s<2 ^ n) (h:0<=m.at_/\m.at_<(n:Int)):ZbW s m<2 ^ n:=by
 unfold ZbW
 split
 ·exact Nat.or_lt_two_pow hs (Nat.pow_lt_pow_right (by omega) (by omega))
 ·exact hs
theorem ZdD {n:Nat}:∀ (l:List Mov) (s:Nat),s<2 ^ n->(∀ m∈l,0<=m.at_/\m.at_<(n:Int))->ZbX l s<2 ^ n
 | [],_,hs,_=>hs
 | m::r,_,hs,h=>ZdD r _ (ZiL hs (h m (List.mem_cons_self ..))) (fun x hx=>h x (List.mem_cons_of_mem _ hx))
theorem ZdC {p:Pro} (hf:Fits p):∀ k,ZaX p k<2 ^ p.states.length
 | 0=>ZfU _ _
 | k+1=>ZdD p.moves _ (ZdC hf k) hf.at_
end
section
open Go.RowKit
theorem Za3 {rs:List (Value×Mov)} {ms:List Mov} (h:rs.map (·.2)=ms) {k:Nat} {x:Value×Mov} (hx:rs[k]? = some x):ms[k]? = some x.2:=by rw [<- h,List.getElem?_map,hx];rfl
theorem ZbQ {rs:List (Value×Mov)} {ms:List Mov} (h:rs.map (·.2)=ms):rs.length=ms.length:=by rw [<- h,List.length_map]
theorem ZfZ (w:World) (vs vm:Value) (p:Pro) (h:ProAt w vs vm p) :
  Calls Tryz.prog 80 #[ZaH vs vm p] w fun e w'=>e=.returned (.int .i64 (ZT (ZW p.states.length) p.moves))/\Below w.heap.size w w':=by
 obtain ⟨As,cs,rfl,hls⟩:=h.states.len
 obtain ⟨rs,hm,hM⟩:=h.moves
 have a1:=below_alloc1 w (.cells #[txt p.name,.slice As p.states.length cs,vm] 51)
 have B1:=Blk.start w #[txt p.name,.slice As p.states.length cs,vm] 51
 have a2:=below_alloc1 (w.alloc (.cells #[txt p.name,.slice As p.states.length cs,vm] 51)) (.cells #[.func (.func 111) #[] #[.pointer (some ⟨w.heap.size,0,none⟩)]] 105)
 have B2:=Blk.start (w.alloc (.cells #[txt p.name,.slice As p.states.length cs,vm] 51)) #[.func (.func 111) #[] #[.pointer (some ⟨w.heap.size,0,none⟩)]] 105
 rw [World.size_alloc] at B2
 have B3:=B1.keep a2
 have CX:=zh (Zg2 w _ vm rs (w.heap.size+1) (fun k=>match rs[k]? with | some x=>ZW p.states.length x.2 | none=>false) (fun _ wr=>NonS wr w.heap.size (w.heap.size+1) p.states.length cs As (txt p.name) vm) hM (a1.trans (a2.mono a1.size)) ⟨B3,B2⟩
  (fun k x wr hx hb hr=>(Zfg wr _ _ _ _ _ _ _ x.1 x.2 hr ((by obtain ⟨_,_,_,_,_,_,h5⟩:=hM;exact (h5 x (List.mem_of_getElem? hx)).2:Zaj w x.1 x.2.outs).below hb)).mono fun e w' ⟨he,hb'⟩=>⟨by rw [he,hx],hb.trans (hb'.mono hb.size),hr.keep hb'⟩))
 rw [ZcD (f:=fun x:Value×Mov=>ZW p.states.length x.2) (fun k x hx=>by rw [hx]),<- ZeC (fun x:Value×Mov=>x.2) (ZW p.states.length) rs,hm] at CX
 obtain ⟨Am,cm,rfl,hlm⟩:=h.moves.len
 have c2:=B3.cell 2
 simp only [List.getElem?_toArray,List.getElem?_cons_zero,List.getElem?_cons_succ] at c2
 clear h hM hm hls hlm a1 a2 B1 B2 B3
 generalize ZT (ZW p.states.length) p.moves=z at *
 have hmf:=mkF
 have hsf:=stF
 go_enter Tryz.func80,Tryz.ntmps80
 go_wp2_with (go_at_call 48;(with_reducible refine CX.out.mono ?_);rintro e w3 ⟨rfl,hb,hr⟩;have H3:=zh hb;clear hb hr)
 go_ret
 exact ⟨rfl,H3.out⟩
def Zbu (ss:List Sta) (m:Mov):Bool:=match ss[m.at_.toNat]? with
 | some s=>s.final
 | none=>false
theorem Zgb (w0 w:World) (bp cs:Nat) (As:Option Addr) (ss:List Sta) (vo nm vm:Value) (m:Mov) (h:Blk w bp #[nm,.slice As ss.length cs,vm]) (hs:Zr w0 w0.heap.size 2 As ss.length (Zt stC ss)) (hb:Below w0.heap.size w0 w) (hm:0<=m.at_/\m.at_<(ss.length:Int)) :
  Calls Tryz.prog 117 #[.agg #[txt m.op,.int .i64 m.at_,vo],.pointer (some ⟨bp,0,none⟩)] w fun e w'=>e=.returned (.bool (Zbu ss m))/\Below w.heap.size w w':=by
 obtain ⟨op,z,outs⟩:=m
 dsimp only at hm ⊢
 obtain ⟨k,rfl⟩:∃ k:Nat,z=k:=⟨z.toNat,by omega⟩
 have hlt:k<ss.length:=by omega
 have a1:=below_alloc1 w (.cells #[txt op,.int .i64 (k:Int),vo] 85)
 have B1:=Blk.start w #[txt op,.int .i64 (k:Int),vo] 85
 have h1:=h.keep a1
 have c0:=B1.cell 1
 have c1:=h1.cell 1
 simp only [List.getElem?_toArray,List.getElem?_cons_zero,List.getElem?_cons_succ] at c0 c1
 unfold Zbu
 dsimp only
 have hx:ss[k]? = some ss[k]:=List.getElem?_eq_getElem hlt
 have i1:(k:Int)<(ss.length:Int):=by omega
 have i2:(0:Int)<=(k:Int):=by omega
 obtain ⟨ad,rfl,d0,d1⟩:=ZaN ZbC hs (hb.trans (a1.mono hb.size)) hx (by omega)
 rw [Int.toNat_natCast,hx]
 generalize ss[k]=x at *
 unfold stC at d1
 simp only [List.getElem?_cons_zero,List.getElem?_cons_succ] at d1
 have HA:=zh a1
 clear h hs hb hm B1 h1 a1 hx d0
 generalize ss.length=n at *
 go_enter Tryz.func117,Tryz.ntmps117
 go_wp2_with fail
 go_ret
 exact ⟨rfl,HA.out⟩
theorem Zd9 (w:World) (vs vm:Value) (p:Pro) (h:ProAt w vs vm p) (hf:Fits p) :
  Calls Tryz.prog 82 #[ZaH vs vm p] w fun e w'=>e=.returned (.int .i64 (ZT (Zbu p.states) p.moves))/\Below w.heap.size w w':=by
 obtain ⟨As,cs,rfl,hls,hls2,hS,_⟩:=h.states
 obtain ⟨rs,hm,hM⟩:=h.moves
 have a1:=below_alloc1 w (.cells #[txt p.name,.slice As p.states.length cs,vm] 51)
 have B1:=Blk.start w #[txt p.name,.slice As p.states.length cs,vm] 51
 have CX:=zh (ZhZ w _ vm rs w.heap.size (fun k=>match rs[k]? with | some x=>Zbu p.states x.2 | none=>false) (fun _ wr=>Blk wr w.heap.size #[txt p.name,.slice As p.states.length cs,vm]) hM a1 B1
  (fun k x wr hx hb hr=>(Zgb w wr _ _ _ _ x.1 _ _ x.2 hr hS hb (hf.at_ x.2 (List.mem_of_getElem? (Za3 hm hx)))).mono fun e w' ⟨he,hb'⟩=>⟨by rw [he,hx],hb.trans (hb'.mono hb.size),hr.keep hb'⟩))
 rw [ZcD (f:=fun x:Value×Mov=>Zbu p.states x.2) (fun k x hx=>by rw [hx]),<- ZeC (fun x:Value×Mov=>x.2) (Zbu p.states) rs,hm] at CX
 obtain ⟨Am,cm,rfl,hlm⟩:=h.moves.len
 have c2:=B1.cell 2
 simp only [List.getElem?_toArray,List.getElem?_cons_zero,List.getElem?_cons_succ] at c2
 clear h hM hm hls hls2 hS hlm a1 B1 hf
 generalize ZT (Zbu p.states) p.moves=z at *
 have hmf:=mkF
 go_enter Tryz.func82,Tryz.ntmps82
 go_wp2_with (go_at_call 48;(with_reducible refine CX.out.mono ?_);rintro e w3 ⟨rfl,hb,hr⟩;have H3:=zh hb;clear hb hr)
 go_ret
 exact ⟨rfl,H3.out⟩
end
end Go.Proofs.YtkgkmdhpnhmcpaaGreatDoor
