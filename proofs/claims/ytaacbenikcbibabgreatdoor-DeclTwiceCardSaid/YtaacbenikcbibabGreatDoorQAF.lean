import Derived.Test.YtaacbenikcbibabGreatDoorQAB
import Derived.Test.YtaacbenikcbibabGreatDoorQAE
set_option maxRecDepth 100000
set_option maxHeartbeats 8000000
namespace Go.Proofs.YtaacbenikcbibabGreatDoor
section
open Go.RowKit Go.Maps
def frT (bx:Nat):Value:=.func (.func 97) #[] #[.pointer (some ⟨bx,0,none⟩)]
structure FreT (w:World) (bx bm:Nat) (L:List Stt):Prop where
 box:Blk w bx #[.map (some bm)]
 map:ZaA w bm L
theorem FreT.keep {w w':World} {bx bm:Nat} {L:List Stt} (h:FreT w bx bm L) (hb:Below w.heap.size w w'):FreT w' bx bm L:=⟨h.box.keep hb,h.map.keep hb⟩
theorem FreT.grown {w w':World} {row:Option Nat} {bx bm:Nat} {L:List Stt} (h:FreT w bx bm L) (hg:w.grownBy w' row) (h1:row≠some bx) (h2:row≠some bm):FreT w' bx bm L:=⟨h.box.grown hg h1,h.map.grown hg h2⟩
theorem Zf6 (w:World):Calls Tryz.prog 75 #[] w fun e w'=>∃ bx bm,e=.returned (frT bx)/\FreT w' bx bm []/\w.heap.size<=bx/\w.heap.size<=bm/\Below w.heap.size w w':=by
 have hmm:=@run_makeMap Tryz.prog
 have hmf:=mkF
 go_enter Tryz.func75,Tryz.ntmps75
 go_wp2_with fail
 go_ret
 have a1:=Za w (.map #[] 0)
 have a2:=Za (w.alloc (.map #[] 0)) (.cells #[.map (some w.heap.size)] 141)
 have b:=Blk.start (w.alloc (.map #[] 0)) #[.map (some w.heap.size)] 141
 rw [World.size_alloc] at b
 exact ⟨w.heap.size+1,w.heap.size,rfl,⟨b,(ZaA.made w).keep a2⟩,Nat.le_succ _,Nat.le_refl _,a1.trans (a2.mono a1.size)⟩
theorem Zfe (w:World) (bx bm:Nat) (L:List Stt) (k:Stt) (h:FreT w bx bm L) (hn:L.length<1000000) (hk:OkT k) :
  Calls Tryz.prog 97 #[ZaY k,.pointer (some ⟨bx,0,none⟩)] w fun e w'=>e=.returned (.bool (!L.contains k))/\FreT w' bx bm (k::L)/\(w.alloc (.cells #[txt k.1,.int .i64 k.2] 122)).grownBy w' (some bm):=by
 have a1:=Za w (.cells #[txt k.1,.int .i64 k.2] 122)
 have B1:=Blk.start w #[txt k.1,.int .i64 k.2] 122
 have h1:=h.keep a1
 have hc:L.count k<=L.length:=List.count_le_length
 have wk:IntKind.i64.wrap ((L.count k:Int)+1)=(L.count k:Int)+1:=IntWalk.i64_in _ (by omega)
 have hct:(L.contains k=true/\¬ ((L.count k:Int)+1=1))\/(L.contains k=false/\(L.count k:Int)+1=1):=by
  cases q:L.contains k with
  | true=>
   have:=List.count_pos_iff.mpr (List.contains_iff_mem.mp q)
   exact .inl ⟨rfl,by omega⟩
  | false=>
   have:=List.count_eq_zero.mpr (fun m=>by rw [List.contains_iff_mem.mpr m] at q;cases q)
   exact .inr ⟨rfl,by omega⟩
 have HT:=Lib.hid hct
 have CS:=Lib.hid (fun (W:World) (hm:ZaA W bm L)=>Zfb W bm L hm (by unfold maxLen;omega) k hk)
 have H1:=Lib.hid (And.intro h1 (And.intro B1 hk))
 clear h hn hk hc hct h1 B1 a1
 go_enter Tryz.func97,Tryz.ntmps97
 go_wp2_with fail
 generalize hW:w.alloc (.cells #[txt k.1,.int .i64 k.2] 122)=W at *
 have HW:=Lib.hid hW
 clear hW
 obtain ⟨st,w2,w3,e1,e2,e3,e4,m3,g3,g2,e5⟩:=CS.out W.drew H1.out.1.map
 have c0:=H1.out.1.box.drew.cell 0
 have c1:=H1.out.2.1.drew.cell 0
 have c2:=H1.out.2.1.drew.cell 1
 simp only [List.getElem?_toArray,List.getElem?_cons_zero,List.getElem?_cons_succ] at c0 c1 c2
 have H3:=Lib.hid g3
 have hb3:=H1.out.1.box.drew.grown g3 (fun e=>by injection e with e;exact H1.out.1.map.not_blk H1.out.1.box e)
 have hk3:=H1.out.2.1.drew.grown g3 (fun e=>by injection e with e;exact H1.out.1.map.not_blk H1.out.2.1 e)
 have d0:=hb3.cell 0
 have d1:=hk3.cell 0
 have d2:=hk3.cell 1
 simp only [List.getElem?_toArray,List.getElem?_cons_zero,List.getElem?_cons_succ] at d0 d1 d2
 have HF:=Lib.hid (FreT.mk hb3 m3)
 clear m3 g3 g2 hb3 hk3
 generalize hC:(L.count k:Int)=C at *
 have HC:=Lib.hid hC
 clear hC CS
 go_region
 all_goals
  go_wp2_with fail
  go_ret
  refine ⟨?_,HF.out,by rw [HW.out];exact ⟨H3.out.os,H3.out.tape,H3.out.output,H3.out.size,H3.out.block⟩⟩
  show Ending.returned (.bool (C+1==1))=_
  rcases HT.out with ⟨q,i1⟩ | ⟨q,i1⟩
  ·rw [q,show (C+1==1)=false from beq_eq_false_iff_ne.mpr i1]
   rfl
  ·rw [q,show (C+1==1)=true from beq_iff_eq.mpr i1]
   rfl
theorem ZgR {ss:List Sta} (k:Nat) (x:Sta) (h:ss[k]? = some x):(ss.take (k+1)).map (·.name)=(ss.take k).map (·.name)++[x.name]:=by
 rw [List.take_add_one,h,List.map_append];rfl
structure SamS (w:World) (bn bx bm:Nat) (L:List (List UInt8)):Prop where
 f:Blk w bn #[frF bx]
 m:FreS w bx bm L
theorem SamS.keep {w w':World} {bn bx bm:Nat} {L:List (List UInt8)} (h:SamS w bn bx bm L) (hb:Below w.heap.size w w'):SamS w' bn bx bm L:=⟨h.f.keep hb,h.m.keep hb⟩
theorem SamS.next {w w':World} {bn bx bm:Nat} {L L':List (List UInt8)} (h:SamS w bn bx bm L) (hg:w.grownBy w' (some bm)) (hm:FreS w' bx bm L'):SamS w' bn bx bm L':=
 ⟨h.f.grown hg (fun e=>by injection e with e;exact h.m.map.not_blk h.f e),hm⟩
theorem Zhb (w:World) (bn bx bm:Nat) (L:List (List UInt8)) (s:Sta) (h:SamS w bn bx bm L) (hn:L.length<1000000) (hs:s.name.length<=maxLen) :
  Calls Tryz.prog 71 #[.agg #[txt s.name,.bool s.final],.pointer (some ⟨bn,0,none⟩)] w fun e w'=>e=.returned (.bool (L.contains s.name))/\SamS w' bn bx bm (s.name::L)/\∀ B,B<=w.heap.size->B<=bm->Below B w w':=by
 have a1:=Za w (.cells #[txt s.name,.bool s.final] 74)
 have B1:=Blk.start w #[txt s.name,.bool s.final] 74
 have h1:=h.keep a1
 have FR:=Lib.hid (Zdb _ bx bm L s.name h1.m hn hs)
 have c0:=B1.cell 0
 have c1:=h1.f.cell 0
 simp only [List.getElem?_toArray,List.getElem?_cons_zero,frF] at c0 c1
 have HA:=Lib.hid (And.intro a1 h1)
 clear h hn hs h1 B1 a1
 generalize L.contains s.name=B at *
 go_enter Tryz.func71,Tryz.ntmps71
 go_wp2_with (go_at_call 96;(with_reducible refine FR.out.mono ?_);rintro e w1 ⟨rfl,hf,hg⟩;have H1:=Lib.hid (And.intro hf hg);clear hf hg)
 go_ret
 refine ⟨rfl,HA.out.2.next H1.out.2 H1.out.1,fun B' h1 h2=>(HA.out.1.mono h1).trans (Zv H1.out.2 (Nat.le_trans h1 HA.out.1.size) (fun k hk=>by injection hk with hk;omega))⟩
def Zb8 (ss:List Sta) (k:Nat):Bool:=match ss[k]? with
 | some s=>((ss.take k).map (·.name)).contains s.name
 | none=>false
theorem Zcr (l:List (List UInt8)) (x:List UInt8):l.reverse.contains x=l.contains x:=by
 rw [Bool.eq_iff_iff,List.contains_iff_mem,List.contains_iff_mem,List.mem_reverse]
theorem Zgh {ss:List Sta} {k:Nat} {x:Sta} (h:ss[k]? = some x):((ss.take (k+1)).map (·.name)).reverse=x.name::((ss.take k).map (·.name)).reverse:=by
 rw [ZgR k x h,List.reverse_append];rfl
theorem Zh2 (w:World) (vs vm:Value) (p:Pro) (h:ProAt w vs vm p) (hn:p.states.length<=16) :
  Calls Tryz.prog 47 #[ZaF vs vm p] w fun e w'=>e=.returned (.int .i64 (ZH (Zb8 p.states) p.states.length))/\Below w.heap.size w w':=by
 have hS:ZaH w vs p.states:=h.states
 have a1:=Za w (.cells #[txt p.name,vs,vm] 41)
 have B1:=Blk.start w #[txt p.name,vs,vm] 41
 have FA:=Lib.hid (ZdN (w.alloc (.cells #[txt p.name,vs,vm] 41)))
 have IX:=Lib.hid (fun (wr:World) (bn bx bm:Nat) (hb:Below w.heap.size w wr) (hm:w.heap.size<=bm) (hs:SamS wr bn bx bm [])=>
  ZiA w wr vs p.states bn (Zb8 p.states) (fun k v=>SamS v bn bx bm ((p.states.take k).map (·.name)).reverse) hS hb (by simpa using hs)
   (fun k x v hx hbv hr=>(Zhb v bn bx bm _ x hr (by rw [List.length_reverse,List.length_map,List.length_take];omega) (by
    obtain ⟨_,_,_,_,_,_,h5⟩:=hS
    exact h5 x (List.mem_of_getElem? hx))).mono fun e v' ⟨he,hr',hB⟩=>⟨by rw [he,Zcr];unfold Zb8;rw [hx],hbv.trans (hB _ hbv.size hm),by rw [Zgh hx];exact hr'⟩))
 obtain ⟨As,cs,rfl,hls⟩:=h.states.len
 have c1:=B1.cell 1
 simp only [List.getElem?_toArray,List.getElem?_cons_zero,List.getElem?_cons_succ] at c1
 have HA:=Lib.hid (And.intro a1 B1)
 clear h hS a1 B1 hn hls
 generalize ZH (Zb8 p.states) p.states.length=z at *
 have hmf:=mkF
 have hsf:=stF
 go_enter Tryz.func47,Tryz.ntmps47
 go_upto_region 2 with (go_at_call 69;(with_reducible refine FA.out.mono ?_);rintro e w1 ⟨bx,bm,rfl,hf,h1,h2,hb⟩;have H1:=Lib.hid (And.intro hf (And.intro h1 (And.intro h2 hb)));clear hf h1 h2 hb;unfold frF)
 have a2:=Za w1 (.cells #[frF bx] 47)
 have B2:=Blk.start w1 #[frF bx] 47
 have bw:=(HA.out.1.trans (H1.out.2.2.2.mono HA.out.1.size))
 have c2:=((HA.out.2.keep H1.out.2.2.2).keep a2).cell 1
 simp only [List.getElem?_toArray,List.getElem?_cons_zero,List.getElem?_cons_succ,frF] at c2
 have CX:=Lib.hid (IX.out _ w1.heap.size bx bm (bw.trans (a2.mono bw.size)) (Nat.le_trans HA.out.1.size H1.out.2.2.1) ⟨B2,H1.out.1.keep a2⟩)
 unfold frF at CX
 clear a2 B2 bw c1
 go_wp2_with (go_at_call 70;(with_reducible refine CX.out.mono ?_);rintro e w3 ⟨rfl,hb,hr⟩;have H3:=Lib.hid hb;clear hb hr)
 go_ret
 exact ⟨rfl,H3.out⟩
end
section
def Zam (p:Pro) (i:Nat):Bool:=match p.states[i]? with
 | some s=>s.final
 | none=>false
def Zx (p:Pro):Nat->Nat->Bool
 | 0,i=>Zam p i
 | k+1,i=>Zam p i||p.moves.any fun m=>decide (m.at_=(i:Int))&&m.outs.any fun o=>Zx p k o.to.toNat
structure Fits (p:Pro):Prop where
 at_:∀ m∈p.moves,0<=m.at_/\m.at_<(p.states.length:Int)
 to:∀ m∈p.moves,∀ o∈m.outs,0<=o.to/\o.to<(p.states.length:Int)
theorem Zcy (p:Pro):∀ k i,Zx p k i=true->Zx p (k+1) i=true
 | 0,i,h=>by
  have h':Zam p i=true:=h
  show (Zam p i||_)=true
  rw [h'];rfl
 | k+1,i,h=>by
  rw [Zx,Bool.or_eq_true,List.any_eq_true] at h ⊢
  rcases h with h | ⟨m,hm,h⟩
  ·exact .inl h
  ·refine .inr ⟨m,hm,?_⟩
   rw [Bool.and_eq_true,List.any_eq_true] at h ⊢
   obtain ⟨h1,o,ho,h2⟩:=h
   exact ⟨h1,o,ho,Zcy p k _ h2⟩
theorem ZcH (p:Pro) {k j i:Nat} (h:k<=j) (hg:Zx p k i=true):Zx p j i=true:=by
 obtain ⟨d,rfl⟩:∃ d,j=k+d:=⟨j-k,by omega⟩
 clear h
 induction d with
 | zero=>exact hg
 | succ d ih=>exact Zcy p _ _ ih
theorem Zde {p:Pro} (hf:Fits p) {k:Nat} (h:∀ i,i<p.states.length->Zx p (k+1) i=true->Zx p k i=true):∀ d i,i<p.states.length->Zx p (k+d) i=true->Zx p k i=true
 | 0,i,_,hg=>hg
 | d+1,i,hi,hg=>by
  refine h i hi ?_
  rw [<- Nat.add_assoc,Zx,Bool.or_eq_true,List.any_eq_true] at hg
  rw [Zx,Bool.or_eq_true,List.any_eq_true]
  rcases hg with hg | ⟨m,hm,hg⟩
  ·exact .inl hg
  ·refine .inr ⟨m,hm,?_⟩
   rw [Bool.and_eq_true,List.any_eq_true] at hg ⊢
   obtain ⟨h1,o,ho,h2⟩:=hg
   have:=hf.to m hm o ho
   exact ⟨h1,o,ho,Zde hf h d _ (by omega) h2⟩
theorem ZcK {f g:Nat->Bool}:∀ (l:List Nat),(∀ i∈l,f i=true->g i=true)->l.countP f<=l.countP g/\((∃ i∈l,g i=true/\f i=false)->l.countP f+1<=l.countP g)
 | [],_=>⟨Nat.le_refl _,by rintro ⟨i,hi,_⟩;cases hi⟩
 | x::r,h=>by
  obtain ⟨h1,h2⟩:=ZcK r (fun i hi=>h i (List.mem_cons_of_mem _ hi))
  have hx:=h x (List.mem_cons_self ..)
  rw [List.countP_cons,List.countP_cons]
  cases e1:f x with
  | true=>
   rw [hx e1]
   refine ⟨by omega,?_⟩
   rintro ⟨i,hi,a,b⟩
   rcases List.mem_cons.mp hi with rfl | hi
   ·rw [e1] at b;cases b
   ·have:=h2 ⟨i,hi,a,b⟩;omega
  | false=>
   cases e2:g x with
   | true=>exact ⟨by simp;omega,fun _=>by simp;omega⟩
   | false=>
    refine ⟨by simpa using h1,?_⟩
    rintro ⟨i,hi,a,b⟩
    rcases List.mem_cons.mp hi with rfl | hi
    ·rw [e2] at a;cases a
    ·simpa using h2 ⟨i,hi,a,b⟩
theorem Zdd {p:Pro} (hf:Fits p):∀ k,(∃ j,j<k/\∀ i,i<p.states.length->Zx p (j+1) i=true->Zx p j i=true)\/k<=(List.range p.states.length).countP (Zx p k)
 | 0=>.inr (Nat.zero_le _)
 | k+1=>by
  rcases Zdd hf k with ⟨j,hj,h⟩ | h
  ·exact .inl ⟨j,by omega,h⟩
  ·by_cases q:∀ i,i<p.states.length->Zx p (k+1) i=true->Zx p k i=true
   ·exact .inl ⟨k,by omega,q⟩
   ·refine .inr ?_
    have ⟨i,hi,a,b⟩:∃ i,i<p.states.length/\Zx p (k+1) i=true/\Zx p k i=false:=by
     apply Classical.byContradiction
     intro n
     refine q fun i hi a=>?_
     cases e:Zx p k i with
     | true=>rfl
     | false=>exact (n ⟨i,hi,a,e⟩).elim
    have:=(ZcK (List.range p.states.length) (f:=Zx p k) (g:=Zx p (k+1)) (fun i _=>Zcy p k i)).2 ⟨i,List.mem_range.mpr hi,a,b⟩
    omega
theorem ZhC {p:Pro} (hf:Fits p) {K i:Nat} (hi:i<p.states.length) (h:Zx p K i=true):Zx p p.states.length i=true:=by
 rcases Zdd hf p.states.length with ⟨j,hj,hs⟩ | hc
 ·refine ZcH p (k:=j) (by omega) ?_
  by_cases q:K<=j
  ·exact ZcH p q h
  ·exact Zde hf hs (K-j) i hi (by rw [show j+(K-j)=K by omega];exact h)
 ·have e:(List.range p.states.length).countP (Zx p p.states.length)=(List.range p.states.length).length:=by
   have:=List.countP_le_length (p:=Zx p p.states.length) (l:=List.range p.states.length)
   rw [List.length_range] at this ⊢
   omega
  exact List.countP_eq_length.mp e i (List.mem_range.mpr hi)
theorem Zc5 (s k i:Nat):(s ||| 2 ^ k).testBit i=(s.testBit i||decide (k=i)):=by
 rw [Nat.testBit_or,Nat.testBit_two_pow]
def Zbi (f:Nat->Bool):Nat->Nat
 | 0=>0
 | n+1=>if f n then Zbi f n ||| 2 ^ n else Zbi f n
theorem ZbH (f:Nat->Bool):∀ n i,(Zbi f n).testBit i=(decide (i<n)&&f i)
 | 0,i=>by simp [Zbi]
 | n+1,i=>by
  rw [Zbi]
  cases q:f n with
  | true=>
   rw [if_pos rfl,Zc5,ZbH f n i]
   by_cases e:n=i
   ·subst e;simp [q]
   ·have:(decide (i<n+1))=decide (i<n):=by
     rw [decide_eq_decide];omega
    rw [this,decide_eq_false e,Bool.or_false]
  | false=>
   rw [if_neg (by simp),ZbH f n i]
   by_cases e:n=i
   ·subst e;simp [q]
   ·have:(decide (i<n+1))=decide (i<n):=by
     rw [decide_eq_decide];omega
    rw [this]
theorem ZfM (f:Nat->Bool) (n:Nat):Zbi f n<2 ^ n:=by
 refine Nat.lt_pow_two_of_testBit _ fun i hi=>?_
 rw [ZbH,decide_eq_false (by omega)]
 rfl
def Zbp (p:Pro):Nat:=Zbi (Zam p) p.states.length
def ZbT (s:Nat) (m:Mov):Nat:=if m.outs.any fun o=>s.testBit o.to.toNat then s ||| 2 ^ m.at_.toNat else s
def ZbU (l:List Mov) (s:Nat):Nat:=l.foldl ZbT s
def ZaX (p:Pro):Nat->Nat
 | 0=>Zbp p
 | k+1=>ZbU p.moves (ZaX p k)
theorem ZdL {s i:Nat} {m:Mov} (h:s.testBit i=true):(ZbT s m).testBit i=true:=by
 unfold ZbT
 split
 ·rw [Zc5,h];rfl
 ·exact h
theorem Zcv:∀ (l:List Mov) (s i:Nat),s.testBit i=true->(ZbU l s).testBit i=true
 | [],_,_,h=>h
 | _::r,_,i,h=>Zcv r _ i (ZdL h)
theorem Zet:∀ (l:List Mov) (s:Nat) (m:Mov),m∈l->(∃ o∈m.outs,s.testBit o.to.toNat=true)->(ZbU l s).testBit m.at_.toNat=true
 | x::r,_,_,hm,⟨o,ho,h⟩=>by
  rcases List.mem_cons.mp hm with rfl | hm
  ·refine Zcv r _ _ ?_
   unfold ZbT
   rw [if_pos (List.any_eq_true.mpr ⟨o,ho,h⟩),Zc5,decide_eq_true rfl,Bool.or_true]
  ·exact Zet r _ _ hm ⟨o,ho,ZdL h⟩
theorem Zda {p:Pro}:∀ (l:List Mov) (s:Nat),(∀ m∈l,m∈p.moves/\0<=m.at_)->(∀ i,s.testBit i=true->∃ K,Zx p K i=true)->∀ i,(ZbU l s).testBit i=true->∃ K,Zx p K i=true
 | [],s,_,h,i,hi=>h i hi
 | m::r,s,hl,h,i,hi=>by
  refine Zda r (ZbT s m) (fun x hx=>hl x (List.mem_cons_of_mem _ hx)) (fun j hj=>?_) i hi
  unfold ZbT at hj
  split at hj
  ·rename_i q
   rw [Zc5,Bool.or_eq_true] at hj
   rcases hj with hj | hj
   ·exact h j hj
   ·obtain ⟨o,ho,hb⟩:=List.any_eq_true.mp q
    obtain ⟨K,hK⟩:=h _ hb
    have hm:=hl m (List.mem_cons_self ..)
    have e:m.at_=(j:Int):=by have:=of_decide_eq_true hj;omega
    refine ⟨K+1,?_⟩
    rw [Zx,Bool.or_eq_true,List.any_eq_true]
    exact .inr ⟨m,hm.1,by rw [Bool.and_eq_true,List.any_eq_true];exact ⟨decide_eq_true e,o,ho,hK⟩⟩
  ·exact h j hj
theorem Zc9 {p:Pro} (hf:Fits p):∀ k i,(ZaX p k).testBit i=true->∃ K,Zx p K i=true
 | 0,i,h=>by
  rw [ZaX,Zbp,ZbH,Bool.and_eq_true] at h
  exact ⟨0,h.2⟩
 | k+1,i,h=>Zda p.moves _ (fun m hm=>⟨hm,(hf.at_ m hm).1⟩) (Zc9 hf k) i h
theorem Zb9 {p:Pro} (hf:Fits p):∀ k i,i<p.states.length->Zx p k i=true->(ZaX p k).testBit i=true
 | 0,i,hi,h=>by
  rw [Zx] at h
  rw [ZaX,Zbp,ZbH,h,decide_eq_true hi];rfl
 | k+1,i,hi,h=>by
  rw [Zx,Bool.or_eq_true,List.any_eq_true] at h
  rcases h with h | ⟨m,hm,h⟩
  ·refine Zcv p.moves _ i (Zb9 hf k i hi (ZcH p (Nat.zero_le _) ?_))
   rw [Zx];exact h
  ·rw [Bool.and_eq_true,List.any_eq_true] at h
   obtain ⟨h1,o,ho,h2⟩:=h
   have ht:=hf.to m hm o ho
   have:=Zet p.moves (ZaX p k) m hm ⟨o,ho,Zb9 hf k _ (by omega) h2⟩
   rw [show m.at_.toNat=i by have:=of_decide_eq_true h1;omega] at this
   exact this
theorem ZgL {p:Pro} (hf:Fits p) {i:Nat} (hi:i<p.states.length):(ZaX p p.states.length).testBit i=Zx p p.states.length i:=by
 rw [Bool.eq_iff_iff]
 constructor
 ·intro h
  obtain ⟨K,hK⟩:=Zc9 hf _ i h
  exact ZhC hf hi hK
 ·exact Zb9 hf _ i hi
theorem Zir {s n:Nat} {m:Mov} (hs:s<2 ^ n) (h:0<=m.at_/\m.at_<(n:Int)):ZbT s m<2 ^ n:=by
 unfold ZbT
 split
 ·exact Nat.or_lt_two_pow hs (Nat.pow_lt_pow_right (by omega) (by omega))
 ·exact hs
theorem Zdx {n:Nat}:∀ (l:List Mov) (s:Nat),s<2 ^ n->(∀ m∈l,0<=m.at_/\m.at_<(n:Int))->ZbU l s<2 ^ n
 | [],_,hs,_=>hs
 | m::r,_,hs,h=>Zdx r _ (Zir hs (h m (List.mem_cons_self ..))) (fun x hx=>h x (List.mem_cons_of_mem _ hx))
theorem Zdw {p:Pro} (hf:Fits p):∀ k,ZaX p k<2 ^ p.states.length
 | 0=>ZfM _ _
 | k+1=>Zdx p.moves _ (Zdw hf k) hf.at_
end
section
open Go.RowKit
theorem Za3 {rs:List (Value×Mov)} {ms:List Mov} (h:rs.map (·.2)=ms) {k:Nat} {x:Value×Mov} (hx:rs[k]? = some x):ms[k]? = some x.2:=by rw [<- h,List.getElem?_map,hx];rfl
theorem ZbN {rs:List (Value×Mov)} {ms:List Mov} (h:rs.map (·.2)=ms):rs.length=ms.length:=by rw [<- h,List.length_map]
theorem ZfT (w:World) (vs vm:Value) (p:Pro) (h:ProAt w vs vm p) :
  Calls Tryz.prog 48 #[ZaF vs vm p] w fun e w'=>e=.returned (.int .i64 (ZX (ZZ p.states.length) p.moves))/\Below w.heap.size w w':=by
 obtain ⟨As,cs,rfl,hls⟩:=h.states.len
 obtain ⟨rs,hm,hM⟩:=h.moves
 have a1:=Za w (.cells #[txt p.name,.slice As p.states.length cs,vm] 41)
 have B1:=Blk.start w #[txt p.name,.slice As p.states.length cs,vm] 41
 have a2:=Za (w.alloc (.cells #[txt p.name,.slice As p.states.length cs,vm] 41)) (.cells #[.func (.func 72) #[] #[.pointer (some ⟨w.heap.size,0,none⟩)]] 108)
 have B2:=Blk.start (w.alloc (.cells #[txt p.name,.slice As p.states.length cs,vm] 41)) #[.func (.func 72) #[] #[.pointer (some ⟨w.heap.size,0,none⟩)]] 108
 rw [World.size_alloc] at B2
 have B3:=B1.keep a2
 have CX:=Lib.hid (ZgS w _ vm rs (w.heap.size+1) (fun k=>match rs[k]? with | some x=>ZZ p.states.length x.2 | none=>false) (fun _ wr=>NonS wr w.heap.size (w.heap.size+1) p.states.length cs As (txt p.name) vm) hM (a1.trans (a2.mono a1.size)) ⟨B3,B2⟩
  (fun k x wr hx hb hr=>(Ze9 wr _ _ _ _ _ _ _ x.1 x.2 hr ((by obtain ⟨_,_,_,_,_,_,h5⟩:=hM;exact (h5 x (List.mem_of_getElem? hx)).2:Zaj w x.1 x.2.outs).below hb)).mono fun e w' ⟨he,hb'⟩=>⟨by rw [he,hx],hb.trans (hb'.mono hb.size),hr.keep hb'⟩))
 rw [Zcx (f:=fun x:Value×Mov=>ZZ p.states.length x.2) (fun k x hx=>by rw [hx]),<- Zev (fun x:Value×Mov=>x.2) (ZZ p.states.length) rs,hm] at CX
 obtain ⟨Am,cm,rfl,hlm⟩:=h.moves.len
 have c2:=B3.cell 2
 simp only [List.getElem?_toArray,List.getElem?_cons_zero,List.getElem?_cons_succ] at c2
 clear h hM hm hls hlm a1 a2 B1 B2 B3
 generalize ZX (ZZ p.states.length) p.moves=z at *
 have hmf:=mkF
 have hsf:=stF
 go_enter Tryz.func48,Tryz.ntmps48
 go_wp2_with (go_at_call 30;(with_reducible refine CX.out.mono ?_);rintro e w3 ⟨rfl,hb,hr⟩;have H3:=Lib.hid hb;clear hb hr)
 go_ret
 exact ⟨rfl,H3.out⟩
def Zbu (ss:List Sta) (m:Mov):Bool:=match ss[m.at_.toNat]? with
 | some s=>s.final
 | none=>false
theorem Zf4 (w0 w:World) (bp cs:Nat) (As:Option Addr) (ss:List Sta) (vo nm vm:Value) (m:Mov) (h:Blk w bp #[nm,.slice As ss.length cs,vm]) (hs:Zs w0 w0.heap.size 2 As ss.length (Zt stC ss)) (hb:Below w0.heap.size w0 w) (hm:0<=m.at_/\m.at_<(ss.length:Int)) :
  Calls Tryz.prog 78 #[.agg #[txt m.op,.int .i64 m.at_,vo],.pointer (some ⟨bp,0,none⟩)] w fun e w'=>e=.returned (.bool (Zbu ss m))/\Below w.heap.size w w':=by
 obtain ⟨op,z,outs⟩:=m
 dsimp only at hm ⊢
 obtain ⟨k,rfl⟩:∃ k:Nat,z=k:=⟨z.toNat,by omega⟩
 have hlt:k<ss.length:=by omega
 have a1:=Za w (.cells #[txt op,.int .i64 (k:Int),vo] 79)
 have B1:=Blk.start w #[txt op,.int .i64 (k:Int),vo] 79
 have h1:=h.keep a1
 have c0:=B1.cell 1
 have c1:=h1.cell 1
 simp only [List.getElem?_toArray,List.getElem?_cons_zero,List.getElem?_cons_succ] at c0 c1
 unfold Zbu
 dsimp only
 have hx:ss[k]? = some ss[k]:=List.getElem?_eq_getElem hlt
 have i1:(k:Int)<(ss.length:Int):=by omega
 have i2:(0:Int)<=(k:Int):=by omega
 obtain ⟨ad,rfl,d0,d1⟩:=ZaP ZbB hs (hb.trans (a1.mono hb.size)) hx (by omega)
 rw [Int.toNat_natCast,hx]
 generalize ss[k]=x at *
 unfold stC at d1
 simp only [List.getElem?_cons_zero,List.getElem?_cons_succ] at d1
 have HA:=Lib.hid a1
 clear h hs hb hm B1 h1 a1 hx d0
 generalize ss.length=n at *
 go_enter Tryz.func78,Tryz.ntmps78
 go_wp2_with fail
 go_ret
 exact ⟨rfl,HA.out⟩
theorem Zd3 (w:World) (vs vm:Value) (p:Pro) (h:ProAt w vs vm p) (hf:Fits p) :
  Calls Tryz.prog 50 #[ZaF vs vm p] w fun e w'=>e=.returned (.int .i64 (ZX (Zbu p.states) p.moves))/\Below w.heap.size w w':=by
 obtain ⟨As,cs,rfl,hls,hls2,hS,_⟩:=h.states
 obtain ⟨rs,hm,hM⟩:=h.moves
 have a1:=Za w (.cells #[txt p.name,.slice As p.states.length cs,vm] 41)
 have B1:=Blk.start w #[txt p.name,.slice As p.states.length cs,vm] 41
 have CX:=Lib.hid (ZhI w _ vm rs w.heap.size (fun k=>match rs[k]? with | some x=>Zbu p.states x.2 | none=>false) (fun _ wr=>Blk wr w.heap.size #[txt p.name,.slice As p.states.length cs,vm]) hM a1 B1
  (fun k x wr hx hb hr=>(Zf4 w wr _ _ _ _ x.1 _ _ x.2 hr hS hb (hf.at_ x.2 (List.mem_of_getElem? (Za3 hm hx)))).mono fun e w' ⟨he,hb'⟩=>⟨by rw [he,hx],hb.trans (hb'.mono hb.size),hr.keep hb'⟩))
 rw [Zcx (f:=fun x:Value×Mov=>Zbu p.states x.2) (fun k x hx=>by rw [hx]),<- Zev (fun x:Value×Mov=>x.2) (Zbu p.states) rs,hm] at CX
 obtain ⟨Am,cm,rfl,hlm⟩:=h.moves.len
 have c2:=B1.cell 2
 simp only [List.getElem?_toArray,List.getElem?_cons_zero,List.getElem?_cons_succ] at c2
 clear h hM hm hls hls2 hS hlm a1 B1 hf
 generalize ZX (Zbu p.states) p.moves=z at *
 have hmf:=mkF
 go_enter Tryz.func50,Tryz.ntmps50
 go_wp2_with (go_at_call 30;(with_reducible refine CX.out.mono ?_);rintro e w3 ⟨rfl,hb,hr⟩;have H3:=Lib.hid hb;clear hb hr)
 go_ret
 exact ⟨rfl,H3.out⟩
end
end Go.Proofs.YtaacbenikcbibabGreatDoor
