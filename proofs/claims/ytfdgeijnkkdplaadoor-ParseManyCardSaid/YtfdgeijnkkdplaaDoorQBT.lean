import Derived.Defers
import Derived.Recover
import Derived.Test.YtfdgeijnkkdplaaDoorQAI
import Derived.Test.YtfdgeijnkkdplaaDoorQBS
set_option maxRecDepth 100000
set_option maxHeartbeats 8000000
namespace Go.Proofs.YtfdgeijnkkdplaaDoor
section
open Go Go.RowKit
theorem ZiO (q:Addr) (w:World):CallsD Tryd.prog 12 #[.pointer (some q)] .returning w fun e u' w'=>e=.returned (.tuple #[])/\u'=.returning/\w'=w:=by
 refine callsD_of_wpS Tryd.func12 rfl fun c₀ cs hu=>?_
 apply wpS_seq
 apply wpS_region
 simp [wpOpsS,go_sem,recoverD,hu,Tryd.ntmps12,Exit.thenS]
 apply wpS_seq
 apply wpS_region
 simp [wpOpsS,go_sem,Exit.thenS]
 refine wpS_cond (t:=false) (by simp [Act.eval,Array.replicate]) ?_
 simp only [Bool.false_eq_true,if_false]
 refine wpS_of_wp (wp_skip ?_)
 cases c₀
 simp_all [bodyPostS,results,Tryd.results12]
theorem ZkO (q:Nat) (x y e p:Int) (older:List PanicEntry) (w:World) (hc0:w.cell? ⟨q,0,none⟩=some (.int .i64 x)) (hc1:w.cell? ⟨q,1,none⟩=some (.int .i64 y)) (hz0:w.frozen? ⟨q,0,none⟩=false) (hz1:w.frozen? ⟨q,1,none⟩=false) :
  CallsD Tryd.prog 12 #[.pointer (some ⟨q,0,none⟩)] (.panicking ({ v:=.iface 50 (.agg #[.int .i64 e,.int .i64 p]),recovered:=false }::older)) w fun e' u' w'=>
   e'=.returned (.tuple #[])/\u'=.panicking ({ v:=.iface 50 (.agg #[.int .i64 e,.int .i64 p]),recovered:=true }::older)/\w'=(w.setCell ⟨q,0,none⟩ (.int .i64 e)).setCell ⟨q,1,none⟩ (.int .i64 p):=by
 refine callsD_of_wpS Tryd.func12 rfl fun c₀ cs hu=>?_
 apply wpS_seq
 apply wpS_region
 simp [wpOpsS,go_sem,recoverD,hu,Tryd.ntmps12,Exit.thenS]
 apply wpS_seq
 apply wpS_region
 simp [wpOpsS,go_sem,Exit.thenS]
 refine wpS_cond (t:=true) (by simp [Act.eval,Array.replicate]) ?_
 simp only [if_true]
 have hfd:∀ (w:World) (a b:Int),(Instr.field 50 (.agg #[.int .i64 a,.int .i64 b]) 0).run Tryd.prog w=.ok (.agg #[.int .i64 a,.int .i64 b]) w:=fun _ _ _=>by kernel_rfl
 have hta:∀ (w:World) (a b:Int),(Instr.typeAssert (.iface 50 (.agg #[.int .i64 a,.int .i64 b])) 20 50 false).run Tryd.prog w=.ok (.agg #[.int .i64 a,.int .i64 b]) w:=fun _ _ _=>by kernel_rfl
 apply wpS_region
 simp [wpOpsS,go_sem,hta,hfd,hc0,hc1,hz0,hz1,bodyPostS,results,Tryd.results12]
abbrev s0P:PS:=⟨0,0,0,0⟩
abbrev ZaK (L:List Tok):List Tr×PS:=Zae L (exP L) (Zh L (exP L) 200) (L.length+1) [] s0P
theorem ZkK (w:World) (hL:LaidP w) (ad:Addr) (c:Nat) (L:List Tok) (hT:ZaJ w (.slice (some ad) L.length c) L) (h0:0<L.length) (few:L.length<=100000/\LexL L/\∀ t∈L,t.2.1.length<=100000) :
  Calls Tryd.prog 8 #[.slice (some ad) L.length c] w fun e w'=>Below w.heap.size w w'/\((ZaK L).2.err=0->∃ b,e=.returned (.tuple #[brV b,.agg #[.int .i64 0,.int .i64 0]])/\BrP w' (fun j=>w.heap.size<=j) (.mk 0 [] [] (Zj L s0P) (ZaK L).1) b)/\((ZaK L).2.err≠0->e=.returned (.tuple #[.pointer none,.agg #[.int .i64 (ZaK L).2.err,.int .i64 (ZaK L).2.fat]])):=by
 have hmf:∀ (fn:Fn) (first cap:Array Value) (w:World),(Instr.makeFunc fn first cap).run Tryd.prog w=.ok (.func fn first cap) w:=fun _ _ _ _=>rfl
 obtain ⟨wf,hwf⟩:∃ wf,w.alloc (.cells #[.int .i64 0,.int .i64 0] 26)=wf:=⟨_,rfl⟩
 obtain ⟨wp,hwp⟩:∃ wp,wf.alloc (.cells #[.slice (some ad) L.length c,.int .i64 0] 54)=wp:=⟨_,rfl⟩
 have sf:wf.heap.size=w.heap.size+1:=by rw [<- hwf,World.size_alloc]
 have b1:Below w.heap.size w wf:=by rw [<- hwf];exact below_alloc1 w _
 have b2:Below wf.heap.size wf wp:=by rw [<- hwp];exact below_alloc1 wf _
 have TF:Zy wp w.heap.size 26 #[.int .i64 0,.int .i64 0]:=(show Zy wf w.heap.size _ _ by rw [<- hwf];exact Zy.start w _ _).keep b2
 have TP:Zy wp wf.heap.size 54 #[.slice (some ad) L.length c,.int .i64 0]:=by rw [<- hwp];exact Zy.start wf _ _
 have hP:ParQ w wp wf.heap.size ad c L s0P:=⟨TP,hT,b1.trans (b2.mono (by omega)),by omega,h0,few,rfl⟩
 have PR:=zh (show Calls Tryd.prog _ _ _ (ZhG wp wf.heap.size (Zj L s0P) (ZaK L)) from Zgf hL wp s0P hP rfl)
 have H:=zh (zi hwf (zi hwp (zi sf (zi TF hP.below))))
 obtain ⟨R,hR⟩:∃ R,ZaK L=R:=⟨_,rfl⟩
 rw [hR] at PR ⊢
 clear hP TF TP b1 b2 hL hT few hR hwf hwp sf
 rw [H.out.2.2.1] at PR
 by_cases z:R.2.err=0
 ·go_enter_defers Tryd.func8,Tryd.ntmps8
  go_upto_region 3 with fail
  rw [H.out.1,H.out.2.1]
  go_wp2_with (go_at_call 13;(refine PR.out.mono ?_);rintro e1 w3 ⟨hF,hok,_⟩;obtain ⟨b,rfl,hT⟩:=hok z;have T3:=H.out.2.2.2.1.grown hF (fun e=>by injection e with e;omega);have q1:=T3.blk.cell 0;have q2:=T3.blk.cell 1;have f1:=T3.blk.free 0;have f2:=T3.blk.free 1;simp only [List.getElem?_toArray,List.getElem?_cons_zero,List.getElem?_cons_succ] at q1 q2;have K:=zh (zi hF (zi hT T3));clear hF hok hT T3)
  refine leaves_cons (f:=12) (args:=#[.pointer (some ⟨w.heap.size,0,none⟩)]) (by simp) (by simp [go_sem]) ?_
  refine (ZiO ⟨w.heap.size,0,none⟩ _).mono ?_
  rintro e u' w'' ⟨rfl,rfl,rfl⟩
  obtain ⟨hF,hT,T3⟩:=K.out
  have T4:=(T3.set 0 (.int .i64 0)).set 1 (.int .i64 0)
  have hb4:Below w.heap.size w ((w3.setCell ⟨w.heap.size,0,none⟩ (.int .i64 0)).setCell ⟨w.heap.size,1,none⟩ (.int .i64 0)):=((hF.below H.out.2.2.2.2 (by omega)).setCell (Nat.le_refl _) _).setCell (Nat.le_refl _) _
  have hT4:BrP ((w3.setCell ⟨w.heap.size,0,none⟩ (.int .i64 0)).setCell ⟨w.heap.size,1,none⟩ (.int .i64 0)) (fun j=>w.heap.size<=j) (.mk 0 [] [] (Zj L s0P) R.1) b:=BrP.frame (fun k hk=>by have:=hk.1;have:=H.out.2.2.2.2.size;omega) (fun k hk=>by
   have hne:k≠w.heap.size:=fun e=>by have:=hk.1;have:=H.out.2.2.2.1.lt;omega
   exact (heap_setCell_other _ _ k _ (fun e=>hne e)).trans (heap_setCell_other _ _ k _ (fun e=>hne e))) _ b hT
  generalize (w3.setCell ⟨w.heap.size,0,none⟩ (.int .i64 0)).setCell ⟨w.heap.size,1,none⟩ (.int .i64 0)=w4 at *
  have p1:=T4.blk.cell 0
  have p2:=T4.blk.cell 1
  simp at p1 p2
  have FIN:=zh (zi hb4 hT4)
  clear hb4 hT4 hF hT T3 T4 q1 q2 f1 f2
  simp [Leaves,settle,results,Tryd.results8,go_sem,p1,p2,z]
  exact FIN.out
 ·have Z:=zh z
  clear z
  go_enter_defers Tryd.func8,Tryd.ntmps8
  go_upto_region 3 with fail
  rw [H.out.1,H.out.2.1]
  go_wp2_with (go_at_call 13;(refine PR.out.mono ?_);rintro e1 w3 ⟨hF,_,hbd⟩;obtain rfl:=hbd Z.out;have T3:=H.out.2.2.2.1.grown hF (fun e=>by injection e with e;omega);have K:=zh (zi hF T3);clear hF hbd T3)
  refine leaves_cons (f:=12) (args:=#[.pointer (some ⟨w.heap.size,0,none⟩)]) (by simp) (by simp [go_sem]) ?_
  obtain ⟨hF,T3⟩:=K.out
  have q1:=T3.blk.cell 0
  have q2:=T3.blk.cell 1
  simp only [List.getElem?_toArray,List.getElem?_cons_zero,List.getElem?_cons_succ] at q1 q2
  refine (ZkO w.heap.size 0 0 R.2.err R.2.fat [] _ q1 q2 (T3.blk.free 0) (T3.blk.free 1)).mono ?_
  rintro e u' w'' ⟨rfl,rfl,rfl⟩
  have T4:=(T3.set 0 (.int .i64 R.2.err)).set 1 (.int .i64 R.2.fat)
  have hb4:Below w.heap.size w ((w3.setCell ⟨w.heap.size,0,none⟩ (.int .i64 R.2.err)).setCell ⟨w.heap.size,1,none⟩ (.int .i64 R.2.fat)):=((hF.below H.out.2.2.2.2 (by omega)).setCell (Nat.le_refl _) _).setCell (Nat.le_refl _) _
  generalize (w3.setCell ⟨w.heap.size,0,none⟩ (.int .i64 R.2.err)).setCell ⟨w.heap.size,1,none⟩ (.int .i64 R.2.fat)=w4 at *
  have p1:=T4.blk.cell 0
  have p2:=T4.blk.cell 1
  simp at p1 p2
  have FIN:=zh hb4
  clear hb4 hF T3 T4 q1 q2
  simp [Leaves,settle,results,Tryd.results8,go_sem,p1,p2]
  exact ⟨FIN.out,fun e=>absurd e Z.out⟩
end
section
open Go Go.RowKit
abbrev ZiX (lb fb vb:Nat):Value:=.func (.func 14) #[] #[pV lb,pV fb,pV vb]
structure VisS (w:World) (B0 lb fb vb:Nat) (lv:Value) (rs:List (NdV×Nd)) (f:Int×Int):Prop where
 lbox:Zy w lb 23 #[lv]
 fbox:Zy w fb 26 #[.int .i64 f.1,.int .i64 f.2]
 vbox:Zy w vb 56 #[ZiX lb fb vb]
 own:w.ownsRow B0 33 5 lv rs.length (ZX rs)
 each:∀ x∈rs,Za2 w (fun k=>k<B0) 9 x.1.1 (x.2.words.map txt)/\Za2 w (fun k=>k<B0) 2 x.1.2.1 (x.2.nums.map (Value.int .i64))/\w.ownsRow B0 3 1 x.1.2.2 x.2.kids.length (x.2.kids.map (Value.int .i64))
 ge:B0<=lb/\B0<=fb/\B0<=vb
structure FrV (w w':World) (lb fb:Nat) (lv:Value):Prop where
 os:w'.os=w.os
 tape:w'.tape=w.tape
 output:w'.output=w.output
 size:w.heap.size<=w'.heap.size
 block:∀ k,k<w.heap.size->k≠lb->k≠fb->lv.ownBlock≠some k->w'.heap[k]? = w.heap[k]?
def ZhK (w:World) (rs rs':List (NdV×Nd)):Prop:=∀ x∈rs',(∃ y∈rs,y.1.2.2=x.1.2.2)\/∀ k,x.1.2.2.ownBlock=some k->w.heap.size<=k
theorem FrV.refl (w:World) (lb fb:Nat) (lv:Value):FrV w w lb fb lv:=⟨rfl,rfl,rfl,Nat.le_refl _,fun _ _ _ _ _=>rfl⟩
theorem FrV.trans {w w1 w2:World} {lb fb:Nat} {lv lv1:Value} (h:FrV w w1 lb fb lv) (k:FrV w1 w2 lb fb lv1) (hv:lv1.ownBlock=lv.ownBlock\/∀ j,lv1.ownBlock=some j->w.heap.size<=j):FrV w w2 lb fb lv:=
 ⟨k.os.trans h.os,k.tape.trans h.tape,k.output.trans h.output,Nat.le_trans h.size k.size,fun j hj h1 h2 h3=>(k.block j (Nat.lt_of_lt_of_le hj h.size) h1 h2 (by
  rcases hv with hv | hv
  ·rw [hv];exact h3
  ·intro e;have:=hv j e;omega)).trans (h.block j hj h1 h2 h3)⟩
theorem FrV.of_below {w w':World} {lb fb:Nat} {lv:Value} (h:Below w.heap.size w w'):FrV w w' lb fb lv:=⟨h.os,h.tape,h.output,h.size,fun j hj _ _ _=>h.block j hj⟩
theorem FrV.of_grown {w w':World} {lb fb:Nat} {lv:Value} (h:w.grownBy w' lv.ownBlock):FrV w w' lb fb lv:=⟨h.os,h.tape,h.output,h.size,fun j hj _ _ h3=>h.block j hj (fun e=>h3 e.symm)⟩
theorem FrV.setL (w:World) {lb fb:Nat} {lv:Value} (i:Nat) (v:Value):FrV w (w.setCell ⟨lb,i,none⟩ v) lb fb lv:=by
 have h:=FrP.set w lb i v
 exact ⟨h.os,h.tape,h.output,h.size,fun j hj h1 _ _=>h.block j hj (fun e=>by injection e with e;exact h1 (by first | exact e | exact e.symm))⟩
theorem FrV.setF (w:World) {lb fb:Nat} {lv:Value} (i:Nat) (v:Value):FrV w (w.setCell ⟨fb,i,none⟩ v) lb fb lv:=by
 have h:=FrP.set w fb i v
 exact ⟨h.os,h.tape,h.output,h.size,fun j hj _ h1 _=>h.block j hj (fun e=>by injection e with e;exact h1 (by first | exact e | exact e.symm))⟩
section
variable {w w':World} {B0 lb fb vb:Nat} {lv:Value} {rs:List (NdV×Nd)} {f:Int×Int}
theorem ZaM {w w':World} {S:Nat->Prop} {e:TypeId} {v:Value} {xs:List Value} (h:Za2 w S e v xs) (hk:∀ k,S k->w'.heap[k]? = w.heap[k]?):Za2 w' S e v xs:=h.frame (fun _ q=>q) hk
theorem FrV.low (h:VisS w B0 lb fb vb lv rs f) (hF:FrV w w' lb fb lv) (k:Nat) (hk:k<B0):w'.heap[k]? = w.heap[k]?:=by
 have hlt:k<w.heap.size:=by have:=h.lbox.lt;have:=h.ge.1;omega
 exact hF.block k hlt (fun e=>by have:=h.ge.1;omega) (fun e=>by have:=h.ge.2.1;omega) (fun e=>by have:=(h.own.lt k e).1;omega)
theorem VisS.grown (h:VisS w B0 lb fb vb lv rs f) (hb:Below w.heap.size w w'):VisS w' B0 lb fb vb lv rs f:=by
 have low:∀ k,k<B0->w'.heap[k]? = w.heap[k]?:=fun k hk=>FrV.low h (FrV.of_below hb) k hk
 exact ⟨h.lbox.keep hb,h.fbox.keep hb,h.vbox.keep hb,ZbZ h.own hb,fun x hx=>⟨ZaM (h.each x hx).1 low,ZaM (h.each x hx).2.1 low,ZbZ (h.each x hx).2.2 hb⟩,h.ge⟩
theorem VisS.past (h:VisS w B0 lb fb vb lv rs f) {g:Nat} (i:Nat) (v:Value) (hg:B0<=g) (h1:g≠lb) (h2:g≠fb) (h3:g≠vb) (h4:lv.ownBlock≠some g) (h5:∀ x∈rs,x.1.2.2.ownBlock≠some g):VisS (w.setCell ⟨g,i,none⟩ v) B0 lb fb vb lv rs f:=by
 have hF:=FrP.set w g i v
 have low:∀ k,k<B0->(w.setCell ⟨g,i,none⟩ v).heap[k]? = w.heap[k]?:=fun k hk=>hF.block k (by have:=h.lbox.lt;have:=h.ge.1;omega) (fun e=>by injection e with e;omega)
 exact ⟨h.lbox.other (fun e=>h1 e) v,h.fbox.other (fun e=>h2 e) v,h.vbox.other (fun e=>h3 e) v,Zag h.own h4,fun x hx=>⟨ZaM (h.each x hx).1 low,ZaM (h.each x hx).2.1 low,Zag (h.each x hx).2.2 (h5 x hx)⟩,h.ge⟩
theorem VisS.fault (h:VisS w B0 lb fb vb lv rs f) (e p:Int):VisS ((w.setCell ⟨fb,0,none⟩ (.int .i64 e)).setCell ⟨fb,1,none⟩ (.int .i64 p)) B0 lb fb vb lv rs (e,p):=by
 have key:∀ (w:World) (f:Int×Int) (i:Nat) (v:Value),VisS w B0 lb fb vb lv rs f->∀ f',Zy (w.setCell ⟨fb,i,none⟩ v) fb 26 #[.int .i64 f'.1,.int .i64 f'.2]->VisS (w.setCell ⟨fb,i,none⟩ v) B0 lb fb vb lv rs f':=by
  intro w f i v h f' T
  have hF:=FrP.set w fb i v
  have low:∀ k,k<B0->(w.setCell ⟨fb,i,none⟩ v).heap[k]? = w.heap[k]?:=fun k hk=>hF.block k (by have:=h.lbox.lt;have:=h.ge.1;omega) (fun e=>by injection e with e;have:=h.ge.2.1;omega)
  have n1:fb≠lb:=fun e=>by have a:=h.fbox;have b:=h.lbox;rw [e] at a;unfold Zy at a b;rw [a] at b;injection b with b;injection b with _ b _;exact absurd b (by decide)
  have n2:fb≠vb:=fun e=>by have a:=h.fbox;have b:=h.vbox;rw [e] at a;unfold Zy at a b;rw [a] at b;injection b with b;injection b with _ b _;exact absurd b (by decide)
  exact ⟨h.lbox.other (fun e=>n1 e) v,T,h.vbox.other (fun e=>n2 e) v,Zag h.own (h.fbox.off h.own (by decide)),fun x hx=>⟨ZaM (h.each x hx).1 low,ZaM (h.each x hx).2.1 low,Zag (h.each x hx).2.2 (h.fbox.off (h.each x hx).2.2 (by decide))⟩,h.ge⟩
 have h1:=key w f 0 (.int .i64 e) h (e,f.2) (h.fbox.set 0 _)
 exact key _ (e,f.2) 1 (.int .i64 p) h1 (e,p) (h1.fbox.set 1 _)
theorem VisS.push (h:VisS w B0 lb fb vb lv rs f) {x:NdV×Nd} (hx:Za2 w (fun k=>k<B0) 9 x.1.1 (x.2.words.map txt)/\Za2 w (fun k=>k<B0) 2 x.1.2.1 (x.2.nums.map (Value.int .i64))) (hk:x.1.2.2=.slice none 0 0/\x.2.kids=[]) {lv':Value}
  (hown:w'.ownsRow B0 33 5 lv' (rs.length+1) (ZX rs++ZX [x])) (hg:w.grownBy w' lv.ownBlock):VisS (w'.setCell ⟨lb,0,none⟩ lv') B0 lb fb vb lv' (rs++[x]) f:=by
 have hF:FrV w w' lb fb lv:=FrV.of_grown hg
 have low:∀ k,k<B0->w'.heap[k]? = w.heap[k]?:=fun k hk=>FrV.low h hF k hk
 have T1:=h.lbox.grown hg (h.lbox.off h.own (by decide))
 have T2:=h.fbox.grown hg (h.fbox.off h.own (by decide))
 have T3:=h.vbox.grown hg (h.vbox.off h.own (by decide))
 have hs:=FrP.set w' lb 0 lv'
 have low2:∀ k,k<B0->(w'.setCell ⟨lb,0,none⟩ lv').heap[k]? = w.heap[k]?:=fun k hk=>(hs.block k (by have:=T1.lt;have:=h.ge.1;omega) (fun e=>by injection e with e;have:=h.ge.1;omega)).trans (low k hk)
 have n1:lb≠fb:=fun e=>by have a:=T1;have b:=T2;rw [e] at a;unfold Zy at a b;rw [a] at b;injection b with b;injection b with _ b _;exact absurd b (by decide)
 have n2:lb≠vb:=fun e=>by have a:=T1;have b:=T3;rw [e] at a;unfold Zy at a b;rw [a] at b;injection b with b;injection b with _ b _;exact absurd b (by decide)
 refine ⟨T1.set 0 lv',T2.other (fun e=>n1 e) lv',T3.other (fun e=>n2 e) lv',?_,fun y hy=>?_,h.ge⟩
 ·rw [List.length_append,ZcP]
  exact Zag hown (T1.off hown (by decide))
 ·rcases List.mem_append.1 hy with hy | hy
  ·obtain ⟨e1,e2,e3⟩:=h.each y hy
   have k3:w'.ownsRow B0 3 1 y.1.2.2 y.2.kids.length (y.2.kids.map (Value.int .i64)):=e3.kept hg (by
    cases hq:lv.ownBlock with
    | none=>
     cases hv':y.1.2.2.ownBlock with
     | none=>exact .inl rfl
     | some j=>exact .inr (fun e=>by cases e)
    | some j=>exact .inr (ZbJ h.own e3 (by decide) j hq))
   exact ⟨ZaM e1 low2,ZaM e2 low2,Zag k3 (T1.off k3 (by decide))⟩
  ·obtain rfl:=List.mem_singleton.1 hy
   refine ⟨ZaM hx.1 low2,ZaM hx.2 low2,?_⟩
   rw [hk.1,hk.2]
   exact World.ownsRow_nil _ _ _ _
theorem VisS.kids (h:VisS w B0 lb fb vb lv rs f) {i:Nat} {x:NdV×Nd} (hi:rs[i]? = some x) {g c:Nat} (hl:lv=.slice (some ⟨g,0,none⟩) rs.length c) {kv:Value} {ks:List Int} (hk:w.ownsRow B0 3 1 kv ks.length (ks.map (Value.int .i64))) :
  VisS (w.setCell ⟨g,i*5+3,none⟩ kv) B0 lb fb vb lv (rs.set i ((x.1.1,x.1.2.1,kv),⟨x.2.kind,x.2.words,x.2.nums,ks,x.2.pos⟩)) f:=by
 have hF:=FrP.set w g (i*5+3) kv
 subst hl
 have hge:B0<=g:=(h.own.lt g rfl).1
 have low:∀ k,k<B0->(w.setCell ⟨g,i*5+3,none⟩ kv).heap[k]? = w.heap[k]?:=fun k hk=>hF.block k (by have:=h.lbox.lt;have:=h.ge.1;omega) (fun e=>by injection e with e;omega)
 have n1:g≠lb:=fun e=>h.lbox.off h.own (by decide) (by rw [<- e];rfl)
 have n2:g≠fb:=fun e=>h.fbox.off h.own (by decide) (by rw [<- e];rfl)
 have n3:g≠vb:=fun e=>h.vbox.off h.own (by decide) (by rw [<- e];rfl)
 have ap:∀ {e:TypeId} {v:Value} {n:Nat} {zs:List Value},w.ownsRow B0 e 1 v n zs->33≠e->v.ownBlock≠some g:=fun q hne e=>ZbJ h.own q hne g rfl e
 refine ⟨h.lbox.other (fun e=>n1 e) _,h.fbox.other (fun e=>n2 e) _,h.vbox.other (fun e=>n3 e) _,?_,fun y hy=>?_,h.ge⟩
 ·rw [List.length_set,Zdf rs i x kv ks hi]
  exact (h.own.stored (i*5+3) kv).1
 ·rcases List.mem_or_eq_of_mem_set hy with hy | rfl
  ·obtain ⟨e1,e2,e3⟩:=h.each y hy
   exact ⟨ZaM e1 low,ZaM e2 low,Zag e3 (ap e3 (by decide))⟩
  ·obtain ⟨e1,e2,e3⟩:=h.each x (List.mem_of_getElem? hi)
   exact ⟨ZaM e1 low,ZaM e2 low,Zag hk (ap hk (by decide))⟩
end
end
end Go.Proofs.YtfdgeijnkkdplaaDoor
