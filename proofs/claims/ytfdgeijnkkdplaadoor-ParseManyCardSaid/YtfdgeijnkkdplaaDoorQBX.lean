import Derived.Test.YtfdgeijnkkdplaaDoorQBB
import Derived.Test.YtfdgeijnkkdplaaDoorQBV
import Derived.Test.YtfdgeijnkkdplaaDoorQBW
set_option maxRecDepth 100000
set_option maxHeartbeats 8000000
namespace Go.Proofs.YtfdgeijnkkdplaaDoor
section
open Go Go.RowKit
def ZaN (t:Tr):Int×Int:=if 1500<(ZbS t []).length then (13,0) else Zci t 1 (0,0)
structure NodP (w:World) (B:Nat) (v:Value) (rs:List (NdV×Nd)):Prop where
 own:w.ownsRow B 33 5 v rs.length (ZX rs)
 each:∀ x∈rs,Za2 w (fun k=>k<B) 9 x.1.1 (x.2.words.map txt)/\Za2 w (fun k=>k<B) 2 x.1.2.1 (x.2.nums.map (Value.int .i64))/\w.ownsRow B 3 1 x.1.2.2 x.2.kids.length (x.2.kids.map (Value.int .i64))
theorem ZdL {w:World} {B:Nat} {v:Value} {rs:List (NdV×Nd)} {r:Nat} {cs:Array Value} (h:NodP w B v rs) (T:Zy w r 26 cs) (hr:B<=r) (i:Nat) (u:Value):NodP (w.setCell ⟨r,i,none⟩ u) B v rs/\Zy (w.setCell ⟨r,i,none⟩ u) r 26 (cs.setIfInBounds i u):=by
 have low:∀ k,k<B->(w.setCell ⟨r,i,none⟩ u).heap[k]? = w.heap[k]?:=fun k hk=>heap_setCell_other w _ k u (fun e=>by dsimp only at e;omega)
 refine ⟨⟨Zag h.own (T.off h.own (by decide)),fun x hx=>?_⟩,T.set i u⟩
 obtain ⟨e1,e2,e3⟩:=h.each x hx
 exact ⟨ZaM e1 low,ZaM e2 low,Zag e3 (T.off e3 (by decide))⟩
theorem NodP.put {w:World} {r:Nat} {cs:Array Value} {v:Value} {rs:List (NdV×Nd)} (h:NodP w r v rs) (T:Zy w r 26 cs) (i:Nat) (u:Value):NodP (w.setCell ⟨r,i,none⟩ u) r v rs:=(ZdL h T (Nat.le_refl _) i u).1
theorem NodP.drewP {w:World} {B:Nat} {v:Value} {rs:List (NdV×Nd)} (h:NodP w B v rs):NodP w.drew B v rs:=⟨h.own.drew,fun x hx=>⟨h.each x hx |>.1,(h.each x hx).2.1,(h.each x hx).2.2.drew⟩⟩
def ZmV (w:World) (t:Tr) (e:Ending) (w':World):Prop:=
 ∃ v,e=.returned (.tuple #[v,.agg #[.int .i64 (ZaN t).1,.int .i64 (ZaN t).2]])/\Below w.heap.size w w'/\((ZaN t).1≠0->v=.slice none 0 0)/\((ZaN t).1=0->∃ rs,NodP w' w.heap.size v rs/\rs.map (·.2)=ZbS t [])
theorem ZfI (w:World) (S:Nat->Prop) (t:Tr) (b:Nat) (hT:BrP w S t b) (hS:∀ k,S k->k<w.heap.size) (hsz:szT t<=900000) :
  Calls Tryd.prog 9 #[brV b] w (ZmV w t):=by
 have hmf:∀ (fn:Fn) (first cap:Array Value) (w:World),(Instr.makeFunc fn first cap).run Tryd.prog w=.ok (.func fn first cap) w:=fun _ _ _ _=>rfl
 have H:=zh (zi hT (zi hS hsz))
 clear hT hS hsz
 have hsf:∀ (a:Addr) (m:Mode) (fn:Fn) (f c:Array Value) (w:World),(store a (.func fn f c) m).run Tryd.prog w=stored Tryd.prog w a (.func fn f c) m:=fun a m fn f c w=>run_store Tryd.prog w a _ m rfl
 go_enter Tryd.func9,Tryd.ntmps9
 go_upto_region 5 with fail
 clear hsf hmf
 obtain ⟨w1,e1⟩:∃ w1,w.alloc (.cells #[.int .i64 0,.int .i64 0] 26)=w1:=⟨_,rfl⟩
 obtain ⟨w2,e2⟩:∃ w2,w1.alloc (.cells #[.slice none 0 0] 23)=w2:=⟨_,rfl⟩
 obtain ⟨w3,e3⟩:∃ w3,w2.alloc (.cells #[.int .i64 0,.int .i64 0] 26)=w3:=⟨_,rfl⟩
 have s1:w1.heap.size=w.heap.size+1:=by rw [<- e1,World.size_alloc]
 have s2:w2.heap.size=w.heap.size+1+1:=by rw [<- e2,World.size_alloc,s1]
 have s3:w3.heap.size=w.heap.size+1+1+1:=by rw [<- e3,World.size_alloc,s2]
 have b1:Below w.heap.size w w1:=by rw [<- e1];exact below_alloc1 w _
 have b2:Below w1.heap.size w1 w2:=by rw [<- e2];exact below_alloc1 w1 _
 have b3:Below w2.heap.size w2 w3:=by rw [<- e3];exact below_alloc1 w2 _
 have T0:Zy w1 w.heap.size 26 #[.int .i64 0,.int .i64 0]:=by rw [<- e1];exact Zy.start w _ _
 have T1:Zy w2 (w.heap.size+1) 23 #[.slice none 0 0]:=by rw [<- e2,<- s1];exact Zy.start w1 _ _
 have T2:Zy w3 (w.heap.size+1+1) 26 #[.int .i64 0,.int .i64 0]:=by rw [<- e3,<- s2];exact Zy.start w2 _ _
 rw [e1,e2,e3]
 have b4:=fun cs=>below_alloc1 w3 (.cells cs 56)
 have T3:=fun cs=>Zy.start w3 cs 56
 rw [s3] at T3
 generalize hw4:w3.alloc (.cells _ 56)=w4
 have b4':Below w3.heap.size w3 w4:=by rw [<- hw4];exact b4 _
 have T3':Zy w4 (w.heap.size+1+1+1) 56 #[ZiX (w.heap.size+1) (w.heap.size+1+1) (w.heap.size+1+1+1)]:=by rw [<- hw4];exact T3 _
 have bw4:Below w.heap.size w w4:=((b1.trans (b2.mono (by omega))).trans (b3.mono (by omega))).trans (b4'.mono (by omega))
 have R4:Zy w4 w.heap.size 26 #[.int .i64 0,.int .i64 0]:=((T0.keep b2).keep b3).keep b4'
 have V4:VisS w4 w.heap.size (w.heap.size+1) (w.heap.size+1+1) (w.heap.size+1+1+1) (.slice none 0 0) [] (0,0):=⟨(T1.keep b3).keep b4',T2.keep b4',T3',World.ownsRow_nil _ _ _ _,(fun x hx=>by cases hx),by omega,by omega,by omega⟩
 have K4:=zh (zi bw4 (zi R4 V4))
 have VC:=zh (Zfy w.heap.size (w.heap.size+1) (w.heap.size+1+1) (w.heap.size+1+1+1) (szT t) t (Nat.le_refl _) w4 S b 1 (.slice none 0 0) [] (0,0) (BrP.frame (fun _ q=>q) (fun k hk=>bw4.block k (H.out.2.1 k hk)) _ _ H.out.1) H.out.2.1 V4 (by omega) (by have:=H.out.2.2;omega) (by have:=H.out.2.2;show 0+_<=_;omega))
 have q0:w4.cell? ⟨w.heap.size+1+1+1,0,none⟩=some (ZiX (w.heap.size+1) (w.heap.size+1+1) (w.heap.size+1+1+1)):=T3'.blk.cell 0
 clear T0 T1 T2 T3 T3' b1 b2 b3 b4 b4' bw4 R4 V4 s1 s2 s3 e1 e2 e3 hw4
 go_upto_region 6 with (go_at_call 14;refine VC.out.mono ?_;rintro e5 w5 ⟨rfl,lv,rs,V,hm,F,N,hv⟩;have K5:=zh (zi V (zi hm F));clear V hm F N hv)
 clear q0
 obtain ⟨A,c,rfl⟩:=Zbp K5.out.1.own
 have hlen:(ZbS t []).length=rs.length:=by
  have:=congrArg List.length K5.out.2.1
  rw [List.length_map,Zcs] at this
  exact this.symm
 have hrs:rs.map (·.2)=ZbS t []:=by rw [K5.out.2.1,Zcs];rfl
 have R5:Zy w5 w.heap.size 26 #[.int .i64 0,.int .i64 0]:=(K5.out.2.2.block w.heap.size K4.out.2.1.lt (by omega) (by omega) (fun e=>by cases e)).trans K4.out.2.1
 have q1:w5.cell? ⟨w.heap.size+1,0,none⟩=some (.slice A rs.length c):=K5.out.1.lbox.blk.cell 0
 have q2:w5.cell? ⟨w.heap.size+1+1,0,none⟩=some (.int .i64 (Zci t 1 (0,0)).1):=K5.out.1.fbox.blk.cell 0
 have q3:w5.cell? ⟨w.heap.size+1+1,1,none⟩=some (.int .i64 (Zci t 1 (0,0)).2):=K5.out.1.fbox.blk.cell 1
 have q4:=K5.out.1.fbox.blk.free 0
 have q5:=K5.out.1.fbox.blk.free 1
 have q6:w5.cell? ⟨w.heap.size,0,none⟩=some (.int .i64 0):=R5.blk.cell 0
 have q7:w5.cell? ⟨w.heap.size,1,none⟩=some (.int .i64 0):=R5.blk.cell 1
 have q8:=R5.blk.free 0
 have q9:=R5.blk.free 1
 have bw5:Below w.heap.size w w5:=⟨K5.out.2.2.os.trans K4.out.1.os,K5.out.2.2.tape.trans K4.out.1.tape,K5.out.2.2.output.trans K4.out.1.output,Nat.le_trans K4.out.1.size K5.out.2.2.size,fun k hk=>(K5.out.2.2.block k (Nat.lt_of_lt_of_le hk K4.out.1.size) (by omega) (by omega) (fun e=>by cases e)).trans (K4.out.1.block k hk)⟩
 have HL:=zh (zi hlen (zi hrs (zi R5 bw5)))
 clear hlen hrs R5 bw5
 generalize hf:Zci t 1 (0,0)=f at *
 have HF:=zh hf
 clear hf
 have stored:∀ (wx:World) (x y:Int),Below w.heap.size w wx->Zy wx w.heap.size 26 #[.int .i64 0,.int .i64 0]->Below w.heap.size w (((wx.setCell ⟨w.heap.size,0,none⟩ (.int .i64 x)).setCell ⟨w.heap.size,1,none⟩ (.int .i64 y)).drew)/\Zy (((wx.setCell ⟨w.heap.size,0,none⟩ (.int .i64 x)).setCell ⟨w.heap.size,1,none⟩ (.int .i64 y)).drew) w.heap.size 26 #[.int .i64 x,.int .i64 y]:=fun wx x y hb hT=>⟨((hb.setCell (Nat.le_refl _) _).setCell (Nat.le_refl _) _).drew,((hT.set 0 (.int .i64 x)).set 1 (.int .i64 y)).keep (Below.refl _ _).drew⟩
 have ST:=zh stored
 clear stored
 by_cases hbig:(1500:Int)<(rs.length:Int)
 ·go_upto_region 9 with fail
  go_region
  have FIN:=ST.out ((w5.setCell ⟨w.heap.size+1+1,0,none⟩ (.int .i64 13)).setCell ⟨w.heap.size+1+1,1,none⟩ (.int .i64 0)) 13 0 ((HL.out.2.2.2.setCell (by dsimp only;omega) _).setCell (by dsimp only;omega) _) ((HL.out.2.2.1.other (fun e=>by dsimp only at e;omega) _).other (fun e=>by dsimp only at e;omega) _)
  generalize hw9:World.drew _=w9 at FIN ⊢
  obtain ⟨hb9,T9⟩:=FIN
  have p0:=T9.blk.cell 0
  have p1:=T9.blk.cell 1
  simp at p0 p1
  have FB:=zh hb9
  clear hb9 T9 hw9 q1 q2 q3 q4 q5 q6 q7 q8 q9
  go_wp2_with fail
  have hP:ZaN t=(13,0):=by unfold ZaN;rw [if_pos (by rw [HL.out.1];omega)]
  exact bodyPost_ret (v:=.tuple #[.slice none 0 0,.agg #[.int .i64 13,.int .i64 0]]) (by simp [results,Tryd.results9,go_sem,p0,p1]) rfl ⟨_,by rw [hP],FB.out,fun _=>rfl,fun e=>by rw [hP] at e;exact absurd e (show ¬ (13:Int)=0 by decide)⟩
 ·by_cases hf0:f.1=0
  ·have e0:(f.1 != 0)=false:=by simpa using hf0
   go_upto_region 10 with fail
   go_region
   have FIN:=ST.out w5 0 f.2 HL.out.2.2.2 HL.out.2.2.1
   have HN:=zh (show NodP (((w5.setCell ⟨w.heap.size,0,none⟩ (.int .i64 0)).setCell ⟨w.heap.size,1,none⟩ (.int .i64 f.2)).drew) w.heap.size (.slice A rs.length c) rs from ((ZdL ⟨K5.out.1.own,K5.out.1.each⟩ HL.out.2.2.1 (Nat.le_refl _) 0 _).1.put (ZdL ⟨K5.out.1.own,K5.out.1.each⟩ HL.out.2.2.1 (Nat.le_refl _) 0 _).2 1 _).drewP)
   have hP:ZaN t=f:=by unfold ZaN;rw [if_neg (by rw [HL.out.1];omega)];exact HF.out
   clear e0
   generalize hw9:World.drew _=w9 at FIN HN ⊢
   obtain ⟨hb9,T9⟩:=FIN
   have p0:=T9.blk.cell 0
   have p1:=T9.blk.cell 1
   simp at p0 p1
   have FB:=zh hb9
   clear hb9 T9 hw9 q1 q2 q3 q4 q5 q6 q7 q8 q9
   go_wp2_with fail
   exact bodyPost_ret (v:=.tuple #[.slice A rs.length c,.agg #[.int .i64 0,.int .i64 f.2]]) (by simp [results,Tryd.results9,go_sem,p0,p1]) rfl ⟨_,by rw [hP,hf0],FB.out,fun e=>by rw [hP] at e;exact absurd hf0 e,fun _=>⟨rs,HN.out,HL.out.2.1⟩⟩
  ·have e0:(f.1 != 0)=true:=by simpa using hf0
   go_upto_region 9 with fail
   go_region
   have FIN:=ST.out w5 f.1 f.2 HL.out.2.2.2 HL.out.2.2.1
   have hP:ZaN t=f:=by unfold ZaN;rw [if_neg (by rw [HL.out.1];omega)];exact HF.out
   clear e0
   generalize hw9:World.drew _=w9 at FIN ⊢
   obtain ⟨hb9,T9⟩:=FIN
   have p0:=T9.blk.cell 0
   have p1:=T9.blk.cell 1
   simp at p0 p1
   have FB:=zh hb9
   clear hb9 T9 hw9 q1 q2 q3 q4 q5 q6 q7 q8 q9
   go_wp2_with fail
   exact bodyPost_ret (v:=.tuple #[.slice none 0 0,.agg #[.int .i64 f.1,.int .i64 f.2]]) (by simp [results,Tryd.results9,go_sem,p0,p1]) rfl ⟨_,by rw [hP],FB.out,fun _=>rfl,fun e=>by rw [hP] at e;exact absurd e hf0⟩
end
section
open Go Go.RowKit
theorem Zkj {t:Tok} {us:List Tok} (h:ZW us):ZW (t::us):=by
 refine ⟨Nat.succ_pos _,?_⟩
 have:=h.1
 obtain ⟨n,hn⟩:∃ n,us.length=n+1:=⟨us.length-1,by omega⟩
 have e:=h.2
 unfold Zx at e ⊢
 rw [List.length_cons,show us.length+1-1=(us.length-1)+1 by omega,List.getElem?_cons_succ]
 exact e
theorem Zl1:∀ (m:Nat) (l:List UInt8) (a:Nat) (ts:List Tok),l.length<=m->Zat l a=.ok ts->ZW ts/\ts.length<=l.length+1/\∀ t∈ts,t.2.1.length<=l.length:=by
 intro m
 induction m with
 | zero=>
  intro l a ts hm h
  obtain rfl:l=[]:=List.eq_nil_of_length_eq_zero (by omega)
  rw [Zel] at h
  injection h with h
  subst h
  exact ⟨⟨by simp,rfl⟩,by simp,fun t ht=>by rw [List.mem_singleton] at ht;subst ht;simp⟩
 | succ m ih=>
  intro l a ts hm h
  cases q:l.drop (Zt l) with
  | nil=>
   have hb:Zt l=l.length:=by
    have:=List.length_drop (i:=Zt l) (l:=l)
    have:=ZcC l
    rw [q] at *
    simp at *
    omega
   rw [Zdq hb] at h
   injection h with h
   subst h
   exact ⟨⟨by simp,rfl⟩,by simp,fun t ht=>by rw [List.mem_singleton] at ht;subst ht;simp⟩
  | cons c r=>
   have hl:(c::r).length<=l.length:=by rw [<- q,List.length_drop];omega
   cases f:(ZY (c::r)).2.2 with
   | false=>rw [Zek q f] at h;cases h
   | true=>
    have hp:=Zch f
    rw [ZcO q f] at h
    cases hr:Zat ((c::r).drop (ZY (c::r)).2.1) (a+Zt l+(ZY (c::r)).2.1) with
    | bad p=>rw [hr] at h;cases h
    | ok us=>
     rw [hr] at h
     injection h with h
     subst h
     have hd:((c::r).drop (ZY (c::r)).2.1).length<=l.length-1:=by rw [List.length_drop];omega
     obtain ⟨i1,i2,i3⟩:=ih _ _ us (by omega) hr
     refine ⟨Zkj i1,by rw [List.length_cons];have:1<=l.length:=by (have:=hl;rw [List.length_cons] at this;omega)
                       omega,fun t ht=>?_⟩
     rcases List.mem_cons.1 ht with rfl | ht
     ·dsimp only;rw [List.length_take];omega
     ·have:=i3 t ht;omega
abbrev Zau (L:List Tok):Tr:=.mk 0 [] [] (Zj L s0P) (ZaK L).1
theorem Zl0 {l:List UInt8} {L:List Tok} {er:Int} {pl:Nat} (h:Zb4 l=(L,er,pl)) (h0:er=0):ZW L/\L.length<=6001/\LexL L/\∀ t∈L,t.2.1.length<=6000:=by
 unfold Zb4 at h
 by_cases h6:6000<l.length
 ·rw [if_pos h6] at h
  injection h with _ h
  injection h with h _
  exfalso;omega
 ·rw [if_neg h6] at h
  cases hx:Zat l 0 with
  | bad a=>
   rw [hx] at h
   injection h with _ h
   injection h with h _
   exfalso;omega
  | ok ts=>
   rw [hx] at h
   injection h with h _
   subst h
   obtain ⟨q1,q2,q3⟩:=Zl1 _ _ _ _ (Nat.le_refl _) hx
   obtain ⟨q4,q5⟩:=Zkv _ _ _ _ (Nat.le_refl _) hx
   exact ⟨q1,by omega,⟨q4,q5⟩,fun t ht=>by have:=q3 t ht;omega⟩
theorem ZlO {L:List Tok} {g:Nat} {s:PS} (h:Dp L g s):Dp L 201 s:=⟨h.lt,fun e=>⟨(h.fuel e).1,by have:=h.lo;omega⟩,h.lo,h.hi⟩
theorem Zlt {L:List Tok} (hE:ZW L) (e:(ZaK L).2.err=0):szT (Zau L)<=L.length+1:=by
 have hx:∀ f,Onw L (Dp L (f+1)) (exP L):=fun f=>ZcM hE (f+1)
 have hgo:=Zcp hE hx 200
 have hd:Dp L 201 s0P:=⟨hE.1,fun _=>⟨by decide,by decide⟩,by decide,by decide⟩
 have sz:=ZcH (ex:=exP L) hE hgo (ZhD hE hx (fun g s hs e=>Zhx hE (ZaI 201) (Zbw hE 201) (Zen hE 201) s (ZlO hs) e) 200) (L.length+1) [] s0P ⟨hd,by decide⟩ e
 have ad:=(ZbQ (ex:=exP L) hE hgo (L.length+1) [] s0P ⟨hd,by decide⟩).lt hE.1
 rw [Zao]
 rw [ZI] at sz
 change ZI (ZaK L).1+0<=(ZaK L).2.at_+0 at sz
 change (ZaK L).2.at_<L.length at ad
 omega
theorem Zfm {w:World} {B n size:Nat} {e:TypeId} {v:Value} {xs:List Value} (h:w.ownsRow B e size v n xs):w.ownsRow 0 e size v n xs:=by
 obtain ⟨h1,h2⟩:=h
 rcases h2 with q | ⟨g,cap,cur,h3,_,h5,h6,h7,h8,h9⟩
 ·exact ⟨h1,Or.inl q⟩
 ·exact ⟨h1,Or.inr ⟨g,cap,cur,h3,Nat.zero_le _,h5,h6,h7,h8,h9⟩⟩
structure NodQ (w:World) (v:Value) (rs:List (NdV×Nd)):Prop where
 own:w.ownsRow 0 33 5 v rs.length (ZX rs)
 each:∀ x∈rs,w.ownsRow 0 9 1 x.1.1 (x.2.words.map txt).length (x.2.words.map txt)/\w.ownsRow 0 2 1 x.1.2.1 (x.2.nums.map (Value.int .i64)).length (x.2.nums.map (Value.int .i64))/\w.ownsRow 0 3 1 x.1.2.2 x.2.kids.length (x.2.kids.map (Value.int .i64))
theorem NodP.toQ {w:World} {B:Nat} {v:Value} {rs:List (NdV×Nd)} (h:NodP w B v rs):NodQ w v rs:=⟨Zfm h.own,fun x hx=>⟨(h.each x hx).1.1,(h.each x hx).2.1.1,Zfm (h.each x hx).2.2⟩⟩
theorem NodQ.past {w:World} {v:Value} {rs:List (NdV×Nd)} {r:Nat} {cs:Array Value} (h:NodQ w v rs) (T:Zy w r 26 cs) (i:Nat) (u:Value):NodQ (w.setCell ⟨r,i,none⟩ u) v rs:=
 ⟨Zag h.own (T.off h.own (by decide)),fun x hx=>⟨Zag (h.each x hx).1 (T.off (h.each x hx).1 (by decide)),Zag (h.each x hx).2.1 (T.off (h.each x hx).2.1 (by decide)),Zag (h.each x hx).2.2 (T.off (h.each x hx).2.2 (by decide))⟩⟩
theorem NodQ.drewP {w:World} {v:Value} {rs:List (NdV×Nd)} (h:NodQ w v rs):NodQ w.drew v rs:=⟨h.own.drew,fun x hx=>⟨(h.each x hx).1.drew,(h.each x hx).2.1.drew,(h.each x hx).2.2.drew⟩⟩
theorem NodQ.keep {w w':World} {v:Value} {rs:List (NdV×Nd)} (h:NodQ w v rs) (hb:Below w.heap.size w w'):NodQ w' v rs:=by
 have k:∀ {e:TypeId} {size n:Nat} {v:Value} {xs:List Value},w.ownsRow 0 e size v n xs->w'.ownsRow 0 e size v n xs:=fun {_ _ _ v _} q=>q.kept (ZbD hb none) (by cases hv:v.ownBlock<;>simp)
 exact ⟨k h.own,fun x hx=>⟨k (h.each x hx).1,k (h.each x hx).2.1,k (h.each x hx).2.2⟩⟩
theorem NodQ.nil (w:World):NodQ w (.slice none 0 0) []:=⟨World.ownsRow_nil _ _ _ _,fun x hx=>by cases hx⟩
theorem LaidP.below {w w':World} (h:LaidP w) (hb:Below w.heap.size w w'):LaidP w':=
 ⟨h.signs.below hb,h.kinds.below hb,h.names.below hb,h.keys.below hb,by
  obtain ⟨tp,pv,hv⟩:=h.err
  exact ⟨tp,pv,var?_below hb Tryd.laysC174.m15 (Zhy hv Tryd.laysC174.m15) hv⟩⟩
theorem Zcr {X:World} {b:Nat} {ty:TypeId} {a0 a1:Value} (h:Zy X b ty #[a0,a1]) (u0 u1:Value):Zy ((X.setCell ⟨b,0,none⟩ u0).setCell ⟨b,1,none⟩ u1) b ty #[u0,u1]:=by
 have:=(h.set 0 u0).set 1 u1
 simpa using this
def Zbd (l:Txt):List Nd×Int×Int:=
 let r:=Zb4 l
 if r.2.1≠0 then ([],r.2.1,(r.2.2:Int))
 else if (ZaK r.1).2.err≠0 then ([],(ZaK r.1).2.err,(ZaK r.1).2.fat)
 else if (ZaN (Zau r.1)).1≠0 then ([],ZaN (Zau r.1))
 else (ZbS (Zau r.1) [],0,(ZaN (Zau r.1)).2)
def Zmh (w:World) (r:List Nd×Int×Int) (e:Ending) (w':World):Prop:=
 ∃ v rs,e=.returned (.tuple #[v,.agg #[.int .i64 r.2.1,.int .i64 r.2.2]])/\Below w.heap.size w w'/\NodQ w' v rs/\rs.map (·.2)=r.1
theorem ZiG (s:ByteArray) (w:World) (hL:LaidP w) (ht:Zaf w 0 Zp):Calls Tryd.prog 6 #[.string s] w (Zmh w (Zbd s.data.toList)):=by
 obtain ⟨R,hR⟩:∃ R,R=Zbd s.data.toList:=⟨_,rfl⟩
 rw [<- hR]
 obtain ⟨L,er,pl,hr⟩:∃ L er pl,Zb4 s.data.toList=(L,er,pl):=⟨_,_,_,rfl⟩
 unfold Zbd at hR
 rw [hr] at hR
 dsimp only at hR
 obtain ⟨wa,hwa⟩:∃ wa,w.alloc (.cells #[.int .i64 0,.int .i64 0] 26)=wa:=⟨_,rfl⟩
 have a0:Below w.heap.size w wa:=by rw [<- hwa];exact below_alloc1 w _
 have T0:Zy wa w.heap.size 26 #[.int .i64 0,.int .i64 0]:=by rw [<- hwa];exact Zy.start w _ _
 have sa:wa.heap.size=w.heap.size+1:=by rw [<- hwa,World.size_alloc]
 have RT:=zh (fun (w1:World) (hb:Below w.heap.size w w1)=>by have:=ZiV s w1 (ht.below hb);rw [hr] at this;exact this)
 have H:=zh (zi a0 (zi T0 (zi sa (zi hL hwa))))
 have HR:=zh (zi hR hr)
 clear a0 T0 hR hr sa hL ht hwa
 go_enter Tryd.func6,Tryd.ntmps6
 go_upto_region 1 with fail
 rw [H.out.2.2.2.2]
 go_upto_region 2 with (go_at_call 7;(refine (RT.out _ H.out.1).mono ?_);rintro e w1 ⟨A,c,rfl,hT,hb⟩;have Q1:=zh (zi hT hb);clear hT hb)
 have a2:=below_alloc1 w1 (.cells #[.int .i64 er,.int .i64 (pl:Int)] 26)
 have T2:=Zy.start w1 #[.int .i64 er,.int .i64 (pl:Int)] 26
 have s2:w1.heap.size<(w1.alloc (.cells #[.int .i64 er,.int .i64 (pl:Int)] 26)).heap.size:=by rw [World.size_alloc];omega
 generalize hw2:w1.alloc (.cells #[.int .i64 er,.int .i64 (pl:Int)] 26)=w2 at *
 have D2:Below w.heap.size w w2:=H.out.1.trans ((Q1.out.2.trans (a2.mono Q1.out.2.size)).mono H.out.1.size)
 have R2:=(H.out.2.1.keep Q1.out.2).keep a2
 have K2:=Q1.out.1.below a2
 have ne2:w.heap.size<w1.heap.size:=by have:=Q1.out.2.size;have:=H.out.2.2.1;omega
 have f0:=T2.blk.cell 0
 have f1:=T2.blk.cell 1
 have ff:=T2.blk.free
 have z0:=R2.blk.cell 0
 have z1:=R2.blk.cell 1
 have zf:=R2.blk.free
 simp only [List.getElem?_toArray,List.getElem?_cons_zero,List.getElem?_cons_succ] at f0 f1 z0 z1
 have LP2:=H.out.2.2.2.1.below D2
 have M2:=zh (zi D2 (zi R2 (zi K2 (zi T2 (zi ne2 (zi LP2 s2))))))
 clear a2 T2 D2 R2 K2 hw2 ne2 LP2 s2
 by_cases he:er≠0
 ·have e1:(er != 0)=true:=by simp [he]
  have hr2:R=([],er,(pl:Int)):=by rw [HR.out.1,if_pos he]
  clear he
  subst hr2
  go_upto_region 3 with fail
  go_region
  have FIN:=Zcr M2.out.2.1 (.int .i64 er) (.int .i64 (pl:Int))
  have DW:=((M2.out.1.setCell (Nat.le_refl w.heap.size) (p:=⟨w.heap.size,0,none⟩) (.int .i64 er)).setCell (Nat.le_refl w.heap.size) (p:=⟨w.heap.size,1,none⟩) (.int .i64 (pl:Int))).drew
  have p0:=(FIN.keep (Below.refl _ _).drew).blk.cell 0
  have p1:=(FIN.keep (Below.refl _ _).drew).blk.cell 1
  simp only [List.getElem?_toArray,List.getElem?_cons_zero,List.getElem?_cons_succ] at p0 p1
  have FB:=zh DW
  clear FIN DW z0 z1 zf f0 f1 ff
  generalize World.drew _=w9 at *
  go_wp2_with fail
  exact bodyPost_ret (v:=.tuple #[.slice none 0 0,.agg #[.int .i64 er,.int .i64 (pl:Int)]]) (by simp [results,Tryd.results6,go_sem,p0,p1]) rfl ⟨_,[],rfl,FB.out,NodQ.nil _,rfl⟩
 ·have e0:er=0:=Classical.not_not.1 he
  have e1:(er != 0)=false:=by simp [e0]
  obtain ⟨hE,hlen,hLL,htx⟩:=Zl0 HR.out.2 e0
  have hr2:R=if (ZaK L).2.err≠0 then ([],(ZaK L).2.err,(ZaK L).2.fat) else if (ZaN (Zau L)).1≠0 then ([],ZaN (Zau L)) else (ZbS (Zau L) [],0,(ZaN (Zau L)).2):=by rw [HR.out.1,if_neg he]
  obtain ⟨ad,rfl⟩:∃ ad,A=some ad:=by
   obtain ⟨A',c',hv,_,_,hR⟩:=M2.out.2.2.1
   injection hv with hv1 hv2 hv3
   subst hv1
   obtain ⟨ad,ha,_⟩:=hR.2 hE.1
   exact ⟨ad,ha⟩
  have RD:=zh (show Calls Tryd.prog 8 #[.slice (some ad) L.length c] w2 fun e w'=>Below w2.heap.size w2 w'/\((ZaK L).2.err=0->∃ b,e=.returned (.tuple #[brV b,.agg #[.int .i64 0,.int .i64 0]])/\BrP w' (fun j=>w2.heap.size<=j) (Zau L) b)/\((ZaK L).2.err≠0->e=.returned (.tuple #[.pointer none,.agg #[.int .i64 (ZaK L).2.err,.int .i64 (ZaK L).2.fat]])) from ZkK w2 M2.out.2.2.2.2.2.1 ad c L M2.out.2.2.1 hE.1 ⟨by omega,hLL,fun t ht=>by have:=htx t ht;omega⟩)
  have SZ:=zh (fun e=>Zlt hE (L:=L) e)
  have H2:=zh (zi hr2 (zi hlen hE))
  clear hE hlen hLL htx hr2 he e0
  generalize hP:ZaK L=PG at *
  have HP:=zh hP
  clear hP
  by_cases z:PG.2.err=0
  ·go_upto_region 3 with fail
   clear f0 f1 z0 z1 zf ff
   go_upto_region 5 with (go_at_call 8;(refine RD.out.mono ?_);rintro e w3 ⟨hb3,hok,_⟩;obtain ⟨b,rfl,hT⟩:=hok z;have F3:=M2.out.2.2.2.1.keep hb3;have f0:=F3.blk.cell 0;have f1:=F3.blk.cell 1;have g0:=F3.blk.free 0;have g1:=F3.blk.free 1;simp only [List.getElem?_toArray,List.getElem?_cons_zero,List.getElem?_cons_succ] at f0 f1;have K3:=zh (zi hb3 (zi hT F3));clear hb3 hT hok F3)
   clear f0 f1 g0 g1
   have F4:=Zcr K3.out.2.2 (.int .i64 0) (.int .i64 0)
   have lt2:=M2.out.2.2.2.2.2.2
   have szl:w.heap.size<w1.heap.size:=M2.out.2.2.2.2.1
   have R4:Zy ((w3.setCell ⟨w1.heap.size,0,none⟩ (.int .i64 0)).setCell ⟨w1.heap.size,1,none⟩ (.int .i64 0)) w.heap.size 26 #[.int .i64 0,.int .i64 0]:=((M2.out.2.1.keep K3.out.1).other (fun e=>by dsimp only at e;omega) _).other (fun e=>by dsimp only at e;omega) _
   have D4:Below w.heap.size w ((w3.setCell ⟨w1.heap.size,0,none⟩ (.int .i64 0)).setCell ⟨w1.heap.size,1,none⟩ (.int .i64 0)):=((M2.out.1.trans (K3.out.1.mono M2.out.1.size)).setCell (by dsimp only;omega) _).setCell (by dsimp only;omega) _
   have s4:w2.heap.size<=((w3.setCell ⟨w1.heap.size,0,none⟩ (.int .i64 0)).setCell ⟨w1.heap.size,1,none⟩ (.int .i64 0)).heap.size:=by
    rw [World.size_setCell,World.size_setCell];exact K3.out.1.size
   have TT:BrP ((w3.setCell ⟨w1.heap.size,0,none⟩ (.int .i64 0)).setCell ⟨w1.heap.size,1,none⟩ (.int .i64 0)) (fun j=>w2.heap.size<=j/\j<((w3.setCell ⟨w1.heap.size,0,none⟩ (.int .i64 0)).setCell ⟨w1.heap.size,1,none⟩ (.int .i64 0)).heap.size) (Zau L) b:=BrP.frame (fun k hk=>⟨hk.1,by rw [World.size_setCell,World.size_setCell];exact hk.2⟩) (fun k hk=>(heap_setCell_other _ _ k _ (fun e=>by dsimp only at e;have:=hk.1;omega)).trans (heap_setCell_other _ _ k _ (fun e=>by dsimp only at e;have:=hk.1;omega))) _ _ (Zex K3.out.2.1)
   generalize hw4:(w3.setCell ⟨w1.heap.size,0,none⟩ (.int .i64 0)).setCell ⟨w1.heap.size,1,none⟩ (.int .i64 0)=w4 at *
   clear hw4
   have f0:=F4.blk.cell 0
   simp only [List.getElem?_toArray,List.getElem?_cons_zero] at f0
   have NU:=zh (ZfI w4 _ (Zau L) b TT (fun k q=>q.2) (by have:=SZ.out z;have:=H2.out.2.1;omega))
   have K4:=zh (zi R4 D4)
   clear R4 D4 F4 TT s4 lt2 szl
   go_upto_region 7 with fail
   clear f0
   have hr3:R=if (ZaN (Zau L)).1≠0 then ([],ZaN (Zau L)) else (ZbS (Zau L) [],0,(ZaN (Zau L)).2):=by rw [H2.out.1,if_neg (fun q=>q z)]
   have HR3:=zh hr3
   clear hr3
   go_wp2_with (go_at_call 9;(refine NU.out.mono ?_);rintro e w5 ⟨v,rfl,hb5,h5a,h5b⟩;have F5:=K4.out.1.keep hb5;have z0:=F5.blk.cell 0;have z1:=F5.blk.cell 1;have g0:=F5.blk.free 0;have g1:=F5.blk.free 1;simp only [List.getElem?_toArray,List.getElem?_cons_zero,List.getElem?_cons_succ] at z0 z1;have K5:=zh (zi hb5 (zi h5a (zi h5b F5)));clear hb5 h5a h5b F5)
   have p0:=(Zcr K5.out.2.2.2 (.int .i64 (ZaN (Zau L)).1) (.int .i64 (ZaN (Zau L)).2)).blk.cell 0
   have p1:=(Zcr K5.out.2.2.2 (.int .i64 (ZaN (Zau L)).1) (.int .i64 (ZaN (Zau L)).2)).blk.cell 1
   simp only [List.getElem?_toArray,List.getElem?_cons_zero,List.getElem?_cons_succ] at p0 p1
   have DW:Below w.heap.size w ((w5.setCell ⟨w.heap.size,0,none⟩ (.int .i64 (ZaN (Zau L)).1)).setCell ⟨w.heap.size,1,none⟩ (.int .i64 (ZaN (Zau L)).2)):=((K4.out.2.trans (K5.out.1.mono K4.out.2.size)).setCell (Nat.le_refl w.heap.size) _).setCell (Nat.le_refl w.heap.size) _
   have END:∃ rs,NodQ ((w5.setCell ⟨w.heap.size,0,none⟩ (.int .i64 (ZaN (Zau L)).1)).setCell ⟨w.heap.size,1,none⟩ (.int .i64 (ZaN (Zau L)).2)) v rs/\rs.map (·.2)=R.1/\R.2=ZaN (Zau L):=by
    by_cases hf:(ZaN (Zau L)).1=0
    ·obtain ⟨rs,hN,hm⟩:=K5.out.2.2.1 hf
     refine ⟨rs,(hN.toQ.past K5.out.2.2.2 0 _).past (K5.out.2.2.2.set 0 _) 1 _,?_,?_⟩
     ·rw [HR3.out,if_neg (fun q=>q hf)];exact hm
     ·rw [HR3.out,if_neg (fun q=>q hf)];exact Prod.ext hf.symm rfl
    ·obtain rfl:=K5.out.2.1 hf
     exact ⟨[],NodQ.nil _,by rw [HR3.out,if_pos hf];rfl,by rw [HR3.out,if_pos hf]⟩
   obtain ⟨rs,hN,hm,hR2⟩:=END
   have EN:=zh (zi DW (zi hN (zi hm hR2)))
   clear DW hN hm hR2 z0 z1 g0 g1
   generalize hfl:ZaN (Zau L)=F at *
   exact bodyPost_ret (v:=.tuple #[v,.agg #[.int .i64 F.1,.int .i64 F.2]]) (by simp [results,Tryd.results6,go_sem,p0,p1]) rfl ⟨v,rs,by rw [EN.out.2.2.2],EN.out.1,EN.out.2.1,EN.out.2.2.1⟩
  ·go_upto_region 3 with fail
   clear f0 f1 z0 z1 zf ff
   have Z:=zh z
   clear z
   go_upto_region 5 with (go_at_call 8;(refine RD.out.mono ?_);rintro e w3 ⟨hb3,_,hbd⟩;obtain rfl:=hbd Z.out;have F3:=M2.out.2.2.2.1.keep hb3;have f0:=F3.blk.cell 0;have f1:=F3.blk.cell 1;have g0:=F3.blk.free 0;have g1:=F3.blk.free 1;simp only [List.getElem?_toArray,List.getElem?_cons_zero,List.getElem?_cons_succ] at f0 f1;have K3:=zh (zi hb3 F3);clear hb3 hbd F3)
   clear f0 f1 g0 g1
   have F4:=Zcr K3.out.2 (.int .i64 PG.2.err) (.int .i64 PG.2.fat)
   have szl:w.heap.size<w1.heap.size:=M2.out.2.2.2.2.1
   have R4:Zy ((w3.setCell ⟨w1.heap.size,0,none⟩ (.int .i64 PG.2.err)).setCell ⟨w1.heap.size,1,none⟩ (.int .i64 PG.2.fat)) w.heap.size 26 #[.int .i64 0,.int .i64 0]:=((M2.out.2.1.keep K3.out.1).other (fun e=>by dsimp only at e;omega) _).other (fun e=>by dsimp only at e;omega) _
   have D4:Below w.heap.size w ((w3.setCell ⟨w1.heap.size,0,none⟩ (.int .i64 PG.2.err)).setCell ⟨w1.heap.size,1,none⟩ (.int .i64 PG.2.fat)):=((M2.out.1.trans (K3.out.1.mono M2.out.1.size)).setCell (by dsimp only;omega) _).setCell (by dsimp only;omega) _
   generalize hw4:(w3.setCell ⟨w1.heap.size,0,none⟩ (.int .i64 PG.2.err)).setCell ⟨w1.heap.size,1,none⟩ (.int .i64 PG.2.fat)=w4 at *
   clear hw4
   have f0:=F4.blk.cell 0
   have f1:=F4.blk.cell 1
   have z0:=R4.blk.cell 0
   have z1:=R4.blk.cell 1
   have g0:=R4.blk.free 0
   have g1:=R4.blk.free 1
   simp only [List.getElem?_toArray,List.getElem?_cons_zero,List.getElem?_cons_succ] at f0 f1 z0 z1
   have e2:(PG.2.err != 0)=true:=by simpa using Z.out
   have K4:=zh (zi R4 D4)
   clear R4 D4 F4 szl
   have hr3:R=([],PG.2.err,PG.2.fat):=by rw [H2.out.1,if_pos Z.out]
   have HR3:=zh hr3
   clear hr3
   go_upto_region 6 with fail
   go_region
   have FIN:=Zcr K4.out.1 (.int .i64 PG.2.err) (.int .i64 PG.2.fat)
   have DW:=((K4.out.2.setCell (Nat.le_refl w.heap.size) (p:=⟨w.heap.size,0,none⟩) (.int .i64 PG.2.err)).setCell (Nat.le_refl w.heap.size) (p:=⟨w.heap.size,1,none⟩) (.int .i64 PG.2.fat)).drew
   have p0:=(FIN.keep (Below.refl _ _).drew).blk.cell 0
   have p1:=(FIN.keep (Below.refl _ _).drew).blk.cell 1
   simp only [List.getElem?_toArray,List.getElem?_cons_zero,List.getElem?_cons_succ] at p0 p1
   have FB:=zh DW
   clear FIN DW z0 z1 f0 f1 g0 g1
   generalize World.drew _=w9 at *
   go_wp2_with fail
   exact bodyPost_ret (v:=.tuple #[.slice none 0 0,.agg #[.int .i64 PG.2.err,.int .i64 PG.2.fat]]) (by simp [results,Tryd.results6,go_sem,p0,p1]) rfl ⟨_,[],by rw [HR3.out],FB.out,NodQ.nil _,by rw [HR3.out];rfl⟩
end
end Go.Proofs.YtfdgeijnkkdplaaDoor
