import Derived.Test.YtkongcicmajolaaGreatDoorQAY
import Derived.Test.YtkongcicmajolaaGreatDoorQBN
import Derived.Test.YtkongcicmajolaaGreatDoorQBO
import Derived.Test.YtkongcicmajolaaGreatDoorQBP
set_option maxRecDepth 100000
set_option maxHeartbeats 8000000
namespace Go.Proofs.YtkongcicmajolaaGreatDoor
section
open Go.RowKit
theorem Zos {t:Tok} {us:List Tok} (h:ZW us):ZW (t::us):=by
 refine ⟨Nat.succ_pos _,?_⟩
 have:=h.1
 obtain ⟨n,hn⟩:∃ n,us.length=n+1:=⟨us.length-1,by omega⟩
 have e:=h.2
 unfold Zi at e ⊢
 rw [List.length_cons,show us.length+1-1=(us.length-1)+1 by omega,List.getElem?_cons_succ]
 exact e
theorem ZoV:∀ (m:Nat) (l:List UInt8) (a:Nat) (ts:List Tok),l.length<=m->Zbx l a=.ok ts->ZW ts/\ts.length<=l.length+1/\∀ t∈ts,t.2.1.length<=l.length:=by
 intro m
 induction m with
 | zero=>
  intro l a ts hm h
  obtain rfl:l=[]:=List.eq_nil_of_length_eq_zero (by omega)
  rw [Zg2] at h
  injection h with h
  subst h
  exact ⟨⟨by simp,rfl⟩,by simp,fun t ht=>by rw [List.mem_singleton] at ht;subst ht;simp⟩
 | succ m ih=>
  intro l a ts hm h
  cases q:l.drop (ZO l) with
  | nil=>
   have hb:ZO l=l.length:=by
    have:=List.length_drop (i:=ZO l) (l:=l)
    have:=ZfG l
    rw [q] at *
    simp at *
    omega
   rw [Zgc hb] at h
   injection h with h
   subst h
   exact ⟨⟨by simp,rfl⟩,by simp,fun t ht=>by rw [List.mem_singleton] at ht;subst ht;simp⟩
  | cons c r=>
   have hl:(c::r).length<=l.length:=by rw [<- q,List.length_drop];omega
   cases f:(ZaJ (c::r)).2.2 with
   | false=>rw [Zgb q f] at h;cases h
   | true=>
    have hp:=ZgY f
    rw [Ze8 q f] at h
    cases hr:Zbx ((c::r).drop (ZaJ (c::r)).2.1) (a+ZO l+(ZaJ (c::r)).2.1) with
    | bad p=>rw [hr] at h;cases h
    | ok us=>
     rw [hr] at h
     injection h with h
     subst h
     have hd:((c::r).drop (ZaJ (c::r)).2.1).length<=l.length-1:=by rw [List.length_drop];omega
     obtain ⟨i1,i2,i3⟩:=ih _ _ us (by omega) hr
     refine ⟨Zos i1,by rw [List.length_cons];have:1<=l.length:=by (have:=hl;rw [List.length_cons] at this;omega)
                       omega,fun t ht=>?_⟩
     rcases List.mem_cons.1 ht with rfl | ht
     ·dsimp only;rw [List.length_take];omega
     ·have:=i3 t ht;omega
abbrev st7 (L:List Tok):PS->Tr×PS:=Zv L (ex7 L) 200
abbrev s07:PS:=⟨0,0,0,0⟩
abbrev Zda (L:List Tok):List Tr×PS:=Zaz L (ex7 L) (st7 L) (L.length+1) [] s07
abbrev Zdh (L:List Tok):Tr:=.mk 0 [] [] (Ze L s07) (Zda L).1
def ZdR (l:Txt):List Nd×Int×Int:=
 let r:=Zes l
 if r.2.1≠0 then ([],r.2.1,(r.2.2:Int))
 else if (Zda r.1).2.err≠0 then ([],(Zda r.1).2.err,(Zda r.1).2.fat)
 else if 1500<(Zcj (Zdh r.1) []).length then ([],13,0)
 else if 0<=ZbK (Zdh r.1) 1 then ([],12,ZbK (Zdh r.1) 1)
 else (Zcj (Zdh r.1) [],0,0)
def ZpM (w:World) (r:List Nd×Int×Int) (e:Ending) (w':World):Prop:=∃ v,e=.returned (.tuple #[v,.agg #[.int .i64 r.2.1,.int .i64 r.2.2]])/\Zs w' v r.1/\Below w.heap.size w w'
theorem LayS.nodes {w:World} {B:Nat} {v:Value} {rs:List (NdV×Nd)} (h:LayS w B v rs):Zs w v (rs.map (·.2)):=by
 obtain ⟨A,c,rfl⟩:=Zby h.own
 obtain ⟨h1,h2,h3⟩:=Zgq h.own
 refine ⟨A,c,rs,by rw [List.length_map],by rw [List.length_map];exact h1,h2,rfl,by rw [List.length_map];exact h3,fun x hx=>?_⟩
 obtain ⟨i,hi⟩:=List.mem_iff_getElem?.1 hx
 obtain ⟨e1,e2,e3,e4⟩:=h.each i x hi
 obtain ⟨⟨xw,xu,xk⟩,nd⟩:=x
 obtain ⟨A1,c1,h1'⟩:=Zby e1
 obtain ⟨A2,c2,h2'⟩:=Zby e2
 obtain ⟨A3,c3,h3'⟩:=Zby e3
 dsimp only at h1' h2' h3' e1 e2 e3
 subst h1' h2' h3'
 obtain ⟨a1,a2,a3⟩:=Zgq e1
 obtain ⟨b1,b2,b3⟩:=Zgq e2
 obtain ⟨d1,d2,d3⟩:=Zgq e3
 exact ⟨⟨A1,c1,rfl,a1,a2,a3,e4⟩,⟨A2,c2,rfl,b1,b2,b3⟩,⟨A3,c3,rfl,d1,d2,d3⟩⟩
end
section
theorem Zru {L:List Tok} {us:TS} (h:L.map kt=us):Zan L 0 us:=by
 subst h
 refine ⟨by simp,fun i u hu=>?_⟩
 rw [List.getElem?_map,Option.map_eq_some_iff] at hu
 obtain ⟨t,ht,rfl⟩:=hu
 rw [Nat.zero_add,Zi,ht]
 rfl
theorem ZnN {ns:List Nd} (R:RightP ns) {f:Nat} (hf:f<=90) (hI:∀ c∈(Za ns 0).kids,Zfn ns f (Za ns c)) {L:List Tok} (hL:L.map kt=((Za ns 0).kids.map fun c=>ZcD ns f (Za ns c)).flatten++[(3,[])]) :
  ∃ ts,Zda L=(ts,Zc s07 (((Za ns 0).kids.map fun c=>ZcD ns f (Za ns c)).flatten).length)/\Za5 (fun c=>Zt ns (3*f+3) (Za ns c)) (Za ns 0).kids ts:=by
 have hh:=Zru hL
 have h0:∃ i:Nat,ns[i]? = some (Za ns 0):=⟨0,by
  have:=R.some_
  unfold Za
  rw [show (0:Int).toNat=0 from rfl,List.getElem?_eq_getElem this]
  rfl⟩
 obtain ⟨i0,hi0⟩:=h0
 have hb:∀ c∈(Za ns 0).kids,Zm6 L ((2*f:Nat)+1) (ex7 L) (st7 L) (ZcD ns f (Za ns c)) (Zt ns (3*f+3) (Za ns c)):=fun c hc=>by
  obtain ⟨j,hj⟩:=ZaB R hi0 hc
  exact Znn (F:=90) R (fun f' i n hf' hn hE=>(ZiO R f' i n 201 hn hE (by omega)).x) hf (by omega) hj (hI c hc)
 have hK:(Za ns 0).kids.length<L.length+1:=by
  have h1:=ZdI (U:=fun c=>ZcD ns f (Za ns c)) (Za ns 0).kids fun b hb'=>by
   rcases hb b hb' with ⟨⟨r,h⟩,-⟩ | ⟨⟨r,h⟩,-⟩<;>rw [h]<;>exact List.cons_ne_nil _ _
  have h2:=hh.1
  rw [List.length_append] at h2
  omega
 obtain ⟨ts,h1,h2⟩:=ZfA (U:=fun c=>ZcD ns f (Za ns c)) (Za ns 0).kids (L.length+1) [] s07 rfl (by show (0:Int)+_<=200;omega) hh hK hb
 exact ⟨ts,by rw [show Zda L=Zaz L (ex7 L) (st7 L) (L.length+1) [] s07 from rfl,h1,List.nil_append],h2⟩
end
section
open Go.RowKit
theorem ZgK {X:World} {b:Nat} {ty:TypeId} {a0 a1:Value} (h:Zh X b ty #[a0,a1]) (u0 u1:Value):(X.setCell ⟨b,0,none⟩ u0).cell? ⟨b,0,none⟩=some u0/\((X.setCell ⟨b,0,none⟩ u0).setCell ⟨b,1,none⟩ u1).cell? ⟨b,1,none⟩=some u1:=
 ⟨by rw [(h.set 0 u0).blk.cell 0];rfl,by rw [((h.set 0 u0).set 1 u1).blk.cell 1];rfl⟩
theorem Zfq {w X:World} (h:Below w.heap.size w X) (u0 u1:Value):Below w.heap.size w ((X.setCell ⟨w.heap.size,0,none⟩ u0).setCell ⟨w.heap.size,1,none⟩ u1):=
 (h.setCell (p:=⟨w.heap.size,0,none⟩) (Nat.le_refl _) _).setCell (p:=⟨w.heap.size,1,none⟩) (Nat.le_refl _) _
theorem LayS.past {w:World} {B b j:Nat} {v u:Value} {rs:List (NdV×Nd)} {a0 a1:Value} (h:LayS w B v rs) (hb:Zh w b 28 #[a0,a1]):LayS (w.setCell ⟨b,j,none⟩ u) B v rs:=
 ⟨Zb3 h.own hb (by decide),fun i x hx=>⟨Zb3 (h.each i x hx).1 hb (by decide),Zb3 (h.each i x hx).2.1 hb (by decide),Zb3 (h.each i x hx).2.2.1 hb (by decide),(h.each i x hx).2.2.2⟩,h.apart⟩
theorem Zjc (s:ByteArray) (w:World):Calls Tryz.prog 10 #[.string s] w (ZpM w (ZdR s.data.toList)):=by
 obtain ⟨R,hR⟩:∃ R,R=ZdR s.data.toList:=⟨_,rfl⟩
 rw [<- hR]
 obtain ⟨L,er,pl,hr⟩:∃ L er pl,Zes s.data.toList=(L,er,pl):=⟨_,_,_,rfl⟩
 unfold ZdR at hR
 rw [hr] at hR
 dsimp only at hR
 have a0:=below_alloc1 w (.cells #[.int .i64 0,.int .i64 0] 28)
 have T0:=Zh.start w #[.int .i64 0,.int .i64 0] 28
 generalize hwa:w.alloc (.cells #[.int .i64 0,.int .i64 0] 28)=wa at *
 have RT:=zh (Zl9 s wa)
 rw [hr] at RT
 have H:=zh (zi a0 T0)
 have HR:=zh (zi hR hr)
 clear a0 T0 hR hr
 go_enter Tryz.func10,Tryz.ntmps10
 go_upto_region 2 with (go_at_call 19;(refine RT.out.mono ?_);rintro e w1 ⟨A,c,rfl,hT,hb⟩;have Q1:=zh (zi hT hb);clear hT hb)
 have a2:=below_alloc1 w1 (.cells #[.int .i64 er,.int .i64 (pl:Int)] 28)
 have T2:=Zh.start w1 #[.int .i64 er,.int .i64 (pl:Int)] 28
 have D2:=H.out.1.trans ((Q1.out.2.trans (a2.mono Q1.out.2.size)).mono H.out.1.size)
 have R2:=(H.out.2.keep Q1.out.2).keep a2
 have K2:=Q1.out.1.below a2
 generalize hw2:w1.alloc (.cells #[.int .i64 er,.int .i64 (pl:Int)] 28)=w2 at *
 have f0:=T2.blk.cell 0
 have f1:=T2.blk.cell 1
 have z0:=R2.blk.cell 0
 have z1:=R2.blk.cell 1
 have zf:=R2.blk.free
 simp only [List.getElem?_toArray,List.getElem?_cons_zero,List.getElem?_cons_succ] at f0 f1 z0 z1
 have so:=Zy
 have M2:=zh (zi D2 (zi R2 K2))
 clear a2 T2 D2 R2 K2
 by_cases he:er≠0
 ·have e1:(er != 0)=true:=by simp [he]
  have hr2:R=([],er,(pl:Int)):=by rw [HR.out.1,if_pos he]
  clear he
  subst hr2
  go_upto_region 3 with fail
  refine wp_region_still_tail 2 (by kernel_rfl) (by kernel_rfl) ?_
  simp only [List.take_succ_cons,List.take_zero,List.drop_succ_cons,List.drop_zero]
  iterate 2 still_step
  refine wpStill_nil ?_
  change wpList _ _ _ _ _ w2.drew
  go_wp2_with fail
  obtain ⟨r0,r1⟩:=ZgK M2.out.2.1 (.int .i64 er) (.int .i64 (pl:Int))
  exact bodyPost_ret (v:=.tuple #[.slice none 0 0,.agg #[(.int .i64 er),(.int .i64 (pl:Int))]]) (by simp [results,Tryz.results10,go_sem,so,r0,r1]) rfl ⟨_,rfl,Zs.nil _,(Zfq M2.out.1 _ _).drew⟩
 ·have e0:er=0:=Classical.not_not.1 he
  have e1:(er != 0)=false:=by simp [e0]
  have hL:ZW L/\L.length<=6001/\∀ t∈L,t.2.1.length<=6000:=by
   have hr:=HR.out.2
   unfold Zes at hr
   by_cases h6:6000<s.data.toList.length
   ·rw [if_pos h6] at hr
    injection hr with _ hr
    injection hr with hr _
    exfalso;omega
   ·rw [if_neg h6] at hr
    cases hx:Zbx s.data.toList 0 with
    | bad a=>
     rw [hx] at hr
     injection hr with _ hr
     injection hr with hr _
     exfalso;omega
    | ok ts=>
     rw [hx] at hr
     injection hr with hr _
     subst hr
     obtain ⟨q1,q2,q3⟩:=ZoV _ _ _ _ (Nat.le_refl _) hx
     exact ⟨q1,by omega,fun t ht=>by have:=q3 t ht;omega⟩
  have hr2:R=if (Zda L).2.err≠0 then ([],(Zda L).2.err,(Zda L).2.fat) else if 1500<(Zcj (Zdh L) []).length then ([],13,0) else if 0<=ZbK (Zdh L) 1 then ([],12,ZbK (Zdh L) 1) else (Zcj (Zdh L) [],0,0):=by rw [HR.out.1,if_neg he]
  have a3:=below_alloc1 w2 (.cells #[.slice A L.length c,.int .i64 0,.int .i64 0,.int .i64 0,.int .i64 0] 55)
  have P3:ParS w2 (w2.alloc (.cells #[.slice A L.length c,.int .i64 0,.int .i64 0,.int .i64 0,.int .i64 0] 55)) w2.heap.size (.slice A L.length c) L s07:=
   ⟨Zh.start w2 _ _,M2.out.2.2,a3,Nat.le_refl _,hL.1.1,⟨by omega,hL.1,fun t ht=>by have:=hL.2.2 t ht;omega⟩⟩
  have R3:=M2.out.2.1.keep a3
  generalize hw3:w2.alloc (.cells #[.slice A L.length c,.int .i64 0,.int .i64 0,.int .i64 0,.int .i64 0] 55)=w3 at *
  have hgo:=ZfX hL.1 (fun g=>ZgB hL.1 (g+1)) 200
  have hd:Dp L 201 s07:=⟨hL.1.1,fun _=>⟨by decide,by decide⟩,by decide,by decide⟩
  have CP:=zh (Zln w2 w3 w2.heap.size (.slice A L.length c) L s07 200 (ex7 L) (st7 L) (ZkE hgo (Zkc w2 w2.heap.size (.slice A L.length c) L hL.1 200)) hgo P3 hd (by decide))
  have SZ:=zh (fun (e:(Zda L).2.err=0)=>ZfM (ex:=ex7 L) hL.1 hgo (ZmP hL.1 (fun g=>ZgB hL.1 (g+1)) (fun g s hs e=>Zms hL.1 (ZX 201) (Zb9 hL.1 201) (Ziv hL.1 201) s (ZiJ hs) e) 200) (L.length+1) [] s07 ⟨hd,by decide⟩ e)
  have SR:szT (Zdh L)=Zaq (Zda L).1+1:=ZbJ _ _ _ _ _
  have SRH:=zh SR
  have HL6:=zh hL.2.1
  have M3:=zh (zi (M2.out.1.trans (a3.mono M2.out.1.size)) (zi R3 a3))
  obtain ⟨TT,hTT⟩:∃ TT,TT=Zdh L:=⟨_,rfl⟩
  obtain ⟨q2,hq2⟩:∃ q,q=(Zda L).2:=⟨_,rfl⟩
  have CP2:Calls Tryz.prog 20 #[.pointer (some ⟨w2.heap.size,0,none⟩)] w3 (Zcz w2 w2.heap.size (.slice A L.length c) L w3 TT q2):=by rw [hTT,hq2];exact CP.out
  have CPH:=zh CP2
  rw [<- hTT,<- hq2] at hr2
  have H2:=zh hr2
  have HT2:=zh (zi hTT hq2)
  clear CP CP2 SR he e0 hL P3 R3 hgo hd a3 hr2 hTT hq2
  go_upto_region 4 with fail
  clear f0 f1 z0 z1 zf
  go_upto_region 6 with (go_at_call 20;refine CPH.out.mono ?_;rintro e w4 ⟨xq,rfl,hp,ht,hf⟩;have TS:=ht.shape2;obtain ⟨X1,x1,y1,Y1,i1,j1,Z1,k1,l1,rfl⟩:=TS;have Q4:=zh (zi hp (zi ht hf));clear hp ht hf;dsimp only [ZbQ])
  clear CPH
  have a5:=below_alloc1 w4 (.cells #[.int .i64 (Tr.kd TT),.slice X1 x1 y1,.slice Y1 i1 j1,.slice none 0 0,.int .i64 (Tr.ps TT),.slice Z1 k1 l1] 58)
  have T5:=Zh.start w4 #[.int .i64 (Tr.kd TT),.slice X1 x1 y1,.slice Y1 i1 j1,.slice none 0 0,.int .i64 (Tr.ps TT),.slice Z1 k1 l1] 58
  have bne:w.heap.size≠w2.heap.size:=fun e=>by have:=M2.out.2.1.lt;omega
  have R5:=(Q4.out.2.2.tblk M3.out.2.1 bne).keep a5
  have P5:=Q4.out.1.keep a5
  have D5:Below w.heap.size w w4:=M3.out.1.grown Q4.out.2.2 M3.out.1.size (fun q hq=>by injection hq with hq;have:=M2.out.2.1.lt;omega)
  have D5':=D5.trans (a5.mono D5.size)
  have O5:=Q4.out.2.1.keep a5
  generalize hw5:w4.alloc (.cells #[.int .i64 (Tr.kd TT),.slice X1 x1 y1,.slice Y1 i1 j1,.slice none 0 0,.int .i64 (Tr.ps TT),.slice Z1 k1 l1] 58)=w5 at *
  obtain ⟨c0,c1,c2,c3,c4⟩:=P5.cells
  have M5:=zh (zi D5' (zi R5 (zi P5 (zi O5 T5))))
  clear a5 T5 R5 P5 D5 D5' O5 bne hw5 hw3
  by_cases hq:q2.err≠0
  ·have e2:(q2.err != 0)=true:=by simp [hq]
   have hr3:R=([],q2.err,q2.fat):=by rw [H2.out,if_pos hq]
   clear hq
   subst hr3
   have z0:=M5.out.2.1.blk.cell 0
   have z1:=M5.out.2.1.blk.cell 1
   have zf:=M5.out.2.1.blk.free
   simp only [List.getElem?_toArray,List.getElem?_cons_zero,List.getElem?_cons_succ] at z0 z1
   go_upto_region 7 with fail
   refine wp_region_still_tail 5 (by kernel_rfl) (by kernel_rfl) ?_
   simp only [List.take_succ_cons,List.take_zero,List.drop_succ_cons,List.drop_zero]
   iterate 5 still_step
   refine wpStill_nil ?_
   change wpList _ _ _ _ _ w5.drew
   go_wp2_with fail
   obtain ⟨r0,r1⟩:=ZgK M5.out.2.1 (.int .i64 q2.err) (.int .i64 q2.fat)
   exact bodyPost_ret (v:=.tuple #[.slice none 0 0,.agg #[(.int .i64 q2.err),(.int .i64 q2.fat)]]) (by simp [results,Tryz.results10,go_sem,so,r0,r1]) rfl ⟨_,rfl,Zs.nil _,(Zfq M5.out.1 _ _).drew⟩
  ·have hq0:q2.err=0:=Classical.not_not.1 hq
   have e2:(q2.err != 0)=false:=by simp [hq0]
   have hr3:R=if 1500<(Zcj TT []).length then ([],13,0) else if 0<=ZbK TT 1 then ([],12,ZbK TT 1) else (Zcj TT [],0,0):=by rw [H2.out,if_neg hq]
   have hsz:szT TT<=10000:=by
    have s1:=SZ.out (by rw [<- HT2.out.2];exact hq0)
    have s2:=SRH.out
    have s3:=M5.out.2.2.1.lt
    have s4:=HL6.out
    rw [<- HT2.out.1] at s2
    have s5:(Zda L).2.at_<L.length:=by rw [<- HT2.out.2];exact s3
    rw [Zaq] at s1
    change Zaq (Zda L).1+s07.at_<=(Zda L).2.at_+0 at s1
    omega
   have CL:=zh (ZqC M5.out.2.2.2.1 w5 (.slice none 0 0) [] (Below.refl _ _) (LayS.nil _ _) (by simp only [List.length_nil];omega))
   have t5:=fun i=>M5.out.2.2.2.2.blk.cell i
   have t0:=t5 0
   have t1:=t5 1
   have t2:=t5 2
   have t3:=t5 3
   have t4:=t5 4
   have t6:=t5 5
   simp only [List.getElem?_toArray,List.getElem?_cons_zero,List.getElem?_cons_succ] at t0 t1 t2 t3 t4 t6
   have H3:=zh hr3
   clear t5 hq hq0 hr3 hsz
   go_upto_region 9 with (go_at_call 21;(refine CL.out.mono ?_);rintro e w6 ⟨v6,rs6,rfl,hS6,hm6,hb6,hk6⟩;have Q6:=zh (zi hS6 (zi hm6 (zi hb6 hk6)));clear hS6 hm6 hb6 hk6)
   have SV:=Zby Q6.out.1.own
   obtain ⟨A6,c6,rfl⟩:=SV
   have len6:rs6.length=(Zcj TT []).length:=by have:=congrArg List.length Q6.out.2.1;rw [List.length_map] at this;exact this
   have R6:=Q6.out.2.2.2.2 _ _ _ M5.out.2.1 (by decide) (by decide)
   have T6:=Q6.out.2.2.2.2 _ _ _ M5.out.2.2.2.2 (by decide) (by decide)
   have D6:=M5.out.1.trans (Q6.out.2.2.1.mono M5.out.1.size)
   have z0:=R6.blk.cell 0
   have z1:=R6.blk.cell 1
   have zf:=R6.blk.free
   simp only [List.getElem?_toArray,List.getElem?_cons_zero,List.getElem?_cons_succ] at z0 z1
   have M6:=zh (zi D6 (zi R6 T6))
   clear D6 R6 T6 CL t0 t1 t2 t3 t4 t6 c0 c1 c2 c3 c4
   by_cases h15:1500<rs6.length
   ·have j1:(1500:Int)<(rs6.length:Int):=by omega
    have hr4:R=([],13,0):=by rw [H3.out,if_pos (by rw [<- len6];exact h15)]
    clear h15 len6
    subst hr4
    go_wp2_with fail
    obtain ⟨r0,r1⟩:=ZgK M6.out.2.1 (.int .i64 13) (.int .i64 0)
    exact bodyPost_ret (v:=.tuple #[.slice none 0 0,.agg #[(.int .i64 13),(.int .i64 0)]]) (by simp [results,Tryz.results10,go_sem,so,r0,r1]) rfl ⟨_,rfl,Zs.nil _,Zfq M6.out.1 _ _⟩
   ·have j1:¬ ((1500:Int)<(rs6.length:Int)):=by omega
    have hr4:R=if 0<=ZbK TT 1 then ([],12,ZbK TT 1) else (Zcj TT [],0,0):=by rw [H3.out,if_neg (by rw [<- len6];exact h15)]
    have H4:=zh hr4
    have CD:=zh (Zpb M5.out.2.2.2.1 w6 1 Q6.out.2.2.1 (by decide) (by decide))
    have t5:=fun i=>M6.out.2.2.blk.cell i
    have t0:=t5 0
    have t1:=t5 1
    have t2:=t5 2
    have t3:=t5 3
    have t4:=t5 4
    have t6:=t5 5
    simp only [List.getElem?_toArray,List.getElem?_cons_zero,List.getElem?_cons_succ] at t0 t1 t2 t3 t4 t6
    clear t5 h15 len6 hr4 z0 z1 zf
    go_upto_region 12 with (go_at_call 22;(refine CD.out.mono ?_);rintro e w7 ⟨rfl,hb7⟩;have Q7:=zh hb7;clear hb7)
    clear t0 t1 t2 t3 t4 t6 CD
    have R7:=M6.out.2.1.keep Q7.out
    have D7:=M6.out.1.trans (Q7.out.mono M6.out.1.size)
    have z0:=R7.blk.cell 0
    have z1:=R7.blk.cell 1
    have zf:=R7.blk.free
    simp only [List.getElem?_toArray,List.getElem?_cons_zero,List.getElem?_cons_succ] at z0 z1
    have M7:=zh (zi D7 R7)
    clear D7 R7
    by_cases hk:0<=ZbK TT 1
    ·have hr5:R=([],12,ZbK TT 1):=by rw [H4.out,if_pos hk]
     subst hr5
     go_wp2_with fail
     obtain ⟨r0,r1⟩:=ZgK M7.out.2 (.int .i64 12) (.int .i64 (ZbK TT 1))
     exact bodyPost_ret (v:=.tuple #[.slice none 0 0,.agg #[(.int .i64 12),(.int .i64 (ZbK TT 1))]]) (by simp [results,Tryz.results10,go_sem,so,r0,r1]) rfl ⟨_,rfl,Zs.nil _,Zfq M7.out.1 _ _⟩
    ·have hr5:R=(Zcj TT [],0,0):=by rw [H4.out,if_neg hk]
     subst hr5
     have L7:=zh ((((Q6.out.1.below Q7.out).past (j:=0) (u:=.int .i64 0) M7.out.2).past (j:=1) (u:=.int .i64 0) (by simpa using M7.out.2.set 0 (.int .i64 0))).nodes)
     rw [Q6.out.2.1] at L7
     go_wp2_with fail
     obtain ⟨r0,r1⟩:=ZgK M7.out.2 (.int .i64 0) (.int .i64 0)
     exact bodyPost_ret (v:=.tuple #[.slice A6 rs6.length c6,.agg #[(.int .i64 0),(.int .i64 0)]]) (by simp [results,Tryz.results10,go_sem,so,r0,r1]) rfl ⟨_,rfl,L7.out,Zfq M7.out.1 _ _⟩
end
end Go.Proofs.YtkongcicmajolaaGreatDoor
