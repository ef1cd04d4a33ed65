import Derived.Test.YtkongcicmajolaaGreatDoorQAM
import Derived.Test.YtkongcicmajolaaGreatDoorQBG
set_option maxRecDepth 100000
set_option maxHeartbeats 8000000
namespace Go.Proofs.YtkongcicmajolaaGreatDoor
section
open Go.RowKit
theorem Zm8 {out:List Nd} {a j:Nat} {n:Int} (h:j≠a):(Zet out a n)[j]? = out[j]?:=by
 unfold Zet
 split
 ·rw [List.getElem?_set_ne (fun e=>h e.symm)]
 ·rfl
theorem Zmi {out:List Nd} {a:Nat} {n:Int} {x:Nd} (h:out[a]? = some x):(Zet out a n)[a]? = some ⟨x.kind,x.words,x.nums,x.kids++[n],x.pos⟩:=by
 unfold Zet
 rw [h]
 exact List.getElem?_set_self (List.getElem?_eq_some_iff.1 h).1
mutual
theorem ZhA:∀ (t:Tr) (out:List Nd) (j:Nat),j<out.length->(Zcj t out)[j]? = out[j]?
 | .mk k ws us p ks,out,j,hj=>by
  rw [Zcj,Zg1 ks out.length _ j (by rw [List.length_append];omega) (by omega),List.getElem?_append_left hj]
theorem Zg1:∀ (ts:List Tr) (a:Nat) (out:List Nd) (j:Nat),j<out.length->j≠a->(ZcE ts a out)[j]? = out[j]?
 | [],a,out,j,_,_=>by rw [ZcE]
 | t::r,a,out,j,hj,hne=>by
  rw [ZcE,Zg1 r a _ j (by rw [Zd1,ZdF];omega) hne,ZhA t _ j (by rw [ZdF];exact hj),Zm8 hne]
end
theorem ZmU:∀ ts:List Tr,ts.length<=Zaq ts
 | []=>Nat.zero_le _
 | t::r=>by
  have:=ZmU r
  have h1:1<=szT t:=by cases t;rw [szT];omega
  rw [Zaq,List.length_cons]
  omega
theorem ZqC {W:World} {Q:Nat->Prop} {x:NV} {t:Tr} (h:TrO W Q x t):∀ (w:World) (v:Value) (rs:List (NdV×Nd)),Below W.heap.size W w->LayS w W.heap.size v rs->rs.length+szT t<=1000000 ->
  Calls Tryz.prog 21 #[ZbQ (x,t),v] w fun e w'=>∃ (v':Value) (rs':List (NdV×Nd)),e=.returned v'/\LayS w' W.heap.size v' rs'/\rs'.map (·.2)=Zcj t (rs.map (·.2))/\Below W.heap.size W w'/\ZcQ w w':=by
 obtain ⟨iA,hA,zA0,zA1,zA2⟩:=info_parts Zsb
 obtain ⟨iK,hK7,zK0,zK1,zK2⟩:=info_parts Zsc
 induction h with
 | @mk Q wv uv lv k p ws us vs hw hm hu hl hq he ih=>
  intro w v rs hb hL hsz
  have S1:=Zbc hw
  have S2:=Zbc hu
  have S3:=Zby hl
  have S4:=Zby hL.own
  obtain ⟨A,n,c,rfl⟩:=S1
  obtain ⟨B,m,d,rfl⟩:=S2
  obtain ⟨C,e,rfl⟩:=S3
  obtain ⟨O,o,rfl⟩:=S4
  have hM:Zcj (.mk k ws us p (vs.map (·.2))) (rs.map (·.2))=ZcE (vs.map (·.2)) rs.length (rs.map (·.2)++[⟨k,ws,us,[],p⟩]):=by rw [Zcj,List.length_map]
  have hS:szT (.mk k ws us p (vs.map (·.2)))=Zaq (vs.map (·.2))+1:=by rw [szT]
  rw [hS] at hsz
  rw [hM]
  dsimp only [ZbQ,Tr.kd,Tr.ps]
  obtain ⟨R,hR⟩:∃ R,R=ZcE (vs.map (·.2)) rs.length (rs.map (·.2)++[⟨k,ws,us,[],p⟩]):=⟨_,rfl⟩
  rw [<- hR]
  have a1:=below_alloc1 w (.cells #[.int .i64 k,.slice A n c,.slice B m d,.slice none 0 0,.int .i64 p,.slice C vs.length e] 58)
  have T1:=Zh.start w #[.int .i64 k,.slice A n c,.slice B m d,.slice none 0 0,.int .i64 p,.slice C vs.length e] 58
  have L1:=hL.below a1
  have b1:=hb.trans (a1.mono hb.size)
  generalize hw1:w.alloc (.cells #[.int .i64 k,.slice A n c,.slice B m d,.slice none 0 0,.int .i64 p,.slice C vs.length e] 58)=w1 at *
  have z:=fun i=>T1.blk.cell i
  have z0:=z 0
  have z1:=z 1
  have z2:=z 2
  have z3:=z 3
  have z4:=z 4
  simp only [List.getElem?_toArray,List.getElem?_cons_zero,List.getElem?_cons_succ] at z0 z1 z2 z3 z4
  have a2:=below_alloc1 w1 (.cells #[.int .i64 k,.slice A n c,.slice B m d,.slice none 0 0,.int .i64 p] 37)
  have L2:=zh (L1.below a2)
  have RD:=zh (ZnR w1 (.int .i64 k) (.slice A n c) (.slice B m d) (.slice none 0 0) (.int .i64 p) 37)
  have b2:=b1.trans (a2.mono b1.size)
  generalize hw2:w1.alloc (.cells #[.int .i64 k,.slice A n c,.slice B m d,.slice none 0 0,.int .i64 p] 37)=w2 at *
  have lenC:vs.length<=maxLen:=by
   rcases hl.2 with ⟨_,q⟩ | ⟨_,cap,_,q,_,_,h3,h4,_⟩
   ·omega
   ·injection q with _ q2 q3;omega
  have HH:=zh (zi hl (zi he (zi ih (zi lenC (zi hsz hm)))))
  have HO:=zh (zi hw hu)
  have HB:=zh (zi b2 ((ZcQ.of_below a1).trans (ZcQ.of_below a2)))
  have HT:=zh (T1.keep a2)
  have HR:=zh hR
  have HE:=zh (show Below W.heap.size W w2 from b2)
  clear z T1 a1 a2 L1 b1 b2 hw hm hu hl hq he ih hb hL hsz hM hS hR lenC
  go_enter Tryz.func21,Tryz.ntmps21
  go_upto_region 3 with (at_builtin;(refine ZaN _ rfl _ _ 22 rfl W.heap.size 37 iA (.agg #[.int .i64 0,.slice none 0 0,.slice none 0 0,.slice none 0 0,.int .i64 0]) 5 88 Tryz.underlying22 hA zA0 zA1 zA2 rfl (by decide) (.slice O rs.length o) _ _ rfl L2.out.own _ _ 1 1 [.int .i64 k,.slice A n c,.slice B m d,.slice none 0 0,.int .i64 p] rfl RD.out (Zqr _ _ _ _ _ _ _ _ _ _ _) (by have:=HH.out.2.2.2.2.1;unfold maxLen;omega) (by have:=HH.out.2.2.2.2.1;omega) HE.out.size ?_);intro v3 w3 hown hgrow _;have G3:=zh (zi hown hgrow);clear hown hgrow)
  have hwx:w2.ownsRow 0 9 1 (.slice A n c) ws.length (ws.map txt)/\w2.ownsRow 0 2 1 (.slice B m d) us.length (us.map (Value.int .i64))/\∀ y∈ws,y.length<=maxLen:=
   ⟨ZcG HO.out.1 (HE.out),ZcG HO.out.2 (HE.out),HH.out.2.2.2.2.2⟩
  have L3:=L2.out.push (x:=((.slice A n c,.slice B m d,.slice none 0 0),⟨k,ws,us,[],p⟩)) hwx ⟨rfl,rfl⟩ G3.out.1 G3.out.2
  have F3:=Zit L3.own (by simp)
  obtain ⟨g3,c3,cs3,rfl,_,_⟩:=F3
  have HL3:=zh (zi L3 (zi (HE.out.grown G3.out.2 HE.out.size (fun q hq=>(L2.out.own.lt q hq).1)) (ZcQ.row L2.out.own (.inl rfl) G3.out.2)))
  clear hwx L3 z0 z1 z2 z3 z4
  go_upto_region 4 with fail
  go_loopg [1,6] vs.length (fun g v1 v6 wr=>∃ (i:Nat) (rs2:List (NdV×Nd)),v6=.int .i64 i/\i<=vs.length/\g=vs.length-i/\LayS wr W.heap.size v1 rs2/\R=ZcE ((vs.map (·.2)).drop i) rs.length (rs2.map (·.2))/\Below W.heap.size W wr/\ZcQ w2 wr/\rs.length<rs2.length/\rs2.length+Zaq ((vs.map (·.2)).drop i)<=1000000/\∃ nq:Nd,(rs2.map (·.2))[rs.length]? = some nq/\nq.kids.length=i)
  case atStart=>
   refine ⟨0,rs++[((.slice A n c,.slice B m d,.slice none 0 0),⟨k,ws,us,[],p⟩)],rfl,Nat.zero_le _,rfl,?_,?_,HL3.out.2.1,HL3.out.2.2,by simp,?_,⟨k,ws,us,[],p⟩,by simp,rfl⟩
   ·have q:=HL3.out.1
    rw [List.length_append] at q
    exact q
   ·rw [HR.out,List.map_append];rfl
   ·have:=HH.out.2.2.2.2.1
    rw [List.length_append]
    simp only [List.drop_zero,List.length_cons,List.length_nil]
    omega
  case round=>
   obtain ⟨i,rs2,rfl,hi,hg,hLr,hr,hbr,hkr,hrl,hsz,nq,hnq,hnk⟩:=hrel
   have F4:=Zit hLr.own (by omega)
   obtain ⟨g,c,cs,rfl,hT,hgB⟩:=F4
   have TB:=hkr.2 _ _ _ HT.out (by decide) (by decide)
   have y5:wr.cell? ⟨w.heap.size,5,none⟩=some (.slice C vs.length e):=TB.blk.cell 5
   by_cases hlt:i<vs.length
   ·obtain ⟨y,hy⟩:∃ y,vs[i]? = some y:=⟨_,List.getElem?_eq_getElem hlt⟩
    have hd:(vs.map (·.2)).drop i=y.2::(vs.map (·.2)).drop (i+1):=List.drop_eq_getElem?_toList_append.trans (by rw [List.getElem?_map,hy];rfl)
    rw [hd,ZcE,List.length_map] at hr
    rw [hd,Zaq] at hsz
    obtain ⟨x2,hx2⟩:∃ x2,rs2[rs.length]? = some x2:=⟨_,List.getElem?_eq_getElem hrl⟩
    have k0:=hLr.own.cells (g:=g) rfl (rs.length*5+3) x2.1.2.2 (Ze0 rs2 rs.length x2 hx2).2.2.2.1
    rw [Addr.add_lit,Nat.zero_add] at k0
    have SK:=Zbc (hLr.each _ _ hx2).2.2.1
    have HX:=zh (zi hx2 (hLr.each _ _ hx2).2.2.1)
    obtain ⟨⟨xw,xu,xk⟩,nd⟩:=x2
    dsimp only at k0 SK
    obtain ⟨KA,kn,kc,rfl⟩:=SK
    have hmem:=List.mem_of_getElem? hy
    have i0:(0:Int)<=(i:Int):=by omega
    have i1:(i:Int)<(vs.length:Int):=by omega
    have r0:(0:Int)<=(rs.length:Int):=by omega
    have r1:(rs.length:Int)<(rs2.length:Int):=by omega
    have wi:IntKind.i64.wrap ((i:Int)+1)=((i+1:Nat):Int):=by push_cast;exact IntWalk.i64_in _ (by have:=HH.out.2.2.2.1;unfold maxLen at this;omega)
    have a4:=below_alloc1 wr (.cells #[.int .i64 (rs2.length:Int)] 3)
    have L4:=zh (hLr.below a4)
    have RD4:=zh (Zdp wr (.int .i64 (rs2.length:Int)) 3)
    have HX4:=zh (ZcG HX.out.2 a4)
    have B4:=zh (zi (hbr.trans (a4.mono hbr.size)) (ZcQ.of_below a4))
    generalize hw4:wr.alloc (.cells #[.int .i64 (rs2.length:Int)] 3)=w4 at *
    have HK:=zh (zi hlt (zi hg (zi hr (zi hkr (zi hrl (zi hsz (zi hy (zi hmem hgB))))))))
    have kidl:nd.kids.length<=maxLen:=by
     rcases HX.out.2.2 with ⟨_,q⟩ | ⟨_,cap,_,q,_,_,h3,h4,_⟩
     ·dsimp only at q;omega
     ·dsimp only at h3 q;omega
    have knd:nd.kids.length=i:=by
     rw [List.getElem?_map,hx2] at hnq
     injection hnq with hnq
     dsimp only at hnq
     rw [hnq];exact hnk
    have vl:vs.length<=1000000:=by
     have:=ZmU (vs.map (·.2))
     have:=HH.out.2.2.2.2.1
     rw [List.length_map] at *
     omega
    have kb:(nd.kids.length+1)*8<=140737488355328:=by omega
    have HN:=zh knd
    clear hlt hi hg hr hkr hrl hsz hy hd hmem hgB hLr hbr hT TB a4 hnq hnk knd vl nq hx2
    go_upto_region 7 with (at_builtin;(refine ZaN _ rfl _ _ 35 rfl W.heap.size 3 iK (.int .i64 0) 1 8 Tryz.underlying35 hK7 zK0 zK1 zK2 rfl (by decide) (.slice KA kn kc) _ _ rfl HX4.out _ _ 1 1 [.int .i64 (rs2.length:Int)] rfl RD4.out (Zq1 _) (by have:=kb;unfold maxLen;dsimp only;omega) (by dsimp only;exact kb) B4.out.1.size ?_);intro vq w5 hown hgrow hor;have OS:=Zbc hown;obtain ⟨A5,n5,c5,rfl⟩:=OS;have K5:=zh (L4.out.kid HX.out.1 hown hgrow hor);have B5:=zh (B4.out.1.grown hgrow B4.out.1.size (fun q hq=>(HX4.out.lt q hq).1));clear hown hgrow hor;have k1:=K5.out.1;have k2:=K5.out.2.1;dsimp only at k1)
    clear k0 k1 k2 kb kidl
    have N6:=zh K5.out.2.2.1
    have Q6:=zh (K5.out.2.2.2)
    have B6:=zh (B5.out.setCell (p:=⟨g,rs.length*5+3,none⟩) HK.out.2.2.2.2.2.2.2.2 (.slice A5 n5 c5))
    clear K5 B5
    generalize w5.setCell ⟨g,rs.length*5+3,none⟩ (.slice A5 n5 c5)=w6 at *
    have K6:=zh ((HK.out.2.2.2.1.trans B4.out.2).trans Q6.out)
    have y6:w6.cell? ⟨w.heap.size,5,none⟩=some (.slice C vs.length e):=(K6.out.2 _ _ _ HT.out (by decide) (by decide)).blk.cell 5
    obtain ⟨g7,e7,hC,c0,c1,c2,c3,c4,c5'⟩:=ZmC HH.out.1 B6.out HK.out.2.2.2.2.2.2.1
    injection hC with hC1 _ hC2
    subst hC1 hC2
    have SY:=(HH.out.2.1 y HK.out.2.2.2.2.2.2.2.1).shape2
    have hsz':=HK.out.2.2.2.2.2.1
    have CT:=zh (HH.out.2.2.1 y HK.out.2.2.2.2.2.2.2.1 w6 _ _ B6.out N6.out (by rw [List.length_set];omega))
    have MP:=zh (ZpQ (kv:=.slice A5 n5 c5) (n:=(rs2.length:Int)) HX.out.1)
    clear y5 hsz'
    obtain ⟨⟨y1,y2,y3⟩,yt⟩:=y
    dsimp only at c0 c1 c2 c3 c4 c5' SY CT
    obtain ⟨yA,yn,yc,yB,ym,yd,yC,yq,ye,hyy⟩:=SY
    injection hyy with q1 q2
    injection q2 with q2 q3
    subst q1 q2 q3
    go_wp2_with (go_at_call 21;(refine CT.out.mono ?_);rintro e w7 ⟨v7,rs7,rfl,hL7,hm7,hb7,hk7⟩;have H7:=zh (zi hL7 (zi hm7 (zi hb7 hk7)));clear hL7 hm7 hb7 hk7)
    go_roundg (vs.length-(i+1))
    case measure=>have:=HK.out.1;have:=HK.out.2.1;omega
    case rel=>
     have len7:rs7.length=rs2.length+szT yt:=by
      have:=congrArg List.length H7.out.2.1
      rw [List.length_map,Zd1,MP.out,ZdF,List.length_map] at this
      exact this
     refine ⟨i+1,rs7,by push_cast;rfl,HK.out.1,rfl,H7.out.1,?_,H7.out.2.2.1,K6.out.trans H7.out.2.2.2,?_,?_,?_⟩
     ·rw [HK.out.2.2.1,H7.out.2.1,MP.out]
     ·rw [len7];have:=HK.out.2.2.2.2.1;omega
     ·rw [len7];have:=HK.out.2.2.2.2.2.1;omega
     ·have hx:=HX.out.1
      have hm:(rs2.map (·.2))[rs.length]? = some nd:=by rw [List.getElem?_map,hx];rfl
      rw [H7.out.2.1,MP.out,ZhA _ _ _ (by rw [ZdF,List.length_map];exact HK.out.2.2.2.2.1),Zmi hm]
      exact ⟨_,rfl,by simp [HN.out]⟩
   ·obtain rfl:i=vs.length:=by omega
    rw [List.drop_of_length_le (by simp),ZcE] at hr
    have HQ:=zh (zi hr (zi hLr (zi hbr hkr)))
    clear hr hLr hbr hkr hlt hi hg hnq hnk hsz hrl hT TB
    go_wp2_with fail
    go_ret
    exact ⟨_,rfl,_,HQ.out.2.1,HQ.out.1.symm,HQ.out.2.2.1,HB.out.2.trans HQ.out.2.2.2⟩
end
section
open Go.RowKit
def Zbf:List Tr->Nat->List Int
 | [],_=>[]
 | t::r,b=>(b:Int)::Zbf r (b+szT t)
mutual
def Zcb:Tr->Nat->List Nd
 | .mk k ws us p ks,a=>⟨k,ws,us,Zbf ks (a+1),p⟩::Zch ks (a+1)
def Zch:List Tr->Nat->List Nd
 | [],_=>[]
 | t::r,b=>Zcb t b++Zch r (b+szT t)
end
mutual
theorem Zdw:∀ (t:Tr) (a:Nat),(Zcb t a).length=szT t
 | .mk k ws us p ks,a=>by rw [Zcb,List.length_cons,Zkf,szT]
theorem Zkf:∀ (ts:List Tr) (a:Nat),(Zch ts a).length=Zaq ts
 | [],a=>by rw [Zch,Zaq];rfl
 | t::r,a=>by rw [Zch,List.length_append,Zdw,Zkf,Zaq]
end
theorem ZpR (o1 o2:List Nd) (x:Nd) (n:Int):Zet (o1++x::o2) o1.length n=o1++⟨x.kind,x.words,x.nums,x.kids++[n],x.pos⟩::o2:=by
 have h:(o1++x::o2)[o1.length]? = some x:=by simp
 unfold Zet
 rw [h]
 simp
mutual
theorem Zk3:∀ (t:Tr) (out:List Nd),Zcj t out=out++Zcb t out.length
 | .mk k ws us p ks,out=>by
  have h:=ZjT ks out ⟨k,ws,us,[],p⟩ []
  rw [Zcj,Zcb]
  rw [h]
  simp
theorem ZjT:∀ (ts:List Tr) (o1:List Nd) (x:Nd) (o2:List Nd),ZcE ts o1.length (o1++x::o2)=o1++⟨x.kind,x.words,x.nums,x.kids++Zbf ts (o1.length+1+o2.length),x.pos⟩::o2++Zch ts (o1.length+1+o2.length)
 | [],o1,x,o2=>by rw [ZcE,Zbf,Zch];simp
 | t::r,o1,x,o2=>by
  have e:(o1++x::o2).length=o1.length+1+o2.length:=by simp;omega
  rw [ZcE,ZpR,Zk3 t,e]
  have e2:(o1++(⟨x.kind,x.words,x.nums,x.kids++[((o1.length+1+o2.length:Nat):Int)],x.pos⟩:Nd)::o2).length=o1.length+1+o2.length:=by simp;omega
  rw [e2,List.append_assoc,List.cons_append,ZjT r o1 _ (o2++Zcb t (o1.length+1+o2.length))]
  have e3:o1.length+1+(o2++Zcb t (o1.length+1+o2.length)).length=o1.length+1+o2.length+szT t:=by rw [List.length_append,Zdw];omega
  rw [e3,Zbf,Zch]
  simp
end
theorem ZmD (t:Tr):Zcj t []=Zcb t 0:=by rw [Zk3];rfl
theorem Zrh (a b:List Nd) (k:Int):ZeU (a++b) k=ZeU a k+ZeU b k:=by unfold ZeU;rw [List.map_append,List.sum_append]
theorem ZpX (d:Nd) (b:List Nd) (k:Int):ZeU (d::b) k=d.kids.count k+ZeU b k:=by unfold ZeU;rw [List.map_cons,List.sum_cons]
theorem ZjK (t:Tr):0<szT t:=by cases t;rw [szT];omega
mutual
theorem Zlp:∀ (t:Tr) (a k:Nat),ZeU (Zcb t a) (k:Int)=if a<k/\k<a+szT t then 1 else 0
 | .mk kd ws us p ks,a,k=>by
  rw [Zcb,ZpX,Zke ks (a+1) k,szT]
  by_cases h:a+1<=k/\k<a+1+Zaq ks
  ·rw [if_pos h,if_pos (by omega)]
  ·rw [if_neg h,if_neg (by omega)]
theorem Zke:∀ (ts:List Tr) (b k:Nat),(Zbf ts b).count (k:Int)+ZeU (Zch ts b) (k:Int)=if b<=k/\k<b+Zaq ts then 1 else 0
 | [],b,k=>by rw [Zbf,Zch,Zaq,if_neg (by omega)];rfl
 | t::r,b,k=>by
  have i1:=Zlp t b k
  have i2:=Zke r (b+szT t) k
  have hp:=ZjK t
  rw [Zbf,Zch,Zrh,List.count_cons,Zaq]
  have e:((b:Int)==(k:Int))=decide (b=k):=by
   by_cases h:b=k
   ·subst h;simp
   ·rw [decide_eq_false h];rw [beq_eq_false_iff_ne];omega
  rw [e]
  simp only [decide_eq_true_eq]
  split at i1<;>split at i2<;>(repeat' split)<;>omega
end
theorem Zj4:∀ (ts:List Tr) (b:Nat) (k:Int),k∈Zbf ts b->(b:Int)<=k/\k<((b+Zaq ts:Nat):Int)
 | [],b,k,h=>by rw [Zbf] at h;simp at h
 | t::r,b,k,h=>by
  have hp:=ZjK t
  rw [Zbf] at h
  rw [Zaq]
  rcases List.mem_cons.1 h with rfl | h
  ·omega
  ·have:=Zj4 r _ k h
   omega
mutual
theorem Zkd:∀ (t:Tr) (a i:Nat) (d:Nd),(Zcb t a)[i]? = some d->∀ k∈d.kids,((a+i:Nat):Int)<k/\k<((a+szT t:Nat):Int)
 | .mk kd ws us p ks,a,i,d,h,k,hk=>by
  rw [Zcb] at h
  rw [szT]
  cases i with
  | zero=>
   injection h with h
   subst h
   have:=Zj4 ks (a+1) k hk
   omega
  | succ i=>
   have:=Zjh ks (a+1) i d h k hk
   omega
theorem Zjh:∀ (ts:List Tr) (b i:Nat) (d:Nd),(Zch ts b)[i]? = some d->∀ k∈d.kids,((b+i:Nat):Int)<k/\k<((b+Zaq ts:Nat):Int)
 | [],b,i,d,h,k,hk=>by rw [Zch] at h;simp at h
 | t::r,b,i,d,h,k,hk=>by
  rw [Zch] at h
  rw [Zaq]
  rcases Nat.lt_or_ge i (Zcb t b).length with q | q
  ·rw [List.getElem?_append_left q] at h
   have:=Zkd t b i d h k hk
   omega
  ·rw [List.getElem?_append_right q] at h
   have:=Zjh r (b+szT t) _ d h k hk
   rw [Zdw] at *
   omega
end
theorem Zn1 (t:Tr):ZhV (Zcb t 0):=by
 have hp:=ZjK t
 refine ⟨by rw [Zdw];exact hp,fun i d hd=>⟨?_,fun k hk=>?_⟩⟩
 ·have hi:=(List.getElem?_eq_some_iff.1 hd).1
  rw [Zdw] at hi
  rw [Zlp]
  by_cases h:i=0
  ·rw [if_neg (by omega),if_pos h]
  ·rw [if_pos (by omega),if_neg h]
 ·have:=Zkd t 0 i d hd k hk
  rw [Zdw]
  omega
def Zex (us:List Int) (k:Nat):Int:=(us[k]?).getD 0
def whL:List Int->Int
 | []=>-1
 | x::_=>x
def Zbt (ws:List Txt) (us:List Int) (w m:Nat):Bool:=decide (ws.length=w)&&decide (us.length=m)
def Zbs:List Int->List (Int->Bool)->Bool
 | [],[]=>true
 | k::r,f::g=>f k&&Zbs r g
 | _,_=>false
def ZhK:List Int->Bool
 | []=>true
 | [_]=>true
 | a::b::r=>decide (a<b)&&ZhK (b::r)
def Zf4 (us:List Int):Bool:=decide (1<=Zex us 1)&&decide (1<=Zex us 2)
def ZeV (us ks wh:List Int):Bool:=decide (Zex us 0<=4)&&((Zex us 1==0&&Zex us 2==0)||Zf4 us)&&ks.all (isB [6])&&ZhK wh
def ZhG (us ks wh:List Int):Bool:=!(Zex us 0==0)&&decide (Zex us 0<=4)&&Zf4 us&&(Zbs ks [isB [7]]||Zbs ks [isB [6],isB [7]]&&(wh[0]?).getD (-1)==2)
def Zbe (kd:Int) (ws:List Txt) (us ks wh:List Int):Bool:=
 if kd=0 then Zbt ws us 0 0&&ks.all (isB [1,4])
 else if kd=1 then Zbt ws us 1 0&&ks.all (isB [2,3])
 else if kd=2 then Zbt ws us 1 1&&decide (Zex us 0<=1)&&Zbs ks []
 else if kd=3 then decide (4<=ws.length)&&decide (ws.length % 2=0)&&Zbt ws us ws.length 0&&Zbs ks []
 else if kd=4 then Zbt ws us 1 0&&(ks.take (ks.length-1)).all (isB [5])&&Zbs (ks.drop (ks.length-1)) [isB [7]]
 else if kd=5 then Zbt ws us 1 0&&Zbs ks []||Zbt ws us 2 3&&ZeV us ks wh
 else if kd=6 then decide (1<=ws.length)&&Zbt ws us ws.length 1&&decide (Zex us 0<=2)&&Zbs ks []
 else if kd=7 then Zbt ws us 0 0&&ks.all ZcL
 else if kd=8\/kd=9 then Zbt ws us 1 0&&Zbs ks [Zat]
 else if kd=10 then Zbt ws us 2 0&&Zbs ks [isB [7],isB [7]]
 else if kd=11 then Zbt ws us 2 0&&ks.all (isB [12])
 else if kd=12 then Zbt ws us 1 0&&Zbs ks [isB [7]]
 else if kd=13 then Zbt ws us 2 3&&ZhG us ks wh
 else if kd=14 then (Zbt ws us 1 0||Zbt ws us 2 0)&&ks.all Zef
 else if kd=15\/kd=21 then Zbt ws us 1 0&&Zbs ks []
 else if kd=16 then Zbt ws us 0 0&&(Zbs ks [Zat,isB [7]]||Zbs ks [Zat,isB [7],isB [7]])
 else if kd=17 then Zbt ws us 0 0&&Zbs ks [Zat,isB [7]]
 else if kd=18\/kd=23 then Zbt ws us 0 0&&Zbs ks [Zat]
 else if kd=19 then Zbt ws us 0 0&&Zbs ks []
 else if kd=20 then Zbt ws us 0 1&&Zbs ks []
 else if kd=22 then Zbt ws us 0 1&&decide (Zex us 0<=5)&&Zbs ks [Zat,Zat]
 else false
theorem Zkz (ns:List Nd) (ks:List Int) (f:Int->Bool):ZbM ns ks f=(ks.map (ZJ ns)).all f:=by unfold ZbM;rw [List.all_map];rfl
theorem ZgN (ns:List Nd):∀ (ks:List Int) (fs:List (Int->Bool)),Zp ns ks fs=Zbs (ks.map (ZJ ns)) fs
 | [],[]=>rfl
 | [],_::_=>rfl
 | _::_,[]=>rfl
 | k::r,f::g=>by rw [Zp,List.map_cons,Zbs,ZgN ns r g]
theorem Zka (ns:List Nd):∀ (ks:List Int),Zbm ns ks=ZhK (ks.map (ZaD ns))
 | []=>rfl
 | [_]=>rfl
 | a::b::r=>by
  have:=Zka ns (b::r)
  rw [Zbm,this]
  rfl
theorem Zqv (ns:List Nd) (n:Nd):Zer ns n=ZhG n.nums (n.kids.map (ZJ ns)) (n.kids.map (ZaD ns)):=by
 unfold Zer ZhG ZdY Zf4
 rw [ZgN,ZgN]
 cases n.kids with
 | nil=>rfl
 | cons a r=>rfl
theorem ZkH (ns:List Nd) (n:Nd):ZcK ns n=ZeV n.nums (n.kids.map (ZJ ns)) (n.kids.map (ZaD ns)):=by
 unfold ZcK ZeV ZdY Zf4
 rw [Zkz,Zka]
 rfl
theorem Znv (ns:List Nd) (n:Nd):Zn ns n=Zbe n.kind n.words n.nums (n.kids.map (ZJ ns)) (n.kids.map (ZaD ns)):=by
 unfold Zn Zbe
 simp only [Zkz,ZgN,Zqv,ZkH,List.map_take,List.map_drop,List.length_map]
 rfl
def Tr.wh:Tr->Int
 | .mk _ _ us _ _=>whL us
mutual
def VT:Tr->Prop
 | .mk k ws us p ks=>0<=p/\(ZcF ws=true/\ws.length<=20000)/\ZbW us=true/\Zbe k ws us (ks.map Tr.kd) (ks.map Tr.wh)=true/\VTs ks
def VTs:List Tr->Prop
 | []=>True
 | t::r=>VT t/\VTs r
end
theorem Zm4:∀ {ts:List Tr},VTs ts->∀ t∈ts,VT t
 | [],_,t,h=>by simp at h
 | u::r,hv,t,h=>by
  rw [VTs] at hv
  rcases List.mem_cons.1 h with rfl | h
  ·exact hv.1
  ·exact Zm4 hv.2 t h
theorem Ze4:∀ {ts:List Tr},(∀ t∈ts,VT t)->VTs ts
 | [],_=>by rw [VTs];trivial
 | u::r,h=>by
  rw [VTs]
  exact ⟨h u List.mem_cons_self,Ze4 fun t ht=>h t (List.mem_cons_of_mem _ ht)⟩
theorem Zlq (t:Tr) (a:Nat):∃ (d:Nd) (r:List Nd),Zcb t a=d::r/\d.kind=t.kd/\whL d.nums=t.wh:=by
 cases t with
 | mk k ws us p ks=>exact ⟨_,_,Zcb.eq_1 _ _ _ _ _ _,rfl,rfl⟩
theorem ZqV (ns:List Nd) (k:Int):ZaD ns k=whL (Za ns k).nums:=by
 unfold ZaD whL
 cases (Za ns k).nums<;>rfl
theorem Zi3 {ms:List Nd}:∀ (ts:List Tr) (pre post:List Nd),ms=pre++(Zch ts pre.length++post)->(Zbf ts pre.length).map (ZJ ms)=ts.map Tr.kd/\(Zbf ts pre.length).map (ZaD ms)=ts.map Tr.wh
 | [],pre,post,_=>⟨rfl,rfl⟩
 | t::r,pre,post,h=>by
  rw [Zch,List.append_assoc] at h
  obtain ⟨d,q,e,e1,e2⟩:=Zlq t pre.length
  have at_:Za ms (pre.length:Int)=d:=by
   rw [h,e]
   unfold Za
   simp
  have hl:(pre++Zcb t pre.length).length=pre.length+szT t:=by rw [List.length_append,Zdw]
  have ih:=Zi3 (ms:=ms) r (pre++Zcb t pre.length) post (by rw [hl,List.append_assoc];exact h)
  rw [hl] at ih
  rw [Zbf,List.map_cons,List.map_cons,List.map_cons,List.map_cons,ih.1,ih.2,ZqV]
  unfold ZJ
  rw [at_,e1,e2]
  exact ⟨rfl,rfl⟩
mutual
theorem Zjf {ms:List Nd}:∀ (t:Tr) (pre post:List Nd),ms=pre++(Zcb t pre.length++post)->VT t->∀ d∈Zcb t pre.length,Zc5 ms d=true
 | .mk k ws us p ks,pre,post,h,hv,d,hd=>by
  rw [VT] at hv
  rw [Zcb] at hd h
  have hl:(pre++[(⟨k,ws,us,Zbf ks (pre.length+1),p⟩:Nd)]).length=pre.length+1:=by simp
  have h':ms=(pre++[(⟨k,ws,us,Zbf ks (pre.length+1),p⟩:Nd)])++(Zch ks (pre.length+1)++post):=by rw [h];simp
  rcases List.mem_cons.1 hd with rfl | hd
  ·have:=Zi3 (ms:=ms) ks (pre++[⟨k,ws,us,Zbf ks (pre.length+1),p⟩]) post (by rw [hl];exact h')
   rw [hl] at this
   unfold Zc5
   rw [Znv]
   dsimp only
   rw [this.1,this.2,hv.2.1.1,hv.2.2.1,hv.2.2.2.1]
   rfl
  ·have:=Zh6 (ms:=ms) ks (pre++[⟨k,ws,us,Zbf ks (pre.length+1),p⟩]) post (by rw [hl];exact h') hv.2.2.2.2 d
   rw [hl] at this
   exact this hd
theorem Zh6 {ms:List Nd}:∀ (ts:List Tr) (pre post:List Nd),ms=pre++(Zch ts pre.length++post)->VTs ts->∀ d∈Zch ts pre.length,Zc5 ms d=true
 | [],pre,post,h,hv,d,hd=>by rw [Zch] at hd;simp at hd
 | t::r,pre,post,h,hv,d,hd=>by
  rw [VTs] at hv
  rw [Zch] at hd h
  rw [List.append_assoc] at h
  rcases List.mem_append.1 hd with hd | hd
  ·exact Zjf t pre _ h hv.1 d hd
  ·have hl:(pre++Zcb t pre.length).length=pre.length+szT t:=by rw [List.length_append,Zdw]
   have:=Zh6 (ms:=ms) r (pre++Zcb t pre.length) post (by rw [hl,List.append_assoc];exact h) hv.2 d
   rw [hl] at this
   exact this hd
end
mutual
theorem Zjg:∀ (t:Tr) (a:Nat),VT t->∀ d∈Zcb t a,d.words.length<=20000
 | .mk k ws us p ks,a,hv,d,hd=>by
  rw [VT] at hv
  rw [Zcb] at hd
  rcases List.mem_cons.1 hd with rfl | hd
  ·exact hv.2.1.2
  ·exact Zh7 ks _ hv.2.2.2.2 d hd
theorem Zh7:∀ (ts:List Tr) (a:Nat),VTs ts->∀ d∈Zch ts a,d.words.length<=20000
 | [],a,_,d,hd=>by rw [Zch] at hd;simp at hd
 | t::r,a,hv,d,hd=>by
  rw [VTs] at hv
  rw [Zch] at hd
  rcases List.mem_append.1 hd with hd | hd
  ·exact Zjg t _ hv.1 d hd
  ·exact Zh7 r _ hv.2 d hd
end
theorem ZiI:∀ (ts:List Tr) (a:Int),¬ 0<=ZdQ ts a->∀ t∈ts,¬ 0<=ZbK t a
 | [],_,_,t,h=>by simp at h
 | u::r,a,hd,t,h=>by
  rw [ZdQ] at hd
  by_cases q:0<=ZbK u a
  ·rw [if_pos q] at hd;exact absurd q hd
  ·rw [if_neg q] at hd
   rcases List.mem_cons.1 h with rfl | h
   ·exact q
   ·exact ZiI r a hd t h
theorem Zj3 {ms:List Nd}:∀ (ts:List Tr) (pre post:List Nd) (k:Int),ms=pre++(Zch ts pre.length++post)->k∈Zbf ts pre.length->∃ (t:Tr) (pre2 post2:List Nd),t∈ts/\k=(pre2.length:Int)/\ms=pre2++(Zcb t pre2.length++post2)
 | [],pre,post,k,h,hk=>by rw [Zbf] at hk;simp at hk
 | t::r,pre,post,k,h,hk=>by
  rw [Zch,List.append_assoc] at h
  rw [Zbf] at hk
  rcases List.mem_cons.1 hk with rfl | hk
  ·exact ⟨t,pre,_,List.mem_cons_self,rfl,h⟩
  ·have hl:(pre++Zcb t pre.length).length=pre.length+szT t:=by rw [List.length_append,Zdw]
   obtain ⟨u,p2,q2,h1,h2,h3⟩:=Zj3 (ms:=ms) r (pre++Zcb t pre.length) post k (by rw [hl,List.append_assoc];exact h) (by rw [hl];exact hk)
   exact ⟨u,p2,q2,List.mem_cons_of_mem _ h1,h2,h3⟩
theorem Zpr {ms:List Nd}:∀ (f:Nat) (t:Tr) (e:Int) (pre post:List Nd),ms=pre++(Zcb t pre.length++post)->VT t->¬ 0<=ZbK t e->e+htF ms f (pre.length:Int)<=25
 | 0,.mk k ws us p ks,e,pre,post,h,hv,hd=>by
  rw [VT] at hv
  rw [ZbK] at hd
  rw [htF]
  split at hd<;>omega
 | f+1,.mk k ws us p ks,e,pre,post,h,hv,hd=>by
  rw [VT] at hv
  rw [ZbK] at hd
  have he:¬ 24<e:=fun q=>by rw [if_pos q] at hd;omega
  rw [if_neg he] at hd
  rw [Zcb] at h
  have hl:(pre++[(⟨k,ws,us,Zbf ks (pre.length+1),p⟩:Nd)]).length=pre.length+1:=by simp
  have h':ms=(pre++[(⟨k,ws,us,Zbf ks (pre.length+1),p⟩:Nd)])++(Zch ks (pre.length+1)++post):=by rw [h];simp
  have at_:Za ms (pre.length:Int)=⟨k,ws,us,Zbf ks (pre.length+1),p⟩:=by
   rw [h]
   unfold Za
   simp
  rw [htF,at_]
  have:=Zil ((Zbf ks (pre.length+1)).map (htF ms f)) 0 (24-e) (by omega) fun x hx=>by
   obtain ⟨c,hc,rfl⟩:=List.mem_map.1 hx
   obtain ⟨u,p2,q2,h1,h2,h3⟩:=Zj3 (ms:=ms) ks (pre++[⟨k,ws,us,Zbf ks (pre.length+1),p⟩]) post c (by rw [hl];exact h') (by rw [hl];exact hc)
   have:=Zpr f u (e+1) p2 q2 h3 (Zm4 hv.2.2.2.2 u h1) (ZiI ks _ hd u h1)
   rw [h2]
   omega
  show e+(Zk9 ((Zbf ks (pre.length+1)).map (htF ms f))+1)<=25
  unfold Zk9
  omega
theorem Zks {t:Tr} (hv:VT t) (h0:t.kd=0) (hs:szT t<=1500) (hd:¬ 0<=ZbK t 1):Zcw (Zcj t [])=true:=by
 rw [ZmD]
 have e:Zcb t 0=([]:List Nd)++(Zcb t ([]:List Nd).length++[]):=by simp
 refine ZqB (Zn1 t) (by rw [Zdw];exact hs) ?_ ?_ ?_
 ·obtain ⟨d,r,e1,e2,_⟩:=Zlq t 0
  unfold ZJ
  rw [e1]
  show d.kind=0
  rw [e2,h0]
 ·have:=Zpr (ms:=Zcb t 0) (Zcb t 0).length t 1 [] [] e hv hd
  have q:(([]:List Nd).length:Int)=0:=rfl
  rw [q] at this
  omega
 ·exact Zjf (ms:=Zcb t 0) t [] [] e hv
end
end Go.Proofs.YtkongcicmajolaaGreatDoor
