import Derived.Test.YtaacbenikcbibabGreatDoorQBX
set_option maxRecDepth 100000
set_option maxHeartbeats 8000000
namespace Go.Proofs.YtaacbenikcbibabGreatDoor
section
open Go.RowKit
theorem ZfR {nm:List UInt8} {j:Nat} {rs:List (NdV×Nd)} (h:rs.map (·.2)=twN nm j):∃ x rt,rs=x::rt/\x.2=ZB (twN nm j) 0/\rs.length=1+2*j:=by
 have hl:=congrArg List.length h
 rw [List.length_map,ZcI] at hl
 cases rs with
 | nil=>simp at hl;omega
 | cons x rt=>
  refine ⟨x,rt,rfl,?_,hl⟩
  rw [<- h]
  rfl
theorem ZdJ (nm:List UInt8):∀ j,(ZB (twN nm j) 0).kids.length=j
 | 0=>rfl
 | j+1=>by
  have h:=ZdJ nm j
  have hl:=ZcI nm j
  unfold twN
  cases q:twN nm j with
  | nil=>rw [q] at hl;simp at hl;omega
  | cons x r=>
   rw [q] at h
   simp only [List.set_cons_zero,List.cons_append,ZB] at h ⊢
   simp_all
theorem Zfc (w:World) (ht:Zad w 0 Zh) (nv:Int) (k:Nat) (hk:k<9) (hm:nv % 9=(k:Int)) (hn:0<=nv/\nv<256) :
  Calls Tryz.prog 3 #[.int .u8 nv,.bool true] w fun e w'=>e=.returned (.bool true)/\Below w.heap.size w w':=by
 have AW:=Lib.hid (ZfC w ht)
 have HT:=Lib.hid ht
 have wn:IntKind.i64.wrap nv=nv:=IntWalk.i64_in _ (by omega)
 clear ht
 go_enter Tryz.func3,Tryz.ntmps3
 go_upto_region 3 with (go_at_call 4;(refine AW.out.mono ?_);rintro e w1 ⟨rfl,hb1⟩;have H1:=Lib.hid hb1;clear hb1)
 go_upto_region 9 with fail
 have HK:=Lib.hid (And.intro hk (And.intro hm hn))
 clear AW wn hk hm hn
 have R0:=Lib.hid (show RowO (w1.alloc (.cells #[.int .i64 0,.slice none 0 0,.slice none 0 0,.slice none 0 0,.int .i64 0] 27)) w1.heap.size (.slice (some ⟨w1.heap.size,0,none⟩) 1 1) [((.slice none 0 0,.slice none 0 0,.slice none 0 0),⟨0,[],[],[],0⟩)] from
  ⟨ZeE w1 _ _ 5 1 rfl (by decide),fun x hx=>by rw [List.mem_singleton.1 hx];exact ⟨World.ownsRow_nil _ _ _ _,World.ownsRow_nil _ _ _ _,World.ownsRow_nil _ _ _ _,by dsimp only;decide⟩⟩)
 have A0:=Lib.hid (Za w1 (.cells #[.int .i64 0,.slice none 0 0,.slice none 0 0,.slice none 0 0,.int .i64 0] 27))
 generalize w1.alloc (.cells #[.int .i64 0,.slice none 0 0,.slice none 0 0,.slice none 0 0,.int .i64 0] 27)=w2 at *
 obtain ⟨iN,hiN,zN0,zN1,zN2⟩:=ZG Zid
 obtain ⟨iI,hiI,zI0,zI1,zI2⟩:=ZG Zed
 go_loopg [7,8] (k+1) (fun g v7 v8 wr=>∃ (j:Nat) (x:NdV×Nd) (rt:List (NdV×Nd)),v8=.int .i64 j/\j<=k+1/\g=k+1-j/\RowO wr w1.heap.size v7 (x::rt)/\(x::rt).map (·.2)=twN [73,116,101,114] j/\ZbC x rt/\Below w1.heap.size w1 wr)
 case atStart=>exact ⟨0,_,_,rfl,by omega,rfl,R0.out,rfl,(fun z hz=>by cases hz),A0.out⟩
 case round=>
  obtain ⟨j,x,rt,rfl,hj,hg,hR,hP,hA,hW⟩:=hrel
  obtain ⟨x_,rt_,e_,hx,hl⟩:=ZfR hP
  injection e_ with e1 e2
  subst e1 e2
  have ho:=hR.own
  rw [hl] at ho
  obtain ⟨gr,c,cur,rfl,hcur,hcz,hcn,hgr⟩:=ZaS ho (by omega)
  by_cases hin:j<=k
  ·have j1:(j:Int)<=nv % 9:=by rw [HK.out.2.1];omega
   have wi:IntKind.i64.wrap ((j:Int)+1)=(j:Int)+1:=IntWalk.i64_in _ (by have:=HK.out.1;omega)
   have hxl:x.2.kids.length=j:=by rw [hx];exact ZdJ _ j
   have hkO:=(hR.each x (.head _)).ks
   have n3:wr.cell? ⟨gr,3,none⟩=some x.1.2.2:=by
    obtain ⟨_,_,r3⟩:=Zab ho
    obtain ⟨ad,e,_,hc⟩:=r3.2 (by omega)
    injection e with e
    subst e
    have:=hc 3 x.1.2.2 rfl
    rw [Addr.add_lit] at this
    simpa using this
   have f3:=hcur.blk.free 3
   have g3:gr<wr.heap.size:=hcur.lt
   have n3':=fun (o:Obj)=>Lib.cell?_alloc_some o n3
   have HR:=Lib.hid (And.intro hR (And.intro hkO (And.intro hxl (And.intro hcur (And.intro hW (And.intro hP (And.intro hl (And.intro hin (And.intro hg (And.intro hcz (And.intro hcn (And.intro hx (And.intro hA hgr)))))))))))))
   clear hR hkO hxl hcur hW hP hl hin hg hcz hcn hx hj ho f3 n3' hA hgr
   go_wp2_with (at_builtin;refine ZJ _ rfl _ _ 25 rfl w1.heap.size 3 iI (.int .i64 0) 1 8 Tryz.underlying25 hiI zI0 zI1 zI2 rfl (by decide) _ x.2.kids.length (x.2.kids.map (Value.int .i64)) rfl (Zf HR.out.2.1 (Za wr _)) _ (some ⟨wr.heap.size,0,none⟩) 1 1 [.int .i64 (1+2*(j:Int))] rfl (ZbO wr [.int .i64 (1+2*(j:Int))] 3) ?c1 ?c2 ?c3 ?c4 ?_)
   case c1=>intro u hu;rw [List.mem_singleton.1 hu];rfl
   case c2=>have:=HR.out.2.2.1;have:=HK.out.1;have:=HR.out.2.2.2.2.2.2.2.1;have e9:maxLen=9223372036854775807:=rfl;omega
   case c3=>have:=HR.out.2.2.1;have:=HK.out.1;have:=HR.out.2.2.2.2.2.2.2.1;omega
   case c4=>rw [World.size_alloc];have:=HR.out.2.2.2.2.1.size;omega
   intro v6 w6 hown6 hgrow6 hdis6
   obtain ⟨A6,c6,rfl⟩:=Zm hown6
   have oX:=Zf HR.out.2.1 (Za wr (.cells #[.int .i64 (1+2*(j:Int))] 3))
   have rX:=HR.out.1.keep (Za wr (.cells #[.int .i64 (1+2*(j:Int))] 3))
   have o6:w6.ownsRow w1.heap.size 3 1 (.slice A6 (x.2.kids.length+1) c6) (x.2.kids++[1+2*(j:Int)]).length ((x.2.kids++[1+2*(j:Int)]).map (Value.int .i64)):=by simpa using hown6
   have C6:=rX.kput (by rw [HR.out.2.2.2.2.2.2.1]) HR.out.2.2.2.2.2.2.2.2.2.2.2.2.1 hgrow6 o6
   have own1:=Zaa rX.own oX (by decide) hgrow6
   rw [HR.out.2.2.2.2.2.2.1] at own1
   obtain ⟨g',c',cur',e',hk',hz',hn',_⟩:=ZaS own1 (by omega)
   injection e' with e1 e2 e3
   injection e1 with e1
   injection e1 with e1
   subst e1 e3
   have f3:=hk'.blk.free 3
   obtain ⟨u3,hu3⟩:∃ u,cur'[3]? = some u:=⟨_,Array.getElem?_eq_getElem (by omega)⟩
   have s3:=(hk'.blk.cell 3).trans hu3
   have b6:Below w1.heap.size w1 w6:=(HR.out.2.2.2.2.1.trans ((Za wr _).mono HR.out.2.2.2.2.1.size)).grown hgrow6 (by have:=HR.out.2.2.2.2.1.size;rw [World.size_alloc];omega) (fun q hq=>(oX.lt q hq).1)
   have b7:Below w1.heap.size w1 (w6.setCell ⟨gr,3,none⟩ (.slice A6 (x.2.kids.length+1) c6)):=b6.grown Zbq b6.size (fun q hq=>by injection hq with hq;subst hq;exact HR.out.2.2.2.2.2.2.2.2.2.2.2.2.2)
   have a7:ZbC ((x.1.1,x.1.2.1,(.slice A6 (x.2.kids.length+1) c6)),⟨x.2.kind,x.2.words,x.2.nums,x.2.kids++[1+2*(j:Int)],x.2.pos⟩) rt:=fun z hz q hq=>by
    rcases hdis6 with h | h
    ·dsimp only
     rw [h]
     exact HR.out.2.2.2.2.2.2.2.2.2.2.2.2.1 z hz q hq
    ·dsimp only
     rw [h]
     intro e
     injection e with e
     have:=((HR.out.1.each z (.tail _ hz)).ks.lt q hq).2
     omega
   have H7:=Lib.hid (And.intro C6 (And.intro a7 b7))
   clear oX rX o6 C6 own1 hk' hz' hn' e2 hu3 b6 b7 a7 hown6 hgrow6 hdis6 n3
   go_upto_region 13 with fail
   clear f3 s3
   generalize w6.setCell ⟨gr,3,none⟩ (.slice A6 (x.2.kids.length+1) c6)=w7 at *
   have TW:=Lib.hid (Zhk w7 [73,116,101,114] (1+2*(j:Int)+1) (1+2*(j:Int)) (by decide))
   have wa:IntKind.i64.wrap (1+2*(j:Int)+1)=1+2*(j:Int)+1:=IntWalk.i64_in _ (by have:=HK.out.1;have:=HR.out.2.2.2.2.2.2.2.1;omega)
   have L7:=H7.out.1.own
   rw [List.length_cons] at L7
   have hrt:rt.length+1=1+2*j:=HR.out.2.2.2.2.2.2.1
   rw [hrt] at L7
   have L7:=Lib.hid L7
   clear hrt
   go_wp2_with (at_builtin;refine ZJ _ rfl _ _ 28 rfl w1.heap.size 27 iN (.agg #[.int .i64 0,.slice none 0 0,.slice none 0 0,.slice none 0 0,.int .i64 0]) 5 88 Tryz.underlying28 hiN zN0 zN1 zN2 rfl (by decide) _ (1+2*j) _ rfl (Zf L7.out TW.out.1) _ _ 2 2 _ rfl TW.out.2.2.2 ?c1 ?c2 ?c3 ?c4 ?_)
   case c1=>exact Ze6 _ _ _ _
   case c2=>have:=HK.out.1;have:=HR.out.2.2.2.2.2.2.2.1;have e9:maxLen=9223372036854775807:=rfl;omega
   case c3=>have:=HK.out.1;have:=HR.out.2.2.2.2.2.2.2.1;omega
   case c4=>have:=H7.out.2.2.size;first | omega | (simp only [World.size_alloc];omega)
   intro v12 w12 hown12 hgrow12 _
   have C12:=(H7.out.1.keep TW.out.1).push2 (TW.out.2.1.less H7.out.2.2.size) (TW.out.2.2.1.less H7.out.2.2.size) (show w12.ownsRow _ _ _ _ ((x::rt).length+2) _ from by rw [HR.out.2.2.2.2.2.2.1];exact hown12) hgrow12
   have b12:Below w1.heap.size w1 w12:=(H7.out.2.2.trans (TW.out.1.mono H7.out.2.2.size)).grown hgrow12 (Nat.le_trans H7.out.2.2.size TW.out.1.size) (fun q hq=>((Zf L7.out TW.out.1).lt q hq).1)
   have A12:ZbC ((x.1.1,x.1.2.1,(.slice A6 (x.2.kids.length+1) c6:Value)),(⟨x.2.kind,x.2.words,x.2.nums,x.2.kids++[1+2*(j:Int)],x.2.pos⟩:Nd)) (rt++[twP w7 [73,116,101,114] (1+2*(j:Int)+1) (1+2*(j:Int)),twQ w7]):=fun z hz q hq=>by
    rcases List.mem_append.1 hz with hz | hz
    ·exact H7.out.2.1 z hz q hq
    ·intro e
     have l6:=((H7.out.1.each _ (.head _)).ks.lt q e).2
     rcases List.mem_cons.1 hz with rfl | hz
     ·have:=((TW.out.2.1).ks.lt q hq).1
      omega
     ·rw [List.mem_singleton.1 hz] at hq
      cases hq
   have H12:=Lib.hid (And.intro C12 (And.intro A12 b12))
   clear C12 A12 b12 hown12 hgrow12 wa
   go_wp2_with fail
   go_roundg (k+1-(j+1))
   case measure=>have:=HR.out.2.2.2.2.2.2.2.1;have:=HR.out.2.2.2.2.2.2.2.2.1;omega
   case rel=>exact ⟨j+1,_,_,by push_cast;rfl,by have:=HR.out.2.2.2.2.2.2.2.1;omega,rfl,H12.out.1,ZfQ HR.out.2.2.2.2.2.1 HR.out.2.2.2.2.2.2.1 w7 _,H12.out.2.1,H12.out.2.2⟩
  ·have hjk:j=k+1:=by omega
   subst hjk
   have hmod:=HK.out.2.1
   have j2:¬ (((k+1:Nat):Int)<=nv % 9):=by rw [hmod];omega
   have j2':¬ ((k:Int)+1<=nv % 9):=by rw [hmod];omega
   have NA:=hR.nodes
   rw [hP] at NA
   have F:=Ze7 k HK.out.1 true
   have H2:=Lib.hid (And.intro NA (And.intro (HT.out.below (H1.out.trans (hW.mono H1.out.size))) (And.intro F (H1.out.trans (hW.mono H1.out.size)))))
   clear NA F hR hP hA hW hl hx hcur hcz hcn hgr hg hj hin ho
   go_upto_region 15 with (go_at_call 5;(refine (ZcS _ _ _ H2.out.1 H2.out.2.1 H2.out.2.2.1.1).mono ?_);rintro e w3 ⟨bk,bm,al,vd,rfl,hB,hD,hb3⟩;have H3:=Lib.hid (And.intro hB (H2.out.2.2.2.trans (hb3.mono H2.out.2.2.2.size)));have HD:=Lib.hid hD;clear hB hb3 hD)
   have hD:=HD.out
   have hdl:(Zap (twN [73,116,101,114] (k+1))).ds.length=k+1:=H2.out.2.2.1.2.1
   rw [hdl] at hD
   obtain ⟨Ad,cd,rfl⟩:=Zm hD
   have wk:IntKind.i64.wrap ((k:Int)+1)=(k:Int)+1:=IntWalk.i64_in _ (by have:=HK.out.1;omega)
   have HDD:=Lib.hid (And.intro hD hdl)
   clear hD HD hdl j2 j2'
   go_upto_region 21 with fail
   go_loopg [13] (k+1) (fun g v13 wr'=>∃ i:Nat,v13=.int .i64 i/\i<=k+1/\g=k+1-i/\wr'=w3)
   case atStart=>exact ⟨0,rfl,Nat.zero_le _,rfl,rfl⟩
   case round=>
    obtain ⟨i,rfl,hi,hg,hw⟩:=hrel
    rw [hw]
    clear hw
    by_cases hin:i<k+1
    ·obtain ⟨d,hd⟩:∃ d,(Zap (twN [73,116,101,114] (k+1))).ds[i]? = some d:=⟨_,List.getElem?_eq_getElem (by rw [HDD.out.2];exact hin)⟩
     obtain ⟨d1,d2⟩:=H2.out.2.2.1.2.2.1 d (List.mem_of_getElem? hd)
     obtain ⟨_,_,r3⟩:=Zab HDD.out.1
     obtain ⟨ad,e,_,hc⟩:=r3.2 (by omega)
     obtain ⟨g0,c0,cur0,e0,_⟩:=ZaS HDD.out.1 (by omega)
     injection e0 with e1 e2 e3
     rw [e1] at e
     injection e with e
     subst e e1
     have z0:=Zat (f:=dgC) (m:=3) (fun _=>rfl) _ i 0 d hd (by omega)
     have z2:=Zat (f:=dgC) (m:=3) (fun _=>rfl) _ i 2 d hd (by omega)
     have y0:=hc _ _ (z0.trans (show (dgC d)[0]? = some (.int .i64 2) from by unfold dgC;rw [d1];rfl))
     have y2:=hc _ _ (z2.trans (show (dgC d)[2]? = some (txt [73,116,101,114]) from by unfold dgC;rw [d2];rfl))
     rw [Addr.add_lit,Nat.zero_add,Nat.add_zero] at y0
     rw [Addr.add_lit,Nat.zero_add] at y2
     have i1:(i:Int)<(k:Int)+1:=by omega
     have i1':(i:Int)<((k+1:Nat):Int):=by omega
     have i0:(0:Int)<=(i:Int):=by omega
     have wi:IntKind.i64.wrap ((i:Int)+1)=(i:Int)+1:=IntWalk.i64_in _ (by have:=HK.out.1;omega)
     have HI:=Lib.hid (And.intro hin hg)
     clear d1 d2 r3 hc z0 z2 hd hin hg hi e2 e3
     go_wp2_with fail
     go_roundg (k+1-(i+1))
     case measure=>have:=HI.out.1;have:=HI.out.2;omega
     case rel=>exact ⟨i+1,by push_cast;rfl,HI.out.1,rfl,rfl⟩
    ·have n1:¬ ((i:Int)<(k:Int)+1):=by omega
     have n2:¬ ((i:Int)<((k+1:Nat):Int)):=by omega
     obtain ⟨ip,p,hp,hpn,hpl,hps⟩:=H2.out.2.2.1.2.2.2
     obtain ⟨a,ha⟩:∃ a,al[ip]? = some a:=⟨_,List.getElem?_eq_getElem (by rw [H3.out.1.len];exact (List.getElem?_eq_some_iff.1 hp).1)⟩
     have FY:=Zeu w3 _ bk bm _ al H3.out.1 ip p a hp ha (by have:=hps.name;unfold maxLen;omega)
     have PA:=ZdT w3 a p ((H3.out.1.aut ip p a hp ha).at_ hps.len) hps
     rw [show p.name=[73,116,101,114] from hpn] at FY
     have hpl:p.states.length=2:=hpl
     have FYH:=Lib.hid FY
     have PAH:=Lib.hid PA
     have HPL:=Lib.hid hpl
     have hfd:∀ (w:World) (s:List UInt8) (A:Option Addr) (n c:Nat) (vm:Value),(Instr.field 41 (.agg #[txt s,.slice A n c,vm]) 1).run Tryz.prog w=.ok (.slice A n c) w:=fun _ _ _ _ _ _=>by kernel_rfl
     clear FY PA hp ha hpn hpl hps hi hg hin
     go_wp2_with (first
      | (go_at_call 6;(refine FYH.out.mono ?_);rintro e w4 ⟨rfl,rfl⟩)
      | (go_at_call 7;(refine PAH.out.mono ?_);rintro e w5 ⟨vs,vm,rfl,hP,hb5⟩;obtain ⟨As,cs,rfl,_⟩:=hP.states.len;have H5:=Lib.hid hb5;clear hP hb5;rw [HPL.out]))
     exact bodyPost_ret (v:=.bool true) (by simp [results,Tryz.results3,go_sem]) rfl ⟨rfl,H3.out.2.trans (H5.out.mono H3.out.2.size)⟩
theorem Zes (w:World) (ht:Zad w 0 Zh) (nv:Int) (k:Nat) (hk:k<9) (hm:nv % 9=(k:Int)) (hn:0<=nv/\nv<256) :
  Calls Tryz.prog 3 #[.int .u8 nv,.bool false] w fun e w'=>e=.returned (.bool true)/\Below w.heap.size w w':=by
 have AW:=Lib.hid (ZfC w ht)
 have HT:=Lib.hid ht
 have wn:IntKind.i64.wrap nv=nv:=IntWalk.i64_in _ (by omega)
 clear ht
 go_enter Tryz.func3,Tryz.ntmps3
 go_upto_region 3 with (go_at_call 4;(refine AW.out.mono ?_);rintro e w1 ⟨rfl,hb1⟩;have H1:=Lib.hid hb1;clear hb1)
 go_upto_region 9 with fail
 have HK:=Lib.hid (And.intro hk (And.intro hm hn))
 clear AW wn hk hm hn
 have R0:=Lib.hid (show RowO (w1.alloc (.cells #[.int .i64 0,.slice none 0 0,.slice none 0 0,.slice none 0 0,.int .i64 0] 27)) w1.heap.size (.slice (some ⟨w1.heap.size,0,none⟩) 1 1) [((.slice none 0 0,.slice none 0 0,.slice none 0 0),⟨0,[],[],[],0⟩)] from
  ⟨ZeE w1 _ _ 5 1 rfl (by decide),fun x hx=>by rw [List.mem_singleton.1 hx];exact ⟨World.ownsRow_nil _ _ _ _,World.ownsRow_nil _ _ _ _,World.ownsRow_nil _ _ _ _,by dsimp only;decide⟩⟩)
 have A0:=Lib.hid (Za w1 (.cells #[.int .i64 0,.slice none 0 0,.slice none 0 0,.slice none 0 0,.int .i64 0] 27))
 generalize w1.alloc (.cells #[.int .i64 0,.slice none 0 0,.slice none 0 0,.slice none 0 0,.int .i64 0] 27)=w2 at *
 obtain ⟨iN,hiN,zN0,zN1,zN2⟩:=ZG Zid
 obtain ⟨iI,hiI,zI0,zI1,zI2⟩:=ZG Zed
 go_loopg [7,8] (k+1) (fun g v7 v8 wr=>∃ (j:Nat) (x:NdV×Nd) (rt:List (NdV×Nd)),v8=.int .i64 j/\j<=k+1/\g=k+1-j/\RowO wr w1.heap.size v7 (x::rt)/\(x::rt).map (·.2)=twN [81] j/\ZbC x rt/\Below w1.heap.size w1 wr)
 case atStart=>exact ⟨0,_,_,rfl,by omega,rfl,R0.out,rfl,(fun z hz=>by cases hz),A0.out⟩
 case round=>
  obtain ⟨j,x,rt,rfl,hj,hg,hR,hP,hA,hW⟩:=hrel
  obtain ⟨x_,rt_,e_,hx,hl⟩:=ZfR hP
  injection e_ with e1 e2
  subst e1 e2
  have ho:=hR.own
  rw [hl] at ho
  obtain ⟨gr,c,cur,rfl,hcur,hcz,hcn,hgr⟩:=ZaS ho (by omega)
  by_cases hin:j<=k
  ·have j1:(j:Int)<=nv % 9:=by rw [HK.out.2.1];omega
   have wi:IntKind.i64.wrap ((j:Int)+1)=(j:Int)+1:=IntWalk.i64_in _ (by have:=HK.out.1;omega)
   have hxl:x.2.kids.length=j:=by rw [hx];exact ZdJ _ j
   have hkO:=(hR.each x (.head _)).ks
   have n3:wr.cell? ⟨gr,3,none⟩=some x.1.2.2:=by
    obtain ⟨_,_,r3⟩:=Zab ho
    obtain ⟨ad,e,_,hc⟩:=r3.2 (by omega)
    injection e with e
    subst e
    have:=hc 3 x.1.2.2 rfl
    rw [Addr.add_lit] at this
    simpa using this
   have f3:=hcur.blk.free 3
   have g3:gr<wr.heap.size:=hcur.lt
   have n3':=fun (o:Obj)=>Lib.cell?_alloc_some o n3
   have HR:=Lib.hid (And.intro hR (And.intro hkO (And.intro hxl (And.intro hcur (And.intro hW (And.intro hP (And.intro hl (And.intro hin (And.intro hg (And.intro hcz (And.intro hcn (And.intro hx (And.intro hA hgr)))))))))))))
   clear hR hkO hxl hcur hW hP hl hin hg hcz hcn hx hj ho f3 n3' hA hgr
   go_wp2_with (at_builtin;refine ZJ _ rfl _ _ 25 rfl w1.heap.size 3 iI (.int .i64 0) 1 8 Tryz.underlying25 hiI zI0 zI1 zI2 rfl (by decide) _ x.2.kids.length (x.2.kids.map (Value.int .i64)) rfl (Zf HR.out.2.1 (Za wr _)) _ (some ⟨wr.heap.size,0,none⟩) 1 1 [.int .i64 (1+2*(j:Int))] rfl (ZbO wr [.int .i64 (1+2*(j:Int))] 3) ?c1 ?c2 ?c3 ?c4 ?_)
   case c1=>intro u hu;rw [List.mem_singleton.1 hu];rfl
   case c2=>have:=HR.out.2.2.1;have:=HK.out.1;have:=HR.out.2.2.2.2.2.2.2.1;have e9:maxLen=9223372036854775807:=rfl;omega
   case c3=>have:=HR.out.2.2.1;have:=HK.out.1;have:=HR.out.2.2.2.2.2.2.2.1;omega
   case c4=>rw [World.size_alloc];have:=HR.out.2.2.2.2.1.size;omega
   intro v6 w6 hown6 hgrow6 hdis6
   obtain ⟨A6,c6,rfl⟩:=Zm hown6
   have oX:=Zf HR.out.2.1 (Za wr (.cells #[.int .i64 (1+2*(j:Int))] 3))
   have rX:=HR.out.1.keep (Za wr (.cells #[.int .i64 (1+2*(j:Int))] 3))
   have o6:w6.ownsRow w1.heap.size 3 1 (.slice A6 (x.2.kids.length+1) c6) (x.2.kids++[1+2*(j:Int)]).length ((x.2.kids++[1+2*(j:Int)]).map (Value.int .i64)):=by simpa using hown6
   have C6:=rX.kput (by rw [HR.out.2.2.2.2.2.2.1]) HR.out.2.2.2.2.2.2.2.2.2.2.2.2.1 hgrow6 o6
   have own1:=Zaa rX.own oX (by decide) hgrow6
   rw [HR.out.2.2.2.2.2.2.1] at own1
   obtain ⟨g',c',cur',e',hk',hz',hn',_⟩:=ZaS own1 (by omega)
   injection e' with e1 e2 e3
   injection e1 with e1
   injection e1 with e1
   subst e1 e3
   have f3:=hk'.blk.free 3
   obtain ⟨u3,hu3⟩:∃ u,cur'[3]? = some u:=⟨_,Array.getElem?_eq_getElem (by omega)⟩
   have s3:=(hk'.blk.cell 3).trans hu3
   have b6:Below w1.heap.size w1 w6:=(HR.out.2.2.2.2.1.trans ((Za wr _).mono HR.out.2.2.2.2.1.size)).grown hgrow6 (by have:=HR.out.2.2.2.2.1.size;rw [World.size_alloc];omega) (fun q hq=>(oX.lt q hq).1)
   have b7:Below w1.heap.size w1 (w6.setCell ⟨gr,3,none⟩ (.slice A6 (x.2.kids.length+1) c6)):=b6.grown Zbq b6.size (fun q hq=>by injection hq with hq;subst hq;exact HR.out.2.2.2.2.2.2.2.2.2.2.2.2.2)
   have a7:ZbC ((x.1.1,x.1.2.1,(.slice A6 (x.2.kids.length+1) c6)),⟨x.2.kind,x.2.words,x.2.nums,x.2.kids++[1+2*(j:Int)],x.2.pos⟩) rt:=fun z hz q hq=>by
    rcases hdis6 with h | h
    ·dsimp only
     rw [h]
     exact HR.out.2.2.2.2.2.2.2.2.2.2.2.2.1 z hz q hq
    ·dsimp only
     rw [h]
     intro e
     injection e with e
     have:=((HR.out.1.each z (.tail _ hz)).ks.lt q hq).2
     omega
   have H7:=Lib.hid (And.intro C6 (And.intro a7 b7))
   clear oX rX o6 C6 own1 hk' hz' hn' e2 hu3 b6 b7 a7 hown6 hgrow6 hdis6 n3
   go_upto_region 13 with fail
   clear f3 s3
   generalize w6.setCell ⟨gr,3,none⟩ (.slice A6 (x.2.kids.length+1) c6)=w7 at *
   have TW:=Lib.hid (Zhk w7 [81] (1+2*(j:Int)+1) (1+2*(j:Int)) (by decide))
   have wa:IntKind.i64.wrap (1+2*(j:Int)+1)=1+2*(j:Int)+1:=IntWalk.i64_in _ (by have:=HK.out.1;have:=HR.out.2.2.2.2.2.2.2.1;omega)
   have L7:=H7.out.1.own
   rw [List.length_cons] at L7
   have hrt:rt.length+1=1+2*j:=HR.out.2.2.2.2.2.2.1
   rw [hrt] at L7
   have L7:=Lib.hid L7
   clear hrt
   go_wp2_with (at_builtin;refine ZJ _ rfl _ _ 28 rfl w1.heap.size 27 iN (.agg #[.int .i64 0,.slice none 0 0,.slice none 0 0,.slice none 0 0,.int .i64 0]) 5 88 Tryz.underlying28 hiN zN0 zN1 zN2 rfl (by decide) _ (1+2*j) _ rfl (Zf L7.out TW.out.1) _ _ 2 2 _ rfl TW.out.2.2.2 ?c1 ?c2 ?c3 ?c4 ?_)
   case c1=>exact Ze6 _ _ _ _
   case c2=>have:=HK.out.1;have:=HR.out.2.2.2.2.2.2.2.1;have e9:maxLen=9223372036854775807:=rfl;omega
   case c3=>have:=HK.out.1;have:=HR.out.2.2.2.2.2.2.2.1;omega
   case c4=>have:=H7.out.2.2.size;first | omega | (simp only [World.size_alloc];omega)
   intro v12 w12 hown12 hgrow12 _
   have C12:=(H7.out.1.keep TW.out.1).push2 (TW.out.2.1.less H7.out.2.2.size) (TW.out.2.2.1.less H7.out.2.2.size) (show w12.ownsRow _ _ _ _ ((x::rt).length+2) _ from by rw [HR.out.2.2.2.2.2.2.1];exact hown12) hgrow12
   have b12:Below w1.heap.size w1 w12:=(H7.out.2.2.trans (TW.out.1.mono H7.out.2.2.size)).grown hgrow12 (Nat.le_trans H7.out.2.2.size TW.out.1.size) (fun q hq=>((Zf L7.out TW.out.1).lt q hq).1)
   have A12:ZbC ((x.1.1,x.1.2.1,(.slice A6 (x.2.kids.length+1) c6:Value)),(⟨x.2.kind,x.2.words,x.2.nums,x.2.kids++[1+2*(j:Int)],x.2.pos⟩:Nd)) (rt++[twP w7 [81] (1+2*(j:Int)+1) (1+2*(j:Int)),twQ w7]):=fun z hz q hq=>by
    rcases List.mem_append.1 hz with hz | hz
    ·exact H7.out.2.1 z hz q hq
    ·intro e
     have l6:=((H7.out.1.each _ (.head _)).ks.lt q e).2
     rcases List.mem_cons.1 hz with rfl | hz
     ·have:=((TW.out.2.1).ks.lt q hq).1
      omega
     ·rw [List.mem_singleton.1 hz] at hq
      cases hq
   have H12:=Lib.hid (And.intro C12 (And.intro A12 b12))
   clear C12 A12 b12 hown12 hgrow12 wa
   go_wp2_with fail
   go_roundg (k+1-(j+1))
   case measure=>have:=HR.out.2.2.2.2.2.2.2.1;have:=HR.out.2.2.2.2.2.2.2.2.1;omega
   case rel=>exact ⟨j+1,_,_,by push_cast;rfl,by have:=HR.out.2.2.2.2.2.2.2.1;omega,rfl,H12.out.1,ZfQ HR.out.2.2.2.2.2.1 HR.out.2.2.2.2.2.2.1 w7 _,H12.out.2.1,H12.out.2.2⟩
  ·have hjk:j=k+1:=by omega
   subst hjk
   have hmod:=HK.out.2.1
   have j2:¬ (((k+1:Nat):Int)<=nv % 9):=by rw [hmod];omega
   have j2':¬ ((k:Int)+1<=nv % 9):=by rw [hmod];omega
   have NA:=hR.nodes
   rw [hP] at NA
   have F:=Ze7 k HK.out.1 false
   have H2:=Lib.hid (And.intro NA (And.intro (HT.out.below (H1.out.trans (hW.mono H1.out.size))) (And.intro F (H1.out.trans (hW.mono H1.out.size)))))
   clear NA F hR hP hA hW hl hx hcur hcz hcn hgr hg hj hin ho
   go_upto_region 15 with (go_at_call 5;(refine (ZcS _ _ _ H2.out.1 H2.out.2.1 H2.out.2.2.1.1).mono ?_);rintro e w3 ⟨bk,bm,al,vd,rfl,hB,hD,hb3⟩;have H3:=Lib.hid (And.intro hB (H2.out.2.2.2.trans (hb3.mono H2.out.2.2.2.size)));have HD:=Lib.hid hD;clear hB hb3 hD)
   have hD:=HD.out
   have hdl:(Zap (twN [81] (k+1))).ds.length=k:=H2.out.2.2.1.2.1
   rw [hdl] at hD
   obtain ⟨Ad,cd,rfl⟩:=Zm hD
   have wk:IntKind.i64.wrap ((k:Int)+1)=(k:Int)+1:=IntWalk.i64_in _ (by have:=HK.out.1;omega)
   have HDD:=Lib.hid (And.intro hD hdl)
   clear hD HD hdl j2 j2'
   go_upto_region 21 with fail
   go_loopg [13] (k) (fun g v13 wr'=>∃ i:Nat,v13=.int .i64 i/\i<=k/\g=k-i/\wr'=w3)
   case atStart=>exact ⟨0,rfl,Nat.zero_le _,rfl,rfl⟩
   case round=>
    obtain ⟨i,rfl,hi,hg,hw⟩:=hrel
    rw [hw]
    clear hw
    by_cases hin:i<k
    ·obtain ⟨d,hd⟩:∃ d,(Zap (twN [81] (k+1))).ds[i]? = some d:=⟨_,List.getElem?_eq_getElem (by rw [HDD.out.2];exact hin)⟩
     obtain ⟨d1,d2⟩:=H2.out.2.2.1.2.2.1 d (List.mem_of_getElem? hd)
     obtain ⟨_,_,r3⟩:=Zab HDD.out.1
     obtain ⟨ad,e,_,hc⟩:=r3.2 (by omega)
     obtain ⟨g0,c0,cur0,e0,_⟩:=ZaS HDD.out.1 (by omega)
     injection e0 with e1 e2 e3
     rw [e1] at e
     injection e with e
     subst e e1
     have z0:=Zat (f:=dgC) (m:=3) (fun _=>rfl) _ i 0 d hd (by omega)
     have z2:=Zat (f:=dgC) (m:=3) (fun _=>rfl) _ i 2 d hd (by omega)
     have y0:=hc _ _ (z0.trans (show (dgC d)[0]? = some (.int .i64 2) from by unfold dgC;rw [d1];rfl))
     have y2:=hc _ _ (z2.trans (show (dgC d)[2]? = some (txt [81]) from by unfold dgC;rw [d2];rfl))
     rw [Addr.add_lit,Nat.zero_add,Nat.add_zero] at y0
     rw [Addr.add_lit,Nat.zero_add] at y2
     have i1:(i:Int)<(k:Int)+1:=by omega
     have i1':(i:Int)<((k:Nat):Int):=by omega
     have i0:(0:Int)<=(i:Int):=by omega
     have wi:IntKind.i64.wrap ((i:Int)+1)=(i:Int)+1:=IntWalk.i64_in _ (by have:=HK.out.1;omega)
     have HI:=Lib.hid (And.intro hin hg)
     clear d1 d2 r3 hc z0 z2 hd hin hg hi e2 e3
     go_wp2_with fail
     go_roundg (k-(i+1))
     case measure=>have:=HI.out.1;have:=HI.out.2;omega
     case rel=>exact ⟨i+1,by push_cast;rfl,HI.out.1,rfl,rfl⟩
    ·have n2:¬ ((i:Int)<((k:Nat):Int)):=by omega
     obtain ⟨ip,p,hp,hpn,hpl,hps⟩:=H2.out.2.2.1.2.2.2
     obtain ⟨a,ha⟩:∃ a,al[ip]? = some a:=⟨_,List.getElem?_eq_getElem (by rw [H3.out.1.len];exact (List.getElem?_eq_some_iff.1 hp).1)⟩
     have FY:=Zeu w3 _ bk bm _ al H3.out.1 ip p a hp ha (by have:=hps.name;unfold maxLen;omega)
     have PA:=ZdT w3 a p ((H3.out.1.aut ip p a hp ha).at_ hps.len) hps
     rw [show p.name=[81] from hpn] at FY
     have hpl:p.states.length=1:=hpl
     have FYH:=Lib.hid FY
     have PAH:=Lib.hid PA
     have HPL:=Lib.hid hpl
     have hfd:∀ (w:World) (s:List UInt8) (A:Option Addr) (n c:Nat) (vm:Value),(Instr.field 41 (.agg #[txt s,.slice A n c,vm]) 1).run Tryz.prog w=.ok (.slice A n c) w:=fun _ _ _ _ _ _=>by kernel_rfl
     clear FY PA hp ha hpn hpl hps hi hg hin
     go_wp2_with (first
      | (go_at_call 6;(refine FYH.out.mono ?_);rintro e w4 ⟨rfl,rfl⟩)
      | (go_at_call 7;(refine PAH.out.mono ?_);rintro e w5 ⟨vs,vm,rfl,hP,hb5⟩;obtain ⟨As,cs,rfl,_⟩:=hP.states.len;have H5:=Lib.hid hb5;clear hP hb5;rw [HPL.out]))
     exact bodyPost_ret (v:=.bool true) (by simp [results,Tryz.results3,go_sem]) rfl ⟨rfl,H3.out.2.trans (H5.out.mono H3.out.2.size)⟩
theorem Zi6 {n:Int} (h:(Lit.int .u8 n).wf=true):0<=n/\n<=255:=by
 simp only [Lit.wf,Bool.and_eq_true,decide_eq_true_eq] at h
 have a:IntKind.u8.min=0:=by decide
 have b:IntKind.u8.max=255:=by decide
 rw [a,b] at h
 exact h
theorem Zf0 (w:World) (ht:Zad w 0 Zh) (nv:Int) (hw:(Lit.int .u8 nv).wf=true) (b:Bool) :
  Calls Tryz.prog 3 #[.int .u8 nv,.bool b] w fun e w'=>e=.returned (.bool true)/\Below w.heap.size w w':=by
 have hn:0<=nv/\nv<256:=by
  have:=Zi6 hw
  omega
 obtain ⟨k,hk⟩:∃ k:Nat,nv % 9=(k:Int):=⟨(nv % 9).toNat,by omega⟩
 cases b
 ·exact Zes w ht nv k (by omega) hk hn
 ·exact Zfc w ht nv k (by omega) hk hn
end
end Go.Proofs.YtaacbenikcbibabGreatDoor
