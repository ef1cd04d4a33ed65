import Derived.Test.YtenbomphkihmlaaGreatDoorQAT
set_option maxRecDepth 100000
set_option maxHeartbeats 8000000
namespace Go.Proofs.YtenbomphkihmlaaGreatDoor
section
open Go.RowKit
theorem Zcn {w:World} {v:Value} {ns:List Nd} (hN:Zf w v ns) {q:Nat} (hq:q<ns.length):∃ (d:Nd) (ad:Addr) (cp:Nat) (B1 B2 B3:Option Addr) (e1 e2 e3:Nat),ns[q]? = some d/\v=.slice (some ad) ns.length cp/\Zad w (.slice B2 d.nums.length e2) d.nums/\∀ wr:World,Below w.heap.size w wr ->
  wr.cell? (ad.add (q*5))=some (.int .i64 d.kind)/\wr.cell? ⟨(ad.add (q*5)).block,(ad.add (q*5)).off+1,none⟩=some (.slice B1 d.words.length e1)/\wr.cell? ⟨(ad.add (q*5)).block,(ad.add (q*5)).off+2,none⟩=some (.slice B2 d.nums.length e2)/\wr.cell? ⟨(ad.add (q*5)).block,(ad.add (q*5)).off+3,none⟩=some (.slice B3 d.kids.length e3)/\wr.cell? ⟨(ad.add (q*5)).block,(ad.add (q*5)).off+4,none⟩=some (.int .i64 d.pos):=by
 obtain ⟨A,c,rs,rfl,g2,g3,g4,g5,g6⟩:=hN
 obtain ⟨y,hy⟩:∃ y,rs[q]? = some y:=⟨_,List.getElem?_eq_getElem (by have:=congrArg List.length g4;rw [List.length_map] at this;omega)⟩
 have hd:ns[q]? = some y.2:=by rw [<- g4,List.getElem?_map,hy];rfl
 obtain ⟨ad,rfl,_⟩:=ZK g5 (Below.refl _ _) hy (by omega)
 obtain ⟨⟨B1,e1,h1,_⟩,⟨B2,e2,h2,j2⟩,B3,e3,h3,_⟩:=g6 y (List.mem_of_getElem? hy)
 refine ⟨y.2,ad,c,B1,B2,B3,e1,e2,e3,hd,rfl,⟨B2,e2,rfl,j2⟩,fun wr hb=>?_⟩
 obtain ⟨ad',e,d0,d1,d2,d3,d4⟩:=ZK g5 hb hy (by omega)
 injection e with e
 subst e
 rw [h1] at d1
 rw [h2] at d2
 rw [h3] at d3
 exact ⟨d0,d1,d2,d3,d4⟩
theorem Zdi {kd ps y ya yb:Int} {ws:List (List UInt8)} {nums ks:List Int} (hy:nums=[y,ya,yb]) (h:Zbn ⟨kd,ws,nums,ks,ps⟩=true):1<=ya/\ya<1000000000000000000/\1<=yb/\yb<1000000000000000000:=by
 subst hy
 unfold Zbn at h
 simp only [Bool.and_eq_true,decide_eq_true_eq] at h
 exact ⟨h.1.1.1,h.1.1.2,h.1.2,h.2⟩
theorem Zhz {ns:List Nd} {ps y ya yb:Int} {ws:List (List UInt8)} {nums ks:List Int} (hw:Zt ⟨13,ws,nums,ks,ps⟩ 2 2=true) (hy:nums=[y,ya,yb]) (h1:1<=y) (h4:y<=4) (hf:Zbn ⟨13,ws,nums,ks,ps⟩=true) (hb:Zax ns ⟨13,ws,nums,ks,ps⟩ 0 1 1=true):Zw ns ⟨13,ws,nums,ks,ps⟩=true:=by
 obtain ⟨a,b,c⟩:=Zak hw
 obtain ⟨f1,f2,f3,f4⟩:=Zdi hy hf
 obtain ⟨d,e,f⟩:=Zbx hb
 obtain ⟨x,rfl⟩:=List.length_eq_one_iff.mp (show ks.length=1 by omega)
 subst hy
 refine Zaw a (by simp [ZaK];omega) ?_
 show (Zo _ 2 3&&(!(y==0)&&decide (y<=4)&&(decide (1<=ya)&&decide (1<=yb))&&(Zk ns [x] [isB [7]]||Zk ns [x] [isB [6],isB [7]]&&Zac ns (atI [x] 0)==2)))=true
 rw [Zau (a:=2) (b:=3) (by show ws.length=2;omega) rfl,Zb0 (k:=x) (all_cons d).1,show (y==0)=false by rw [beq_eq_false_iff_ne];omega,decide_eq_true h4,decide_eq_true f1,decide_eq_true f3]
 rfl
theorem ZhA {ns:List Nd} {ps y ya yb:Int} {ws:List (List UInt8)} {nums ks:List Int} {q:Nat} {e:Nd} (hw:Zt ⟨13,ws,nums,ks,ps⟩ 2 2=true) (hy:nums=[y,ya,yb]) (h1:1<=y) (h4:y<=4) (hf:Zbn ⟨13,ws,nums,ks,ps⟩=true) (hz:ks[0]? = some (q:Int)) (he:ns[q]? = some e) (h6:e.kind=6) (hn:e.nums=[2]) (hb:Zax ns ⟨13,ws,nums,ks,ps⟩ 1 1 1=true):Zw ns ⟨13,ws,nums,ks,ps⟩=true:=by
 obtain ⟨a,b,c⟩:=Zak hw
 obtain ⟨f1,f2,f3,f4⟩:=Zdi hy hf
 obtain ⟨d,e',f⟩:=Zbx hb
 obtain ⟨x,x2,rfl⟩:=ZcQ (l:=ks) (by omega)
 obtain rfl:x=(q:Int):=by simpa using hz
 subst hy
 refine Zaw a (by simp [ZaK];omega) ?_
 show (Zo _ 2 3&&(!(y==0)&&decide (y<=4)&&(decide (1<=ya)&&decide (1<=yb))&&(Zk ns [(q:Int),x2] [isB [7]]||Zk ns [(q:Int),x2] [isB [6],isB [7]]&&Zac ns (atI [(q:Int),x2] 0)==2)))=true
 have hk6:isB [6] (Zq ns (q:Int))=true:=by rw [Zbi he,h6];rfl
 have hw2:Zac ns (atI [(q:Int),x2] 0)=2:=ZcK (k:=q) he hn
 rw [Zau (a:=2) (b:=3) (by show ws.length=2;omega) rfl,ZcN (k:=(q:Int)) (l:=x2) hk6 (all_cons d).1,hw2,show (y==0)=false by rw [beq_eq_false_iff_ne];omega,decide_eq_true h4,decide_eq_true f1,decide_eq_true f3,Bool.or_comm]
 rfl
theorem ZfM (w:World) (v:Value) (ns:List Nd) (va vb vc:Value) (ws:List (List UInt8)) (nums ks:List Int) (ps:Int) (hN:Zf w v ns) (hx:Zv w ((va,vb,vc),⟨13,ws,nums,ks,ps⟩)) (hk:Zz ks ns.length) :
  Calls Tryz.prog 20 #[v,ndV ((va,vb,vc),⟨13,ws,nums,ks,ps⟩)] w fun e w'=>OkB (Zw ns ⟨13,ws,nums,ks,ps⟩=true) e/\Below w.heap.size w w':=by
 obtain ⟨h1,h2,h3⟩:=id hx
 dsimp only at h1 h2 h3
 have WR:=Lib.hid (fun (wr:World) (hb:Below w.heap.size w wr) (a b:Int)=>ZN wr _ a b (hx.below hb))
 have NO0:=Lib.hid (fun (wr:World) (hb:Below w.heap.size w wr)=>ZU wr _ (hx.below hb))
 have KD0:=Lib.hid (fun (wr:World) (hb:Below w.heap.size w wr) (i:Nat) (hi:i<ks.length)=>Zaa wr v ns _ i (hN.below hb) (hx.below hb) hk hi)
 have BL0:=Lib.hid (fun (wr:World) (hb:Below w.heap.size w wr) (f:Nat) (a b:Int) (hf:f<=ks.length) (hf1:f<=1)=>ZF wr v ns _ f a b (hN.below hb) (hx.below hb) hk hf hf1)
 have FR0:=Lib.hid (fun (hl:nums.length=3) (wr:World) (hb:Below w.heap.size w wr)=>ZT wr _ (hx.below hb) hl)
 have HN:=Lib.hid hN
 have HK3:=Lib.hid h3
 have KI:=Lib.hid hk
 obtain ⟨A1,c1,rfl,_⟩:=h1
 obtain ⟨A2,c2,rfl,_,_,R2'⟩:=h2
 have KL:=Lib.hid h3.len
 obtain ⟨A3,c3,rfl,_⟩:=h3
 have R2:=Lib.hid R2'
 unfold ndV at WR NO0 KD0 BL0 FR0 ⊢
 dsimp only at WR NO0 KD0 BL0 FR0 ⊢
 have STB:=Lib.hid (show Stb (fun w'=>(w'.cell? ⟨w.heap.size,0,none⟩=some (.int .i64 13)/\w'.cell? ⟨w.heap.size,1,none⟩=some (.slice A1 ws.length c1)/\w'.cell? ⟨w.heap.size,2,none⟩=some (.slice A2 nums.length c2)/\w'.cell? ⟨w.heap.size,3,none⟩=some (.slice A3 ks.length c3)/\w'.cell? ⟨w.heap.size,4,none⟩=some (.int .i64 ps))/\Below w.heap.size w w') from Zd (Zd (Zc _ _) (Zd (Zc _ _) (Zd (Zc _ _) (Zd (Zc _ _) (Zc _ _))))) (Zn w))
 have HS1:((w.alloc (.cells #[.int .i64 13,.slice A1 ws.length c1,.slice A2 nums.length c2,.slice A3 ks.length c3,.int .i64 ps] 29)).cell? ⟨w.heap.size,0,none⟩=some (.int .i64 13)/\(w.alloc (.cells #[.int .i64 13,.slice A1 ws.length c1,.slice A2 nums.length c2,.slice A3 ks.length c3,.int .i64 ps] 29)).cell? ⟨w.heap.size,1,none⟩=some (.slice A1 ws.length c1)/\(w.alloc (.cells #[.int .i64 13,.slice A1 ws.length c1,.slice A2 nums.length c2,.slice A3 ks.length c3,.int .i64 ps] 29)).cell? ⟨w.heap.size,2,none⟩=some (.slice A2 nums.length c2)/\(w.alloc (.cells #[.int .i64 13,.slice A1 ws.length c1,.slice A2 nums.length c2,.slice A3 ks.length c3,.int .i64 ps] 29)).cell? ⟨w.heap.size,3,none⟩=some (.slice A3 ks.length c3)/\(w.alloc (.cells #[.int .i64 13,.slice A1 ws.length c1,.slice A2 nums.length c2,.slice A3 ks.length c3,.int .i64 ps] 29)).cell? ⟨w.heap.size,4,none⟩=some (.int .i64 ps))/\Below w.heap.size w (w.alloc (.cells #[.int .i64 13,.slice A1 ws.length c1,.slice A2 nums.length c2,.slice A3 ks.length c3,.int .i64 ps] 29)):=⟨⟨(Blk.start w _ _).cell 0,(Blk.start w _ _).cell 1,(Blk.start w _ _).cell 2,(Blk.start w _ _).cell 3,(Blk.start w _ _).cell 4⟩,Zb w _⟩
 have K1:=Lib.hid HS1
 obtain ⟨⟨g0,g1,g2,g3,g4⟩,_⟩:=HS1
 clear R2' hx hN hk
 have WF:=Lib.hid (show ∀ wr:World,Below w.heap.size w wr->Calls Tryz.prog 16 #[.agg #[.int .i64 13,.slice A1 ws.length c1,.slice A2 nums.length c2,.slice A3 ks.length c3,.int .i64 ps],.int .i64 2,.int .i64 2] wr fun e w'=>e=.returned (.bool (Zt ⟨13,ws,nums,ks,ps⟩ 2 2))/\Below wr.heap.size wr w' from fun wr hb=>WR.out wr hb 2 2)
 generalize hqW:Zt ⟨13,ws,nums,ks,ps⟩ 2 2=W at WF
 have QW:=Lib.hid hqW
 clear hqW
 cases W
 ·go_enter Tryz.func20,Tryz.ntmps20
  go_upto_region 1 with fail
  generalize (w.alloc (.cells #[.int .i64 13,.slice A1 ws.length c1,.slice A2 nums.length c2,.slice A3 ks.length c3,.int .i64 ps] 29))=w1 at *
  go_wp2_with (first
   | (go_at_call 16;(with_reducible refine (WF.out w1 (Za K1.out)).mono ?_);rintro e2 w2 ⟨rfl,hb2⟩;have K2:=Lib.hid (STB.out _ _ hb2 K1.out);obtain ⟨⟨k20,k21,k22,k23,k24⟩,_⟩:=id K2.out;clear hb2))
  go_ret
  exact ⟨Zj,Za K2.out⟩
 ·by_cases qn:nums.length=3
  ·have tn:((nums.length:Int)==3)=true:=by rw [beq_iff_eq];omega
   have tn4:((nums.length:Int) != 3)=false:=by rw [bne,tn];rfl
   have tn2:(0:Int)<(nums.length:Int):=by omega
   have tn3:(1:Int)<(nums.length:Int):=by omega
   have tn5:(2:Int)<(nums.length:Int):=by omega
   obtain ⟨y,ya,yb,hy⟩:=Zdo qn
   obtain ⟨ad2,rfl,_⟩:=Zp (x:=y) R2.out (Za K1.out) (k:=0) (by rw [hy];rfl) (by omega)
   have NC:=Lib.hid (fun (wr:World) (hb:Below w.heap.size w wr)=>show wr.cell? ad2=some (.int .i64 y)/\wr.cell? ⟨ad2.block,ad2.off+1,none⟩=some (.int .i64 ya)/\wr.cell? ⟨ad2.block,ad2.off+2,none⟩=some (.int .i64 yb) from by
    obtain ⟨a2,e2,q2⟩:=Zp (x:=y) R2.out hb (k:=0) (by rw [hy];rfl) (by omega)
    injection e2 with e2
    subst e2
    obtain ⟨a2,e2,q3⟩:=Zp (x:=ya) R2.out hb (k:=1) (by rw [hy];rfl) (by omega)
    injection e2 with e2
    subst e2
    obtain ⟨a2,e2,q4⟩:=Zp (x:=yb) R2.out hb (k:=2) (by rw [hy];rfl) (by omega)
    injection e2 with e2
    subst e2
    rw [show ad2.add 0=ad2 by unfold Addr.add;simp] at q2
    rw [show ad2.add 1=⟨ad2.block,ad2.off+1,none⟩ by unfold Addr.add;simp] at q3
    rw [show ad2.add 2=⟨ad2.block,ad2.off+2,none⟩ by unfold Addr.add;simp] at q4
    exact ⟨q2,q3,q4⟩)
   obtain ⟨y1a,y1b,y1c⟩:=NC.out _ (Za K1.out)
   have HY:=Lib.hid hy
   have hl:=Lib.hid qn
   clear hy qn
   by_cases qy:1<=y
   ·by_cases qz:y<=4
    ·have FF:=Lib.hid (show ∀ wr:World,Below w.heap.size w wr->Calls Tryz.prog 37 #[.agg #[.int .i64 13,.slice A1 ws.length c1,.slice (some ad2) nums.length c2,.slice A3 ks.length c3,.int .i64 ps]] wr fun e w'=>e=.returned (.bool (Zbn ⟨13,ws,nums,ks,ps⟩))/\Below wr.heap.size wr w' from fun wr hb=>FR0.out hl wr hb)
     generalize hqF:Zbn ⟨13,ws,nums,ks,ps⟩=F at FF
     have QF:=Lib.hid hqF
     clear hqF
     cases F
     ·go_enter Tryz.func20,Tryz.ntmps20
      go_upto_region 1 with fail
      generalize (w.alloc (.cells #[.int .i64 13,.slice A1 ws.length c1,.slice (some ad2) nums.length c2,.slice A3 ks.length c3,.int .i64 ps] 29))=w1 at *
      go_wp2_with (first
       | (go_at_call 16;(with_reducible refine (WF.out w1 (Za K1.out)).mono ?_);rintro e2 w2 ⟨rfl,hb2⟩;have K2:=Lib.hid (STB.out _ _ hb2 K1.out);obtain ⟨⟨k20,k21,k22,k23,k24⟩,_⟩:=id K2.out;obtain ⟨y2a,y2b,y2c⟩:=NC.out w2 (Za K2.out);clear hb2)
       | (go_at_call 37;(with_reducible refine (FF.out w2 (Za K2.out)).mono ?_);rintro e3 w3 ⟨rfl,hb3⟩;have K3:=Lib.hid (STB.out _ _ hb3 K2.out);obtain ⟨⟨k30,k31,k32,k33,k34⟩,_⟩:=id K3.out;obtain ⟨y3a,y3b,y3c⟩:=NC.out w3 (Za K3.out);clear hb3))
      go_ret
      exact ⟨Zj,Za K3.out⟩
     ·by_cases qk:0<ks.length
      ·have tk:((ks.length:Int)==0)=false:=by rw [beq_eq_false_iff_ne];omega
       have QK:=Lib.hid qk
       obtain ⟨z,hz⟩:∃ z,ks[0]? = some z:=⟨_,List.getElem?_eq_getElem (by have:=QK.out;omega)⟩
       have hin:=KI.out z (List.mem_of_getElem? hz)
       obtain ⟨q,rfl⟩:∃ q:Nat,z=q:=⟨z.toNat,by omega⟩
       obtain ⟨d,ad,cp,B1,B2,B3,e1,e2,e3,hd,rfl,hI,hc⟩:=Zcn HN.out (q:=q) (by omega)
       have NQ:=Lib.hid hc
       have NI:=Lib.hid hI
       clear hc hI
       obtain ⟨A3',c3',ev,_,_,R3⟩:=HK3.out
       injection ev with ea _ ec
       subst ea ec
       obtain ⟨ad3,rfl,z1⟩:=Zp R3 (Za K1.out) hz (by have:=QK.out;omega)
       have ZC:=Lib.hid (fun (wr:World) (hb:Below w.heap.size w wr)=>show wr.cell? ad3=some (.int .i64 (q:Int)) from by obtain ⟨a2,e2,q2⟩:=Zp R3 hb hz (by have:=QK.out;omega);injection e2 with e2;subst e2;rwa [show ad3.add 0=ad3 by unfold Addr.add;simp] at q2)
       have ekd:kdR ns ⟨13,ws,nums,ks,ps⟩ 0=d.kind:=by unfold kdR;dsimp only;rw [ZaQ hz,Zbi hd]
       have tq:(q:Int)<(ns.length:Int):=by omega
       have tq2:(0:Int)<=(q:Int):=by omega
       have tk3:(0:Int)<(ks.length:Int):=by have:=QK.out;omega
       have ZG:=Lib.hid (show ∀ wr:World,Below w.heap.size w wr->Calls Tryz.prog 19 #[.slice (some ad) ns.length cp,.agg #[.int .i64 13,.slice A1 ws.length c1,.slice (some ad2) nums.length c2,.slice (some ad3) ks.length c3,.int .i64 ps],.int .i64 0] wr fun e w'=>e=.returned (.int .i64 d.kind)/\Below wr.heap.size wr w' from fun wr hb=>by rw [<- ekd];exact KD0.out wr hb 0 (by have:=QK.out;omega))
       have HD:=Lib.hid (And.intro hd (And.intro hz ekd))
       clear hd hz ekd hin R3 z1
       obtain ⟨dk,dw,dn,dks,dp⟩:=d
       dsimp only at NQ NI ZG HD
       cases z6:(dk==6)
       ·have BF:=Lib.hid (show ∀ wr:World,Below w.heap.size w wr->Calls Tryz.prog 36 #[.slice (some ad) ns.length cp,.agg #[.int .i64 13,.slice A1 ws.length c1,.slice (some ad2) nums.length c2,.slice (some ad3) ks.length c3,.int .i64 ps],.int .i64 0,.int .i64 1,.int .i64 1] wr fun e w'=>e=.returned (.bool (Zax ns ⟨13,ws,nums,ks,ps⟩ 0 1 1))/\Below wr.heap.size wr w' from fun wr hb=>BL0.out wr hb 0 1 1 (by omega) (by omega))
        generalize hqB:Zax ns ⟨13,ws,nums,ks,ps⟩ 0 1 1=B at BF
        have QB:=Lib.hid hqB
        clear hqB
        cases B
        ·go_enter Tryz.func20,Tryz.ntmps20
         go_upto_region 1 with fail
         generalize (w.alloc (.cells #[.int .i64 13,.slice A1 ws.length c1,.slice (some ad2) nums.length c2,.slice (some ad3) ks.length c3,.int .i64 ps] 29))=w1 at *
         go_wp2_with (first
          | (go_at_call 16;(with_reducible refine (WF.out w1 (Za K1.out)).mono ?_);rintro e2 w2 ⟨rfl,hb2⟩;have K2:=Lib.hid (STB.out _ _ hb2 K1.out);obtain ⟨⟨k20,k21,k22,k23,k24⟩,_⟩:=id K2.out;obtain ⟨y2a,y2b,y2c⟩:=NC.out w2 (Za K2.out);clear hb2)
          | (go_at_call 37;(with_reducible refine (FF.out w2 (Za K2.out)).mono ?_);rintro e3 w3 ⟨rfl,hb3⟩;have K3:=Lib.hid (STB.out _ _ hb3 K2.out);obtain ⟨⟨k30,k31,k32,k33,k34⟩,_⟩:=id K3.out;obtain ⟨y3a,y3b,y3c⟩:=NC.out w3 (Za K3.out);clear hb3)
          | (go_at_call 19;(with_reducible refine (ZG.out w3 (Za K3.out)).mono ?_);rintro e4 w4 ⟨rfl,hb4⟩;have K4:=Lib.hid (STB.out _ _ hb4 K3.out);obtain ⟨⟨k40,k41,k42,k43,k44⟩,_⟩:=id K4.out;obtain ⟨y4a,y4b,y4c⟩:=NC.out w4 (Za K4.out);obtain ⟨m40,m41,m42,m43,m44⟩:=NQ.out w4 (Za K4.out);have z4:=ZC.out w4 (Za K4.out);clear hb4)
          | (go_at_call 36;(with_reducible refine (BF.out w4 (Za K4.out)).mono ?_);rintro e5 w5 ⟨rfl,hb5⟩;have K5:=Lib.hid (STB.out _ _ hb5 K4.out);obtain ⟨⟨k50,k51,k52,k53,k54⟩,_⟩:=id K5.out;obtain ⟨y5a,y5b,y5c⟩:=NC.out w5 (Za K5.out);clear hb5))
         go_ret
         exact ⟨Zj,Za K5.out⟩
        ·go_enter Tryz.func20,Tryz.ntmps20
         go_upto_region 1 with fail
         generalize (w.alloc (.cells #[.int .i64 13,.slice A1 ws.length c1,.slice (some ad2) nums.length c2,.slice (some ad3) ks.length c3,.int .i64 ps] 29))=w1 at *
         go_wp2_with (first
          | (go_at_call 16;(with_reducible refine (WF.out w1 (Za K1.out)).mono ?_);rintro e2 w2 ⟨rfl,hb2⟩;have K2:=Lib.hid (STB.out _ _ hb2 K1.out);obtain ⟨⟨k20,k21,k22,k23,k24⟩,_⟩:=id K2.out;obtain ⟨y2a,y2b,y2c⟩:=NC.out w2 (Za K2.out);clear hb2)
          | (go_at_call 37;(with_reducible refine (FF.out w2 (Za K2.out)).mono ?_);rintro e3 w3 ⟨rfl,hb3⟩;have K3:=Lib.hid (STB.out _ _ hb3 K2.out);obtain ⟨⟨k30,k31,k32,k33,k34⟩,_⟩:=id K3.out;obtain ⟨y3a,y3b,y3c⟩:=NC.out w3 (Za K3.out);clear hb3)
          | (go_at_call 19;(with_reducible refine (ZG.out w3 (Za K3.out)).mono ?_);rintro e4 w4 ⟨rfl,hb4⟩;have K4:=Lib.hid (STB.out _ _ hb4 K3.out);obtain ⟨⟨k40,k41,k42,k43,k44⟩,_⟩:=id K4.out;obtain ⟨y4a,y4b,y4c⟩:=NC.out w4 (Za K4.out);obtain ⟨m40,m41,m42,m43,m44⟩:=NQ.out w4 (Za K4.out);have z4:=ZC.out w4 (Za K4.out);clear hb4)
          | (go_at_call 36;(with_reducible refine (BF.out w4 (Za K4.out)).mono ?_);rintro e5 w5 ⟨rfl,hb5⟩;have K5:=Lib.hid (STB.out _ _ hb5 K4.out);obtain ⟨⟨k50,k51,k52,k53,k54⟩,_⟩:=id K5.out;obtain ⟨y5a,y5b,y5c⟩:=NC.out w5 (Za K5.out);clear hb5))
         go_ret
         exact ⟨Zae (Zhz QW.out HY.out qy qz QF.out QB.out),Za K5.out⟩
       ·have D6:=Lib.hid (show dk=6 by simpa using z6)
        by_cases qd:dn.length=1
        ·have td:((dn.length:Int)==1)=true:=by rw [beq_iff_eq];omega
         have td2:(0:Int)<(dn.length:Int):=by omega
         obtain ⟨u,hu⟩:=List.length_eq_one_iff.mp qd
         obtain ⟨B2',e2',ev,_,_,RU⟩:=NI.out
         injection ev with ea _ ec
         subst ea ec
         obtain ⟨ad4,rfl,_⟩:=Zp (x:=u) RU (Below.refl _ _) (k:=0) (by rw [hu];rfl) (by omega)
         have UC:=Lib.hid (fun (wr:World) (hb:Below w.heap.size w wr)=>show wr.cell? ad4=some (.int .i64 u) from by obtain ⟨a2,e2,q2⟩:=Zp (x:=u) RU hb (k:=0) (by rw [hu];rfl) (by omega);injection e2 with e2;subst e2;rwa [show ad4.add 0=ad4 by unfold Addr.add;simp] at q2)
         have HU:=Lib.hid hu
         clear hu qd RU
         cases z2:(u==2)
         ·go_enter Tryz.func20,Tryz.ntmps20
          go_upto_region 1 with fail
          generalize (w.alloc (.cells #[.int .i64 13,.slice A1 ws.length c1,.slice (some ad2) nums.length c2,.slice (some ad3) ks.length c3,.int .i64 ps] 29))=w1 at *
          go_upto_region 23 with (first
           | (go_at_call 16;(with_reducible refine (WF.out w1 (Za K1.out)).mono ?_);rintro e2 w2 ⟨rfl,hb2⟩;have K2:=Lib.hid (STB.out _ _ hb2 K1.out);obtain ⟨⟨k20,k21,k22,k23,k24⟩,_⟩:=id K2.out;obtain ⟨y2a,y2b,y2c⟩:=NC.out w2 (Za K2.out);clear hb2)
           | (go_at_call 37;(with_reducible refine (FF.out w2 (Za K2.out)).mono ?_);rintro e3 w3 ⟨rfl,hb3⟩;have K3:=Lib.hid (STB.out _ _ hb3 K2.out);obtain ⟨⟨k30,k31,k32,k33,k34⟩,_⟩:=id K3.out;obtain ⟨y3a,y3b,y3c⟩:=NC.out w3 (Za K3.out);clear hb3)
           | (go_at_call 19;(with_reducible refine (ZG.out w3 (Za K3.out)).mono ?_);rintro e4 w4 ⟨rfl,hb4⟩;have K4:=Lib.hid (STB.out _ _ hb4 K3.out);obtain ⟨⟨k40,k41,k42,k43,k44⟩,_⟩:=id K4.out;obtain ⟨y4a,y4b,y4c⟩:=NC.out w4 (Za K4.out);obtain ⟨m40,m41,m42,m43,m44⟩:=NQ.out w4 (Za K4.out);have z4:=ZC.out w4 (Za K4.out);clear hb4))
          have a5:=Zb w4 (.cells #[.int .i64 dk,.slice B1 dw.length e1,.slice (some ad4) dn.length e2,.slice B3 dks.length e3,.int .i64 dp] 29)
          have K9:=Lib.hid (STB.out _ _ a5 K4.out)
          have n9:=(Blk.start w4 #[.int .i64 dk,.slice B1 dw.length e1,.slice (some ad4) dn.length e2,.slice B3 dks.length e3,.int .i64 dp] 29).cell 2
          have u9:=UC.out _ (Za K9.out)
          obtain ⟨⟨k90,k91,k92,k93,k94⟩,_⟩:=id K9.out
          generalize w4.alloc (.cells #[.int .i64 dk,.slice B1 dw.length e1,.slice (some ad4) dn.length e2,.slice B3 dks.length e3,.int .i64 dp] 29)=w9 at *
          go_wp2_with fail
          go_ret
          exact ⟨Zj,Za K9.out⟩
         ·have U2:=Lib.hid (show u=2 by simpa using z2)
          have BF:=Lib.hid (show ∀ wr:World,Below w.heap.size w wr->Calls Tryz.prog 36 #[.slice (some ad) ns.length cp,.agg #[.int .i64 13,.slice A1 ws.length c1,.slice (some ad2) nums.length c2,.slice (some ad3) ks.length c3,.int .i64 ps],.int .i64 1,.int .i64 1,.int .i64 1] wr fun e w'=>e=.returned (.bool (Zax ns ⟨13,ws,nums,ks,ps⟩ 1 1 1))/\Below wr.heap.size wr w' from fun wr hb=>BL0.out wr hb 1 1 1 (by have:=QK.out;omega) (by omega))
          generalize hqB:Zax ns ⟨13,ws,nums,ks,ps⟩ 1 1 1=B at BF
          have QB:=Lib.hid hqB
          clear hqB
          cases B
          ·go_enter Tryz.func20,Tryz.ntmps20
           go_upto_region 1 with fail
           generalize (w.alloc (.cells #[.int .i64 13,.slice A1 ws.length c1,.slice (some ad2) nums.length c2,.slice (some ad3) ks.length c3,.int .i64 ps] 29))=w1 at *
           go_upto_region 23 with (first
            | (go_at_call 16;(with_reducible refine (WF.out w1 (Za K1.out)).mono ?_);rintro e2 w2 ⟨rfl,hb2⟩;have K2:=Lib.hid (STB.out _ _ hb2 K1.out);obtain ⟨⟨k20,k21,k22,k23,k24⟩,_⟩:=id K2.out;obtain ⟨y2a,y2b,y2c⟩:=NC.out w2 (Za K2.out);clear hb2)
            | (go_at_call 37;(with_reducible refine (FF.out w2 (Za K2.out)).mono ?_);rintro e3 w3 ⟨rfl,hb3⟩;have K3:=Lib.hid (STB.out _ _ hb3 K2.out);obtain ⟨⟨k30,k31,k32,k33,k34⟩,_⟩:=id K3.out;obtain ⟨y3a,y3b,y3c⟩:=NC.out w3 (Za K3.out);clear hb3)
            | (go_at_call 19;(with_reducible refine (ZG.out w3 (Za K3.out)).mono ?_);rintro e4 w4 ⟨rfl,hb4⟩;have K4:=Lib.hid (STB.out _ _ hb4 K3.out);obtain ⟨⟨k40,k41,k42,k43,k44⟩,_⟩:=id K4.out;obtain ⟨y4a,y4b,y4c⟩:=NC.out w4 (Za K4.out);obtain ⟨m40,m41,m42,m43,m44⟩:=NQ.out w4 (Za K4.out);have z4:=ZC.out w4 (Za K4.out);clear hb4))
           have a5:=Zb w4 (.cells #[.int .i64 dk,.slice B1 dw.length e1,.slice (some ad4) dn.length e2,.slice B3 dks.length e3,.int .i64 dp] 29)
           have K9:=Lib.hid (STB.out _ _ a5 K4.out)
           have n9:=(Blk.start w4 #[.int .i64 dk,.slice B1 dw.length e1,.slice (some ad4) dn.length e2,.slice B3 dks.length e3,.int .i64 dp] 29).cell 2
           have u9:=UC.out _ (Za K9.out)
           obtain ⟨⟨k90,k91,k92,k93,k94⟩,_⟩:=id K9.out
           generalize w4.alloc (.cells #[.int .i64 dk,.slice B1 dw.length e1,.slice (some ad4) dn.length e2,.slice B3 dks.length e3,.int .i64 dp] 29)=w9 at *
           go_wp2_with (go_at_call 36;(with_reducible refine (BF.out w9 (Za K9.out)).mono ?_);rintro ea wa ⟨rfl,hba⟩;have BA:=Lib.hid ((Za K9.out).trans (hba.mono (Za K9.out).size));clear hba)
           go_ret
           exact ⟨Zj,BA.out⟩
          ·go_enter Tryz.func20,Tryz.ntmps20
           go_upto_region 1 with fail
           generalize (w.alloc (.cells #[.int .i64 13,.slice A1 ws.length c1,.slice (some ad2) nums.length c2,.slice (some ad3) ks.length c3,.int .i64 ps] 29))=w1 at *
           go_upto_region 23 with (first
            | (go_at_call 16;(with_reducible refine (WF.out w1 (Za K1.out)).mono ?_);rintro e2 w2 ⟨rfl,hb2⟩;have K2:=Lib.hid (STB.out _ _ hb2 K1.out);obtain ⟨⟨k20,k21,k22,k23,k24⟩,_⟩:=id K2.out;obtain ⟨y2a,y2b,y2c⟩:=NC.out w2 (Za K2.out);clear hb2)
            | (go_at_call 37;(with_reducible refine (FF.out w2 (Za K2.out)).mono ?_);rintro e3 w3 ⟨rfl,hb3⟩;have K3:=Lib.hid (STB.out _ _ hb3 K2.out);obtain ⟨⟨k30,k31,k32,k33,k34⟩,_⟩:=id K3.out;obtain ⟨y3a,y3b,y3c⟩:=NC.out w3 (Za K3.out);clear hb3)
            | (go_at_call 19;(with_reducible refine (ZG.out w3 (Za K3.out)).mono ?_);rintro e4 w4 ⟨rfl,hb4⟩;have K4:=Lib.hid (STB.out _ _ hb4 K3.out);obtain ⟨⟨k40,k41,k42,k43,k44⟩,_⟩:=id K4.out;obtain ⟨y4a,y4b,y4c⟩:=NC.out w4 (Za K4.out);obtain ⟨m40,m41,m42,m43,m44⟩:=NQ.out w4 (Za K4.out);have z4:=ZC.out w4 (Za K4.out);clear hb4))
           have a5:=Zb w4 (.cells #[.int .i64 dk,.slice B1 dw.length e1,.slice (some ad4) dn.length e2,.slice B3 dks.length e3,.int .i64 dp] 29)
           have K9:=Lib.hid (STB.out _ _ a5 K4.out)
           have n9:=(Blk.start w4 #[.int .i64 dk,.slice B1 dw.length e1,.slice (some ad4) dn.length e2,.slice B3 dks.length e3,.int .i64 dp] 29).cell 2
           have u9:=UC.out _ (Za K9.out)
           obtain ⟨⟨k90,k91,k92,k93,k94⟩,_⟩:=id K9.out
           generalize w4.alloc (.cells #[.int .i64 dk,.slice B1 dw.length e1,.slice (some ad4) dn.length e2,.slice B3 dks.length e3,.int .i64 dp] 29)=w9 at *
           go_wp2_with (go_at_call 36;(with_reducible refine (BF.out w9 (Za K9.out)).mono ?_);rintro ea wa ⟨rfl,hba⟩;have BA:=Lib.hid ((Za K9.out).trans (hba.mono (Za K9.out).size));clear hba)
           go_ret
           exact ⟨Zae (ZhA QW.out HY.out qy qz QF.out HD.out.2.1 HD.out.1 D6.out (HU.out.trans (by rw [U2.out])) QB.out),BA.out⟩
        ·have td:((dn.length:Int)==1)=false:=by rw [beq_eq_false_iff_ne];omega
         go_enter Tryz.func20,Tryz.ntmps20
         go_upto_region 1 with fail
         generalize (w.alloc (.cells #[.int .i64 13,.slice A1 ws.length c1,.slice (some ad2) nums.length c2,.slice (some ad3) ks.length c3,.int .i64 ps] 29))=w1 at *
         go_upto_region 23 with (first
          | (go_at_call 16;(with_reducible refine (WF.out w1 (Za K1.out)).mono ?_);rintro e2 w2 ⟨rfl,hb2⟩;have K2:=Lib.hid (STB.out _ _ hb2 K1.out);obtain ⟨⟨k20,k21,k22,k23,k24⟩,_⟩:=id K2.out;obtain ⟨y2a,y2b,y2c⟩:=NC.out w2 (Za K2.out);clear hb2)
          | (go_at_call 37;(with_reducible refine (FF.out w2 (Za K2.out)).mono ?_);rintro e3 w3 ⟨rfl,hb3⟩;have K3:=Lib.hid (STB.out _ _ hb3 K2.out);obtain ⟨⟨k30,k31,k32,k33,k34⟩,_⟩:=id K3.out;obtain ⟨y3a,y3b,y3c⟩:=NC.out w3 (Za K3.out);clear hb3)
          | (go_at_call 19;(with_reducible refine (ZG.out w3 (Za K3.out)).mono ?_);rintro e4 w4 ⟨rfl,hb4⟩;have K4:=Lib.hid (STB.out _ _ hb4 K3.out);obtain ⟨⟨k40,k41,k42,k43,k44⟩,_⟩:=id K4.out;obtain ⟨y4a,y4b,y4c⟩:=NC.out w4 (Za K4.out);obtain ⟨m40,m41,m42,m43,m44⟩:=NQ.out w4 (Za K4.out);have z4:=ZC.out w4 (Za K4.out);clear hb4))
         have a5:=Zb w4 (.cells #[.int .i64 dk,.slice B1 dw.length e1,.slice B2 dn.length e2,.slice B3 dks.length e3,.int .i64 dp] 29)
         have K9:=Lib.hid (STB.out _ _ a5 K4.out)
         have n9:=(Blk.start w4 #[.int .i64 dk,.slice B1 dw.length e1,.slice B2 dn.length e2,.slice B3 dks.length e3,.int .i64 dp] 29).cell 2
         obtain ⟨⟨k90,k91,k92,k93,k94⟩,_⟩:=id K9.out
         generalize w4.alloc (.cells #[.int .i64 dk,.slice B1 dw.length e1,.slice B2 dn.length e2,.slice B3 dks.length e3,.int .i64 dp] 29)=w9 at *
         go_wp2_with fail
         go_ret
         exact ⟨Zj,Za K9.out⟩
      ·have tk:((ks.length:Int)==0)=true:=by rw [beq_iff_eq];omega
       go_enter Tryz.func20,Tryz.ntmps20
       go_upto_region 1 with fail
       generalize (w.alloc (.cells #[.int .i64 13,.slice A1 ws.length c1,.slice (some ad2) nums.length c2,.slice A3 ks.length c3,.int .i64 ps] 29))=w1 at *
       go_wp2_with (first
        | (go_at_call 16;(with_reducible refine (WF.out w1 (Za K1.out)).mono ?_);rintro e2 w2 ⟨rfl,hb2⟩;have K2:=Lib.hid (STB.out _ _ hb2 K1.out);obtain ⟨⟨k20,k21,k22,k23,k24⟩,_⟩:=id K2.out;obtain ⟨y2a,y2b,y2c⟩:=NC.out w2 (Za K2.out);clear hb2)
        | (go_at_call 37;(with_reducible refine (FF.out w2 (Za K2.out)).mono ?_);rintro e3 w3 ⟨rfl,hb3⟩;have K3:=Lib.hid (STB.out _ _ hb3 K2.out);obtain ⟨⟨k30,k31,k32,k33,k34⟩,_⟩:=id K3.out;obtain ⟨y3a,y3b,y3c⟩:=NC.out w3 (Za K3.out);clear hb3))
       go_ret
       exact ⟨Zj,Za K3.out⟩
    ·have tz:4<y:=by omega
     go_enter Tryz.func20,Tryz.ntmps20
     go_upto_region 1 with fail
     generalize (w.alloc (.cells #[.int .i64 13,.slice A1 ws.length c1,.slice (some ad2) nums.length c2,.slice A3 ks.length c3,.int .i64 ps] 29))=w1 at *
     go_wp2_with (first
      | (go_at_call 16;(with_reducible refine (WF.out w1 (Za K1.out)).mono ?_);rintro e2 w2 ⟨rfl,hb2⟩;have K2:=Lib.hid (STB.out _ _ hb2 K1.out);obtain ⟨⟨k20,k21,k22,k23,k24⟩,_⟩:=id K2.out;obtain ⟨y2a,y2b,y2c⟩:=NC.out w2 (Za K2.out);clear hb2))
     go_ret
     exact ⟨Zj,Za K2.out⟩
   ·have ty:y<1:=by omega
    go_enter Tryz.func20,Tryz.ntmps20
    go_upto_region 1 with fail
    generalize (w.alloc (.cells #[.int .i64 13,.slice A1 ws.length c1,.slice (some ad2) nums.length c2,.slice A3 ks.length c3,.int .i64 ps] 29))=w1 at *
    go_wp2_with (first
     | (go_at_call 16;(with_reducible refine (WF.out w1 (Za K1.out)).mono ?_);rintro e2 w2 ⟨rfl,hb2⟩;have K2:=Lib.hid (STB.out _ _ hb2 K1.out);obtain ⟨⟨k20,k21,k22,k23,k24⟩,_⟩:=id K2.out;obtain ⟨y2a,y2b,y2c⟩:=NC.out w2 (Za K2.out);clear hb2))
    go_ret
    exact ⟨Zj,Za K2.out⟩
  ·have tn:((nums.length:Int)==3)=false:=by rw [beq_eq_false_iff_ne];omega
   have tn4:((nums.length:Int) != 3)=true:=by rw [bne,tn];rfl
   go_enter Tryz.func20,Tryz.ntmps20
   go_upto_region 1 with fail
   generalize (w.alloc (.cells #[.int .i64 13,.slice A1 ws.length c1,.slice A2 nums.length c2,.slice A3 ks.length c3,.int .i64 ps] 29))=w1 at *
   go_wp2_with (first
    | (go_at_call 16;(with_reducible refine (WF.out w1 (Za K1.out)).mono ?_);rintro e2 w2 ⟨rfl,hb2⟩;have K2:=Lib.hid (STB.out _ _ hb2 K1.out);obtain ⟨⟨k20,k21,k22,k23,k24⟩,_⟩:=id K2.out;clear hb2))
   go_ret
   exact ⟨Zj,Za K2.out⟩
end
end Go.Proofs.YtenbomphkihmlaaGreatDoor
