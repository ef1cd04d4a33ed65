import Derived.Test.YtenbomphkihmlaaGreatDoorQBB
set_option maxRecDepth 100000
set_option maxHeartbeats 8000000
namespace Go.Proofs.YtenbomphkihmlaaGreatDoor
section
open Go.RowKit
def ZcC (ns:List Nd) (l:List Int):Int:=match l.getLast? with
 | none=>-1
 | some k=>Zac ns k
theorem Zej {ns:List Nd} {k:Int}:∀ (l:List Int),ZY ns l=true->ZcC ns l<Zac ns k->ZY ns (l++[k])=true
 | [],_,_=>rfl
 | [x],_,h=>by
  have h:Zac ns x<Zac ns k:=h
  show (decide (Zac ns x<Zac ns k)&&ZY ns [k])=true
  rw [decide_eq_true h]
  rfl
 | x::y::r,h,hl=>by
  rw [ZY,Bool.and_eq_true] at h
  show (decide (Zac ns x<Zac ns y)&&ZY ns ((y::r)++[k]))=true
  rw [h.1,Zej (y::r) h.2 (by
   have e:(x::y::r).getLast? = (y::r).getLast?:=by simp [List.getLast?_cons]
   unfold ZcC at hl ⊢
   rwa [e] at hl)]
  rfl
theorem Zdn {ns:List Nd} {ks:List Int} {i q:Nat} {last u:Int} {dk dp:Int} {dw:List (List UInt8)} {dn dks:List Int} (hP:ZQ ns (ks.take i) (isB [6])=true/\ZY ns (ks.take i)=true/\ZcC ns (ks.take i)=last) (hz:ks[i]? = some (q:Int)) (hd:ns[q]? = some ⟨dk,dw,dn,dks,dp⟩) (h6:dk=6) (hu:dn=[u]) (hl:last<u) :
  ZQ ns (ks.take (i+1)) (isB [6])=true/\ZY ns (ks.take (i+1))=true/\ZcC ns (ks.take (i+1))=u:=by
 obtain ⟨h1,h2,h3⟩:=hP
 have e:ks.take (i+1)=ks.take i++[(q:Int)]:=by rw [List.take_add_one,hz];rfl
 have hw:Zac ns (q:Int)=u:=ZcK (k:=q) hd hu
 refine ⟨?_,?_,?_⟩
 ·unfold ZQ at h1 ⊢
  rw [e,List.all_append,h1,List.all_cons,Zbi hd,h6]
  rfl
 ·rw [e]
  exact Zej _ h2 (by rw [h3,hw];exact hl)
 ·rw [e]
  unfold ZcC
  rw [List.getLast?_concat]
  exact hw
theorem Zhx {ns:List Nd} {ws:List (List UInt8)} {nums ks:List Int} {ps:Int} (hw:Zt ⟨5,ws,nums,ks,ps⟩ 1 1=true) (hn:ZJ ⟨5,ws,nums,ks,ps⟩=true) (hk:ks.length=0):Zw ns ⟨5,ws,nums,ks,ps⟩=true:=by
 obtain ⟨a,b,c⟩:=Zak hw
 obtain rfl:nums=[]:=Zao hn
 obtain rfl:=List.length_eq_zero_iff.mp hk
 refine Zaw a rfl ?_
 show (Zo _ 1 0&&Zk ns [] []||Zo _ 2 3&&Za7 ns _)=true
 rw [Zau (a:=1) (b:=0) (by show ws.length=1;omega) rfl]
 rfl
theorem Zdb {ns:List Nd} {ws:List (List UInt8)} {nums ks:List Int} {ps y ya yb:Int} (hw:Zt ⟨5,ws,nums,ks,ps⟩ 2 2=true) (hy:nums=[y,ya,yb]) (h0:0<=y) (h4:y<=4) (hf:(ya=0/\yb=0)\/Zbn ⟨5,ws,nums,ks,ps⟩=true) (ha:ZQ ns ks (isB [6])=true) (hr:ZY ns ks=true):Zw ns ⟨5,ws,nums,ks,ps⟩=true:=by
 obtain ⟨a,b,c⟩:=Zak hw
 have hf':(ya=0/\yb=0)\/(1<=ya/\ya<1000000000000000000/\1<=yb/\yb<1000000000000000000):=by
  rcases hf with h | h
  ·exact .inl h
  ·exact .inr (Zdi hy h)
 subst hy
 refine Zaw a (by simp [ZaK];omega) ?_
 show (Zo _ 1 0&&Zk ns ks []||Zo _ 2 3&&(decide (y<=4)&&((ya==0&&yb==0)||(decide (1<=ya)&&decide (1<=yb)))&&ZQ ns ks (isB [6])&&ZY ns ks))=true
 have hz:((ya==0&&yb==0)||(decide (1<=ya)&&decide (1<=yb)))=true:=by
  rcases hf' with ⟨rfl,rfl⟩ | ⟨f1,f2,f3,f4⟩
  ·rfl
  ·rw [decide_eq_true f1,decide_eq_true f3,Bool.or_comm];rfl
 rw [Zau (a:=2) (b:=3) (by show ws.length=2;omega) rfl,hz,ha,hr,decide_eq_true h4,Bool.or_comm]
 rfl
theorem ZfT (w:World) (v:Value) (ns:List Nd) (va vb vc:Value) (ws:List (List UInt8)) (nums ks:List Int) (ps:Int) (hN:Zf w v ns) (hx:Zv w ((va,vb,vc),⟨5,ws,nums,ks,ps⟩)) (hk:Zz ks ns.length) :
  Calls Tryz.prog 33 #[v,ndV ((va,vb,vc),⟨5,ws,nums,ks,ps⟩)] w fun e w'=>OkB (Zw ns ⟨5,ws,nums,ks,ps⟩=true) e/\Below w.heap.size w w':=by
 obtain ⟨h1,h2,h3⟩:=id hx
 dsimp only at h1 h2 h3
 have WR:=Lib.hid (fun (wr:World) (hb:Below w.heap.size w wr) (a b:Int)=>ZN wr _ a b (hx.below hb))
 have NO0:=Lib.hid (fun (wr:World) (hb:Below w.heap.size w wr)=>ZU wr _ (hx.below hb))
 have KD0:=Lib.hid (fun (wr:World) (hb:Below w.heap.size w wr) (i:Nat) (hi:i<ks.length)=>Zaa wr v ns _ i (hN.below hb) (hx.below hb) hk hi)
 have BL0:=Lib.hid (fun (wr:World) (hb:Below w.heap.size w wr) (f:Nat) (a b:Int) (hf:f<=ks.length) (hf1:f<=1)=>ZF wr v ns _ f a b (hN.below hb) (hx.below hb) hk hf hf1)
 have FR0:=Lib.hid (fun (hl:nums.length=3) (wr:World) (hb:Below w.heap.size w wr)=>ZT wr _ (hx.below hb) hl)
 have HN:=Lib.hid hN
 have HK3:=Lib.hid h3
 have KI:=Lib.hid hk
 obtain ⟨Av,cv,rfl⟩:∃ A c,v=.slice A ns.length c:=by obtain ⟨A,c,_,e,_⟩:=hN;exact ⟨A,c,e⟩
 obtain ⟨A1,c1,rfl,_⟩:=h1
 obtain ⟨A2,c2,rfl,_,_,R2'⟩:=h2
 have KL:=Lib.hid h3.len
 obtain ⟨A3,c3,rfl,_⟩:=h3
 have R2:=Lib.hid R2'
 unfold ndV at WR NO0 KD0 BL0 FR0 ⊢
 dsimp only at WR NO0 KD0 BL0 FR0 ⊢
 have STB:=Lib.hid (show Stb (fun w'=>(w'.cell? ⟨w.heap.size,0,none⟩=some (.int .i64 5)/\w'.cell? ⟨w.heap.size,1,none⟩=some (.slice A1 ws.length c1)/\w'.cell? ⟨w.heap.size,2,none⟩=some (.slice A2 nums.length c2)/\w'.cell? ⟨w.heap.size,3,none⟩=some (.slice A3 ks.length c3)/\w'.cell? ⟨w.heap.size,4,none⟩=some (.int .i64 ps))/\Below w.heap.size w w') from Zd (Zd (Zc _ _) (Zd (Zc _ _) (Zd (Zc _ _) (Zd (Zc _ _) (Zc _ _))))) (Zn w))
 have HS1:((w.alloc (.cells #[.int .i64 5,.slice A1 ws.length c1,.slice A2 nums.length c2,.slice A3 ks.length c3,.int .i64 ps] 29)).cell? ⟨w.heap.size,0,none⟩=some (.int .i64 5)/\(w.alloc (.cells #[.int .i64 5,.slice A1 ws.length c1,.slice A2 nums.length c2,.slice A3 ks.length c3,.int .i64 ps] 29)).cell? ⟨w.heap.size,1,none⟩=some (.slice A1 ws.length c1)/\(w.alloc (.cells #[.int .i64 5,.slice A1 ws.length c1,.slice A2 nums.length c2,.slice A3 ks.length c3,.int .i64 ps] 29)).cell? ⟨w.heap.size,2,none⟩=some (.slice A2 nums.length c2)/\(w.alloc (.cells #[.int .i64 5,.slice A1 ws.length c1,.slice A2 nums.length c2,.slice A3 ks.length c3,.int .i64 ps] 29)).cell? ⟨w.heap.size,3,none⟩=some (.slice A3 ks.length c3)/\(w.alloc (.cells #[.int .i64 5,.slice A1 ws.length c1,.slice A2 nums.length c2,.slice A3 ks.length c3,.int .i64 ps] 29)).cell? ⟨w.heap.size,4,none⟩=some (.int .i64 ps))/\Below w.heap.size w (w.alloc (.cells #[.int .i64 5,.slice A1 ws.length c1,.slice A2 nums.length c2,.slice A3 ks.length c3,.int .i64 ps] 29)):=⟨⟨(Blk.start w _ _).cell 0,(Blk.start w _ _).cell 1,(Blk.start w _ _).cell 2,(Blk.start w _ _).cell 3,(Blk.start w _ _).cell 4⟩,Zb w _⟩
 have K1:=Lib.hid HS1
 obtain ⟨⟨g0,g1,g2,g3,g4⟩,_⟩:=HS1
 clear R2' hx hN hk
 by_cases qw:ws.length=1
 ·have tw:((ws.length:Int)==1)=true:=by rw [beq_iff_eq];omega
  clear qw
  have WF:=Lib.hid (show ∀ wr:World,Below w.heap.size w wr->Calls Tryz.prog 16 #[.agg #[.int .i64 5,.slice A1 ws.length c1,.slice A2 nums.length c2,.slice A3 ks.length c3,.int .i64 ps],.int .i64 1,.int .i64 1] wr fun e w'=>e=.returned (.bool (Zt ⟨5,ws,nums,ks,ps⟩ 1 1))/\Below wr.heap.size wr w' from fun wr hb=>WR.out wr hb 1 1)
  generalize hqW:Zt ⟨5,ws,nums,ks,ps⟩ 1 1=W at WF
  have QW:=Lib.hid hqW
  clear hqW
  cases W
  ·go_enter Tryz.func33,Tryz.ntmps33
   go_upto_region 1 with fail
   generalize (w.alloc (.cells #[.int .i64 5,.slice A1 ws.length c1,.slice A2 nums.length c2,.slice A3 ks.length c3,.int .i64 ps] 29))=w1 at *
   go_wp2_with (first
    | (go_at_call 16;(with_reducible refine (WF.out w1 (Za K1.out)).mono ?_);rintro e2 w2 ⟨rfl,hb2⟩;have K2:=Lib.hid (STB.out _ _ hb2 K1.out);obtain ⟨⟨k20,k21,k22,k23,k24⟩,_⟩:=id K2.out;clear hb2))
   go_ret
   exact ⟨Zj,Za K2.out⟩
  ·have NF:=Lib.hid (show ∀ wr:World,Below w.heap.size w wr->Calls Tryz.prog 17 #[.agg #[.int .i64 5,.slice A1 ws.length c1,.slice A2 nums.length c2,.slice A3 ks.length c3,.int .i64 ps]] wr fun e w'=>e=.returned (.bool (ZJ ⟨5,ws,nums,ks,ps⟩))/\Below wr.heap.size wr w' from fun wr hb=>NO0.out wr hb)
   generalize hqN:ZJ ⟨5,ws,nums,ks,ps⟩=N at NF
   have QN:=Lib.hid hqN
   clear hqN
   cases N
   ·go_enter Tryz.func33,Tryz.ntmps33
    go_upto_region 1 with fail
    generalize (w.alloc (.cells #[.int .i64 5,.slice A1 ws.length c1,.slice A2 nums.length c2,.slice A3 ks.length c3,.int .i64 ps] 29))=w1 at *
    go_wp2_with (first
     | (go_at_call 16;(with_reducible refine (WF.out w1 (Za K1.out)).mono ?_);rintro e2 w2 ⟨rfl,hb2⟩;have K2:=Lib.hid (STB.out _ _ hb2 K1.out);obtain ⟨⟨k20,k21,k22,k23,k24⟩,_⟩:=id K2.out;clear hb2)
     | (go_at_call 17;(with_reducible refine (NF.out w2 (Za K2.out)).mono ?_);rintro e3 w3 ⟨rfl,hb3⟩;have K3:=Lib.hid (STB.out _ _ hb3 K2.out);obtain ⟨⟨k30,k31,k32,k33,k34⟩,_⟩:=id K3.out;clear hb3))
    go_ret
    exact ⟨Zj,Za K3.out⟩
   ·by_cases qk:ks.length=0
    ·have tk:((ks.length:Int)==0)=true:=by rw [beq_iff_eq];omega
     have QK:=Lib.hid qk
     clear qk
     go_enter Tryz.func33,Tryz.ntmps33
     go_upto_region 1 with fail
     generalize (w.alloc (.cells #[.int .i64 5,.slice A1 ws.length c1,.slice A2 nums.length c2,.slice A3 ks.length c3,.int .i64 ps] 29))=w1 at *
     go_wp2_with (first
      | (go_at_call 16;(with_reducible refine (WF.out w1 (Za K1.out)).mono ?_);rintro e2 w2 ⟨rfl,hb2⟩;have K2:=Lib.hid (STB.out _ _ hb2 K1.out);obtain ⟨⟨k20,k21,k22,k23,k24⟩,_⟩:=id K2.out;clear hb2)
      | (go_at_call 17;(with_reducible refine (NF.out w2 (Za K2.out)).mono ?_);rintro e3 w3 ⟨rfl,hb3⟩;have K3:=Lib.hid (STB.out _ _ hb3 K2.out);obtain ⟨⟨k30,k31,k32,k33,k34⟩,_⟩:=id K3.out;clear hb3))
     go_ret
     exact ⟨Zae (Zhx QW.out QN.out QK.out),Za K3.out⟩
    ·have tk:((ks.length:Int)==0)=false:=by rw [beq_eq_false_iff_ne];omega
     go_enter Tryz.func33,Tryz.ntmps33
     go_upto_region 1 with fail
     generalize (w.alloc (.cells #[.int .i64 5,.slice A1 ws.length c1,.slice A2 nums.length c2,.slice A3 ks.length c3,.int .i64 ps] 29))=w1 at *
     go_wp2_with (first
      | (go_at_call 16;(with_reducible refine (WF.out w1 (Za K1.out)).mono ?_);rintro e2 w2 ⟨rfl,hb2⟩;have K2:=Lib.hid (STB.out _ _ hb2 K1.out);obtain ⟨⟨k20,k21,k22,k23,k24⟩,_⟩:=id K2.out;clear hb2)
      | (go_at_call 17;(with_reducible refine (NF.out w2 (Za K2.out)).mono ?_);rintro e3 w3 ⟨rfl,hb3⟩;have K3:=Lib.hid (STB.out _ _ hb3 K2.out);obtain ⟨⟨k30,k31,k32,k33,k34⟩,_⟩:=id K3.out;clear hb3))
     go_ret
     exact ⟨Zj,Za K3.out⟩
 ·have tw:((ws.length:Int)==1)=false:=by rw [beq_eq_false_iff_ne];omega
  clear qw
  have WF:=Lib.hid (show ∀ wr:World,Below w.heap.size w wr->Calls Tryz.prog 16 #[.agg #[.int .i64 5,.slice A1 ws.length c1,.slice A2 nums.length c2,.slice A3 ks.length c3,.int .i64 ps],.int .i64 2,.int .i64 2] wr fun e w'=>e=.returned (.bool (Zt ⟨5,ws,nums,ks,ps⟩ 2 2))/\Below wr.heap.size wr w' from fun wr hb=>WR.out wr hb 2 2)
  generalize hqW:Zt ⟨5,ws,nums,ks,ps⟩ 2 2=W at WF
  have QW:=Lib.hid hqW
  clear hqW
  cases W
  ·go_enter Tryz.func33,Tryz.ntmps33
   go_upto_region 1 with fail
   generalize (w.alloc (.cells #[.int .i64 5,.slice A1 ws.length c1,.slice A2 nums.length c2,.slice A3 ks.length c3,.int .i64 ps] 29))=w1 at *
   go_wp2_with (first
    | (go_at_call 16;(with_reducible refine (WF.out w1 (Za K1.out)).mono ?_);rintro e2 w2 ⟨rfl,hb2⟩;have K2:=Lib.hid (STB.out _ _ hb2 K1.out);obtain ⟨⟨k20,k21,k22,k23,k24⟩,_⟩:=id K2.out;clear hb2))
   go_ret
   exact ⟨Zj,Za K2.out⟩
  ·by_cases qn:nums.length=3
   ·have tn:((nums.length:Int)==3)=true:=by rw [beq_iff_eq];omega
    have tn4:((nums.length:Int) != 3)=false:=by rw [bne,tn];rfl
    have tn2:(0:Int)<(nums.length:Int):=by omega
    have tn3:(1:Int)<(nums.length:Int):=by omega
    have tn5:(2:Int)<(nums.length:Int):=by omega
    obtain ⟨y,ya,yb,hy⟩:=Zdo qn
    obtain ⟨ad2,rfl,_⟩:=Zp (x:=y) R2.out (Za K1.out) (k:=0) (by rw [hy];rfl) (by omega)
    have NC:=Lib.hid (fun (wr:World) (hb:Below w.heap.size w wr)=>show wr.cell? ad2=some (.int .i64 y)/\wr.cell? ⟨ad2.block,ad2.off+1,none⟩=some (.int .i64 ya)/\wr.cell? ⟨ad2.block,ad2.off+2,none⟩=some (.int .i64 yb) from by
     obtain ⟨a2,e2,q2⟩:=Zp (x:=y) R2.out hb (k:=0) (by rw [hy];rfl) (by omega)
     injection e2 with e2
     subst e2
     obtain ⟨a2,e2,q3⟩:=Zp (x:=ya) R2.out hb (k:=1) (by rw [hy];rfl) (by omega)
     injection e2 with e2
     subst e2
     obtain ⟨a2,e2,q4⟩:=Zp (x:=yb) R2.out hb (k:=2) (by rw [hy];rfl) (by omega)
     injection e2 with e2
     subst e2
     rw [show ad2.add 0=ad2 by unfold Addr.add;simp] at q2
     rw [show ad2.add 1=⟨ad2.block,ad2.off+1,none⟩ by unfold Addr.add;simp] at q3
     rw [show ad2.add 2=⟨ad2.block,ad2.off+2,none⟩ by unfold Addr.add;simp] at q4
     exact ⟨q2,q3,q4⟩)
    obtain ⟨y1a,y1b,y1c⟩:=NC.out _ (Za K1.out)
    have HY:=Lib.hid hy
    have hl:=Lib.hid qn
    clear hy qn
    by_cases qy:0<=y
    ·by_cases qz:y<=4
     ·cases za:(ya==0)
      ·have FF:=Lib.hid (show ∀ wr:World,Below w.heap.size w wr->Calls Tryz.prog 37 #[.agg #[.int .i64 5,.slice A1 ws.length c1,.slice (some ad2) nums.length c2,.slice A3 ks.length c3,.int .i64 ps]] wr fun e w'=>e=.returned (.bool (Zbn ⟨5,ws,nums,ks,ps⟩))/\Below wr.heap.size wr w' from fun wr hb=>FR0.out hl wr hb)
       generalize hqF:Zbn ⟨5,ws,nums,ks,ps⟩=F at FF
       have QF:=Lib.hid hqF
       clear hqF
       cases F
       ·go_enter Tryz.func33,Tryz.ntmps33
        go_upto_region 1 with fail
        generalize (w.alloc (.cells #[.int .i64 5,.slice A1 ws.length c1,.slice (some ad2) nums.length c2,.slice A3 ks.length c3,.int .i64 ps] 29))=w1 at *
        go_wp2_with (first
         | (go_at_call 16;(with_reducible refine (WF.out w1 (Za K1.out)).mono ?_);rintro e2 w2 ⟨rfl,hb2⟩;have K2:=Lib.hid (STB.out _ _ hb2 K1.out);obtain ⟨⟨k20,k21,k22,k23,k24⟩,_⟩:=id K2.out;obtain ⟨y2a,y2b,y2c⟩:=NC.out w2 (Za K2.out);clear hb2)
         | (go_at_call 37;(with_reducible refine (FF.out w2 (Za K2.out)).mono ?_);rintro e3 w3 ⟨rfl,hb3⟩;have K3:=Lib.hid (STB.out _ _ hb3 K2.out);obtain ⟨⟨k30,k31,k32,k33,k34⟩,_⟩:=id K3.out;obtain ⟨y3a,y3b,y3c⟩:=NC.out w3 (Za K3.out);clear hb3))
        go_ret
        exact ⟨Zj,Za K3.out⟩
       ·have QZ:=Lib.hid (Or.inr QF.out:(ya=0/\yb=0)\/Zbn ⟨5,ws,nums,ks,ps⟩=true)
        go_enter Tryz.func33,Tryz.ntmps33
        go_upto_region 1 with fail
        generalize (w.alloc (.cells #[.int .i64 5,.slice A1 ws.length c1,.slice (some ad2) nums.length c2,.slice A3 ks.length c3,.int .i64 ps] 29))=w1 at *
        go_wp2_with (first
         | (go_at_call 16;(with_reducible refine (WF.out w1 (Za K1.out)).mono ?_);rintro e2 w2 ⟨rfl,hb2⟩;have K2:=Lib.hid (STB.out _ _ hb2 K1.out);obtain ⟨⟨k20,k21,k22,k23,k24⟩,_⟩:=id K2.out;obtain ⟨y2a,y2b,y2c⟩:=NC.out w2 (Za K2.out);clear hb2)
         | (go_at_call 37;(with_reducible refine (FF.out w2 (Za K2.out)).mono ?_);rintro e3 w3 ⟨rfl,hb3⟩;have K3:=Lib.hid (STB.out _ _ hb3 K2.out);obtain ⟨⟨k30,k31,k32,k33,k34⟩,_⟩:=id K3.out;obtain ⟨y3a,y3b,y3c⟩:=NC.out w3 (Za K3.out);clear hb3))
        go_loopg [5,6] ks.length (fun gk v5 v6 wr=>∃ (i:Nat) (last:Int),v5=.int .i64 last/\v6=.int .i64 i/\i<=ks.length/\gk=ks.length-i/\(ZQ ns (ks.take i) (isB [6])=true/\ZY ns (ks.take i)=true/\ZcC ns (ks.take i)=last)/\((wr.cell? ⟨w.heap.size,0,none⟩=some (.int .i64 5)/\wr.cell? ⟨w.heap.size,1,none⟩=some (.slice A1 ws.length c1)/\wr.cell? ⟨w.heap.size,2,none⟩=some (.slice (some ad2) nums.length c2)/\wr.cell? ⟨w.heap.size,3,none⟩=some (.slice A3 ks.length c3)/\wr.cell? ⟨w.heap.size,4,none⟩=some (.int .i64 ps))/\Below w.heap.size w wr))
        case atStart=>exact ⟨0,-1,rfl,rfl,Nat.zero_le _,rfl,⟨rfl,rfl,rfl⟩,K3.out⟩
        case round=>
         obtain ⟨i,last,rfl,rfl,hi,hgk,hP,hS⟩:=hrel
         have KR:=Lib.hid hS
         obtain ⟨⟨g0',g1',g2',g3',g4'⟩,_⟩:=hS
         by_cases hin:i=ks.length
         ·have e:ks.take i=ks:=by rw [hin];exact List.take_length
          rw [e] at hP
          have HP:=Lib.hid hP
          have ti:¬ (i:Int)<(ks.length:Int):=by omega
          clear e hP hgk
          go_wp2_with fail
          go_ret
          exact ⟨Zae (Zdb QW.out HY.out qy qz QZ.out HP.out.1 HP.out.2.1),Za KR.out⟩
         ·have hlt:i<ks.length:=by omega
          obtain ⟨z,hz⟩:∃ z,ks[i]? = some z:=⟨_,List.getElem?_eq_getElem hlt⟩
          have hb:=KI.out z (List.mem_of_getElem? hz)
          obtain ⟨q,rfl⟩:∃ q:Nat,z=q:=⟨z.toNat,by omega⟩
          obtain ⟨d,ad,cp,B1,B2,B3,e1,e2,e3,hd,ev,hI,hc⟩:=Zcn HN.out (q:=q) (by omega)
          injection ev with ea _ ec
          subst ea ec
          obtain ⟨m0,m1,m2,m3,m4⟩:=hc wr (Za KR.out)
          obtain ⟨A3',c3',ev,_,_,R3⟩:=HK3.out
          injection ev with ea _ ec
          subst ea ec
          obtain ⟨ad3,rfl,z1⟩:=Zp R3 (Za KR.out) hz (by omega)
          have ti:(i:Int)<(ks.length:Int):=by omega
          have ti2:(0:Int)<=(i:Int):=by omega
          have tq:(q:Int)<(ns.length:Int):=by omega
          have tq2:(0:Int)<=(q:Int):=by omega
          have wk:IntKind.i64.wrap ((i:Int)+1)=(i:Int)+1:=IntWalk.i64_in _ (by have:=KL.out;unfold maxLen at this;omega)
          have HI:=Lib.hid (And.intro hlt (And.intro hgk (And.intro hP (And.intro hd hz))))
          have NI:=Lib.hid hI
          clear hgk hP hz hd hI hc R3 hin hlt hi hb
          obtain ⟨dk,dw,dn,dks,dp⟩:=d
          dsimp only at m0 m1 m2 m3 m4 NI
          cases z6:(dk==6)
          ·have z6':(dk != 6)=true:=by rw [bne,z6];rfl
           go_upto_region 12 with fail
           have a5:=Zb wr (.cells #[.int .i64 dk,.slice B1 dw.length e1,.slice B2 dn.length e2,.slice B3 dks.length e3,.int .i64 dp] 29)
           have K9:=Lib.hid (STB.out _ _ a5 KR.out)
           have n9:=(Blk.start wr #[.int .i64 dk,.slice B1 dw.length e1,.slice B2 dn.length e2,.slice B3 dks.length e3,.int .i64 dp] 29).cell 2
           have n8:=(Blk.start wr #[.int .i64 dk,.slice B1 dw.length e1,.slice B2 dn.length e2,.slice B3 dks.length e3,.int .i64 dp] 29).cell 0
           obtain ⟨⟨k90,k91,k92,k93,k94⟩,_⟩:=id K9.out
           generalize wr.alloc (.cells #[.int .i64 dk,.slice B1 dw.length e1,.slice B2 dn.length e2,.slice B3 dks.length e3,.int .i64 dp] 29)=w9 at *
           go_wp2_with fail
           go_ret
           exact ⟨Zj,Za K9.out⟩
          ·have z6':(dk != 6)=false:=by rw [bne,z6];rfl
           have D6:=Lib.hid (show dk=6 by simpa using z6)
           by_cases qd:dn.length=1
           ·have td:((dn.length:Int)==1)=true:=by rw [beq_iff_eq];omega
            have td4:((dn.length:Int) != 1)=false:=by rw [bne,td];rfl
            have td2:(0:Int)<(dn.length:Int):=by omega
            obtain ⟨u,hu⟩:=List.length_eq_one_iff.mp qd
            obtain ⟨B2',e2',ev,_,_,RU⟩:=NI.out
            injection ev with ea _ ec
            subst ea ec
            obtain ⟨ad4,rfl,_⟩:=Zp (x:=u) RU (Below.refl _ _) (k:=0) (by rw [hu];rfl) (by omega)
            have UC:=Lib.hid (fun (wr:World) (hb:Below w.heap.size w wr)=>show wr.cell? ad4=some (.int .i64 u) from by obtain ⟨a2,e2,q2⟩:=Zp (x:=u) RU hb (k:=0) (by rw [hu];rfl) (by omega);injection e2 with e2;subst e2;rwa [show ad4.add 0=ad4 by unfold Addr.add;simp] at q2)
            have HU:=Lib.hid hu
            clear hu qd RU
            by_cases ql:u<=last
            ·go_upto_region 12 with fail
             have a5:=Zb wr (.cells #[.int .i64 dk,.slice B1 dw.length e1,.slice (some ad4) dn.length e2,.slice B3 dks.length e3,.int .i64 dp] 29)
             have K9:=Lib.hid (STB.out _ _ a5 KR.out)
             have n9:=(Blk.start wr #[.int .i64 dk,.slice B1 dw.length e1,.slice (some ad4) dn.length e2,.slice B3 dks.length e3,.int .i64 dp] 29).cell 2
             have n8:=(Blk.start wr #[.int .i64 dk,.slice B1 dw.length e1,.slice (some ad4) dn.length e2,.slice B3 dks.length e3,.int .i64 dp] 29).cell 0
             have u9:=UC.out _ (Za K9.out)
             obtain ⟨⟨k90,k91,k92,k93,k94⟩,_⟩:=id K9.out
             generalize wr.alloc (.cells #[.int .i64 dk,.slice B1 dw.length e1,.slice (some ad4) dn.length e2,.slice B3 dks.length e3,.int .i64 dp] 29)=w9 at *
             go_wp2_with fail
             go_ret
             exact ⟨Zj,Za K9.out⟩
            ·have ql':last<u:=by omega
             go_upto_region 12 with fail
             have a5:=Zb wr (.cells #[.int .i64 dk,.slice B1 dw.length e1,.slice (some ad4) dn.length e2,.slice B3 dks.length e3,.int .i64 dp] 29)
             have K9:=Lib.hid (STB.out _ _ a5 KR.out)
             have n9:=(Blk.start wr #[.int .i64 dk,.slice B1 dw.length e1,.slice (some ad4) dn.length e2,.slice B3 dks.length e3,.int .i64 dp] 29).cell 2
             have n8:=(Blk.start wr #[.int .i64 dk,.slice B1 dw.length e1,.slice (some ad4) dn.length e2,.slice B3 dks.length e3,.int .i64 dp] 29).cell 0
             have u9:=UC.out _ (Za K9.out)
             obtain ⟨⟨k90,k91,k92,k93,k94⟩,_⟩:=id K9.out
             generalize wr.alloc (.cells #[.int .i64 dk,.slice B1 dw.length e1,.slice (some ad4) dn.length e2,.slice B3 dks.length e3,.int .i64 dp] 29)=w9 at *
             go_wp2_with fail
             go_roundg (ks.length-(i+1))
             case measure=>have:=HI.out;omega
             case rel=>exact ⟨i+1,u,rfl,by push_cast;rfl,by have:=HI.out;omega,rfl,Zdn HI.out.2.2.1 HI.out.2.2.2.2 HI.out.2.2.2.1 D6.out HU.out ql',K9.out⟩
           ·have td:((dn.length:Int)==1)=false:=by rw [beq_eq_false_iff_ne];omega
            have td4:((dn.length:Int) != 1)=true:=by rw [bne,td];rfl
            go_upto_region 12 with fail
            have a5:=Zb wr (.cells #[.int .i64 dk,.slice B1 dw.length e1,.slice B2 dn.length e2,.slice B3 dks.length e3,.int .i64 dp] 29)
            have K9:=Lib.hid (STB.out _ _ a5 KR.out)
            have n9:=(Blk.start wr #[.int .i64 dk,.slice B1 dw.length e1,.slice B2 dn.length e2,.slice B3 dks.length e3,.int .i64 dp] 29).cell 2
            have n8:=(Blk.start wr #[.int .i64 dk,.slice B1 dw.length e1,.slice B2 dn.length e2,.slice B3 dks.length e3,.int .i64 dp] 29).cell 0
            obtain ⟨⟨k90,k91,k92,k93,k94⟩,_⟩:=id K9.out
            generalize wr.alloc (.cells #[.int .i64 dk,.slice B1 dw.length e1,.slice B2 dn.length e2,.slice B3 dks.length e3,.int .i64 dp] 29)=w9 at *
            go_wp2_with fail
            go_ret
            exact ⟨Zj,Za K9.out⟩
      ·cases zb:(yb==0)
       ·have FF:=Lib.hid (show ∀ wr:World,Below w.heap.size w wr->Calls Tryz.prog 37 #[.agg #[.int .i64 5,.slice A1 ws.length c1,.slice (some ad2) nums.length c2,.slice A3 ks.length c3,.int .i64 ps]] wr fun e w'=>e=.returned (.bool (Zbn ⟨5,ws,nums,ks,ps⟩))/\Below wr.heap.size wr w' from fun wr hb=>FR0.out hl wr hb)
        generalize hqF:Zbn ⟨5,ws,nums,ks,ps⟩=F at FF
        have QF:=Lib.hid hqF
        clear hqF
        cases F
        ·go_enter Tryz.func33,Tryz.ntmps33
         go_upto_region 1 with fail
         generalize (w.alloc (.cells #[.int .i64 5,.slice A1 ws.length c1,.slice (some ad2) nums.length c2,.slice A3 ks.length c3,.int .i64 ps] 29))=w1 at *
         go_wp2_with (first
          | (go_at_call 16;(with_reducible refine (WF.out w1 (Za K1.out)).mono ?_);rintro e2 w2 ⟨rfl,hb2⟩;have K2:=Lib.hid (STB.out _ _ hb2 K1.out);obtain ⟨⟨k20,k21,k22,k23,k24⟩,_⟩:=id K2.out;obtain ⟨y2a,y2b,y2c⟩:=NC.out w2 (Za K2.out);clear hb2)
          | (go_at_call 37;(with_reducible refine (FF.out w2 (Za K2.out)).mono ?_);rintro e3 w3 ⟨rfl,hb3⟩;have K3:=Lib.hid (STB.out _ _ hb3 K2.out);obtain ⟨⟨k30,k31,k32,k33,k34⟩,_⟩:=id K3.out;obtain ⟨y3a,y3b,y3c⟩:=NC.out w3 (Za K3.out);clear hb3))
         go_ret
         exact ⟨Zj,Za K3.out⟩
        ·have QZ:=Lib.hid (Or.inr QF.out:(ya=0/\yb=0)\/Zbn ⟨5,ws,nums,ks,ps⟩=true)
         go_enter Tryz.func33,Tryz.ntmps33
         go_upto_region 1 with fail
         generalize (w.alloc (.cells #[.int .i64 5,.slice A1 ws.length c1,.slice (some ad2) nums.length c2,.slice A3 ks.length c3,.int .i64 ps] 29))=w1 at *
         go_wp2_with (first
          | (go_at_call 16;(with_reducible refine (WF.out w1 (Za K1.out)).mono ?_);rintro e2 w2 ⟨rfl,hb2⟩;have K2:=Lib.hid (STB.out _ _ hb2 K1.out);obtain ⟨⟨k20,k21,k22,k23,k24⟩,_⟩:=id K2.out;obtain ⟨y2a,y2b,y2c⟩:=NC.out w2 (Za K2.out);clear hb2)
          | (go_at_call 37;(with_reducible refine (FF.out w2 (Za K2.out)).mono ?_);rintro e3 w3 ⟨rfl,hb3⟩;have K3:=Lib.hid (STB.out _ _ hb3 K2.out);obtain ⟨⟨k30,k31,k32,k33,k34⟩,_⟩:=id K3.out;obtain ⟨y3a,y3b,y3c⟩:=NC.out w3 (Za K3.out);clear hb3))
         go_loopg [5,6] ks.length (fun gk v5 v6 wr=>∃ (i:Nat) (last:Int),v5=.int .i64 last/\v6=.int .i64 i/\i<=ks.length/\gk=ks.length-i/\(ZQ ns (ks.take i) (isB [6])=true/\ZY ns (ks.take i)=true/\ZcC ns (ks.take i)=last)/\((wr.cell? ⟨w.heap.size,0,none⟩=some (.int .i64 5)/\wr.cell? ⟨w.heap.size,1,none⟩=some (.slice A1 ws.length c1)/\wr.cell? ⟨w.heap.size,2,none⟩=some (.slice (some ad2) nums.length c2)/\wr.cell? ⟨w.heap.size,3,none⟩=some (.slice A3 ks.length c3)/\wr.cell? ⟨w.heap.size,4,none⟩=some (.int .i64 ps))/\Below w.heap.size w wr))
         case atStart=>exact ⟨0,-1,rfl,rfl,Nat.zero_le _,rfl,⟨rfl,rfl,rfl⟩,K3.out⟩
         case round=>
          obtain ⟨i,last,rfl,rfl,hi,hgk,hP,hS⟩:=hrel
          have KR:=Lib.hid hS
          obtain ⟨⟨g0',g1',g2',g3',g4'⟩,_⟩:=hS
          by_cases hin:i=ks.length
          ·have e:ks.take i=ks:=by rw [hin];exact List.take_length
           rw [e] at hP
           have HP:=Lib.hid hP
           have ti:¬ (i:Int)<(ks.length:Int):=by omega
           clear e hP hgk
           go_wp2_with fail
           go_ret
           exact ⟨Zae (Zdb QW.out HY.out qy qz QZ.out HP.out.1 HP.out.2.1),Za KR.out⟩
          ·have hlt:i<ks.length:=by omega
           obtain ⟨z,hz⟩:∃ z,ks[i]? = some z:=⟨_,List.getElem?_eq_getElem hlt⟩
           have hb:=KI.out z (List.mem_of_getElem? hz)
           obtain ⟨q,rfl⟩:∃ q:Nat,z=q:=⟨z.toNat,by omega⟩
           obtain ⟨d,ad,cp,B1,B2,B3,e1,e2,e3,hd,ev,hI,hc⟩:=Zcn HN.out (q:=q) (by omega)
           injection ev with ea _ ec
           subst ea ec
           obtain ⟨m0,m1,m2,m3,m4⟩:=hc wr (Za KR.out)
           obtain ⟨A3',c3',ev,_,_,R3⟩:=HK3.out
           injection ev with ea _ ec
           subst ea ec
           obtain ⟨ad3,rfl,z1⟩:=Zp R3 (Za KR.out) hz (by omega)
           have ti:(i:Int)<(ks.length:Int):=by omega
           have ti2:(0:Int)<=(i:Int):=by omega
           have tq:(q:Int)<(ns.length:Int):=by omega
           have tq2:(0:Int)<=(q:Int):=by omega
           have wk:IntKind.i64.wrap ((i:Int)+1)=(i:Int)+1:=IntWalk.i64_in _ (by have:=KL.out;unfold maxLen at this;omega)
           have HI:=Lib.hid (And.intro hlt (And.intro hgk (And.intro hP (And.intro hd hz))))
           have NI:=Lib.hid hI
           clear hgk hP hz hd hI hc R3 hin hlt hi hb
           obtain ⟨dk,dw,dn,dks,dp⟩:=d
           dsimp only at m0 m1 m2 m3 m4 NI
           cases z6:(dk==6)
           ·have z6':(dk != 6)=true:=by rw [bne,z6];rfl
            go_upto_region 12 with fail
            have a5:=Zb wr (.cells #[.int .i64 dk,.slice B1 dw.length e1,.slice B2 dn.length e2,.slice B3 dks.length e3,.int .i64 dp] 29)
            have K9:=Lib.hid (STB.out _ _ a5 KR.out)
            have n9:=(Blk.start wr #[.int .i64 dk,.slice B1 dw.length e1,.slice B2 dn.length e2,.slice B3 dks.length e3,.int .i64 dp] 29).cell 2
            have n8:=(Blk.start wr #[.int .i64 dk,.slice B1 dw.length e1,.slice B2 dn.length e2,.slice B3 dks.length e3,.int .i64 dp] 29).cell 0
            obtain ⟨⟨k90,k91,k92,k93,k94⟩,_⟩:=id K9.out
            generalize wr.alloc (.cells #[.int .i64 dk,.slice B1 dw.length e1,.slice B2 dn.length e2,.slice B3 dks.length e3,.int .i64 dp] 29)=w9 at *
            go_wp2_with fail
            go_ret
            exact ⟨Zj,Za K9.out⟩
           ·have z6':(dk != 6)=false:=by rw [bne,z6];rfl
            have D6:=Lib.hid (show dk=6 by simpa using z6)
            by_cases qd:dn.length=1
            ·have td:((dn.length:Int)==1)=true:=by rw [beq_iff_eq];omega
             have td4:((dn.length:Int) != 1)=false:=by rw [bne,td];rfl
             have td2:(0:Int)<(dn.length:Int):=by omega
             obtain ⟨u,hu⟩:=List.length_eq_one_iff.mp qd
             obtain ⟨B2',e2',ev,_,_,RU⟩:=NI.out
             injection ev with ea _ ec
             subst ea ec
             obtain ⟨ad4,rfl,_⟩:=Zp (x:=u) RU (Below.refl _ _) (k:=0) (by rw [hu];rfl) (by omega)
             have UC:=Lib.hid (fun (wr:World) (hb:Below w.heap.size w wr)=>show wr.cell? ad4=some (.int .i64 u) from by obtain ⟨a2,e2,q2⟩:=Zp (x:=u) RU hb (k:=0) (by rw [hu];rfl) (by omega);injection e2 with e2;subst e2;rwa [show ad4.add 0=ad4 by unfold Addr.add;simp] at q2)
             have HU:=Lib.hid hu
             clear hu qd RU
             by_cases ql:u<=last
             ·go_upto_region 12 with fail
              have a5:=Zb wr (.cells #[.int .i64 dk,.slice B1 dw.length e1,.slice (some ad4) dn.length e2,.slice B3 dks.length e3,.int .i64 dp] 29)
              have K9:=Lib.hid (STB.out _ _ a5 KR.out)
              have n9:=(Blk.start wr #[.int .i64 dk,.slice B1 dw.length e1,.slice (some ad4) dn.length e2,.slice B3 dks.length e3,.int .i64 dp] 29).cell 2
              have n8:=(Blk.start wr #[.int .i64 dk,.slice B1 dw.length e1,.slice (some ad4) dn.length e2,.slice B3 dks.length e3,.int .i64 dp] 29).cell 0
              have u9:=UC.out _ (Za K9.out)
              obtain ⟨⟨k90,k91,k92,k93,k94⟩,_⟩:=id K9.out
              generalize wr.alloc (.cells #[.int .i64 dk,.slice B1 dw.length e1,.slice (some ad4) dn.length e2,.slice B3 dks.length e3,.int .i64 dp] 29)=w9 at *
              go_wp2_with fail
              go_ret
              exact ⟨Zj,Za K9.out⟩
             ·have ql':last<u:=by omega
              go_upto_region 12 with fail
              have a5:=Zb wr (.cells #[.int .i64 dk,.slice B1 dw.length e1,.slice (some ad4) dn.length e2,.slice B3 dks.length e3,.int .i64 dp] 29)
              have K9:=Lib.hid (STB.out _ _ a5 KR.out)
              have n9:=(Blk.start wr #[.int .i64 dk,.slice B1 dw.length e1,.slice (some ad4) dn.length e2,.slice B3 dks.length e3,.int .i64 dp] 29).cell 2
              have n8:=(Blk.start wr #[.int .i64 dk,.slice B1 dw.length e1,.slice (some ad4) dn.length e2,.slice B3 dks.length e3,.int .i64 dp] 29).cell 0
              have u9:=UC.out _ (Za K9.out)
              obtain ⟨⟨k90,k91,k92,k93,k94⟩,_⟩:=id K9.out
              generalize wr.alloc (.cells #[.int .i64 dk,.slice B1 dw.length e1,.slice (some ad4) dn.length e2,.slice B3 dks.length e3,.int .i64 dp] 29)=w9 at *
              go_wp2_with fail
              go_roundg (ks.length-(i+1))
              case measure=>have:=HI.out;omega
              case rel=>exact ⟨i+1,u,rfl,by push_cast;rfl,by have:=HI.out;omega,rfl,Zdn HI.out.2.2.1 HI.out.2.2.2.2 HI.out.2.2.2.1 D6.out HU.out ql',K9.out⟩
            ·have td:((dn.length:Int)==1)=false:=by rw [beq_eq_false_iff_ne];omega
             have td4:((dn.length:Int) != 1)=true:=by rw [bne,td];rfl
             go_upto_region 12 with fail
             have a5:=Zb wr (.cells #[.int .i64 dk,.slice B1 dw.length e1,.slice B2 dn.length e2,.slice B3 dks.length e3,.int .i64 dp] 29)
             have K9:=Lib.hid (STB.out _ _ a5 KR.out)
             have n9:=(Blk.start wr #[.int .i64 dk,.slice B1 dw.length e1,.slice B2 dn.length e2,.slice B3 dks.length e3,.int .i64 dp] 29).cell 2
             have n8:=(Blk.start wr #[.int .i64 dk,.slice B1 dw.length e1,.slice B2 dn.length e2,.slice B3 dks.length e3,.int .i64 dp] 29).cell 0
             obtain ⟨⟨k90,k91,k92,k93,k94⟩,_⟩:=id K9.out
             generalize wr.alloc (.cells #[.int .i64 dk,.slice B1 dw.length e1,.slice B2 dn.length e2,.slice B3 dks.length e3,.int .i64 dp] 29)=w9 at *
             go_wp2_with fail
             go_ret
             exact ⟨Zj,Za K9.out⟩
       ·have QZ:=Lib.hid (Or.inl ⟨by simpa using za,by simpa using zb⟩:(ya=0/\yb=0)\/Zbn ⟨5,ws,nums,ks,ps⟩=true)
        go_enter Tryz.func33,Tryz.ntmps33
        go_upto_region 1 with fail
        generalize (w.alloc (.cells #[.int .i64 5,.slice A1 ws.length c1,.slice (some ad2) nums.length c2,.slice A3 ks.length c3,.int .i64 ps] 29))=w1 at *
        go_wp2_with (first
         | (go_at_call 16;(with_reducible refine (WF.out w1 (Za K1.out)).mono ?_);rintro e2 w2 ⟨rfl,hb2⟩;have K2:=Lib.hid (STB.out _ _ hb2 K1.out);obtain ⟨⟨k20,k21,k22,k23,k24⟩,_⟩:=id K2.out;obtain ⟨y2a,y2b,y2c⟩:=NC.out w2 (Za K2.out);clear hb2))
        go_loopg [5,6] ks.length (fun gk v5 v6 wr=>∃ (i:Nat) (last:Int),v5=.int .i64 last/\v6=.int .i64 i/\i<=ks.length/\gk=ks.length-i/\(ZQ ns (ks.take i) (isB [6])=true/\ZY ns (ks.take i)=true/\ZcC ns (ks.take i)=last)/\((wr.cell? ⟨w.heap.size,0,none⟩=some (.int .i64 5)/\wr.cell? ⟨w.heap.size,1,none⟩=some (.slice A1 ws.length c1)/\wr.cell? ⟨w.heap.size,2,none⟩=some (.slice (some ad2) nums.length c2)/\wr.cell? ⟨w.heap.size,3,none⟩=some (.slice A3 ks.length c3)/\wr.cell? ⟨w.heap.size,4,none⟩=some (.int .i64 ps))/\Below w.heap.size w wr))
        case atStart=>exact ⟨0,-1,rfl,rfl,Nat.zero_le _,rfl,⟨rfl,rfl,rfl⟩,K2.out⟩
        case round=>
         obtain ⟨i,last,rfl,rfl,hi,hgk,hP,hS⟩:=hrel
         have KR:=Lib.hid hS
         obtain ⟨⟨g0',g1',g2',g3',g4'⟩,_⟩:=hS
         by_cases hin:i=ks.length
         ·have e:ks.take i=ks:=by rw [hin];exact List.take_length
          rw [e] at hP
          have HP:=Lib.hid hP
          have ti:¬ (i:Int)<(ks.length:Int):=by omega
          clear e hP hgk
          go_wp2_with fail
          go_ret
          exact ⟨Zae (Zdb QW.out HY.out qy qz QZ.out HP.out.1 HP.out.2.1),Za KR.out⟩
         ·have hlt:i<ks.length:=by omega
          obtain ⟨z,hz⟩:∃ z,ks[i]? = some z:=⟨_,List.getElem?_eq_getElem hlt⟩
          have hb:=KI.out z (List.mem_of_getElem? hz)
          obtain ⟨q,rfl⟩:∃ q:Nat,z=q:=⟨z.toNat,by omega⟩
          obtain ⟨d,ad,cp,B1,B2,B3,e1,e2,e3,hd,ev,hI,hc⟩:=Zcn HN.out (q:=q) (by omega)
          injection ev with ea _ ec
          subst ea ec
          obtain ⟨m0,m1,m2,m3,m4⟩:=hc wr (Za KR.out)
          obtain ⟨A3',c3',ev,_,_,R3⟩:=HK3.out
          injection ev with ea _ ec
          subst ea ec
          obtain ⟨ad3,rfl,z1⟩:=Zp R3 (Za KR.out) hz (by omega)
          have ti:(i:Int)<(ks.length:Int):=by omega
          have ti2:(0:Int)<=(i:Int):=by omega
          have tq:(q:Int)<(ns.length:Int):=by omega
          have tq2:(0:Int)<=(q:Int):=by omega
          have wk:IntKind.i64.wrap ((i:Int)+1)=(i:Int)+1:=IntWalk.i64_in _ (by have:=KL.out;unfold maxLen at this;omega)
          have HI:=Lib.hid (And.intro hlt (And.intro hgk (And.intro hP (And.intro hd hz))))
          have NI:=Lib.hid hI
          clear hgk hP hz hd hI hc R3 hin hlt hi hb
          obtain ⟨dk,dw,dn,dks,dp⟩:=d
          dsimp only at m0 m1 m2 m3 m4 NI
          cases z6:(dk==6)
          ·have z6':(dk != 6)=true:=by rw [bne,z6];rfl
           go_upto_region 12 with fail
           have a5:=Zb wr (.cells #[.int .i64 dk,.slice B1 dw.length e1,.slice B2 dn.length e2,.slice B3 dks.length e3,.int .i64 dp] 29)
           have K9:=Lib.hid (STB.out _ _ a5 KR.out)
           have n9:=(Blk.start wr #[.int .i64 dk,.slice B1 dw.length e1,.slice B2 dn.length e2,.slice B3 dks.length e3,.int .i64 dp] 29).cell 2
           have n8:=(Blk.start wr #[.int .i64 dk,.slice B1 dw.length e1,.slice B2 dn.length e2,.slice B3 dks.length e3,.int .i64 dp] 29).cell 0
           obtain ⟨⟨k90,k91,k92,k93,k94⟩,_⟩:=id K9.out
           generalize wr.alloc (.cells #[.int .i64 dk,.slice B1 dw.length e1,.slice B2 dn.length e2,.slice B3 dks.length e3,.int .i64 dp] 29)=w9 at *
           go_wp2_with fail
           go_ret
           exact ⟨Zj,Za K9.out⟩
          ·have z6':(dk != 6)=false:=by rw [bne,z6];rfl
           have D6:=Lib.hid (show dk=6 by simpa using z6)
           by_cases qd:dn.length=1
           ·have td:((dn.length:Int)==1)=true:=by rw [beq_iff_eq];omega
            have td4:((dn.length:Int) != 1)=false:=by rw [bne,td];rfl
            have td2:(0:Int)<(dn.length:Int):=by omega
            obtain ⟨u,hu⟩:=List.length_eq_one_iff.mp qd
            obtain ⟨B2',e2',ev,_,_,RU⟩:=NI.out
            injection ev with ea _ ec
            subst ea ec
            obtain ⟨ad4,rfl,_⟩:=Zp (x:=u) RU (Below.refl _ _) (k:=0) (by rw [hu];rfl) (by omega)
            have UC:=Lib.hid (fun (wr:World) (hb:Below w.heap.size w wr)=>show wr.cell? ad4=some (.int .i64 u) from by obtain ⟨a2,e2,q2⟩:=Zp (x:=u) RU hb (k:=0) (by rw [hu];rfl) (by omega);injection e2 with e2;subst e2;rwa [show ad4.add 0=ad4 by unfold Addr.add;simp] at q2)
            have HU:=Lib.hid hu
            clear hu qd RU
            by_cases ql:u<=last
            ·go_upto_region 12 with fail
             have a5:=Zb wr (.cells #[.int .i64 dk,.slice B1 dw.length e1,.slice (some ad4) dn.length e2,.slice B3 dks.length e3,.int .i64 dp] 29)
             have K9:=Lib.hid (STB.out _ _ a5 KR.out)
             have n9:=(Blk.start wr #[.int .i64 dk,.slice B1 dw.length e1,.slice (some ad4) dn.length e2,.slice B3 dks.length e3,.int .i64 dp] 29).cell 2
             have n8:=(Blk.start wr #[.int .i64 dk,.slice B1 dw.length e1,.slice (some ad4) dn.length e2,.slice B3 dks.length e3,.int .i64 dp] 29).cell 0
             have u9:=UC.out _ (Za K9.out)
             obtain ⟨⟨k90,k91,k92,k93,k94⟩,_⟩:=id K9.out
             generalize wr.alloc (.cells #[.int .i64 dk,.slice B1 dw.length e1,.slice (some ad4) dn.length e2,.slice B3 dks.length e3,.int .i64 dp] 29)=w9 at *
             go_wp2_with fail
             go_ret
             exact ⟨Zj,Za K9.out⟩
            ·have ql':last<u:=by omega
             go_upto_region 12 with fail
             have a5:=Zb wr (.cells #[.int .i64 dk,.slice B1 dw.length e1,.slice (some ad4) dn.length e2,.slice B3 dks.length e3,.int .i64 dp] 29)
             have K9:=Lib.hid (STB.out _ _ a5 KR.out)
             have n9:=(Blk.start wr #[.int .i64 dk,.slice B1 dw.length e1,.slice (some ad4) dn.length e2,.slice B3 dks.length e3,.int .i64 dp] 29).cell 2
             have n8:=(Blk.start wr #[.int .i64 dk,.slice B1 dw.length e1,.slice (some ad4) dn.length e2,.slice B3 dks.length e3,.int .i64 dp] 29).cell 0
             have u9:=UC.out _ (Za K9.out)
             obtain ⟨⟨k90,k91,k92,k93,k94⟩,_⟩:=id K9.out
             generalize wr.alloc (.cells #[.int .i64 dk,.slice B1 dw.length e1,.slice (some ad4) dn.length e2,.slice B3 dks.length e3,.int .i64 dp] 29)=w9 at *
             go_wp2_with fail
             go_roundg (ks.length-(i+1))
             case measure=>have:=HI.out;omega
             case rel=>exact ⟨i+1,u,rfl,by push_cast;rfl,by have:=HI.out;omega,rfl,Zdn HI.out.2.2.1 HI.out.2.2.2.2 HI.out.2.2.2.1 D6.out HU.out ql',K9.out⟩
           ·have td:((dn.length:Int)==1)=false:=by rw [beq_eq_false_iff_ne];omega
            have td4:((dn.length:Int) != 1)=true:=by rw [bne,td];rfl
            go_upto_region 12 with fail
            have a5:=Zb wr (.cells #[.int .i64 dk,.slice B1 dw.length e1,.slice B2 dn.length e2,.slice B3 dks.length e3,.int .i64 dp] 29)
            have K9:=Lib.hid (STB.out _ _ a5 KR.out)
            have n9:=(Blk.start wr #[.int .i64 dk,.slice B1 dw.length e1,.slice B2 dn.length e2,.slice B3 dks.length e3,.int .i64 dp] 29).cell 2
            have n8:=(Blk.start wr #[.int .i64 dk,.slice B1 dw.length e1,.slice B2 dn.length e2,.slice B3 dks.length e3,.int .i64 dp] 29).cell 0
            obtain ⟨⟨k90,k91,k92,k93,k94⟩,_⟩:=id K9.out
            generalize wr.alloc (.cells #[.int .i64 dk,.slice B1 dw.length e1,.slice B2 dn.length e2,.slice B3 dks.length e3,.int .i64 dp] 29)=w9 at *
            go_wp2_with fail
            go_ret
            exact ⟨Zj,Za K9.out⟩
     ·have tz:4<y:=by omega
      go_enter Tryz.func33,Tryz.ntmps33
      go_upto_region 1 with fail
      generalize (w.alloc (.cells #[.int .i64 5,.slice A1 ws.length c1,.slice (some ad2) nums.length c2,.slice A3 ks.length c3,.int .i64 ps] 29))=w1 at *
      go_wp2_with (first
       | (go_at_call 16;(with_reducible refine (WF.out w1 (Za K1.out)).mono ?_);rintro e2 w2 ⟨rfl,hb2⟩;have K2:=Lib.hid (STB.out _ _ hb2 K1.out);obtain ⟨⟨k20,k21,k22,k23,k24⟩,_⟩:=id K2.out;obtain ⟨y2a,y2b,y2c⟩:=NC.out w2 (Za K2.out);clear hb2))
      go_ret
      exact ⟨Zj,Za K2.out⟩
    ·have ty:y<0:=by omega
     go_enter Tryz.func33,Tryz.ntmps33
     go_upto_region 1 with fail
     generalize (w.alloc (.cells #[.int .i64 5,.slice A1 ws.length c1,.slice (some ad2) nums.length c2,.slice A3 ks.length c3,.int .i64 ps] 29))=w1 at *
     go_wp2_with (first
      | (go_at_call 16;(with_reducible refine (WF.out w1 (Za K1.out)).mono ?_);rintro e2 w2 ⟨rfl,hb2⟩;have K2:=Lib.hid (STB.out _ _ hb2 K1.out);obtain ⟨⟨k20,k21,k22,k23,k24⟩,_⟩:=id K2.out;obtain ⟨y2a,y2b,y2c⟩:=NC.out w2 (Za K2.out);clear hb2))
     go_ret
     exact ⟨Zj,Za K2.out⟩
   ·have tn:((nums.length:Int)==3)=false:=by rw [beq_eq_false_iff_ne];omega
    have tn4:((nums.length:Int) != 3)=true:=by rw [bne,tn];rfl
    go_enter Tryz.func33,Tryz.ntmps33
    go_upto_region 1 with fail
    generalize (w.alloc (.cells #[.int .i64 5,.slice A1 ws.length c1,.slice A2 nums.length c2,.slice A3 ks.length c3,.int .i64 ps] 29))=w1 at *
    go_wp2_with (first
     | (go_at_call 16;(with_reducible refine (WF.out w1 (Za K1.out)).mono ?_);rintro e2 w2 ⟨rfl,hb2⟩;have K2:=Lib.hid (STB.out _ _ hb2 K1.out);obtain ⟨⟨k20,k21,k22,k23,k24⟩,_⟩:=id K2.out;clear hb2))
    go_ret
    exact ⟨Zj,Za K2.out⟩
end
end Go.Proofs.YtenbomphkihmlaaGreatDoor
