import Derived.Test.YtaacbenikcbibabGreatDoorQBD
import Derived.Test.YtaacbenikcbibabGreatDoorQBI
import Derived.Test.YtaacbenikcbibabGreatDoorQBK
import Derived.Test.YtaacbenikcbibabGreatDoorQBL
import Derived.Test.YtaacbenikcbibabGreatDoorQBM
import Derived.Test.YtaacbenikcbibabGreatDoorQBN
import Derived.Test.YtaacbenikcbibabGreatDoorQBO
import Derived.Test.YtaacbenikcbibabGreatDoorQBP
import Derived.Test.YtaacbenikcbibabGreatDoorQBQ
import Derived.Test.YtaacbenikcbibabGreatDoorQBR
import Derived.Test.YtaacbenikcbibabGreatDoorQBU
set_option maxRecDepth 100000
set_option maxHeartbeats 8000000
namespace Go.Proofs.YtaacbenikcbibabGreatDoor
section
open Go.RowKit Go.Maps
theorem ZdO {w w':World} {v:Value} {l:List Int} {bf:Nat} (h:ZL w v l) (hg:w.grownBy w' (some bf)) (hm:∃ es cl,w.heap[bf]? = some (.map es cl)):ZL w' v l:=by
 obtain ⟨es,cl_,hm⟩:=hm
 obtain ⟨A,c,h1,h2,h3,h4,h5⟩:=h
 refine ⟨A,c,h1,h2,h3,h4,fun hn=>?_⟩
 obtain ⟨ad,e,hb,hc⟩:=h5 hn
 refine ⟨ad,e,Nat.lt_of_lt_of_le hb hg.size,fun j u hj=>?_⟩
 have q:=hc j u hj
 have hbl:(ad.add j).block=ad.block:=ZT _ _
 unfold World.cell? at q ⊢
 by_cases e2:ad.block=bf
 ·rw [hbl,e2,hm] at q
  simp at q
 ·rw [hg.block (ad.add j).block (by rw [hbl];exact hb) (fun z=>e2 (by rw [hbl] at z;injection z))]
  exact q
theorem Zho {used:Bool} {d:Dcl} (h:(ZaG used d).1=0):used=false/\(Zy d.pro).1=0:=by
 unfold ZaG at h
 cases used with
 | true=>rw [if_pos rfl] at h;simp at h
 | false=>
  rw [if_neg (by decide)] at h
  split at h
  ·exact absurd h (by decide:¬ (3:Int)=0)
  split at h
  ·rename_i z;exact ⟨rfl,z⟩
  split at h
  ·exact absurd h (by decide:¬ (1:Int)=0)
  split at h
  ·exact absurd h (by decide:¬ (1:Int)=0)
  ·exact absurd h (by decide:¬ (1:Int)=0)
theorem Zjd (a b:Int) (s:List UInt8):∀ u∈[Value.int .i64 a,Value.int .i64 b,txt s],u.oneCell'=true:=by
 intro u hu
 rcases List.mem_cons.1 hu with rfl | hu
 ·rfl
 ·rcases List.mem_cons.1 hu with rfl | hu
  ·rfl
  ·rw [List.mem_singleton.1 hu];rfl
theorem ZhS (w:World) (B lb ub gb bb bk bm bx bf:Nat) (lv:Value) (st:Bk) (al:List Nat) (ns:List Nd) (y:NdV×Nd) (h:NwS B w lb ub gb bb bk bm bx bf lv st al) (hN:Zo w lv ns) (hy:ZO w y) (hp:ProtoOk ns y.2) (hz:SzP (ZaM ns y.2).pro) (hB:B<=w.heap.size) (h1:st.ps.length<=1000) (h2:st.ds.length<=1000) (h3:st.taken.length<1000000) :
  Calls Tryz.prog 13 #[ndW y,.pointer (some ⟨lb,0,none⟩),.pointer (some ⟨ub,0,none⟩),.pointer (some ⟨gb,0,none⟩),.pointer (some ⟨bb,0,none⟩)] w fun e w'=>e=.returned (.tuple #[])/\(∃ al',NwS B w' lb ub gb bb bk bm bx bf lv (ZaU ns st y.2) al')/\Below B w w':=by
 obtain ⟨⟨xw,xu,xk⟩,kd,ws,nums,ks,pos⟩:=y
 obtain ⟨dd,hdd⟩:∃ dd,dd=ZaM ns ⟨kd,ws,nums,ks,pos⟩:=⟨_,rfl⟩
 dsimp only at hp hz ⊢
 have hst:ZaU ns st ⟨kd,ws,nums,ks,pos⟩=if (ZaG (st.taken.contains dd.pro.name) dd).1=0 then { ps:=st.ps++[dd.pro],taken:=dd.pro.name::st.taken,ds:=st.ds } else { ps:=st.ps,taken:=dd.pro.name::st.taken,ds:=st.ds++[((ZaG (st.taken.contains dd.pro.name) dd).1,(ZaG (st.taken.contains dd.pro.name) dd).2,dd.pro.name)] }:=by rw [hdd];rfl
 have HST:=Lib.hid hst
 obtain ⟨⟨Aw,cw,e1,_⟩,⟨Au,cu,e2,_⟩,⟨Ak,ck,e3,_⟩⟩:=id hy
 dsimp only at e1 e2 e3
 subst e1 e2 e3
 have a1:=Za w (.cells #[.int .i64 kd,.slice Aw ws.length cw,.slice Au nums.length cu,.slice Ak ks.length ck,.int .i64 pos] 27)
 have B1:=Ze.start w #[.int .i64 kd,.slice Aw ws.length cw,.slice Au nums.length cu,.slice Ak ks.length ck,.int .i64 pos] 27
 have RD:=ZgJ _ lv ns ((.slice Aw ws.length cw,.slice Au nums.length cu,.slice Ak ks.length ck),⟨kd,ws,nums,ks,pos⟩) (hN.below a1) (hy.below a1) hp
 rw [<- hdd] at RD
 have n0:dd.pro.name=wdK ws 0:=by rw [hdd];rfl
 have p0:dd.at_=pos:=by rw [hdd];rfl
 have q1:dd.sts.length=dd.pro.states.length:=by rw [hdd];simp [ZaM]
 have q2:dd.ops.length=dd.pro.moves.length:=by rw [hdd];simp [ZaM]
 rw [<- hdd] at hz
 have HRD:=Lib.hid RD
 have HA:=Lib.hid (And.intro a1 (h.keep a1))
 have HZ:=Lib.hid (And.intro hz (And.intro hB (And.intro h1 (And.intro h2 h3))))
 have HE:=Lib.hid (And.intro n0 (And.intro p0 (And.intro q1 q2)))
 have c0:=B1.blk.cell 0
 have c1:=B1.blk.cell 1
 have c2:=B1.blk.cell 2
 have c3:=B1.blk.cell 3
 have c4:=B1.blk.cell 4
 have l0:=(h.keep a1).l.blk.cell 0
 simp only [List.getElem?_toArray,List.getElem?_cons_zero,List.getElem?_cons_succ] at c0 c1 c2 c3 c4 l0
 clear a1 B1 RD n0 p0 q1 q2 hz hB h1 h2 h3 h hN hy hp hst hdd
 go_enter Tryz.func13,Tryz.ntmps13
 go_upto_region 1 with fail
 generalize w.alloc (.cells #[.int .i64 kd,.slice Aw ws.length cw,.slice Au nums.length cu,.slice Ak ks.length ck,.int .i64 pos] 27)=W at *
 generalize hnm:wdK ws 0=nm at *
 have HDD:=Lib.hid (And.intro HE.out.1 HE.out.2.1)
 go_upto_region 2 with (go_at_call 14;(refine HRD.out.mono ?_);rintro e w1 ⟨vs,vm,va,vo,rfl,ho,ha,hb,hbl⟩;obtain ⟨⟨As,cs_,rfl⟩,⟨Am,cm_,rfl⟩⟩:=ho.shape;obtain ⟨Aa,ca_,rfl,_⟩:=id ha;obtain ⟨Ao,co_,rfl,_⟩:=id hb;have H1:=Lib.hid (And.intro ho (And.intro ha (And.intro hb hbl)));clear ho ha hb hbl)
 have a2:=Za w1 (.cells #[txt nm,.slice As dd.pro.states.length cs_,.slice Am dd.pro.moves.length cm_,.int .i64 pos,.slice Aa dd.sts.length ca_,.slice Ao dd.ops.length co_] 54)
 have D2:=Ze.start w1 #[txt nm,.slice As dd.pro.states.length cs_,.slice Am dd.pro.moves.length cm_,.int .i64 pos,.slice Aa dd.sts.length ca_,.slice Ao dd.ops.length co_] 54
 have b12:=H1.out.2.2.2.trans (a2.mono H1.out.2.2.2.size)
 have HN2:=Lib.hid (HA.out.2.keep b12)
 have HP:=Lib.hid (And.intro (H1.out.1.below a2) (And.intro (H1.out.2.1.below a2) (And.intro (H1.out.2.2.1.below a2) HZ.out.1.len)))
 have HQ:=Lib.hid (And.intro HE.out.2.2.1 (And.intro HE.out.2.2.2 (And.intro (show dd.pro.moves.length<1000000 by have:=HZ.out.1.mv;omega) (And.intro (show ∀ m∈dd.pro.moves,m.outs.length<1000000 from fun m hm=>by have:=HZ.out.1.out m hm;omega) (And.intro (Nat.le_trans HZ.out.2.1 (Nat.le_trans HA.out.1.size b12.size)) (HA.out.1.trans (b12.mono HA.out.1.size)))))))
 have hnl:nm.length<=maxLen:=by have:=HZ.out.1.len.name;rw [HE.out.1] at this;exact this
 generalize hdx:w1.heap.size=dx at D2
 generalize w1.alloc (.cells #[txt nm,.slice As dd.pro.states.length cs_,.slice Am dd.pro.moves.length cm_,.int .i64 pos,.slice Aa dd.sts.length ca_,.slice Ao dd.ops.length co_] 54)=W2 at *
 have TK:=Lib.hid (Zdp W2.drew bx bf st.taken nm (HN2.out.taken.keep (Zp W2)) HZ.out.2.2.2.2 hnl)
 have HD:=Lib.hid (And.intro D2 trivial)
 generalize hus:st.taken.contains nm=us at TK
 have HUS:=Lib.hid hus
 clear hus
 have SO:=Lib.hid (fun (V':World) (hd:Ze V' dx 54 #[txt nm,.slice As dd.pro.states.length cs_,.slice Am dd.pro.moves.length cm_,.int .i64 pos,.slice Aa dd.sts.length ca_,.slice Ao dd.ops.length co_]) (hu:Ze V' ub 47 #[.func (.func 24) #[] #[.pointer (some ⟨bx,0,none⟩)]])=>(show ((((((V'.cell? ⟨dx,0,none⟩=some (txt nm)/\V'.cell? ⟨dx,1,none⟩=some (.slice As dd.pro.states.length cs_))/\V'.cell? ⟨dx,2,none⟩=some (.slice Am dd.pro.moves.length cm_))/\V'.cell? ⟨dx,3,none⟩=some (.int .i64 pos))/\V'.cell? ⟨dx,4,none⟩=some (.slice Aa dd.sts.length ca_))/\V'.cell? ⟨dx,5,none⟩=some (.slice Ao dd.ops.length co_))/\V'.cell? ⟨ub,0,none⟩=some (.func (.func 24) #[] #[.pointer (some ⟨bx,0,none⟩)])) from ⟨⟨⟨⟨⟨⟨hd.blk.cell 0,hd.blk.cell 1⟩,hd.blk.cell 2⟩,hd.blk.cell 3⟩,hd.blk.cell 4⟩,hd.blk.cell 5⟩,hu.blk.cell 0⟩))
 clear a2 D2 b12 c0 c1 c2 c3 c4 l0
 refine wp_region_noPanic ?_
 refine wp_region_held_drew (S:=fun V'=>((((((V'.cell? ⟨dx,0,none⟩=some (txt nm)/\V'.cell? ⟨dx,1,none⟩=some (.slice As dd.pro.states.length cs_))/\V'.cell? ⟨dx,2,none⟩=some (.slice Am dd.pro.moves.length cm_))/\V'.cell? ⟨dx,3,none⟩=some (.int .i64 pos))/\V'.cell? ⟨dx,4,none⟩=some (.slice Aa dd.sts.length ca_))/\V'.cell? ⟨dx,5,none⟩=some (.slice Ao dd.ops.length co_))/\V'.cell? ⟨ub,0,none⟩=some (.func (.func 24) #[] #[.pointer (some ⟨bx,0,none⟩)]))) (by kernel_rfl) (SO.out _ HD.out.1 HN2.out.u) (fun hHeld=>?_)
 refine tk 0 rfl ?_
 refine tk 1 rfl ?_
 refine tk 2 rfl ?_
 refine tk 3 rfl ?_
 refine tk 4 rfl ?_
 (try simp only [cl,Act.put])
 refine rd 5 rfl fun K hK=>?_
 go_simp
 (go_at_call 24;(refine TK.out.mono ?_);rintro e w3 ⟨rfl,hf3,hg3⟩)
 go_wp2_with fail
 have gN:W2.grownBy w3 (some bf):=⟨hg3.os,hg3.tape,hg3.output,hg3.size,hg3.block⟩
 have N3:=HN2.out.take hf3 gN
 have nbf:∀ ty cs,¬ Ze W2 bf ty cs:=fun ty cs k=>HN2.out.taken.map.no_blk k
 have mbf:∃ es cl,W2.heap[bf]? = some (.map es cl):=by obtain ⟨D,⟨es,cl,q,_⟩,_⟩:=HN2.out.taken.map;exact ⟨es,cl,q⟩
 have D3:=HD.out.1.grown gN (fun e=>by injection e with e;subst e;exact nbf _ _ HD.out.1)
 have P3:=(HP.out.1.keepA (Zac.of_map gN nbf)).pro HP.out.2.2.2
 have A3:=ZdO HP.out.2.1 gN mbf
 have O3:=ZdO HP.out.2.2.1 gN mbf
 refine hK.out _ _ (SO.out _ D3 N3.u) (fun _=>?_)
 clear hK K
 (try simp only [cl,Act.put])
 refine rd 6 rfl fun K hK=>?_
 have WR:=Lib.hid (Zf1 w3 _ _ _ _ dd us P3 A3 O3 HQ.out.1 HQ.out.2.1 HQ.out.2.2.1 HQ.out.2.2.2.1)
 have HW3:=Lib.hid (And.intro N3 (And.intro D3 (And.intro P3 (Zv gN HQ.out.2.2.2.2.1 (fun k hk=>by injection hk with hk;rw [<- hk];exact HN2.out.ge.2)))))
 rw [HDD.out.1,HDD.out.2] at WR
 clear gN N3 nbf D3 P3 A3 O3 hf3 hg3
 go_simp
 (go_at_call 15;(refine WR.out.mono ?_);rintro e w4 ⟨rfl,hb4⟩)
 go_wp2_with fail
 have H4:=Lib.hid (And.intro (HW3.out.1.keep hb4) (And.intro (HW3.out.2.1.keep hb4) (And.intro (HW3.out.2.2.1.below hb4) (HW3.out.2.2.2.trans (hb4.mono (Nat.le_trans HQ.out.2.2.2.2.1 HW3.out.2.2.2.size))))))
 refine hK.out _ _ (SO.out _ H4.out.2.1 H4.out.1.u) (fun _=>?_)
 clear hK K hb4
 (try simp only [cl,Act.put])
 refine tk 7 rfl ?_
 refine tk 8 rfl ?_
 refine tk 9 rfl ?_
 refine tk 10 rfl ?_
 refine tk 11 rfl ?_
 (try simp only [cl,Act.put])
 refine wpAnyH_done (by kernel_rfl) ?_ _
 refine NoPanic.normal ?_
 obtain ⟨i0,hi,hz0,hz1,hz2⟩:=ZG Zi7
 have e0:=H4.out.2.1.blk.cell 0
 have e1:=H4.out.2.1.blk.cell 1
 have e2:=H4.out.2.1.blk.cell 2
 simp only [List.getElem?_toArray,List.getElem?_cons_zero,List.getElem?_cons_succ] at e0 e1 e2
 have bw4:=(HQ.out.2.2.2.2.2.mono HZ.out.2.1).trans H4.out.2.2.2
 have HB4:=Lib.hid bw4
 have HOK:=Lib.hid (fun h0=>Zho (used:=us) (d:=dd) h0)
 generalize hc:ZaG us dd=c at *
 obtain ⟨cc,ca⟩:=c
 have HC:=Lib.hid hc
 clear hc
 dsimp only at HOK ⊢
 by_cases qc:cc=0
 ·have t1:(cc != 0)=false:=by simp [qc]
  obtain ⟨hused,hright⟩:=HOK.out qc
  have HQC:=Lib.hid qc
  have hfr:∀ q∈st.ps,q.name≠dd.pro.name:=fun q hq e=>by
   have m:=HN2.out.sub q hq
   rw [e,HDD.out.1] at m
   have q2:=HUS.out
   rw [List.contains_iff_mem.mpr m,hused] at q2
   cases q2
  have AD:=Lib.hid (Zb4 w4 B bk bm st.ps al _ _ dd.pro H4.out.1.book H4.out.2.2.1 HZ.out.1 hright hfr HZ.out.2.2.1 (Nat.le_trans HZ.out.2.1 HB4.out.size))
  have b0:=H4.out.1.b.blk.cell 0
  simp only [List.getElem?_toArray,List.getElem?_cons_zero] at b0
  clear qc hused hright hfr bw4
  unfold ZaF at AD
  rw [HDD.out.1] at AD
  go_wp2_with (go_at_call 16;(refine AD.out.mono ?_);rintro e w5 ⟨rfl,⟨a5,hs5⟩,hf5,hb5⟩;have H5:=Lib.hid (And.intro hs5 (And.intro hf5 hb5));clear hs5 hf5 hb5)
  go_end0
  have:=H4.out.1.more H5.out.1 H5.out.2.1 (by rw [HDD.out.1];simp)
  rw [HST.out,HDD.out.1,HUS.out,HC.out,if_pos HQC.out]
  exact ⟨rfl,⟨_,this⟩,HB4.out.trans H5.out.2.2⟩
 ·have t1:(cc != 0)=true:=by simp [qc]
  have HQC:=Lib.hid qc
  obtain ⟨vd,g1,g2⟩:=H4.out.1.d
  have b0:=g1.blk.cell 0
  simp only [List.getElem?_toArray,List.getElem?_cons_zero] at b0
  have a6:=Za w4 (.cells #[.int .i64 cc,.int .i64 ca,txt nm] 34)
  have HG:=Lib.hid (And.intro (g1.keep a6) (And.intro (Zf g2 a6) a6))
  clear qc g1 g2 a6 bw4
  go_wp2_with (at_builtin;refine ZJ _ rfl _ _ 30 rfl B 34 i0 (.agg #[.int .i64 0,.int .i64 0,.string ⟨#[]⟩]) 3 32 Tryz.underlying30 hi hz0 hz1 hz2 rfl (by decide) vd st.ds.length (Zt dgC st.ds) rfl HG.out.2.1 (w4.heap.size+1) (some ⟨w4.heap.size,0,none⟩) 1 1 [.int .i64 cc,.int .i64 ca,txt nm] rfl (Zbm _ _ _ _ _) (Zjd _ _ _) (by have:=HZ.out.2.2.2.1;unfold maxLen;omega) (by have:=HZ.out.2.2.2.1;omega) (Nat.le_trans HZ.out.2.1 (Nat.le_trans HB4.out.size HG.out.2.2.size)) ?_;intro v2 w2 hown hgrow hl;obtain ⟨E2,k2,rfl⟩:=Zm hown;have T2:=HG.out.1.grown hgrow (HG.out.1.off HG.out.2.1 (by decide));have g4:=T2.blk.cell 0;have g5:=T2.blk.free 0;simp only [List.getElem?_toArray,List.getElem?_cons_zero] at g4)
  refine bodyPost_ret (results_none rfl _ _ _) rfl ?_
  have:=(H4.out.1.keep HG.out.2.2).tell (x:=(cc,ca,nm)) HG.out.1 HG.out.2.1 hown hgrow
  rw [HST.out,HDD.out.1,HUS.out,HC.out,if_neg HQC.out]
  refine ⟨rfl,⟨al,this⟩,?_⟩
  exact ((HB4.out.trans (HG.out.2.2.mono (Nat.le_trans HZ.out.2.1 HB4.out.size))).trans (Zv hgrow (Nat.le_trans HZ.out.2.1 (Nat.le_trans HB4.out.size HG.out.2.2.size)) (fun k hk=>(HG.out.2.1.lt k hk).1))).setCell (p:=⟨gb,0,none⟩) H4.out.1.ge.1 (.slice E2 (st.ds.length+1) k2)
end
section
open Go.RowKit
theorem Zga (w:World) (v:Value) (ns:List Nd) (x:NdV×Nd) (hN:Zo w v ns) (hx:ZO w x) (hk:ZA x.2.kids ns.length) :
  Calls Tryz.prog 40 #[v,ndV x] w fun e w'=>e=.returned (.bool (Zn ns x.2))/\Below w.heap.size w w':=by
 obtain ⟨⟨va,vb,vc⟩,kd,ws,nums,ks,ps⟩:=x
 by_cases q0:kd=0
 ·subst q0
  exact ZdD w v ns va vb vc ws nums ks ps hN hx hk
 by_cases q1:kd=1
 ·subst q1
  exact ZeJ w v ns va vb vc ws nums ks ps hN hx hk
 by_cases q2:kd=2
 ·subst q2
  exact ZeL w v ns va vb vc ws nums ks ps hN hx hk
 by_cases q3:kd=3
 ·subst q3
  exact Zg0 w v ns va vb vc ws nums ks ps hN hx hk
 by_cases q4:kd=4
 ·subst q4
  exact ZgY w v ns va vb vc ws nums ks ps hN hx hk
 by_cases q5:kd=5
 ·subst q5
  exact ZeI w v ns va vb vc ws nums ks ps hN hx hk
 by_cases q6:kd=6
 ·subst q6
  exact ZeG w v ns va vb vc ws nums ks ps hN hx hk
 by_cases q7:kd=7
 ·subst q7
  exact ZeF w v ns va vb vc ws nums ks ps hN hx hk
 by_cases q8:kd=8
 ·subst q8
  exact Zgc w v ns va vb vc ws nums ks ps hN hx hk
 by_cases q9:kd=9
 ·subst q9
  exact Zgf w v ns va vb vc ws nums ks ps hN hx hk
 by_cases q10:kd=10
 ·subst q10
  exact Zfj w v ns va vb vc ws nums ks ps hN hx hk
 by_cases q11:kd=11
 ·subst q11
  exact ZgX w v ns va vb vc ws nums ks ps hN hx hk
 by_cases q12:kd=12
 ·subst q12
  exact Zfh w v ns va vb vc ws nums ks ps hN hx hk
 by_cases q13:kd=13
 ·subst q13
  exact ZeK w v ns va vb vc ws nums ks ps hN hx hk
 by_cases q14:kd=14
 ·subst q14
  exact Zfg w v ns va vb vc ws nums ks ps hN hx hk
 by_cases q15:kd=15
 ·subst q15
  exact Zd4 w v ns va vb vc ws nums ks ps hN hx hk
 by_cases q16:kd=16
 ·subst q16
  exact ZgZ w v ns va vb vc ws nums ks ps hN hx hk
 by_cases q17:kd=17
 ·subst q17
  exact ZeM w v ns va vb vc ws nums ks ps hN hx hk
 by_cases q18:kd=18
 ·subst q18
  exact Zd5 w v ns va vb vc ws nums ks ps hN hx hk
 by_cases q19:kd=19
 ·subst q19
  exact Zfi w v ns va vb vc ws nums ks ps hN hx hk
 by_cases q20:kd=20
 ·subst q20
  exact Zge w v ns va vb vc ws nums ks ps hN hx hk
 by_cases q21:kd=21
 ·subst q21
  exact Zgg w v ns va vb vc ws nums ks ps hN hx hk
 by_cases q22:kd=22
 ·subst q22
  exact Zgb w v ns va vb vc ws nums ks ps hN hx hk
 by_cases q23:kd=23
 ·subst q23
  exact Zgd w v ns va vb vc ws nums ks ps hN hx hk
 exact ZeH w v ns va vb vc kd ws nums ks ps hN hx hk (by simpa using q0) (by simpa using q1) (by simpa using q2) (by simpa using q3) (by simpa using q4) (by simpa using q5) (by simpa using q6) (by simpa using q7) (by simpa using q8) (by simpa using q9) (by simpa using q10) (by simpa using q11) (by simpa using q12) (by simpa using q13) (by simpa using q14) (by simpa using q15) (by simpa using q16) (by simpa using q17) (by simpa using q18) (by simpa using q19) (by simpa using q20) (by simpa using q21) (by simpa using q22) (by simpa using q23)
theorem Zhn:Zc3:=by
 intro w v ns x ht hN hx hk
 have nm:=ZdQ
 have LI:=Lib.hid (fun (wr:World) (hb:Below w.heap.size w wr)=>Zga wr v ns x (hN.below hb) (hx.below hb) hk)
 have NA:=Lib.hid (fun (wr:World) (hb:Below w.heap.size w wr)=>ZdQ wr x.1.1 x.2.words (hx.1.below hb) (ht.below hb))
 have NU:=Lib.hid (fun (wr:World) (hb:Below w.heap.size w wr)=>Zfm wr x.1.2.1 x.2.nums (hx.2.1.below hb))
 unfold Zbj
 obtain ⟨h1,h2,h3⟩:=id hx
 obtain ⟨⟨va,vb,vc⟩,kd,ws,nums,ks,ps⟩:=x
 dsimp only at h1 h2 h3 NA NU hk
 obtain ⟨A1,c1,rfl,_⟩:=h1
 obtain ⟨A2,c2,rfl,_⟩:=h2
 obtain ⟨A3,c3,rfl,_⟩:=h3
 unfold ndV at LI ⊢
 dsimp only at LI ⊢
 generalize Zb0 ws=X at *
 generalize ZaO nums=Y at *
 generalize Zn ns ⟨kd,ws,nums,ks,ps⟩=Z at *
 have HB:=Lib.hid (Za w (.cells #[.int .i64 kd,.slice A1 ws.length c1,.slice A2 nums.length c2,.slice A3 ks.length c3,.int .i64 ps] 27))
 clear ht hN hx hk nm
 have g0:=(Blk.start w #[.int .i64 kd,.slice A1 ws.length c1,.slice A2 nums.length c2,.slice A3 ks.length c3,.int .i64 ps] 27).cell 0
 cases X
 ·go_enter Tryz.func22,Tryz.ntmps22
  go_wp2_with (go_at_call 38;(with_reducible refine (NA.out _ HB.out).mono ?_);rintro e6 w6 ⟨rfl,rfl⟩)
  go_ret
  exact ⟨rfl,HB.out⟩
 ·cases Y
  ·go_enter Tryz.func22,Tryz.ntmps22
   go_wp2_with (first
    | (go_at_call 38;(with_reducible refine (NA.out _ HB.out).mono ?_);rintro e6 w6 ⟨rfl,rfl⟩)
    | (go_at_call 39;(with_reducible refine (NU.out _ HB.out).mono ?_);rintro e7 w7 ⟨rfl,rfl⟩))
   go_ret
   exact ⟨rfl,HB.out⟩
  ·go_enter Tryz.func22,Tryz.ntmps22
   go_wp2_with (first
    | (go_at_call 38;(with_reducible refine (NA.out _ HB.out).mono ?_);rintro e6 w6 ⟨rfl,rfl⟩)
    | (go_at_call 39;(with_reducible refine (NU.out _ HB.out).mono ?_);rintro e7 w7 ⟨rfl,rfl⟩)
    | (go_at_call 40;(with_reducible refine (LI.out _ HB.out).mono ?_);rintro e8 w8 ⟨rfl,hb8⟩;have B8:=Lib.hid (HB.out.trans (hb8.mono HB.out.size));clear hb8))
   go_ret
   exact ⟨rfl,B8.out⟩
end
section
open Go.RowKit Go.Maps
def st0:Bk:=⟨[ZQ,Zw,ZS],[ZQ.name,Zw.name,ZS.name].reverse,[]⟩
def Zap (ns:List Nd):Bk:=(ZR ns (ZB ns 0).kids 1).foldl (ZaU ns) st0
theorem Zhg (ns:List Nd) (b:Bk) (n:Nd):(ZaU ns b n).ps.length<=b.ps.length+1/\(ZaU ns b n).ds.length<=b.ds.length+1/\(ZaU ns b n).taken.length=b.taken.length+1:=by
 unfold ZaU
 dsimp only
 split
 ·exact ⟨by simp,Nat.le_succ _,by simp⟩
 ·exact ⟨Nat.le_succ _,by simp,by simp⟩
theorem ZdM (ns:List Nd):∀ (l:List Nd) (b:Bk),(l.foldl (ZaU ns) b).ps.length<=b.ps.length+l.length/\(l.foldl (ZaU ns) b).ds.length<=b.ds.length+l.length/\(l.foldl (ZaU ns) b).taken.length=b.taken.length+l.length
 | [],b=>⟨Nat.le_refl _,Nat.le_refl _,rfl⟩
 | x::r,b=>by
  have h1:=Zhg ns b x
  have h2:=ZdM ns r (ZaU ns b x)
  rw [List.foldl_cons,List.length_cons]
  omega
theorem Ziu:Zbx 13:=Zca Tryz.func13 (by kernel_rfl) rfl
structure TreeOk (ns:List Nd):Prop where
 right:ZbG ns=true
 some_:0<ns.length
 kids:Zec (ZB ns 0).kids ns.length
 few:(ZB ns 0).kids.length<=900
 pro:∀ j∈(ZB ns 0).kids,(ZB ns j).kind=1->ProtoOk ns (ZB ns j)/\SzP (ZaM ns (ZB ns j)).pro
theorem BookS.less {w:World} {B B' bk bm:Nat} {ps:List Pro} {al:List Nat} (h:BookS B w bk bm ps al) (hb:B'<=B):BookS B' w bk bm ps al:=by
 obtain ⟨⟨vn,h1,h2⟩,h3,h4,h5,h6⟩:=h
 refine ⟨⟨vn,h1,ZI h2 hb⟩,h3,h4,fun i p a hp ha=>?_,Nat.le_trans hb h6.1,Nat.le_trans hb h6.2⟩
 obtain ⟨u1,u2,u3,u4,u5⟩:=h5 i p a hp ha
 exact ⟨u1,u2,u3,u4.less hb,Nat.le_trans hb u5⟩
theorem ZcS (w:World) (v:Value) (ns:List Nd) (hN:Zo w v ns) (ht:Zad w 0 Zh) (hT:TreeOk ns) :
  Calls Tryz.prog 5 #[v] w fun e w'=>∃ bk bm al vd,e=.returned (.tuple #[.pointer (some ⟨bk,0,none⟩),vd])/\BookS w.heap.size w' bk bm (Zap ns).ps al/\w'.ownsRow w.heap.size 34 3 vd (Zap ns).ds.length (Zt dgC (Zap ns).ds)/\Below w.heap.size w w':=by
 have hNN:=hN
 obtain ⟨Al,cl_,rs,rfl,hl1,hl2,hm,hR,hNd⟩:=hN
 have hrl:rs.length=ns.length:=by rw [<- hm,List.length_map]
 have a1:=Za w (.cells #[.slice Al ns.length cl_] 28)
 have B1:=Ze.start w #[.slice Al ns.length cl_] 28
 have RT:=Lib.hid (ZhZ Zhn _ _ ns (hNN.below a1) (ht.below a1))
 rw [hT.right] at RT
 have HH:=Lib.hid (And.intro a1 (And.intro B1 (And.intro hNN (And.intro hrl (And.intro hm (And.intro hR (And.intro hNd (And.intro hT (And.intro hl1 hl2)))))))))
 have l0:=B1.blk.cell 0
 simp only [List.getElem?_toArray,List.getElem?_cons_zero] at l0
 have hmf:∀ (fn:Fn) (first cap:Array Value) (w:World),(Instr.makeFunc fn first cap).run Tryz.prog w=.ok (.func fn first cap) w:=fun _ _ _ _=>rfl
 have hsf:=stF
 clear a1 B1 hNN hrl hm hR hNd hT hl1 hl2 ht
 go_enter Tryz.func5,Tryz.ntmps5
 go_upto_region 3 with (go_at_call 9;(refine RT.out.mono ?_);rintro e w1 ⟨rfl,hb1⟩;have H1:=Lib.hid (HH.out.1.trans (hb1.mono HH.out.1.size));have L1:=Lib.hid (HH.out.2.1.keep hb1);clear hb1)
 go_upto_region 4 with (go_at_call 10;(refine (ZdF _).mono ?_);rintro e w2 ⟨bk,bm,al0,rfl,hbk,hb2⟩;have H2:=Lib.hid (And.intro (hbk.less H1.out.size) (And.intro (H1.out.trans (hb2.mono H1.out.size)) (L1.out.keep hb2)));clear hbk hb2)
 have a3:=Za w2 (.cells #[.pointer (some ⟨bk,0,none⟩)] 29)
 have B3:=Ze.start w2 #[.pointer (some ⟨bk,0,none⟩)] 29
 have lbm:=H2.out.1.map.lt
 generalize hbb:w2.heap.size=bb at B3 lbm
 have H3:=Lib.hid (And.intro (H2.out.1.keep a3) (And.intro (H2.out.2.1.trans (a3.mono H2.out.2.1.size)) (And.intro (H2.out.2.2.keep a3) (And.intro B3 lbm))))
 have HBB:=Lib.hid hbb
 clear a3 lbm
 generalize w2.alloc (.cells #[.pointer (some ⟨bk,0,none⟩)] 29)=W3 at *
 (try rw [hbb])
 clear hbb
 obtain ⟨vn,k1,k2⟩:=H3.out.1.box
 have c0:=k1.blk.cell 0
 have b0:=B3.blk.cell 0
 simp only [List.getElem?_toArray,List.getElem?_cons_zero] at c0 b0
 have KS:=Ze2 (l:=[ZQ,Zw,ZS].map (·.name)) (by simpa using k2) (by decide)
 have TY:=Zhj W3 vn _ KS (by decide)
 obtain ⟨An,cn,rfl⟩:=Zm k2
 unfold tkF at TY
 have TK:=Lib.hid TY
 clear k1 k2 KS TY B3
 go_upto_region 5 with (go_at_call 11;(refine TK.out.mono ?_);rintro e w4 ⟨bx,bf,rfl,hfr,htx,hg1,hg2,hb4⟩;have H4:=Lib.hid (And.intro hfr (And.intro htx (And.intro hg1 (And.intro hg2 hb4))));clear hfr htx hg1 hg2 hb4)
 have a5:=Za w4 (.cells #[.func (.func 24) #[] #[.pointer (some ⟨bx,0,none⟩)]] 47)
 have B5:=Ze.start w4 #[.func (.func 24) #[] #[.pointer (some ⟨bx,0,none⟩)]] 47
 have b35:=H4.out.2.2.2.2.trans (a5.mono H4.out.2.2.2.2.size)
 generalize hub:w4.heap.size=ub at B5
 have H5:=Lib.hid (And.intro (H4.out.1.keep a5) (And.intro (H4.out.2.1.keep a5) (And.intro B5 b35)))
 clear a5 b35
 generalize w4.alloc (.cells #[.func (.func 24) #[] #[.pointer (some ⟨bx,0,none⟩)]] 47)=W5 at *
 (try rw [hub])
 clear hub c0 b0 B5
 go_upto_region 6 with fail
 have a6:=Za W5 (.cells #[.slice none 0 0] 30)
 have B6:=Ze.start W5 #[.slice none 0 0] 30
 have b36:=H5.out.2.2.2.trans (a6.mono H5.out.2.2.2.size)
 have b06:=H3.out.2.1.trans (b36.mono H3.out.2.1.size)
 have gW:w.heap.size<=W5.heap.size:=Nat.le_trans H3.out.2.1.size H5.out.2.2.2.size
 generalize hgb:W5.heap.size=gb at B6 gW
 have NW:=Lib.hid (show NwS w.heap.size _ w.heap.size ub gb bb bk bm bx bf (.slice Al ns.length cl_) st0 al0 from
  ⟨H3.out.2.2.1.keep b36,H5.out.2.2.1.keep a6,⟨_,B6,World.ownsRow_nil _ _ _ _⟩,H3.out.2.2.2.1.keep b36,H3.out.1.keep b36,H5.out.1.keep a6,H5.out.2.1.keep a6,(by have:=H3.out.2.2.2.2;have:=H4.out.2.2.2.1;have:=H3.out.2.2.2.1.lt;omega),⟨gW,Nat.le_trans H3.out.2.1.size H4.out.2.2.2.1⟩,(by decide)⟩)
 have HB6:=Lib.hid b06
 clear a6 B6 b36 b06 gW
 generalize W5.alloc (.cells #[.slice none 0 0] 30)=W6 at *
 (try rw [hgb])
 clear hgb
 obtain ⟨⟨⟨xw,xu,xk⟩,kd,ws,nums,ks,pos⟩,hx0⟩:∃ x,rs[0]? = some x:=⟨_,List.getElem?_eq_getElem (by rw [HH.out.2.2.2.1];exact HH.out.2.2.2.2.2.2.2.1.some_)⟩
 have hroot:=Zbr HH.out.2.2.2.2.1 hx0
 rw [show ((0:Nat):Int)=0 from rfl] at hroot
 obtain ⟨ad,rfl,n0,n1,n2,n3,n4⟩:=ZW HH.out.2.2.2.2.2.1 (Below.refl _ _) hx0 HH.out.2.2.2.2.2.2.2.1.some_
 have hxd:=HH.out.2.2.2.2.2.2.1 _ (List.mem_of_getElem? hx0)
 obtain ⟨⟨Aw,cw,e1,_⟩,⟨Au,cu,e2,_⟩,⟨Ak,ck,e3,_⟩⟩:=id hxd
 dsimp only at e1 e2 e3 n0 n1 n2 n3 n4
 subst e1 e2 e3
 have z0:∀ a:Addr,a.add (0*5)=a:=fun a=>by simp [Addr.add]
 rw [z0] at n0 n1 n2 n3 n4
 have adl:ad.block<w.heap.size:=World.block_lt_of_cell? _ _ n0
 have hpl:(0:Int)<(ns.length:Int):=by have:=HH.out.2.2.2.2.2.2.2.1.some_;omega
 have hpn:0<ns.length:=HH.out.2.2.2.2.2.2.2.1.some_
 have SO:=Lib.hid (fun (V':World) (hb:Below w.heap.size w V') (hl:Ze V' w.heap.size 28 #[.slice (some ad) ns.length cl_])=>(show (((((V'.cell? ⟨w.heap.size,0,none⟩=some (.slice (some ad) ns.length cl_)/\V'.cell? ad=some (.int .i64 kd))/\V'.cell? ⟨ad.block,ad.off+1,none⟩=some (.slice Aw ws.length cw))/\V'.cell? ⟨ad.block,ad.off+2,none⟩=some (.slice Au nums.length cu))/\V'.cell? ⟨ad.block,ad.off+3,none⟩=some (.slice Ak ks.length ck))/\V'.cell? ⟨ad.block,ad.off+4,none⟩=some (.int .i64 pos)) from ⟨⟨⟨⟨⟨hl.blk.cell 0,(hb.cell adl).trans n0⟩,(hb.cell (p:=⟨ad.block,ad.off+1,none⟩) adl).trans n1⟩,(hb.cell (p:=⟨ad.block,ad.off+2,none⟩) adl).trans n2⟩,(hb.cell (p:=⟨ad.block,ad.off+3,none⟩) adl).trans n3⟩,(hb.cell (p:=⟨ad.block,ad.off+4,none⟩) adl).trans n4⟩))
 have EA:=Lib.hid (show Calls Tryz.prog 12 #[.slice (some ad) ns.length cl_,.agg #[.int .i64 kd,.slice Aw ws.length cw,.slice Au nums.length cu,.slice Ak ks.length ck,.int .i64 pos],.int .i64 1,.func (.func 13) #[] #[.pointer (some ⟨w.heap.size,0,none⟩),.pointer (some ⟨ub,0,none⟩),.pointer (some ⟨gb,0,none⟩),.pointer (some ⟨bb,0,none⟩)]] W6.drew _ from by
  have:=Zcu 13 #[.pointer (some ⟨w.heap.size,0,none⟩),.pointer (some ⟨ub,0,none⟩),.pointer (some ⟨gb,0,none⟩),.pointer (some ⟨bb,0,none⟩)] Ziu w W6.drew (some ad) cl_ rs ((.slice Aw ws.length cw,.slice Au nums.length cu,.slice Ak ks.length ck),⟨kd,ws,nums,ks,pos⟩) 1
   (fun k wr=>∃ al,NwS w.heap.size wr w.heap.size ub gb bb bk bm bx bf (.slice (some ad) ns.length cl_) ((ZR ns (ks.take k) 1).foldl (ZaU ns) st0) al)
   (by rw [HH.out.2.2.2.1];exact HH.out.2.2.2.2.2.1) HH.out.2.2.2.2.2.2.1 (by rw [HH.out.2.2.2.1];have:=HH.out.2.2.2.2.2.2.2.2.1;have:=HH.out.2.2.2.2.2.2.2.2.2;omega) hxd (by rw [HH.out.2.2.2.1];have:=HH.out.2.2.2.2.2.2.2.1.kids;rw [hroot] at this;exact this) HB6.out.drew
   ⟨al0,NW.out.keep (Zp W6)⟩
   (fun k w1 w2 h hb=>by obtain ⟨al,h⟩:=h;exact ⟨al,h.keep hb⟩)
   (fun i j y wr hi hy hbw hr=>by
    have hnd:=Zbr HH.out.2.2.2.2.1 hy
    dsimp only at hi
    have tk_:=Zcd ns ks 1 i j hi
    rw [hnd] at tk_
    have hjm:(j:Int)∈ks:=List.mem_of_getElem? hi
    have hjr:(j:Int)∈(ZB ns 0).kids:=by rw [hroot];exact hjm
    obtain ⟨al,hr⟩:=hr
    refine ⟨fun hk2=>?_,fun hk2=>?_⟩
    ·obtain ⟨p1,p2⟩:=HH.out.2.2.2.2.2.2.2.1.pro j hjr (by rw [hnd];exact hk2)
     rw [hnd] at p1 p2
     have lk:(ZR ns (ks.take i) 1).length<=900:=Nat.le_trans (ZbM _ _ _) (Nat.le_trans (by rw [List.length_take];exact Nat.min_le_right _ _) (by have:=HH.out.2.2.2.2.2.2.2.1.few;rw [hroot] at this;exact this))
     obtain ⟨f1,f2,f3⟩:=ZdM ns (ZR ns (ks.take i) 1) st0
     have s1:st0.ps.length=3:=rfl
     have s2:st0.ds.length=0:=rfl
     have s3:st0.taken.length=3:=rfl
     refine (ZhS wr w.heap.size w.heap.size ub gb bb bk bm bx bf _ _ al ns y hr (HH.out.2.2.1.below hbw) ((HH.out.2.2.2.2.2.2.1 y (List.mem_of_getElem? hy)).below hbw) p1 p2 hbw.size (by omega) (by omega) (by omega)).mono ?_
     rintro e w' ⟨he,⟨al',hn⟩,hbb⟩
     refine ⟨he,hbw.trans hbb,al',?_⟩
     rw [tk_,if_pos hk2,List.foldl_append]
     exact hn
    ·rw [tk_,if_neg hk2,List.append_nil]
     exact ⟨al,hr⟩)
  rw [HH.out.2.2.2.1] at this
  exact this)
 have HRT:=Lib.hid hroot
 clear n0 n1 n2 n3 n4 hxd hroot adl hx0 l0
 refine wp_region_noPanic ?_
 refine wp_region_held_drew (S:=fun V'=>(((((V'.cell? ⟨w.heap.size,0,none⟩=some (.slice (some ad) ns.length cl_)/\V'.cell? ad=some (.int .i64 kd))/\V'.cell? ⟨ad.block,ad.off+1,none⟩=some (.slice Aw ws.length cw))/\V'.cell? ⟨ad.block,ad.off+2,none⟩=some (.slice Au nums.length cu))/\V'.cell? ⟨ad.block,ad.off+3,none⟩=some (.slice Ak ks.length ck))/\V'.cell? ⟨ad.block,ad.off+4,none⟩=some (.int .i64 pos))) (by kernel_rfl) (SO.out _ HB6.out.drew NW.out.l) (fun hHeld=>?_)
 refine tk 0 rfl ?_
 refine tk 1 rfl ?_
 refine tk 2 rfl ?_
 refine tk 3 rfl ?_
 refine tk 4 rfl ?_
 (try simp only [cl,Act.put])
 refine rd 5 rfl fun K hK=>?_
 go_simp
 (go_at_call 12;(refine EA.out.mono ?_);rintro e w7 ⟨rfl,hb7,⟨al7,hn7⟩⟩)
 go_wp2_with fail
 have H7:=Lib.hid (And.intro hb7 hn7)
 refine hK.out _ _ (SO.out _ hb7 hn7.l) (fun _=>?_)
 clear hK K hb7 hn7
 refine wpAnyH_done (by kernel_rfl) ?_ _
 refine NoPanic.normal ?_
 go_wp2_with fail
 obtain ⟨vd,g1,g2⟩:=H7.out.2.d
 have x0:=g1.blk.cell 0
 have x1:=H7.out.2.b.blk.cell 0
 simp only [List.getElem?_toArray,List.getElem?_cons_zero] at x0 x1
 go_region
 go_wp2_with fail
 have eB:(ZR ns (ks.take ks.length) 1).foldl (ZaU ns) st0=Zap ns:=by rw [List.take_length];unfold Zap;rw [HRT.out]
 have HN7:=H7.out.2
 (try dsimp only at HN7 g2)
 rw [eB] at HN7 g2
 exact bodyPost_ret (v:=.tuple #[.pointer (some ⟨bk,0,none⟩),vd]) (by simp [results,Tryz.results5,go_sem]) rfl ⟨bk,bm,al7,vd,rfl,HN7.book.keep (Zp w7),g2,H7.out.1.drew⟩
end
end Go.Proofs.YtaacbenikcbibabGreatDoor
