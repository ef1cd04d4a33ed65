import Derived.Test.YtkgkmdhpnhmcpaaGreatDoorQBC
set_option maxRecDepth 100000
set_option maxHeartbeats 8000000
namespace Go.Proofs.YtkgkmdhpnhmcpaaGreatDoor
section
open Go.RowKit Go.Maps
theorem ZdU {w w':World} {v:Value} {l:List Int} {bf:Nat} (h:ZH w v l) (hg:w.grownBy w' (some bf)) (hm:∃ es cl,w.heap[bf]? = some (.map es cl)):ZH w' v l:=by
 obtain ⟨es,cl_,hm⟩:=hm
 obtain ⟨A,c,h1,h2,h3,h4,h5⟩:=h
 refine ⟨A,c,h1,h2,h3,h4,fun hn=>?_⟩
 obtain ⟨ad,e,hb,hc⟩:=h5 hn
 refine ⟨ad,e,Nat.lt_of_lt_of_le hb hg.size,fun j u hj=>?_⟩
 have q:=hc j u hj
 have hbl:(ad.add j).block=ad.block:=ZQ _ _
 unfold World.cell? at q ⊢
 by_cases e2:ad.block=bf
 ·rw [hbl,e2,hm] at q
  simp at q
 ·rw [hg.block (ad.add j).block (by rw [hbl];exact hb) (fun z=>e2 (by rw [hbl] at z;injection z))]
  exact q
theorem Zhy {used:Bool} {d:Dcl} (h:(ZaC used d).1=0):used=false/\(Zy d.pro).1=0:=by
 unfold ZaC at h
 cases used with
 | true=>rw [if_pos rfl] at h;simp at h
 | false=>
  rw [if_neg (by decide)] at h
  split at h
  ·exact absurd h (by decide:¬ (3:Int)=0)
  split at h
  ·rename_i z;exact ⟨rfl,z⟩
  split at h
  ·exact absurd h (by decide:¬ (1:Int)=0)
  split at h
  ·exact absurd h (by decide:¬ (1:Int)=0)
  ·exact absurd h (by decide:¬ (1:Int)=0)
theorem oneG (a b:Int) (s:List UInt8):∀ u∈[Value.int .i64 a,Value.int .i64 b,txt s],u.oneCell'=true:=by
 intro u hu
 rcases List.mem_cons.1 hu with rfl | hu
 ·rfl
 ·rcases List.mem_cons.1 hu with rfl | hu
  ·rfl
  ·rw [List.mem_singleton.1 hu];rfl
theorem Zh9 (w:World) (B lb ub gb bb bk bm bx bf:Nat) (lv:Value) (st:Bk) (al:List Nat) (ns:List Nd) (y:NdV×Nd) (h:NwS B w lb ub gb bb bk bm bx bf lv st al) (hN:Zn w lv ns) (hy:ZJ w y) (hp:ProtoOk ns y.2) (hz:SzP (ZaJ ns y.2).pro) (hB:B<=w.heap.size) (h1:st.ps.length<=1000) (h2:st.ds.length<=1000) (h3:st.taken.length<1000000) :
  Calls Tryz.prog 22 #[ndW y,.pointer (some ⟨lb,0,none⟩),.pointer (some ⟨ub,0,none⟩),.pointer (some ⟨gb,0,none⟩),.pointer (some ⟨bb,0,none⟩)] w fun e w'=>e=.returned (.tuple #[])/\(∃ al',NwS B w' lb ub gb bb bk bm bx bf lv (ZaU ns st y.2) al')/\Below B w w':=by
 obtain ⟨⟨xw,xu,xk⟩,kd,ws,nums,ks,pos⟩:=y
 obtain ⟨dd,hdd⟩:∃ dd,dd=ZaJ ns ⟨kd,ws,nums,ks,pos⟩:=⟨_,rfl⟩
 dsimp only at hp hz ⊢
 have hst:ZaU ns st ⟨kd,ws,nums,ks,pos⟩=if (ZaC (st.taken.contains dd.pro.name) dd).1=0 then { ps:=st.ps++[dd.pro],taken:=dd.pro.name::st.taken,ds:=st.ds } else { ps:=st.ps,taken:=dd.pro.name::st.taken,ds:=st.ds++[((ZaC (st.taken.contains dd.pro.name) dd).1,(ZaC (st.taken.contains dd.pro.name) dd).2,dd.pro.name)] }:=by rw [hdd];rfl
 have HST:=zh hst
 obtain ⟨⟨Aw,cw,e1,_⟩,⟨Au,cu,e2,_⟩,⟨Ak,ck,e3,_⟩⟩:=id hy
 dsimp only at e1 e2 e3
 subst e1 e2 e3
 have a1:=below_alloc1 w (.cells #[.int .i64 kd,.slice Aw ws.length cw,.slice Au nums.length cu,.slice Ak ks.length ck,.int .i64 pos] 27)
 have B1:=Zd.start w #[.int .i64 kd,.slice Aw ws.length cw,.slice Au nums.length cu,.slice Ak ks.length ck,.int .i64 pos] 27
 have RD:=ZgT _ lv ns ((.slice Aw ws.length cw,.slice Au nums.length cu,.slice Ak ks.length ck),⟨kd,ws,nums,ks,pos⟩) (hN.below a1) (hy.below a1) hp
 rw [<- hdd] at RD
 have n0:dd.pro.name=wdK ws 0:=by rw [hdd];rfl
 have p0:dd.at_=pos:=by rw [hdd];rfl
 have q1:dd.sts.length=dd.pro.states.length:=by rw [hdd];simp [ZaJ]
 have q2:dd.ops.length=dd.pro.moves.length:=by rw [hdd];simp [ZaJ]
 rw [<- hdd] at hz
 have HRD:=zh RD
 have HA:=zh (zi a1 (h.keep a1))
 have HZ:=zh (zi hz (zi hB (zi h1 (zi h2 h3))))
 have HE:=zh (zi n0 (zi p0 (zi q1 q2)))
 have c0:=B1.blk.cell 0
 have c1:=B1.blk.cell 1
 have c2:=B1.blk.cell 2
 have c3:=B1.blk.cell 3
 have c4:=B1.blk.cell 4
 have l0:=(h.keep a1).l.blk.cell 0
 simp only [List.getElem?_toArray,List.getElem?_cons_zero,List.getElem?_cons_succ] at c0 c1 c2 c3 c4 l0
 clear a1 B1 RD n0 p0 q1 q2 hz hB h1 h2 h3 h hN hy hp hst hdd
 go_enter Tryz.func22,Tryz.ntmps22
 go_upto_region 1 with fail
 generalize w.alloc (.cells #[.int .i64 kd,.slice Aw ws.length cw,.slice Au nums.length cu,.slice Ak ks.length ck,.int .i64 pos] 27)=W at *
 generalize hnm:wdK ws 0=nm at *
 have HDD:=zh (zi HE.out.1 HE.out.2.1)
 go_upto_region 2 with (go_at_call 23;(refine HRD.out.mono ?_);rintro e w1 ⟨vs,vm,va,vo,rfl,ho,ha,hb,hbl⟩;obtain ⟨⟨As,cs_,rfl⟩,⟨Am,cm_,rfl⟩⟩:=ho.shape;obtain ⟨Aa,ca_,rfl,_⟩:=id ha;obtain ⟨Ao,co_,rfl,_⟩:=id hb;have H1:=zh (zi ho (zi ha (zi hb hbl)));clear ho ha hb hbl)
 have a2:=below_alloc1 w1 (.cells #[txt nm,.slice As dd.pro.states.length cs_,.slice Am dd.pro.moves.length cm_,.int .i64 pos,.slice Aa dd.sts.length ca_,.slice Ao dd.ops.length co_] 66)
 have D2:=Zd.start w1 #[txt nm,.slice As dd.pro.states.length cs_,.slice Am dd.pro.moves.length cm_,.int .i64 pos,.slice Aa dd.sts.length ca_,.slice Ao dd.ops.length co_] 66
 have b12:=H1.out.2.2.2.trans (a2.mono H1.out.2.2.2.size)
 have HN2:=zh (HA.out.2.keep b12)
 have HP:=zh (zi (H1.out.1.below a2) (zi (H1.out.2.1.below a2) (zi (H1.out.2.2.1.below a2) HZ.out.1.len)))
 have HQ:=zh (zi HE.out.2.2.1 (zi HE.out.2.2.2 (zi (show dd.pro.moves.length<1000000 by have:=HZ.out.1.mv;omega) (zi (show ∀ m∈dd.pro.moves,m.outs.length<1000000 from fun m hm=>by have:=HZ.out.1.out m hm;omega) (zi (Nat.le_trans HZ.out.2.1 (Nat.le_trans HA.out.1.size b12.size)) (HA.out.1.trans (b12.mono HA.out.1.size)))))))
 have hnl:nm.length<=maxLen:=by have:=HZ.out.1.len.name;rw [HE.out.1] at this;exact this
 generalize hdx:w1.heap.size=dx at D2
 generalize w1.alloc (.cells #[txt nm,.slice As dd.pro.states.length cs_,.slice Am dd.pro.moves.length cm_,.int .i64 pos,.slice Aa dd.sts.length ca_,.slice Ao dd.ops.length co_] 66)=W2 at *
 have TK:=zh (Zdv W2.drew bx bf st.taken nm (HN2.out.taken.keep (Zo W2)) HZ.out.2.2.2.2 hnl)
 have HD:=zh (zi D2 trivial)
 generalize hus:st.taken.contains nm=us at TK
 have HUS:=zh hus
 clear hus
 have SO:=zh (fun (V':World) (hd:Zd V' dx 66 #[txt nm,.slice As dd.pro.states.length cs_,.slice Am dd.pro.moves.length cm_,.int .i64 pos,.slice Aa dd.sts.length ca_,.slice Ao dd.ops.length co_]) (hu:Zd V' ub 59 #[.func (.func 42) #[] #[.pointer (some ⟨bx,0,none⟩)]])=>(show ((((((V'.cell? ⟨dx,0,none⟩=some (txt nm)/\V'.cell? ⟨dx,1,none⟩=some (.slice As dd.pro.states.length cs_))/\V'.cell? ⟨dx,2,none⟩=some (.slice Am dd.pro.moves.length cm_))/\V'.cell? ⟨dx,3,none⟩=some (.int .i64 pos))/\V'.cell? ⟨dx,4,none⟩=some (.slice Aa dd.sts.length ca_))/\V'.cell? ⟨dx,5,none⟩=some (.slice Ao dd.ops.length co_))/\V'.cell? ⟨ub,0,none⟩=some (.func (.func 42) #[] #[.pointer (some ⟨bx,0,none⟩)])) from ⟨⟨⟨⟨⟨⟨hd.blk.cell 0,hd.blk.cell 1⟩,hd.blk.cell 2⟩,hd.blk.cell 3⟩,hd.blk.cell 4⟩,hd.blk.cell 5⟩,hu.blk.cell 0⟩))
 clear a2 D2 b12 c0 c1 c2 c3 c4 l0
 refine wp_region_noPanic ?_
 refine wp_region_held_drew (S:=fun V'=>((((((V'.cell? ⟨dx,0,none⟩=some (txt nm)/\V'.cell? ⟨dx,1,none⟩=some (.slice As dd.pro.states.length cs_))/\V'.cell? ⟨dx,2,none⟩=some (.slice Am dd.pro.moves.length cm_))/\V'.cell? ⟨dx,3,none⟩=some (.int .i64 pos))/\V'.cell? ⟨dx,4,none⟩=some (.slice Aa dd.sts.length ca_))/\V'.cell? ⟨dx,5,none⟩=some (.slice Ao dd.ops.length co_))/\V'.cell? ⟨ub,0,none⟩=some (.func (.func 42) #[] #[.pointer (some ⟨bx,0,none⟩)]))) (by kernel_rfl) (SO.out _ HD.out.1 HN2.out.u) (fun hHeld=>?_)
 refine tk 0 rfl ?_
 refine tk 1 rfl ?_
 refine tk 2 rfl ?_
 refine tk 3 rfl ?_
 refine tk 4 rfl ?_
 (try simp only [cl,Act.put])
 refine rd 5 rfl fun K hK=>?_
 go_simp
 (go_at_call 42;(refine TK.out.mono ?_);rintro e w3 ⟨rfl,hf3,hg3⟩)
 go_wp2_with fail
 have gN:W2.grownBy w3 (some bf):=⟨hg3.os,hg3.tape,hg3.output,hg3.size,hg3.block⟩
 have N3:=HN2.out.take hf3 gN
 have nbf:∀ ty cs,¬ Zd W2 bf ty cs:=fun ty cs k=>HN2.out.taken.map.no_blk k
 have mbf:∃ es cl,W2.heap[bf]? = some (.map es cl):=by obtain ⟨D,⟨es,cl,q,_⟩,_⟩:=HN2.out.taken.map;exact ⟨es,cl,q⟩
 have D3:=HD.out.1.grown gN (fun e=>by injection e with e;subst e;exact nbf _ _ HD.out.1)
 have P3:=(HP.out.1.keepA (ZY.of_map gN nbf)).pro HP.out.2.2.2
 have A3:=ZdU HP.out.2.1 gN mbf
 have O3:=ZdU HP.out.2.2.1 gN mbf
 refine hK.out _ _ (SO.out _ D3 N3.u) (fun _=>?_)
 clear hK K
 (try simp only [cl,Act.put])
 refine rd 6 rfl fun K hK=>?_
 have WR:=zh (Zf8 w3 _ _ _ _ dd us P3 A3 O3 HQ.out.1 HQ.out.2.1 HQ.out.2.2.1 HQ.out.2.2.2.1)
 have HW3:=zh (zi N3 (zi D3 (zi P3 (Zv gN HQ.out.2.2.2.2.1 (fun k hk=>by injection hk with hk;rw [<- hk];exact HN2.out.ge.2)))))
 rw [HDD.out.1,HDD.out.2] at WR
 clear gN N3 nbf D3 P3 A3 O3 hf3 hg3
 go_simp
 (go_at_call 24;(refine WR.out.mono ?_);rintro e w4 ⟨rfl,hb4⟩)
 go_wp2_with fail
 have H4:=zh (zi (HW3.out.1.keep hb4) (zi (HW3.out.2.1.keep hb4) (zi (HW3.out.2.2.1.below hb4) (HW3.out.2.2.2.trans (hb4.mono (Nat.le_trans HQ.out.2.2.2.2.1 HW3.out.2.2.2.size))))))
 refine hK.out _ _ (SO.out _ H4.out.2.1 H4.out.1.u) (fun _=>?_)
 clear hK K hb4
 (try simp only [cl,Act.put])
 refine tk 7 rfl ?_
 refine tk 8 rfl ?_
 refine tk 9 rfl ?_
 refine tk 10 rfl ?_
 refine tk 11 rfl ?_
 (try simp only [cl,Act.put])
 refine wpAnyH_done (by kernel_rfl) ?_ _
 refine NoPanic.normal ?_
 obtain ⟨i0,hi,hz0,hz1,hz2⟩:=info_parts Zjs
 have e0:=H4.out.2.1.blk.cell 0
 have e1:=H4.out.2.1.blk.cell 1
 have e2:=H4.out.2.1.blk.cell 2
 simp only [List.getElem?_toArray,List.getElem?_cons_zero,List.getElem?_cons_succ] at e0 e1 e2
 have bw4:=(HQ.out.2.2.2.2.2.mono HZ.out.2.1).trans H4.out.2.2.2
 have HB4:=zh bw4
 have HOK:=zh (fun h0=>Zhy (used:=us) (d:=dd) h0)
 generalize hc:ZaC us dd=c at *
 obtain ⟨cc,ca⟩:=c
 have HC:=zh hc
 clear hc
 dsimp only at HOK ⊢
 by_cases qc:cc=0
 ·have t1:(cc != 0)=false:=by simp [qc]
  obtain ⟨hused,hright⟩:=HOK.out qc
  have HQC:=zh qc
  have hfr:∀ q∈st.ps,q.name≠dd.pro.name:=fun q hq e=>by
   have m:=HN2.out.sub q hq
   rw [e,HDD.out.1] at m
   have q2:=HUS.out
   rw [List.contains_iff_mem.mpr m,hused] at q2
   cases q2
  have AD:=zh (Zb8 w4 B bk bm st.ps al _ _ dd.pro H4.out.1.book H4.out.2.2.1 HZ.out.1 hright hfr HZ.out.2.2.1 (Nat.le_trans HZ.out.2.1 HB4.out.size))
  have b0:=H4.out.1.b.blk.cell 0
  simp only [List.getElem?_toArray,List.getElem?_cons_zero] at b0
  clear qc hused hright hfr bw4
  unfold ZaH at AD
  rw [HDD.out.1] at AD
  go_wp2_with (go_at_call 25;(refine AD.out.mono ?_);rintro e w5 ⟨rfl,⟨a5,hs5⟩,hf5,hb5⟩;have H5:=zh (zi hs5 (zi hf5 hb5));clear hs5 hf5 hb5)
  go_end0
  have:=H4.out.1.more H5.out.1 H5.out.2.1 (by rw [HDD.out.1];simp)
  rw [HST.out,HDD.out.1,HUS.out,HC.out,if_pos HQC.out]
  exact ⟨rfl,⟨_,this⟩,HB4.out.trans H5.out.2.2⟩
 ·have t1:(cc != 0)=true:=by simp [qc]
  have HQC:=zh qc
  obtain ⟨vd,g1,g2⟩:=H4.out.1.d
  have b0:=g1.blk.cell 0
  simp only [List.getElem?_toArray,List.getElem?_cons_zero] at b0
  have a6:=below_alloc1 w4 (.cells #[.int .i64 cc,.int .i64 ca,txt nm] 40)
  have HG:=zh (zi (g1.keep a6) (zi (Ze g2 a6) a6))
  clear qc g1 g2 a6 bw4
  go_wp2_with (at_builtin;refine ZV _ rfl _ _ 33 rfl B 40 i0 (.agg #[.int .i64 0,.int .i64 0,.string ⟨#[]⟩]) 3 32 Tryz.underlying33 hi hz0 hz1 hz2 rfl (by decide) vd st.ds.length (Zt dgC st.ds) rfl HG.out.2.1 (w4.heap.size+1) (some ⟨w4.heap.size,0,none⟩) 1 1 [.int .i64 cc,.int .i64 ca,txt nm] rfl (Zbm _ _ _ _ _) (oneG _ _ _) (by have:=HZ.out.2.2.2.1;unfold maxLen;omega) (by have:=HZ.out.2.2.2.1;omega) (Nat.le_trans HZ.out.2.1 (Nat.le_trans HB4.out.size HG.out.2.2.size)) ?_;intro v2 w2 hown hgrow hl;obtain ⟨E2,k2,rfl⟩:=Zl hown;have T2:=HG.out.1.grown hgrow (HG.out.1.off HG.out.2.1 (by decide));have g4:=T2.blk.cell 0;have g5:=T2.blk.free 0;simp only [List.getElem?_toArray,List.getElem?_cons_zero] at g4)
  refine bodyPost_ret (results_none rfl _ _ _) rfl ?_
  have:=(H4.out.1.keep HG.out.2.2).tell (x:=(cc,ca,nm)) HG.out.1 HG.out.2.1 hown hgrow
  rw [HST.out,HDD.out.1,HUS.out,HC.out,if_neg HQC.out]
  refine ⟨rfl,⟨al,this⟩,?_⟩
  exact ((HB4.out.trans (HG.out.2.2.mono (Nat.le_trans HZ.out.2.1 HB4.out.size))).trans (Zv hgrow (Nat.le_trans HZ.out.2.1 (Nat.le_trans HB4.out.size HG.out.2.2.size)) (fun k hk=>(HG.out.2.1.lt k hk).1))).setCell (p:=⟨gb,0,none⟩) H4.out.1.ge.1 (.slice E2 (st.ds.length+1) k2)
end
end Go.Proofs.YtkgkmdhpnhmcpaaGreatDoor
