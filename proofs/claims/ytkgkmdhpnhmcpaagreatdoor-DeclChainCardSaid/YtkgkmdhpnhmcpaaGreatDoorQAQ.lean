import Derived.Test.YtkgkmdhpnhmcpaaGreatDoorQAP
set_option maxRecDepth 100000
set_option maxHeartbeats 8000000
namespace Go.Proofs.YtkgkmdhpnhmcpaaGreatDoor
section
open Go.RowKit
theorem Zhj (w:World) (B bd:Nat) (nm:List UInt8) (at_:Int) (ss:List Sta) (ps:List Int) (x:NdV×Nd) (s:List UInt8) (sr:List (List UInt8)) (u:Int) (ur:List Int) (h:RdS B w bd nm at_ ss ps) (hx:ZJ w x) (hw:x.2.words=s::sr) (hu:x.2.nums=u::ur) (h1:ss.length<=1000) (h2:ps.length<=1000) (hB:B<=w.heap.size) :
  Calls Tryz.prog 44 #[ndW x,.pointer (some ⟨bd,0,none⟩)] w fun e w'=>e=.returned (.tuple #[])/\RdS B w' bd nm at_ (ss++[⟨s,decide (u=1)⟩]) (ps++[x.2.pos])/\Zz w w' bd 82 3/\Below B w w':=by
 obtain ⟨⟨xw,xu,xk⟩,kd,ws,nums,ks,pos⟩:=x
 dsimp only at hw hu
 subst hw hu
 obtain ⟨⟨Aw,cw,e1,_,_,hW,_⟩,⟨Au,cu,e2,_,_,hU⟩,⟨Ak,ck,e3,_⟩⟩:=hx
 dsimp only at e1 e2 e3 hW hU
 subst e1 e2 e3
 obtain ⟨vs,va,hb,hs,ha⟩:=h.box
 obtain ⟨i0,hi,hz0,hz1,hz2⟩:=info_parts Zdm
 obtain ⟨j0,hj,hy0,hy1,hy2⟩:=info_parts Zgd
 have a1:=below_alloc1 w (.cells #[.int .i64 kd,.slice Aw (s::sr).length cw,.slice Au (u::ur).length cu,.slice Ak ks.length ck,.int .i64 pos] 27)
 have B1:=(Zd.start w #[.int .i64 kd,.slice Aw (s::sr).length cw,.slice Au (u::ur).length cu,.slice Ak ks.length ck,.int .i64 pos] 27)
 obtain ⟨aw,rfl,q0⟩:=Zba hW a1 (k:=0) rfl (by simp)
 obtain ⟨au,rfl,q1⟩:=ints_at hU a1 (k:=0) rfl (by simp)
 have z0:∀ a:Addr,a.add 0=a:=fun a=>by simp [Addr.add]
 rw [z0] at q0 q1
 have hb1:=hb.keep a1
 have hs1:=Ze hs a1
 have ha1:=Ze ha a1
 have ne:bd≠w.heap.size:=Nat.ne_of_lt hb.lt
 have HH:=zh (zi h.ge (zi h1 (zi h2 (zi hB (zi a1 (zi B1 (zi hb1 (zi hs1 (zi ha1 ne)))))))))
 clear h h1 h2 hB hW hU hs ha hb
 go_enter Tryz.func44,Tryz.ntmps44
 go_upto_region 1 with fail
 generalize w.alloc (.cells #[.int .i64 kd,.slice (some aw) (s::sr).length cw,.slice (some au) (u::ur).length cu,.slice Ak ks.length ck,.int .i64 pos] 27)=W at *
 have c1:=B1.blk.cell 1
 have c2:=B1.blk.cell 2
 have c4:=B1.blk.cell 4
 have d1:=hb1.blk.cell 1
 have d4:=hb1.blk.cell 4
 have f1:=hb1.blk.free 1
 have f4:=hb1.blk.free 4
 simp only [List.getElem?_toArray,List.getElem?_cons_zero,List.getElem?_cons_succ] at c1 c2 c4 d1 d4
 have dA:∀ o:Obj,(W.alloc o).cell? ⟨bd,1,none⟩=some vs:=fun o=>((hb1.keep (below_alloc1 W o)).blk.cell 1)
 clear a1 B1 hb1 hs1 ha1
 go_cut [] from 3 to 19 (fun wx=>∃ A1 k1,Zd wx bd 66 #[txt nm,.slice A1 (ss.length+1) k1,.slice none 0 0,.int .i64 at_,va,.slice none 0 0]/\wx.ownsRow B 82 2 (.slice A1 (ss.length+1) k1) (ss.length+1) (Zt stC (ss++[⟨s,u==1⟩]))/\wx.ownsRow B 3 1 va ps.length (ps.map (Value.int .i64))/\Zz W wx bd 82 3/\Below B W wx)
 case first=>
  go_region_law (refine ZP _ rfl _ _ 48 rfl B 82 i0 (.agg #[.string ⟨#[]⟩,.bool false]) 2 24 Tryz.underlying48 hi hz0 hz1 hz2 rfl (by decide) vs ss.length (Zt stC ss) rfl (Zal HH.out.2.2.2.2.2.2.2.1 _) (W.heap.size+1) (some ⟨W.heap.size,0,none⟩) 1 1 [txt s,.bool (u==1)] rfl (ZbS _ _ _ _) (Zjw _ _) (by have:=HH.out.2.1;unfold maxLen;omega) (by have:=HH.out.2.1;omega) (Nat.le_trans (Nat.le_trans HH.out.2.2.2.1 HH.out.2.2.2.2.1.size) (below_alloc1 W _).size) ?_;intro v1 w1 hown hgrow hl;obtain ⟨E1,k1,rfl⟩:=Zl hown;have T1:=(Zar HH.out.2.2.2.2.2.2.1 _).grown hgrow (HH.out.2.2.2.2.2.2.1.off HH.out.2.2.2.2.2.2.2.1 (by decide));have g1:=T1.blk.cell 1;have g2:=T1.blk.free 1;simp only [List.getElem?_toArray,List.getElem?_cons_zero,List.getElem?_cons_succ] at g1)
  all_goals
   go_wp2_with fail
   go_meet
   have ha2:=ZX (Zal HH.out.2.2.2.2.2.2.2.2.1 _) (Zal HH.out.2.2.2.2.2.2.2.1 _) (by decide) hgrow
   have K2:=((Zz.of_below (bd:=bd) (e1:=82) (e2:=3) (below_alloc1 W _).drew).trans (Zz.row1 (Zal HH.out.2.2.2.2.2.2.2.1 _) hgrow)).trans (Zz.set 1 (.slice E1 (ss.length+1) k1))
   have LW:=Nat.le_trans HH.out.2.2.2.1 HH.out.2.2.2.2.1.size
   have L2:=(((below_alloc1 W (.cells #[txt s,.bool (u==1)] 82)).drew.mono LW).trans (Zv hgrow (Nat.le_trans LW (below_alloc1 W _).size) (fun k hk=>(HH.out.2.2.2.2.2.2.2.1.lt k hk).1))).setCell (p:=⟨bd,1,none⟩) HH.out.1 (.slice E1 (ss.length+1) k1)
   exact ⟨E1,k1,by simpa using T1.set 1 (.slice E1 (ss.length+1) k1),by rw [Zay];exact Zg hown (T1.off hown (by decide)),Zg ha2 (T1.off ha2 (by decide)),K2,L2⟩
 case rest=>
  obtain ⟨A1,k1,T1,o1,o2,K1,L1⟩:=hcut
  have N1:=K1.tblk HH.out.2.2.2.2.2.1 (fun e=>HH.out.2.2.2.2.2.2.2.2.2 e.symm) (by decide) (by decide)
  have c4:=N1.blk.cell 4
  have d4:=T1.blk.cell 4
  simp only [List.getElem?_toArray,List.getElem?_cons_zero,List.getElem?_cons_succ] at c4 d4
  clear c1 c2 d1 f1 f4 q0 q1 dA
  generalize wc=W2 at *
  have HB2:=zh (zi (below_alloc1 W2 (.cells #[.int .i64 pos] 3)) (Nat.le_trans (Nat.le_trans HH.out.2.2.2.1 HH.out.2.2.2.2.1.size) K1.1))
  have T1b:=T1.keep HB2.out.1
  have o1b:=Ze o1 HB2.out.1
  have o2b:=Ze o2 HB2.out.1
  have HT:=zh (zi T1b (zi o1b (zi o2b (zi K1 L1))))
  clear T1 o1 o2 K1 L1 N1 T1b o1b o2b
  go_wp2_with (at_builtin;refine ZV _ rfl _ _ 23 rfl B 3 j0 (.int .i64 0) 1 8 Tryz.underlying23 hj hy0 hy1 hy2 rfl (by decide) va ps.length (ps.map (Value.int .i64)) rfl HT.out.2.2.1 (W2.heap.size+1) (some ⟨W2.heap.size,0,none⟩) 1 1 [.int .i64 pos] rfl (ZbR _ _ _) (Zjn _) (by have:=HH.out.2.2.1;unfold maxLen;omega) (by have:=HH.out.2.2.1;omega) (Nat.le_trans HB2.out.2 HB2.out.1.size) ?_;intro v2 w2 hown hgrow hl;obtain ⟨E2,k2,rfl⟩:=Zl hown;have T2:=HT.out.1.grown hgrow (HT.out.1.off HT.out.2.2.1 (by decide));have g4:=T2.blk.cell 4;have g5:=T2.blk.free 4;simp only [List.getElem?_toArray,List.getElem?_cons_zero,List.getElem?_cons_succ] at g4)
  go_end0
  have hs2:=ZX HT.out.2.1 HT.out.2.2.1 (by decide) hgrow
  have K2:=((HT.out.2.2.2.1.trans (Zz.of_below HB2.out.1)).trans (Zz.row2 HT.out.2.2.1 hgrow)).trans (Zz.set 4 (.slice E2 (ps.length+1) k2))
  refine ⟨rfl,⟨⟨.slice A1 (ss.length+1) k1,.slice E2 (ps.length+1) k2,by simpa using T2.set 4 (.slice E2 (ps.length+1) k2),?_,?_⟩,HH.out.1⟩,(Zz.of_below HH.out.2.2.2.2.1).trans K2,?_⟩
  ·have:=Zg hs2 (T2.off hs2 (by decide)) (j:=4) (u:=.slice E2 (ps.length+1) k2)
   have e:decide (u=1)=(u==1):=by cases h:(u==1)<;>simp_all
   rw [e,List.length_append]
   exact this
  ·rw [List.length_append,List.map_append]
   exact Zg hown (T2.off hown (by decide))
  ·exact ((HH.out.2.2.2.2.1.mono HH.out.2.2.2.1).trans (HT.out.2.2.2.2.trans ((HB2.out.1.mono HB2.out.2).trans (Zv hgrow (Nat.le_trans HB2.out.2 HB2.out.1.size) (fun k hk=>(HT.out.2.2.1.lt k hk).1))))).setCell (p:=⟨bd,4,none⟩) HH.out.1 (.slice E2 (ps.length+1) k2)
end
end Go.Proofs.YtkgkmdhpnhmcpaaGreatDoor
