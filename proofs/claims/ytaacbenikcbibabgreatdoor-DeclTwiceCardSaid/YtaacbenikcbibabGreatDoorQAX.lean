import Derived.Test.YtaacbenikcbibabGreatDoorQAT
import Derived.Test.YtaacbenikcbibabGreatDoorQAW
set_option maxRecDepth 100000
set_option maxHeartbeats 8000000
namespace Go.Proofs.YtaacbenikcbibabGreatDoor
section
open Go.RowKit
theorem Zg8 (w:World) (B bd:Nat) (nm:List UInt8) (at_:Int) (ss:List Sta) (ps:List Int) (x:NdV×Nd) (s:List UInt8) (sr:List (List UInt8)) (u:Int) (ur:List Int) (h:RdS B w bd nm at_ ss ps) (hx:ZO w x) (hw:x.2.words=s::sr) (hu:x.2.nums=u::ur) (h1:ss.length<=1000) (h2:ps.length<=1000) (hB:B<=w.heap.size) :
  Calls Tryz.prog 26 #[ndW x,.pointer (some ⟨bd,0,none⟩)] w fun e w'=>e=.returned (.tuple #[])/\RdS B w' bd nm at_ (ss++[⟨s,decide (u=1)⟩]) (ps++[x.2.pos])/\Zz w w' bd 74 3/\Below B w w':=by
 obtain ⟨⟨xw,xu,xk⟩,kd,ws,nums,ks,pos⟩:=x
 dsimp only at hw hu
 subst hw hu
 obtain ⟨⟨Aw,cw,e1,_,_,hW,_⟩,⟨Au,cu,e2,_,_,hU⟩,⟨Ak,ck,e3,_⟩⟩:=hx
 dsimp only at e1 e2 e3 hW hU
 subst e1 e2 e3
 obtain ⟨vs,va,hb,hs,ha⟩:=h.box
 obtain ⟨i0,hi,hz0,hz1,hz2⟩:=ZG Zdg
 obtain ⟨j0,hj,hy0,hy1,hy2⟩:=ZG Zed
 have a1:=Za w (.cells #[.int .i64 kd,.slice Aw (s::sr).length cw,.slice Au (u::ur).length cu,.slice Ak ks.length ck,.int .i64 pos] 27)
 have B1:=(Ze.start w #[.int .i64 kd,.slice Aw (s::sr).length cw,.slice Au (u::ur).length cu,.slice Ak ks.length ck,.int .i64 pos] 27)
 obtain ⟨aw,rfl,q0⟩:=Zbb hW a1 (k:=0) rfl (by simp)
 obtain ⟨au,rfl,q1⟩:=ZC hU a1 (k:=0) rfl (by simp)
 have z0:∀ a:Addr,a.add 0=a:=fun a=>by simp [Addr.add]
 rw [z0] at q0 q1
 have hb1:=hb.keep a1
 have hs1:=Zf hs a1
 have ha1:=Zf ha a1
 have ne:bd≠w.heap.size:=Nat.ne_of_lt hb.lt
 have HH:=Lib.hid (And.intro h.ge (And.intro h1 (And.intro h2 (And.intro hB (And.intro a1 (And.intro B1 (And.intro hb1 (And.intro hs1 (And.intro ha1 ne)))))))))
 clear h h1 h2 hB hW hU hs ha hb
 go_enter Tryz.func26,Tryz.ntmps26
 go_upto_region 1 with fail
 generalize w.alloc (.cells #[.int .i64 kd,.slice (some aw) (s::sr).length cw,.slice (some au) (u::ur).length cu,.slice Ak ks.length ck,.int .i64 pos] 27)=W at *
 have c1:=B1.blk.cell 1
 have c2:=B1.blk.cell 2
 have c4:=B1.blk.cell 4
 have d1:=hb1.blk.cell 1
 have d4:=hb1.blk.cell 4
 have f1:=hb1.blk.free 1
 have f4:=hb1.blk.free 4
 simp only [List.getElem?_toArray,List.getElem?_cons_zero,List.getElem?_cons_succ] at c1 c2 c4 d1 d4
 have dA:∀ o:Obj,(W.alloc o).cell? ⟨bd,1,none⟩=some vs:=fun o=>((hb1.keep (Za W o)).blk.cell 1)
 clear a1 B1 hb1 hs1 ha1
 go_cut [] from 3 to 19 (fun wx=>∃ A1 k1,Ze wx bd 54 #[txt nm,.slice A1 (ss.length+1) k1,.slice none 0 0,.int .i64 at_,va,.slice none 0 0]/\wx.ownsRow B 74 2 (.slice A1 (ss.length+1) k1) (ss.length+1) (Zt stC (ss++[⟨s,u==1⟩]))/\wx.ownsRow B 3 1 va ps.length (ps.map (Value.int .i64))/\Zz W wx bd 74 3/\Below B W wx)
 case first=>
  go_region_law (refine ZU _ rfl _ _ 38 rfl B 74 i0 (.agg #[.string ⟨#[]⟩,.bool false]) 2 24 Tryz.underlying38 hi hz0 hz1 hz2 rfl (by decide) vs ss.length (Zt stC ss) rfl (Zal HH.out.2.2.2.2.2.2.2.1 _) (W.heap.size+1) (some ⟨W.heap.size,0,none⟩) 1 1 [txt s,.bool (u==1)] rfl (ZbQ _ _ _ _) (Zja _ _) (by have:=HH.out.2.1;unfold maxLen;omega) (by have:=HH.out.2.1;omega) (Nat.le_trans (Nat.le_trans HH.out.2.2.2.1 HH.out.2.2.2.2.1.size) (Za W _).size) ?_;intro v1 w1 hown hgrow hl;obtain ⟨E1,k1,rfl⟩:=Zm hown;have T1:=(Zau HH.out.2.2.2.2.2.2.1 _).grown hgrow (HH.out.2.2.2.2.2.2.1.off HH.out.2.2.2.2.2.2.2.1 (by decide));have g1:=T1.blk.cell 1;have g2:=T1.blk.free 1;simp only [List.getElem?_toArray,List.getElem?_cons_zero,List.getElem?_cons_succ] at g1)
  all_goals
   go_wp2_with fail
   go_meet
   have ha2:=Zaa (Zal HH.out.2.2.2.2.2.2.2.2.1 _) (Zal HH.out.2.2.2.2.2.2.2.1 _) (by decide) hgrow
   have K2:=((Zz.of_below (bd:=bd) (e1:=74) (e2:=3) (Za W _).drew).trans (Zz.row1 (Zal HH.out.2.2.2.2.2.2.2.1 _) hgrow)).trans (Zz.set 1 (.slice E1 (ss.length+1) k1))
   have LW:=Nat.le_trans HH.out.2.2.2.1 HH.out.2.2.2.2.1.size
   have L2:=(((Za W (.cells #[txt s,.bool (u==1)] 74)).drew.mono LW).trans (Zv hgrow (Nat.le_trans LW (Za W _).size) (fun k hk=>(HH.out.2.2.2.2.2.2.2.1.lt k hk).1))).setCell (p:=⟨bd,1,none⟩) HH.out.1 (.slice E1 (ss.length+1) k1)
   exact ⟨E1,k1,by simpa using T1.set 1 (.slice E1 (ss.length+1) k1),by rw [ZaC];exact Zk hown (T1.off hown (by decide)),Zk ha2 (T1.off ha2 (by decide)),K2,L2⟩
 case rest=>
  obtain ⟨A1,k1,T1,o1,o2,K1,L1⟩:=hcut
  have N1:=K1.tblk HH.out.2.2.2.2.2.1 (fun e=>HH.out.2.2.2.2.2.2.2.2.2 e.symm) (by decide) (by decide)
  have c4:=N1.blk.cell 4
  have d4:=T1.blk.cell 4
  simp only [List.getElem?_toArray,List.getElem?_cons_zero,List.getElem?_cons_succ] at c4 d4
  clear c1 c2 d1 f1 f4 q0 q1 dA
  generalize wc=W2 at *
  have HB2:=Lib.hid (And.intro (Za W2 (.cells #[.int .i64 pos] 3)) (Nat.le_trans (Nat.le_trans HH.out.2.2.2.1 HH.out.2.2.2.2.1.size) K1.1))
  have T1b:=T1.keep HB2.out.1
  have o1b:=Zf o1 HB2.out.1
  have o2b:=Zf o2 HB2.out.1
  have HT:=Lib.hid (And.intro T1b (And.intro o1b (And.intro o2b (And.intro K1 L1))))
  clear T1 o1 o2 K1 L1 N1 T1b o1b o2b
  go_wp2_with (at_builtin;refine ZJ _ rfl _ _ 25 rfl B 3 j0 (.int .i64 0) 1 8 Tryz.underlying25 hj hy0 hy1 hy2 rfl (by decide) va ps.length (ps.map (Value.int .i64)) rfl HT.out.2.2.1 (W2.heap.size+1) (some ⟨W2.heap.size,0,none⟩) 1 1 [.int .i64 pos] rfl (ZbP _ _ _) (Zi2 _) (by have:=HH.out.2.2.1;unfold maxLen;omega) (by have:=HH.out.2.2.1;omega) (Nat.le_trans HB2.out.2 HB2.out.1.size) ?_;intro v2 w2 hown hgrow hl;obtain ⟨E2,k2,rfl⟩:=Zm hown;have T2:=HT.out.1.grown hgrow (HT.out.1.off HT.out.2.2.1 (by decide));have g4:=T2.blk.cell 4;have g5:=T2.blk.free 4;simp only [List.getElem?_toArray,List.getElem?_cons_zero,List.getElem?_cons_succ] at g4)
  go_end0
  have hs2:=Zaa HT.out.2.1 HT.out.2.2.1 (by decide) hgrow
  have K2:=((HT.out.2.2.2.1.trans (Zz.of_below HB2.out.1)).trans (Zz.row2 HT.out.2.2.1 hgrow)).trans (Zz.set 4 (.slice E2 (ps.length+1) k2))
  refine ⟨rfl,⟨⟨.slice A1 (ss.length+1) k1,.slice E2 (ps.length+1) k2,by simpa using T2.set 4 (.slice E2 (ps.length+1) k2),?_,?_⟩,HH.out.1⟩,(Zz.of_below HH.out.2.2.2.2.1).trans K2,?_⟩
  ·have:=Zk hs2 (T2.off hs2 (by decide)) (j:=4) (u:=.slice E2 (ps.length+1) k2)
   have e:decide (u=1)=(u==1):=by cases h:(u==1)<;>simp_all
   rw [e,List.length_append]
   exact this
  ·rw [List.length_append,List.map_append]
   exact Zk hown (T2.off hown (by decide))
  ·exact ((HH.out.2.2.2.2.1.mono HH.out.2.2.2.1).trans (HT.out.2.2.2.2.trans ((HB2.out.1.mono HB2.out.2).trans (Zv hgrow (Nat.le_trans HB2.out.2 HB2.out.1.size) (fun k hk=>(HT.out.2.2.1.lt k hk).1))))).setCell (p:=⟨bd,4,none⟩) HH.out.1 (.slice E2 (ps.length+1) k2)
end
section
open Go.RowKit
structure R2 (B:Nat) (w:World) (bd:Nat) (nm:List UInt8) (vs va:Value) (at_:Int) (vm vo:Value) (rs:List (Value×Mov)) (ps:List Int):Prop where
 box:Ze w bd 54 #[txt nm,vs,vm,.int .i64 at_,va,vo]
 mv:w.ownsRow B 79 3 vm rs.length (Zt mvC rs)
 ops:w.ownsRow B 3 1 vo ps.length (ps.map (Value.int .i64))
 outs:∀ x∈rs,Zay w B x.1 x.2.outs
def Zaf (B bd:Nat) (w w':World):Prop:=∀ b,b<B->b≠bd->w'.heap[b]? = w.heap[b]?
theorem Zaf.trans {B bd:Nat} {w w' w2:World} (h:Zaf B bd w w') (k:Zaf B bd w' w2):Zaf B bd w w2:=fun b hb hne=>(k b hb hne).trans (h b hb hne)
theorem Zaf.of_below {B bd:Nat} {w w':World} (h:Below B w w'):Zaf B bd w w':=fun b hb _=>h.block b hb
theorem Zaf.set {B bd:Nat} {w:World} (i:Nat) (v:Value):Zaf B bd w (w.setCell ⟨bd,i,none⟩ v):=fun _ _ hne=>Below.heap_setCell _ _ _ _ (fun e=>hne e)
section
variable {B B0 bd:Nat} {w w1 w':World} {nm:List UInt8} {vs va vm vo v':Value} {at_:Int} {rs:List (Value×Mov)} {ps:List Int} {x:Value×Mov}
theorem R2.keep (h:R2 B w bd nm vs va at_ vm vo rs ps) (hb:Below w.heap.size w w'):R2 B w' bd nm vs va at_ vm vo rs ps:=⟨h.box.keep hb,Zf h.mv hb,Zf h.ops hb,fun x hx=>Zf (h.outs x hx) hb⟩
theorem Zgj (s:List UInt8) (k:Int) (A:Option Addr) (n c:Nat):∀ u∈[txt s,Value.int .i64 k,.slice A n c],u.oneCell'=true:=by
 intro u hu
 rcases List.mem_cons.1 hu with rfl | hu
 ·rfl
 ·rcases List.mem_cons.1 hu with rfl | hu
  ·rfl
  ·rw [List.mem_singleton.1 hu];rfl
theorem Zbm (w:World) (x y z:Value) (ty:TypeId):Zs (w.alloc (.cells #[x,y,z] ty)) (w.heap.size+1) 3 (some ⟨w.heap.size,0,none⟩) 1 [x,y,z]:=
 ⟨rfl,fun _=>⟨_,rfl,Nat.lt_succ_self _,fun j u hj=>by
  have T:=(Ze.start w #[x,y,z] ty).blk
  match j,hj with
  | 0,hj=>injection hj with hj;subst hj;exact T.cell 0
  | 1,hj=>injection hj with hj;subst hj;exact T.cell 1
  | 2,hj=>injection hj with hj;subst hj;exact T.cell 2
  | j+3,hj=>simp at hj⟩⟩
theorem Zc1 (h:R2 B w bd nm vs va at_ vm vo rs ps) (hb:Below w.heap.size w w1) (hB:B<=w.heap.size) (h0:B0<=B) (hg:B0<=bd) (o:Obj) (ho:w1.ownsRow w.heap.size 100 2 x.1 x.2.outs.length (Zt ouC x.2.outs)) (hown:w'.ownsRow B 79 3 v' (rs.length+1) (Zt mvC rs++mvC x)) (hgrow:(w1.alloc o).grownBy w' vm.ownBlock) :
  Ze w' bd 54 #[txt nm,vs,vm,.int .i64 at_,va,vo]/\Zz w w' bd 79 3/\R2 B (w'.setCell ⟨bd,2,none⟩ v') bd nm vs va at_ v' vo (rs++[x]) ps/\Zz w (w'.setCell ⟨bd,2,none⟩ v') bd 79 3/\Zaf B bd w (w'.setCell ⟨bd,2,none⟩ v')/\Below B0 w (w'.setCell ⟨bd,2,none⟩ v'):=by
 have bA:Below w.heap.size w (w1.alloc o):=hb.trans ((Za w1 o).mono hb.size)
 have hA:=h.keep bA
 have T1:=hA.box.grown hgrow (hA.box.off hA.mv (by decide))
 have K1:Zz w w' bd 79 3:=(Zz.of_below bA).trans (Zz.row1 hA.mv hgrow)
 have L1:Below B w w':=(bA.mono hB).trans (Zv hgrow (Nat.le_trans hB bA.size) (fun k hk=>(hA.mv.lt k hk).1))
 have oo:∀ y:Value×Mov,Zay (w1.alloc o) B y.1 y.2.outs->Zay (w'.setCell ⟨bd,2,none⟩ v') B y.1 y.2.outs:=fun y hy=>by
  have q:=Zaa hy hA.mv (by decide) hgrow
  exact Zk q (T1.off q (by decide))
 have oi:=Zaa hA.ops hA.mv (by decide) hgrow
 refine ⟨T1,K1,⟨by simpa using T1.set 2 v',?_,Zk oi (T1.off oi (by decide)),fun y hy=>?_⟩,K1.trans (Zz.set 2 v'),(Zaf.of_below L1).trans (Zaf.set 2 v'),(L1.mono h0).setCell (p:=⟨bd,2,none⟩) hg v'⟩
 ·rw [List.length_append,ZaC]
  have e:Zt mvC [x]=mvC x:=by simp [Zt]
  rw [e]
  exact Zk hown (T1.off hown (by decide))
 ·rcases List.mem_append.1 hy with hy | hy
  ·exact oo y (hA.outs y hy)
  ·rw [List.mem_singleton.1 hy]
   exact oo x (ZI (Zf ho (Za w1 o)) hB)
end
theorem Zg9 (w:World) (B B0 bd bp bx bm:Nat) (nm:List UInt8) (vs va vm vo:Value) (at_:Int) (rs:List (Value×Mov)) (ps:List Int) (ss:List Sta) (x:NdV×Nd) (h:R2 B w bd nm vs va at_ vm vo rs ps) (hx:ZO w x) (hP:PlcS w bx bm ss) (hp:Ze w bp 75 #[ZbY bx]) (h4:4<=x.2.words.length) (he:x.2.words.length % 2=0) (hl:x.2.words.length<=1000) (h1:rs.length<=1000) (h2:ps.length<=1000) (hB:B<=w.heap.size) (h0:B0<=B) (hg:B0<=bd) :
  Calls Tryz.prog 28 #[ndW x,.pointer (some ⟨bd,0,none⟩),.pointer (some ⟨bp,0,none⟩)] w fun e w'=>e=.returned (.tuple #[])/\(∃ vm' vo' rs',R2 B w' bd nm vs va at_ vm' vo' rs' (ps++[x.2.pos])/\rs'.map (·.2)=rs.map (·.2)++[Zeg ss x.2.words])/\Zaf B bd w w'/\Below B0 w w':=by
 obtain ⟨⟨xw,xu,xk⟩,kd,ws,nums,ks,pos⟩:=x
 dsimp only at h4 he hl ⊢
 obtain ⟨hx1,⟨Au,cu,e2,_⟩,⟨Ak,ck,e3,_⟩⟩:=hx
 dsimp only at hx1 e2 e3
 subst e2 e3
 obtain ⟨Aw,cw,rfl,_,_,hW,_⟩:=id hx1
 obtain ⟨aw,rfl,_⟩:=hW.2 (by omega)
 obtain ⟨i0,hi,hz0,hz1,hz2⟩:=ZG Zcz
 obtain ⟨j0,hj,hy0,hy1,hy2⟩:=ZG Zed
 have a1:=Za w (.cells #[.int .i64 kd,.slice (some aw) ws.length cw,.slice Au nums.length cu,.slice Ak ks.length ck,.int .i64 pos] 27)
 have B1:=Ze.start w #[.int .i64 kd,.slice (some aw) ws.length cw,.slice Au nums.length cu,.slice Ak ks.length ck,.int .i64 pos] 27
 have hR1:=h.keep a1
 have hp1:=hp.keep a1
 have ne1:w.heap.size≠bd:=Nat.ne_of_gt h.box.lt
 have ne2:bp≠bd:=ZaV hp h.box (by decide)
 have HR:=Lib.hid (And.intro hR1 (And.intro B1 (And.intro hp1 (And.intro ne1 (And.intro ne2 a1)))))
 have MV:=Lib.hid (Zg2 _ bx bm ss ws _ (hx1.below a1.drew) (hP.keep a1.drew) h4 he hl)
 have HN:=Lib.hid (And.intro h1 (Nat.le_trans hB a1.size))
 have HN2:=Lib.hid (And.intro h2 (And.intro hB (And.intro h0 hg)))
 clear h hx1 hP hp h4 he hl h1 h2 hB hW h0 hg
 unfold ZbY at MV hp1 HR
 go_enter Tryz.func28,Tryz.ntmps28
 go_upto_region 1 with fail
 generalize w.alloc (.cells #[.int .i64 kd,.slice (some aw) ws.length cw,.slice Au nums.length cu,.slice Ak ks.length ck,.int .i64 pos] 27)=W at *
 have SK:=Lib.hid (fun (V':World) (hk:Zz W V' bd 79 3)=>(show V'.cell? ⟨w.heap.size,1,none⟩=some (.slice (some aw) ws.length cw)/\V'.cell? ⟨bp,0,none⟩=some (.func (.func 43) #[] #[.pointer (some ⟨bx,0,none⟩)]) from
  ⟨(hk.tblk HR.out.2.1 HR.out.2.2.2.1 (by decide) (by decide)).blk.cell 1,(hk.tblk HR.out.2.2.1 HR.out.2.2.2.2.1 (by decide) (by decide)).blk.cell 0⟩))
 have d2:=hR1.box.blk.cell 2
 simp only [List.getElem?_toArray,List.getElem?_cons_zero,List.getElem?_cons_succ] at d2
 clear a1 B1 hR1 hp1
 go_cut [] from 4 to 14 (fun wx=>∃ vm' rs' x',R2 B wx bd nm vs va at_ vm' vo (rs++[x']) ps/\x'=(rs',Zeg ss ws)/\Zz W wx bd 79 3/\Zaf B bd W wx/\Below B0 W wx)
 case first=>
  refine wp_region_noPanic ?_
  refine wp_region_held_drew (S:=fun V'=>V'.cell? ⟨w.heap.size,1,none⟩=some (.slice (some aw) ws.length cw)/\V'.cell? ⟨bp,0,none⟩=some (.func (.func 43) #[] #[.pointer (some ⟨bx,0,none⟩)])) (by kernel_rfl) (SK.out _ (Zz.of_below (Zp W))) (fun hHeld=>?_)
  refine tk 0 rfl ?_
  refine tk 1 rfl ?_
  refine tk 3 rfl ?_
  refine tk 4 rfl ?_
  refine tk 5 rfl ?_
  (try simp only [cl,Act.put])
  refine wpAnyH_ready (rs:=[2,6]) (by kernel_rfl) (by simp) (AllReadyH.cons (o:=_) rfl (fun K hK=>?_) (AllReadyH.cons (o:=_) rfl (fun K hK=>?_) AllReadyH.nil))
  ·go_simp
   refine hK.out _ _ (SK.out _ (Zz.of_below (Zp W))) (fun _=>?_)
   clear hK K
   (try simp only [cl,Act.put])
   refine rd 6 rfl fun K hK=>?_
   go_simp
   (go_at_call 29;(with_reducible refine MV.out.mono ?_);rintro e w1 ⟨vo',rfl,ho,hb1⟩;obtain ⟨Ao,co,rfl⟩:=Zm ho;have K1:=Lib.hid (And.intro (show w1.ownsRow W.heap.size _ _ _ _ _ from ho) ((Zp W).trans (show Below W.heap.size W.drew w1 from hb1)));clear ho hb1)
   go_wp2_with fail
   refine hK.out _ _ (SK.out _ (Zz.of_below K1.out.2)) (fun _=>?_)
   clear hK K
   (try simp only [cl,Act.put])
   refine rd 7 rfl fun K hK=>?_
   go_simp
   refine hK.out _ _ (SK.out _ (Zz.of_below (K1.out.2.trans ((Za w1 _).mono K1.out.2.size)))) (fun _=>?_)
   clear hK K
   (try simp only [cl,Act.put])
   refine rd 8 rfl fun K hK=>?_
   refine ZU _ rfl _ _ 39 rfl B 79 i0 (.agg #[.string ⟨#[]⟩,.int .i64 0,.slice none 0 0]) 3 48 Tryz.underlying39 hi hz0 hz1 hz2 rfl (by decide) vm rs.length _ rfl (Zf HR.out.1.mv (K1.out.2.trans ((Za w1 (.cells #[txt (wdK ws 0),.int .i64 (ZF ss (wdK ws 1)),.slice Ao (Zah ss (ws.drop 2)).length co] 79)).mono K1.out.2.size))) (w1.heap.size+1) (some ⟨w1.heap.size,0,none⟩) 1 1 [txt (wdK ws 0),.int .i64 (ZF ss (wdK ws 1)),.slice Ao (Zah ss (ws.drop 2)).length co] rfl (Zbm _ _ _ _ _) (Zgj _ _ _ _ _) (by have:=HN.out.1;unfold maxLen;omega) (by have:=HN.out.1;omega) (Nat.le_trans HN.out.2 (Nat.le_trans K1.out.2.size (Za w1 _).size)) (fun v' w' hown hgrow hl=>?_)
   obtain ⟨g',k',rfl⟩:=Zm hown
   have ST:=Zc1 (x:=(.slice Ao (Zah ss (ws.drop 2)).length co,⟨wdK ws 0,ZF ss (wdK ws 1),Zah ss (ws.drop 2)⟩)) HR.out.1 K1.out.2 HN.out.2 HN2.out.2.2.1 HN2.out.2.2.2 (.cells #[txt (wdK ws 0),.int .i64 (ZF ss (wdK ws 1)),.slice Ao (Zah ss (ws.drop 2)).length co] 79) K1.out.1 hown hgrow
   have g1:=ST.1.blk.cell 2
   have g2:=ST.1.blk.free 2
   simp only [List.getElem?_toArray,List.getElem?_cons_zero,List.getElem?_cons_succ] at g1
   refine hK.out _ _ (SK.out _ ST.2.1) (fun _=>?_)
   clear hK K
   (try simp only [cl,Act.put])
   refine tk 9 rfl ?_
   refine tk 10 rfl ?_
   (try simp only [cl,Act.put])
   refine rd 11 rfl fun K hK=>?_
   go_simp
   refine hK.out _ _ (SK.out _ ST.2.2.2.1) (fun _=>?_)
   clear hK K
   refine wpAnyH_done (by kernel_rfl) ?_ _
   refine NoPanic.normal ?_
   go_wp2_with fail
   go_meet
   exact ⟨_,_,_,ST.2.2.1,rfl,ST.2.2.2⟩
  ·go_simp
   (go_at_call 29;(with_reducible refine MV.out.mono ?_);rintro e w1 ⟨vo',rfl,ho,hb1⟩;obtain ⟨Ao,co,rfl⟩:=Zm ho;have K1:=Lib.hid (And.intro (show w1.ownsRow W.heap.size _ _ _ _ _ from ho) ((Zp W).trans (show Below W.heap.size W.drew w1 from hb1)));clear ho hb1)
   go_wp2_with fail
   refine hK.out _ _ (SK.out _ (Zz.of_below K1.out.2)) (fun _=>?_)
   clear hK K
   (try simp only [cl,Act.put])
   refine wpAnyH_ready (rs:=[2,7]) (by kernel_rfl) (by simp) (AllReadyH.cons (o:=_) rfl (fun K hK=>?_) (AllReadyH.cons (o:=_) rfl (fun K hK=>?_) AllReadyH.nil))
   ·have d2a:=ZaK K1.out.2 d2
    go_simp
    refine hK.out _ _ (SK.out _ (Zz.of_below K1.out.2)) (fun _=>?_)
    clear hK K
    (try simp only [cl,Act.put])
    refine rd 7 rfl fun K hK=>?_
    go_simp
    refine hK.out _ _ (SK.out _ (Zz.of_below (K1.out.2.trans ((Za w1 _).mono K1.out.2.size)))) (fun _=>?_)
    clear hK K
    (try simp only [cl,Act.put])
    refine rd 8 rfl fun K hK=>?_
    refine ZU _ rfl _ _ 39 rfl B 79 i0 (.agg #[.string ⟨#[]⟩,.int .i64 0,.slice none 0 0]) 3 48 Tryz.underlying39 hi hz0 hz1 hz2 rfl (by decide) vm rs.length _ rfl (Zf HR.out.1.mv (K1.out.2.trans ((Za w1 (.cells #[txt (wdK ws 0),.int .i64 (ZF ss (wdK ws 1)),.slice Ao (Zah ss (ws.drop 2)).length co] 79)).mono K1.out.2.size))) (w1.heap.size+1) (some ⟨w1.heap.size,0,none⟩) 1 1 [txt (wdK ws 0),.int .i64 (ZF ss (wdK ws 1)),.slice Ao (Zah ss (ws.drop 2)).length co] rfl (Zbm _ _ _ _ _) (Zgj _ _ _ _ _) (by have:=HN.out.1;unfold maxLen;omega) (by have:=HN.out.1;omega) (Nat.le_trans HN.out.2 (Nat.le_trans K1.out.2.size (Za w1 _).size)) (fun v' w' hown hgrow hl=>?_)
    obtain ⟨g',k',rfl⟩:=Zm hown
    have ST:=Zc1 (x:=(.slice Ao (Zah ss (ws.drop 2)).length co,⟨wdK ws 0,ZF ss (wdK ws 1),Zah ss (ws.drop 2)⟩)) HR.out.1 K1.out.2 HN.out.2 HN2.out.2.2.1 HN2.out.2.2.2 (.cells #[txt (wdK ws 0),.int .i64 (ZF ss (wdK ws 1)),.slice Ao (Zah ss (ws.drop 2)).length co] 79) K1.out.1 hown hgrow
    have g1:=ST.1.blk.cell 2
    have g2:=ST.1.blk.free 2
    simp only [List.getElem?_toArray,List.getElem?_cons_zero,List.getElem?_cons_succ] at g1
    refine hK.out _ _ (SK.out _ ST.2.1) (fun _=>?_)
    clear hK K
    (try simp only [cl,Act.put])
    refine tk 9 rfl ?_
    refine tk 10 rfl ?_
    (try simp only [cl,Act.put])
    refine rd 11 rfl fun K hK=>?_
    go_simp
    refine hK.out _ _ (SK.out _ ST.2.2.2.1) (fun _=>?_)
    clear hK K
    refine wpAnyH_done (by kernel_rfl) ?_ _
    refine NoPanic.normal ?_
    go_wp2_with fail
    go_meet
    exact ⟨_,_,_,ST.2.2.1,rfl,ST.2.2.2⟩
   ·go_simp
    refine hK.out _ _ (SK.out _ (Zz.of_below (K1.out.2.trans ((Za w1 _).mono K1.out.2.size)))) (fun _=>?_)
    clear hK K
    (try simp only [cl,Act.put])
    have d2a:=ZaK (K1.out.2.trans ((Za w1 (.cells #[txt (wdK ws 0),.int .i64 (ZF ss (wdK ws 1)),.slice Ao (Zah ss (ws.drop 2)).length co] 79)).mono K1.out.2.size)) d2
    refine rd 2 rfl fun K hK=>?_
    go_simp
    refine hK.out _ _ (SK.out _ (Zz.of_below (K1.out.2.trans ((Za w1 _).mono K1.out.2.size)))) (fun _=>?_)
    clear hK K
    (try simp only [cl,Act.put])
    refine rd 8 rfl fun K hK=>?_
    refine ZU _ rfl _ _ 39 rfl B 79 i0 (.agg #[.string ⟨#[]⟩,.int .i64 0,.slice none 0 0]) 3 48 Tryz.underlying39 hi hz0 hz1 hz2 rfl (by decide) vm rs.length _ rfl (Zf HR.out.1.mv (K1.out.2.trans ((Za w1 (.cells #[txt (wdK ws 0),.int .i64 (ZF ss (wdK ws 1)),.slice Ao (Zah ss (ws.drop 2)).length co] 79)).mono K1.out.2.size))) (w1.heap.size+1) (some ⟨w1.heap.size,0,none⟩) 1 1 [txt (wdK ws 0),.int .i64 (ZF ss (wdK ws 1)),.slice Ao (Zah ss (ws.drop 2)).length co] rfl (Zbm _ _ _ _ _) (Zgj _ _ _ _ _) (by have:=HN.out.1;unfold maxLen;omega) (by have:=HN.out.1;omega) (Nat.le_trans HN.out.2 (Nat.le_trans K1.out.2.size (Za w1 _).size)) (fun v' w' hown hgrow hl=>?_)
    obtain ⟨g',k',rfl⟩:=Zm hown
    have ST:=Zc1 (x:=(.slice Ao (Zah ss (ws.drop 2)).length co,⟨wdK ws 0,ZF ss (wdK ws 1),Zah ss (ws.drop 2)⟩)) HR.out.1 K1.out.2 HN.out.2 HN2.out.2.2.1 HN2.out.2.2.2 (.cells #[txt (wdK ws 0),.int .i64 (ZF ss (wdK ws 1)),.slice Ao (Zah ss (ws.drop 2)).length co] 79) K1.out.1 hown hgrow
    have g1:=ST.1.blk.cell 2
    have g2:=ST.1.blk.free 2
    simp only [List.getElem?_toArray,List.getElem?_cons_zero,List.getElem?_cons_succ] at g1
    refine hK.out _ _ (SK.out _ ST.2.1) (fun _=>?_)
    clear hK K
    (try simp only [cl,Act.put])
    refine tk 9 rfl ?_
    refine tk 10 rfl ?_
    (try simp only [cl,Act.put])
    refine rd 11 rfl fun K hK=>?_
    go_simp
    refine hK.out _ _ (SK.out _ ST.2.2.2.1) (fun _=>?_)
    clear hK K
    refine wpAnyH_done (by kernel_rfl) ?_ _
    refine NoPanic.normal ?_
    go_wp2_with fail
    go_meet
    exact ⟨_,_,_,ST.2.2.1,rfl,ST.2.2.2⟩
 case rest=>
  obtain ⟨vm',rs',x',hR2,rfl,hk2,hk3,hb2⟩:=hcut
  generalize wc=W2 at *
  have N1:=hk2.tblk HR.out.2.1 HR.out.2.2.2.1 (by decide) (by decide)
  have c4:=N1.blk.cell 4
  have d5:=hR2.box.blk.cell 5
  simp only [List.getElem?_toArray,List.getElem?_cons_zero,List.getElem?_cons_succ] at c4 d5
  have HB2:=Lib.hid (And.intro (Za W2 (.cells #[.int .i64 pos] 3)) (Nat.le_trans HN.out.2 hk2.1))
  have HT:=Lib.hid (And.intro (hR2.keep HB2.out.1) (And.intro hk3 hb2))
  clear d2 SK MV hR2 hk2 hk3 hb2 N1
  go_wp2_with (at_builtin;refine ZJ _ rfl _ _ 25 rfl B 3 j0 (.int .i64 0) 1 8 Tryz.underlying25 hj hy0 hy1 hy2 rfl (by decide) vo ps.length (ps.map (Value.int .i64)) rfl HT.out.1.ops (W2.heap.size+1) (some ⟨W2.heap.size,0,none⟩) 1 1 [.int .i64 pos] rfl (ZbP _ _ _) (Zi2 _) (by have:=HN2.out.1;unfold maxLen;omega) (by have:=HN2.out.1;omega) (Nat.le_trans HB2.out.2 HB2.out.1.size) ?_;intro v2 w2 hown hgrow hl;obtain ⟨E2,k2,rfl⟩:=Zm hown;have T2:=HT.out.1.box.grown hgrow (HT.out.1.box.off HT.out.1.ops (by decide));have g4:=T2.blk.cell 5;have g5:=T2.blk.free 5;simp only [List.getElem?_toArray,List.getElem?_cons_zero,List.getElem?_cons_succ] at g4)
  go_end0
  have hs2:=Zaa HT.out.1.mv HT.out.1.ops (by decide) hgrow
  have L1:Below B W2 w2:=(HB2.out.1.mono HB2.out.2).trans (Zv hgrow (Nat.le_trans HB2.out.2 HB2.out.1.size) (fun k hk=>(HT.out.1.ops.lt k hk).1))
  have K2:=(HT.out.2.1.trans (Zaf.of_below L1)).trans (Zaf.set 5 (.slice E2 (ps.length+1) k2))
  have L2:=(HT.out.2.2.trans (L1.mono HN2.out.2.2.1)).setCell (p:=⟨bd,5,none⟩) HN2.out.2.2.2 (.slice E2 (ps.length+1) k2)
  refine ⟨rfl,⟨_,_,_,⟨by simpa using T2.set 5 (.slice E2 (ps.length+1) k2),Zk hs2 (T2.off hs2 (by decide)),?_,fun y hy=>?_⟩,by simp⟩,(Zaf.of_below (HR.out.2.2.2.2.2.mono HN2.out.2.1)).trans K2,(HR.out.2.2.2.2.2.mono (Nat.le_trans HN2.out.2.2.1 HN2.out.2.1)).trans L2⟩
  ·rw [List.length_append,List.map_append]
   exact Zk hown (T2.off hown (by decide))
  ·have q:=Zaa (HT.out.1.outs y hy) HT.out.1.ops (by decide) hgrow
   exact Zk q (T2.off q (by decide))
end
end Go.Proofs.YtaacbenikcbibabGreatDoor
