import Derived.Test.YtkgkmdhpnhmcpaaGreatDoorQAQ
import Derived.Test.YtkgkmdhpnhmcpaaGreatDoorQAS
set_option maxRecDepth 100000
set_option maxHeartbeats 8000000
namespace Go.Proofs.YtkgkmdhpnhmcpaaGreatDoor
section
open Go.RowKit
structure R2 (B:Nat) (w:World) (bd:Nat) (nm:List UInt8) (vs va:Value) (at_:Int) (vm vo:Value) (rs:List (Value×Mov)) (ps:List Int):Prop where
 box:Zd w bd 66 #[txt nm,vs,vm,.int .i64 at_,va,vo]
 mv:w.ownsRow B 85 3 vm rs.length (Zt mvC rs)
 ops:w.ownsRow B 3 1 vo ps.length (ps.map (Value.int .i64))
 outs:∀ x∈rs,Zav w B x.1 x.2.outs
def Zae (B bd:Nat) (w w':World):Prop:=∀ b,b<B->b≠bd->w'.heap[b]? = w.heap[b]?
theorem Zae.trans {B bd:Nat} {w w' w2:World} (h:Zae B bd w w') (k:Zae B bd w' w2):Zae B bd w w2:=fun b hb hne=>(k b hb hne).trans (h b hb hne)
theorem Zae.of_below {B bd:Nat} {w w':World} (h:Below B w w'):Zae B bd w w':=fun b hb _=>h.block b hb
theorem Zae.set {B bd:Nat} {w:World} (i:Nat) (v:Value):Zae B bd w (w.setCell ⟨bd,i,none⟩ v):=fun _ _ hne=>Below.heap_setCell _ _ _ _ (fun e=>hne e)
section
variable {B B0 bd:Nat} {w w1 w':World} {nm:List UInt8} {vs va vm vo v':Value} {at_:Int} {rs:List (Value×Mov)} {ps:List Int} {x:Value×Mov}
theorem R2.keep (h:R2 B w bd nm vs va at_ vm vo rs ps) (hb:Below w.heap.size w w'):R2 B w' bd nm vs va at_ vm vo rs ps:=⟨h.box.keep hb,Ze h.mv hb,Ze h.ops hb,fun x hx=>Ze (h.outs x hx) hb⟩
theorem Zgt (s:List UInt8) (k:Int) (A:Option Addr) (n c:Nat):∀ u∈[txt s,Value.int .i64 k,.slice A n c],u.oneCell'=true:=by
 intro u hu
 rcases List.mem_cons.1 hu with rfl | hu
 ·rfl
 ·rcases List.mem_cons.1 hu with rfl | hu
  ·rfl
  ·rw [List.mem_singleton.1 hu];rfl
theorem Zbm (w:World) (x y z:Value) (ty:TypeId):Zr (w.alloc (.cells #[x,y,z] ty)) (w.heap.size+1) 3 (some ⟨w.heap.size,0,none⟩) 1 [x,y,z]:=
 ⟨rfl,fun _=>⟨_,rfl,Nat.lt_succ_self _,fun j u hj=>by
  have T:=(Zd.start w #[x,y,z] ty).blk
  match j,hj with
  | 0,hj=>injection hj with hj;subst hj;exact T.cell 0
  | 1,hj=>injection hj with hj;subst hj;exact T.cell 1
  | 2,hj=>injection hj with hj;subst hj;exact T.cell 2
  | j+3,hj=>simp at hj⟩⟩
theorem Zc7 (h:R2 B w bd nm vs va at_ vm vo rs ps) (hb:Below w.heap.size w w1) (hB:B<=w.heap.size) (h0:B0<=B) (hg:B0<=bd) (o:Obj) (ho:w1.ownsRow w.heap.size 110 2 x.1 x.2.outs.length (Zt ouC x.2.outs)) (hown:w'.ownsRow B 85 3 v' (rs.length+1) (Zt mvC rs++mvC x)) (hgrow:(w1.alloc o).grownBy w' vm.ownBlock) :
  Zd w' bd 66 #[txt nm,vs,vm,.int .i64 at_,va,vo]/\Zz w w' bd 85 3/\R2 B (w'.setCell ⟨bd,2,none⟩ v') bd nm vs va at_ v' vo (rs++[x]) ps/\Zz w (w'.setCell ⟨bd,2,none⟩ v') bd 85 3/\Zae B bd w (w'.setCell ⟨bd,2,none⟩ v')/\Below B0 w (w'.setCell ⟨bd,2,none⟩ v'):=by
 have bA:Below w.heap.size w (w1.alloc o):=hb.trans ((below_alloc1 w1 o).mono hb.size)
 have hA:=h.keep bA
 have T1:=hA.box.grown hgrow (hA.box.off hA.mv (by decide))
 have K1:Zz w w' bd 85 3:=(Zz.of_below bA).trans (Zz.row1 hA.mv hgrow)
 have L1:Below B w w':=(bA.mono hB).trans (Zv hgrow (Nat.le_trans hB bA.size) (fun k hk=>(hA.mv.lt k hk).1))
 have oo:∀ y:Value×Mov,Zav (w1.alloc o) B y.1 y.2.outs->Zav (w'.setCell ⟨bd,2,none⟩ v') B y.1 y.2.outs:=fun y hy=>by
  have q:=ZX hy hA.mv (by decide) hgrow
  exact Zg q (T1.off q (by decide))
 have oi:=ZX hA.ops hA.mv (by decide) hgrow
 refine ⟨T1,K1,⟨by simpa using T1.set 2 v',?_,Zg oi (T1.off oi (by decide)),fun y hy=>?_⟩,K1.trans (Zz.set 2 v'),(Zae.of_below L1).trans (Zae.set 2 v'),(L1.mono h0).setCell (p:=⟨bd,2,none⟩) hg v'⟩
 ·rw [List.length_append,Zay]
  have e:Zt mvC [x]=mvC x:=by simp [Zt]
  rw [e]
  exact Zg hown (T1.off hown (by decide))
 ·rcases List.mem_append.1 hy with hy | hy
  ·exact oo y (hA.outs y hy)
  ·rw [List.mem_singleton.1 hy]
   exact oo x (ZF (Ze ho (below_alloc1 w1 o)) hB)
end
theorem Zhk (w:World) (B B0 bd bp bx bm:Nat) (nm:List UInt8) (vs va vm vo:Value) (at_:Int) (rs:List (Value×Mov)) (ps:List Int) (ss:List Sta) (x:NdV×Nd) (h:R2 B w bd nm vs va at_ vm vo rs ps) (hx:ZJ w x) (hP:PlcS w bx bm ss) (hp:Zd w bp 95 #[Zb1 bx]) (h4:4<=x.2.words.length) (he:x.2.words.length % 2=0) (hl:x.2.words.length<=1000) (h1:rs.length<=1000) (h2:ps.length<=1000) (hB:B<=w.heap.size) (h0:B0<=B) (hg:B0<=bd) :
  Calls Tryz.prog 46 #[ndW x,.pointer (some ⟨bd,0,none⟩),.pointer (some ⟨bp,0,none⟩)] w fun e w'=>e=.returned (.tuple #[])/\(∃ vm' vo' rs',R2 B w' bd nm vs va at_ vm' vo' rs' (ps++[x.2.pos])/\rs'.map (·.2)=rs.map (·.2)++[Zem ss x.2.words])/\Zae B bd w w'/\Below B0 w w':=by
 obtain ⟨⟨xw,xu,xk⟩,kd,ws,nums,ks,pos⟩:=x
 dsimp only at h4 he hl ⊢
 obtain ⟨hx1,⟨Au,cu,e2,_⟩,⟨Ak,ck,e3,_⟩⟩:=hx
 dsimp only at hx1 e2 e3
 subst e2 e3
 obtain ⟨Aw,cw,rfl,_,_,hW,_⟩:=id hx1
 obtain ⟨aw,rfl,_⟩:=hW.2 (by omega)
 obtain ⟨i0,hi,hz0,hz1,hz2⟩:=info_parts ZcG
 obtain ⟨j0,hj,hy0,hy1,hy2⟩:=info_parts Zgd
 have a1:=below_alloc1 w (.cells #[.int .i64 kd,.slice (some aw) ws.length cw,.slice Au nums.length cu,.slice Ak ks.length ck,.int .i64 pos] 27)
 have B1:=Zd.start w #[.int .i64 kd,.slice (some aw) ws.length cw,.slice Au nums.length cu,.slice Ak ks.length ck,.int .i64 pos] 27
 have hR1:=h.keep a1
 have hp1:=hp.keep a1
 have ne1:w.heap.size≠bd:=Nat.ne_of_gt h.box.lt
 have ne2:bp≠bd:=ZaV hp h.box (by decide)
 have HR:=zh (zi hR1 (zi B1 (zi hp1 (zi ne1 (zi ne2 a1)))))
 have MV:=zh (Zhd _ bx bm ss ws _ (hx1.below a1.drew) (hP.keep a1.drew) h4 he hl)
 have HN:=zh (zi h1 (Nat.le_trans hB a1.size))
 have HN2:=zh (zi h2 (zi hB (zi h0 hg)))
 clear h hx1 hP hp h4 he hl h1 h2 hB hW h0 hg
 unfold Zb1 at MV hp1 HR
 go_enter Tryz.func46,Tryz.ntmps46
 go_upto_region 1 with fail
 generalize w.alloc (.cells #[.int .i64 kd,.slice (some aw) ws.length cw,.slice Au nums.length cu,.slice Ak ks.length ck,.int .i64 pos] 27)=W at *
 have SK:=zh (fun (V':World) (hk:Zz W V' bd 85 3)=>(show V'.cell? ⟨w.heap.size,1,none⟩=some (.slice (some aw) ws.length cw)/\V'.cell? ⟨bp,0,none⟩=some (.func (.func 75) #[] #[.pointer (some ⟨bx,0,none⟩)]) from
  ⟨(hk.tblk HR.out.2.1 HR.out.2.2.2.1 (by decide) (by decide)).blk.cell 1,(hk.tblk HR.out.2.2.1 HR.out.2.2.2.2.1 (by decide) (by decide)).blk.cell 0⟩))
 have d2:=hR1.box.blk.cell 2
 simp only [List.getElem?_toArray,List.getElem?_cons_zero,List.getElem?_cons_succ] at d2
 clear a1 B1 hR1 hp1
 go_cut [] from 4 to 14 (fun wx=>∃ vm' rs' x',R2 B wx bd nm vs va at_ vm' vo (rs++[x']) ps/\x'=(rs',Zem ss ws)/\Zz W wx bd 85 3/\Zae B bd W wx/\Below B0 W wx)
 case first=>
  refine wp_region_noPanic ?_
  refine wp_region_held_drew (S:=fun V'=>V'.cell? ⟨w.heap.size,1,none⟩=some (.slice (some aw) ws.length cw)/\V'.cell? ⟨bp,0,none⟩=some (.func (.func 75) #[] #[.pointer (some ⟨bx,0,none⟩)])) (by kernel_rfl) (SK.out _ (Zz.of_below (Zo W))) (fun hHeld=>?_)
  refine tk 0 rfl ?_
  refine tk 1 rfl ?_
  refine tk 3 rfl ?_
  refine tk 4 rfl ?_
  refine tk 5 rfl ?_
  (try simp only [cl,Act.put])
  refine wpAnyH_ready (rs:=[2,6]) (by kernel_rfl) (by simp) (AllReadyH.cons (o:=_) rfl (fun K hK=>?_) (AllReadyH.cons (o:=_) rfl (fun K hK=>?_) AllReadyH.nil))
  ·go_simp
   refine hK.out _ _ (SK.out _ (Zz.of_below (Zo W))) (fun _=>?_)
   clear hK K
   (try simp only [cl,Act.put])
   refine rd 6 rfl fun K hK=>?_
   go_simp
   (go_at_call 47;(with_reducible refine MV.out.mono ?_);rintro e w1 ⟨vo',rfl,ho,hb1⟩;obtain ⟨Ao,co,rfl⟩:=Zl ho;have K1:=zh (zi (show w1.ownsRow W.heap.size _ _ _ _ _ from ho) ((Zo W).trans (show Below W.heap.size W.drew w1 from hb1)));clear ho hb1)
   go_wp2_with fail
   refine hK.out _ _ (SK.out _ (Zz.of_below K1.out.2)) (fun _=>?_)
   clear hK K
   (try simp only [cl,Act.put])
   refine rd 7 rfl fun K hK=>?_
   go_simp
   refine hK.out _ _ (SK.out _ (Zz.of_below (K1.out.2.trans ((below_alloc1 w1 _).mono K1.out.2.size)))) (fun _=>?_)
   clear hK K
   (try simp only [cl,Act.put])
   refine rd 8 rfl fun K hK=>?_
   refine ZP _ rfl _ _ 49 rfl B 85 i0 (.agg #[.string ⟨#[]⟩,.int .i64 0,.slice none 0 0]) 3 48 Tryz.underlying49 hi hz0 hz1 hz2 rfl (by decide) vm rs.length _ rfl (Ze HR.out.1.mv (K1.out.2.trans ((below_alloc1 w1 (.cells #[txt (wdK ws 0),.int .i64 (ZD ss (wdK ws 1)),.slice Ao (Zag ss (ws.drop 2)).length co] 85)).mono K1.out.2.size))) (w1.heap.size+1) (some ⟨w1.heap.size,0,none⟩) 1 1 [txt (wdK ws 0),.int .i64 (ZD ss (wdK ws 1)),.slice Ao (Zag ss (ws.drop 2)).length co] rfl (Zbm _ _ _ _ _) (Zgt _ _ _ _ _) (by have:=HN.out.1;unfold maxLen;omega) (by have:=HN.out.1;omega) (Nat.le_trans HN.out.2 (Nat.le_trans K1.out.2.size (below_alloc1 w1 _).size)) (fun v' w' hown hgrow hl=>?_)
   obtain ⟨g',k',rfl⟩:=Zl hown
   have ST:=Zc7 (x:=(.slice Ao (Zag ss (ws.drop 2)).length co,⟨wdK ws 0,ZD ss (wdK ws 1),Zag ss (ws.drop 2)⟩)) HR.out.1 K1.out.2 HN.out.2 HN2.out.2.2.1 HN2.out.2.2.2 (.cells #[txt (wdK ws 0),.int .i64 (ZD ss (wdK ws 1)),.slice Ao (Zag ss (ws.drop 2)).length co] 85) K1.out.1 hown hgrow
   have g1:=ST.1.blk.cell 2
   have g2:=ST.1.blk.free 2
   simp only [List.getElem?_toArray,List.getElem?_cons_zero,List.getElem?_cons_succ] at g1
   refine hK.out _ _ (SK.out _ ST.2.1) (fun _=>?_)
   clear hK K
   (try simp only [cl,Act.put])
   refine tk 9 rfl ?_
   refine tk 10 rfl ?_
   (try simp only [cl,Act.put])
   refine rd 11 rfl fun K hK=>?_
   go_simp
   refine hK.out _ _ (SK.out _ ST.2.2.2.1) (fun _=>?_)
   clear hK K
   refine wpAnyH_done (by kernel_rfl) ?_ _
   refine NoPanic.normal ?_
   go_wp2_with fail
   go_meet
   exact ⟨_,_,_,ST.2.2.1,rfl,ST.2.2.2⟩
  ·go_simp
   (go_at_call 47;(with_reducible refine MV.out.mono ?_);rintro e w1 ⟨vo',rfl,ho,hb1⟩;obtain ⟨Ao,co,rfl⟩:=Zl ho;have K1:=zh (zi (show w1.ownsRow W.heap.size _ _ _ _ _ from ho) ((Zo W).trans (show Below W.heap.size W.drew w1 from hb1)));clear ho hb1)
   go_wp2_with fail
   refine hK.out _ _ (SK.out _ (Zz.of_below K1.out.2)) (fun _=>?_)
   clear hK K
   (try simp only [cl,Act.put])
   refine wpAnyH_ready (rs:=[2,7]) (by kernel_rfl) (by simp) (AllReadyH.cons (o:=_) rfl (fun K hK=>?_) (AllReadyH.cons (o:=_) rfl (fun K hK=>?_) AllReadyH.nil))
   ·have d2a:=ZaG K1.out.2 d2
    go_simp
    refine hK.out _ _ (SK.out _ (Zz.of_below K1.out.2)) (fun _=>?_)
    clear hK K
    (try simp only [cl,Act.put])
    refine rd 7 rfl fun K hK=>?_
    go_simp
    refine hK.out _ _ (SK.out _ (Zz.of_below (K1.out.2.trans ((below_alloc1 w1 _).mono K1.out.2.size)))) (fun _=>?_)
    clear hK K
    (try simp only [cl,Act.put])
    refine rd 8 rfl fun K hK=>?_
    refine ZP _ rfl _ _ 49 rfl B 85 i0 (.agg #[.string ⟨#[]⟩,.int .i64 0,.slice none 0 0]) 3 48 Tryz.underlying49 hi hz0 hz1 hz2 rfl (by decide) vm rs.length _ rfl (Ze HR.out.1.mv (K1.out.2.trans ((below_alloc1 w1 (.cells #[txt (wdK ws 0),.int .i64 (ZD ss (wdK ws 1)),.slice Ao (Zag ss (ws.drop 2)).length co] 85)).mono K1.out.2.size))) (w1.heap.size+1) (some ⟨w1.heap.size,0,none⟩) 1 1 [txt (wdK ws 0),.int .i64 (ZD ss (wdK ws 1)),.slice Ao (Zag ss (ws.drop 2)).length co] rfl (Zbm _ _ _ _ _) (Zgt _ _ _ _ _) (by have:=HN.out.1;unfold maxLen;omega) (by have:=HN.out.1;omega) (Nat.le_trans HN.out.2 (Nat.le_trans K1.out.2.size (below_alloc1 w1 _).size)) (fun v' w' hown hgrow hl=>?_)
    obtain ⟨g',k',rfl⟩:=Zl hown
    have ST:=Zc7 (x:=(.slice Ao (Zag ss (ws.drop 2)).length co,⟨wdK ws 0,ZD ss (wdK ws 1),Zag ss (ws.drop 2)⟩)) HR.out.1 K1.out.2 HN.out.2 HN2.out.2.2.1 HN2.out.2.2.2 (.cells #[txt (wdK ws 0),.int .i64 (ZD ss (wdK ws 1)),.slice Ao (Zag ss (ws.drop 2)).length co] 85) K1.out.1 hown hgrow
    have g1:=ST.1.blk.cell 2
    have g2:=ST.1.blk.free 2
    simp only [List.getElem?_toArray,List.getElem?_cons_zero,List.getElem?_cons_succ] at g1
    refine hK.out _ _ (SK.out _ ST.2.1) (fun _=>?_)
    clear hK K
    (try simp only [cl,Act.put])
    refine tk 9 rfl ?_
    refine tk 10 rfl ?_
    (try simp only [cl,Act.put])
    refine rd 11 rfl fun K hK=>?_
    go_simp
    refine hK.out _ _ (SK.out _ ST.2.2.2.1) (fun _=>?_)
    clear hK K
    refine wpAnyH_done (by kernel_rfl) ?_ _
    refine NoPanic.normal ?_
    go_wp2_with fail
    go_meet
    exact ⟨_,_,_,ST.2.2.1,rfl,ST.2.2.2⟩
   ·go_simp
    refine hK.out _ _ (SK.out _ (Zz.of_below (K1.out.2.trans ((below_alloc1 w1 _).mono K1.out.2.size)))) (fun _=>?_)
    clear hK K
    (try simp only [cl,Act.put])
    have d2a:=ZaG (K1.out.2.trans ((below_alloc1 w1 (.cells #[txt (wdK ws 0),.int .i64 (ZD ss (wdK ws 1)),.slice Ao (Zag ss (ws.drop 2)).length co] 85)).mono K1.out.2.size)) d2
    refine rd 2 rfl fun K hK=>?_
    go_simp
    refine hK.out _ _ (SK.out _ (Zz.of_below (K1.out.2.trans ((below_alloc1 w1 _).mono K1.out.2.size)))) (fun _=>?_)
    clear hK K
    (try simp only [cl,Act.put])
    refine rd 8 rfl fun K hK=>?_
    refine ZP _ rfl _ _ 49 rfl B 85 i0 (.agg #[.string ⟨#[]⟩,.int .i64 0,.slice none 0 0]) 3 48 Tryz.underlying49 hi hz0 hz1 hz2 rfl (by decide) vm rs.length _ rfl (Ze HR.out.1.mv (K1.out.2.trans ((below_alloc1 w1 (.cells #[txt (wdK ws 0),.int .i64 (ZD ss (wdK ws 1)),.slice Ao (Zag ss (ws.drop 2)).length co] 85)).mono K1.out.2.size))) (w1.heap.size+1) (some ⟨w1.heap.size,0,none⟩) 1 1 [txt (wdK ws 0),.int .i64 (ZD ss (wdK ws 1)),.slice Ao (Zag ss (ws.drop 2)).length co] rfl (Zbm _ _ _ _ _) (Zgt _ _ _ _ _) (by have:=HN.out.1;unfold maxLen;omega) (by have:=HN.out.1;omega) (Nat.le_trans HN.out.2 (Nat.le_trans K1.out.2.size (below_alloc1 w1 _).size)) (fun v' w' hown hgrow hl=>?_)
    obtain ⟨g',k',rfl⟩:=Zl hown
    have ST:=Zc7 (x:=(.slice Ao (Zag ss (ws.drop 2)).length co,⟨wdK ws 0,ZD ss (wdK ws 1),Zag ss (ws.drop 2)⟩)) HR.out.1 K1.out.2 HN.out.2 HN2.out.2.2.1 HN2.out.2.2.2 (.cells #[txt (wdK ws 0),.int .i64 (ZD ss (wdK ws 1)),.slice Ao (Zag ss (ws.drop 2)).length co] 85) K1.out.1 hown hgrow
    have g1:=ST.1.blk.cell 2
    have g2:=ST.1.blk.free 2
    simp only [List.getElem?_toArray,List.getElem?_cons_zero,List.getElem?_cons_succ] at g1
    refine hK.out _ _ (SK.out _ ST.2.1) (fun _=>?_)
    clear hK K
    (try simp only [cl,Act.put])
    refine tk 9 rfl ?_
    refine tk 10 rfl ?_
    (try simp only [cl,Act.put])
    refine rd 11 rfl fun K hK=>?_
    go_simp
    refine hK.out _ _ (SK.out _ ST.2.2.2.1) (fun _=>?_)
    clear hK K
    refine wpAnyH_done (by kernel_rfl) ?_ _
    refine NoPanic.normal ?_
    go_wp2_with fail
    go_meet
    exact ⟨_,_,_,ST.2.2.1,rfl,ST.2.2.2⟩
 case rest=>
  obtain ⟨vm',rs',x',hR2,rfl,hk2,hk3,hb2⟩:=hcut
  generalize wc=W2 at *
  have N1:=hk2.tblk HR.out.2.1 HR.out.2.2.2.1 (by decide) (by decide)
  have c4:=N1.blk.cell 4
  have d5:=hR2.box.blk.cell 5
  simp only [List.getElem?_toArray,List.getElem?_cons_zero,List.getElem?_cons_succ] at c4 d5
  have HB2:=zh (zi (below_alloc1 W2 (.cells #[.int .i64 pos] 3)) (Nat.le_trans HN.out.2 hk2.1))
  have HT:=zh (zi (hR2.keep HB2.out.1) (zi hk3 hb2))
  clear d2 SK MV hR2 hk2 hk3 hb2 N1
  go_wp2_with (at_builtin;refine ZV _ rfl _ _ 23 rfl B 3 j0 (.int .i64 0) 1 8 Tryz.underlying23 hj hy0 hy1 hy2 rfl (by decide) vo ps.length (ps.map (Value.int .i64)) rfl HT.out.1.ops (W2.heap.size+1) (some ⟨W2.heap.size,0,none⟩) 1 1 [.int .i64 pos] rfl (ZbR _ _ _) (Zjn _) (by have:=HN2.out.1;unfold maxLen;omega) (by have:=HN2.out.1;omega) (Nat.le_trans HB2.out.2 HB2.out.1.size) ?_;intro v2 w2 hown hgrow hl;obtain ⟨E2,k2,rfl⟩:=Zl hown;have T2:=HT.out.1.box.grown hgrow (HT.out.1.box.off HT.out.1.ops (by decide));have g4:=T2.blk.cell 5;have g5:=T2.blk.free 5;simp only [List.getElem?_toArray,List.getElem?_cons_zero,List.getElem?_cons_succ] at g4)
  go_end0
  have hs2:=ZX HT.out.1.mv HT.out.1.ops (by decide) hgrow
  have L1:Below B W2 w2:=(HB2.out.1.mono HB2.out.2).trans (Zv hgrow (Nat.le_trans HB2.out.2 HB2.out.1.size) (fun k hk=>(HT.out.1.ops.lt k hk).1))
  have K2:=(HT.out.2.1.trans (Zae.of_below L1)).trans (Zae.set 5 (.slice E2 (ps.length+1) k2))
  have L2:=(HT.out.2.2.trans (L1.mono HN2.out.2.2.1)).setCell (p:=⟨bd,5,none⟩) HN2.out.2.2.2 (.slice E2 (ps.length+1) k2)
  refine ⟨rfl,⟨_,_,_,⟨by simpa using T2.set 5 (.slice E2 (ps.length+1) k2),Zg hs2 (T2.off hs2 (by decide)),?_,fun y hy=>?_⟩,by simp⟩,(Zae.of_below (HR.out.2.2.2.2.2.mono HN2.out.2.1)).trans K2,(HR.out.2.2.2.2.2.mono (Nat.le_trans HN2.out.2.2.1 HN2.out.2.1)).trans L2⟩
  ·rw [List.length_append,List.map_append]
   exact Zg hown (T2.off hown (by decide))
  ·have q:=ZX (HT.out.1.outs y hy) HT.out.1.ops (by decide) hgrow
   exact Zg q (T2.off q (by decide))
end
end Go.Proofs.YtkgkmdhpnhmcpaaGreatDoor
