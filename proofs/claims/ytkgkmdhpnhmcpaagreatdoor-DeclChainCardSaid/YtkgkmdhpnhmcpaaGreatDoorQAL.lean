import Derived.Test.YtkgkmdhpnhmcpaaGreatDoorQAK
set_option maxRecDepth 100000
set_option maxHeartbeats 8000000
namespace Go.Proofs.YtkgkmdhpnhmcpaaGreatDoor
section
open Go.RowKit
theorem Zi0 {l:List (Value×Mov)} (h:∀ x∈l,x.1.oneCell'=true):∀ u∈Zt mvC l,u.oneCell'=true:=by
 induction l with
 | nil=>intro u hu;cases hu
 | cons x r ih=>
  intro u hu
  rw [Zt,List.mem_append] at hu
  rcases hu with hu | hu
  ·unfold mvC at hu
   simp only [List.mem_cons,List.not_mem_nil,or_false] at hu
   rcases hu with rfl | rfl | rfl
   ·rfl
   ·rfl
   ·exact h x (List.mem_cons_self ..)
  ·exact ih (fun y hy=>h y (List.mem_cons_of_mem _ hy)) u hu
structure SzP (p:Pro):Prop where
 name:p.name.length<=140737488355328
 st:p.states.length<=80
 mv:p.moves.length<=80
 out:∀ m∈p.moves,m.outs.length<=80
 ns:∀ s∈p.states,s.name.length<=140737488355328
 no:∀ m∈p.moves,m.op.length<=140737488355328/\∀ o∈m.outs,o.name.length<=140737488355328
theorem SzP.len {p:Pro} (h:SzP p):LenP p:=
 ⟨by have:=h.name;unfold maxLen;omega,fun s hs=>by have:=h.ns s hs;unfold maxLen;omega,fun m hm=>⟨by have:=(h.no m hm).1;unfold maxLen;omega,fun o ho=>by have:=(h.no m hm).2 o ho;unfold maxLen;omega⟩⟩
theorem Zf3 (w:World) (vs vm:Value) (p:Pro) (h:ProAt w vs vm p) (hz:SzP p) :
  Calls Tryz.prog 35 #[ZaH vs vm p] w fun e w'=>∃ vs' vm',e=.returned (ZaH vs' vm' p)/\ZN w' w.heap.size vs' vm' p/\Below w.heap.size w w':=by
 obtain ⟨As,cs,rfl,hs1,hs2,hS,hSn⟩:=h.states
 obtain ⟨rs,hm,Am,cm,rfl,hm1,hm2,hM,hE⟩:=h.moves
 have a1:=below_alloc1 w (.cells #[txt p.name,.slice As p.states.length cs,.slice Am rs.length cm] 51)
 have B1:=Blk.start w #[txt p.name,.slice As p.states.length cs,.slice Am rs.length cm] 51
 have a2:=below_alloc1 (w.alloc (.cells #[txt p.name,.slice As p.states.length cs,.slice Am rs.length cm] 51)) (.cells #[.string ⟨#[]⟩,.slice none 0 0,.slice none 0 0] 51)
 have B2:=Zd.start (w.alloc (.cells #[txt p.name,.slice As p.states.length cs,.slice Am rs.length cm] 51)) #[.string ⟨#[]⟩,.slice none 0 0,.slice none 0 0] 51
 rw [World.size_alloc] at B2
 have SC:=zh (fun (v:World)=>Zbg p.name v (by have:=hz.name;omega))
 have HZ:=zh (zi hz (zi hm (zi hE hSn)))
 have hml:=ZbQ hm
 have BW:=zh (a1.trans (a2.mono a1.size))
 have TS:=zh (fun (v:World) (hb:Below w.heap.size w v)=>Zfb v As p.states.length cs _ ((hS.below hb).more hb.size) Zjb (Nat.le_trans hs1 hs2) (by have:=hz.st;omega))
 have TM:=zh (fun (v:World) (hb:Below w.heap.size w v)=>ZfC v Am rs.length cm _ ((hM.below hb).more hb.size) (Zi0 (fun x hx=>by obtain ⟨A,c,e,_⟩:=(hE x hx).2;rw [e];rfl)) (Nat.le_trans hm1 hm2) (by have:=hz.mv;omega))
 have HM:=zh (zi hS hM)
 have b2:=B1.keep a2
 have HB:=zh (zi b2 B2)
 have r0:=b2.cell 0
 have r1:=b2.cell 1
 have r2:=b2.cell 2
 simp only [List.getElem?_toArray,List.getElem?_cons_zero,List.getElem?_cons_succ] at r0 r1 r2
 clear h hz hm hE hSn hS hM hs1 hs2 hm1 hm2 hml a1 a2 B1 B2 b2
 go_enter Tryz.func35,Tryz.ntmps35
 go_upto_region 1 with fail
 generalize ((w.alloc (.cells #[txt p.name,.slice As p.states.length cs,.slice Am rs.length cm] 51)).alloc (.cells #[.string ⟨#[]⟩,.slice none 0 0,.slice none 0 0] 51))=W at *
 go_cut [3] from 8 to 17 (fun v3 wx=>Zeo W p.name p.states rs v3 wx)
 case first=>
  have TS:=zh (fun (v:World) (hb:Below W.heap.size W v)=>TS.out v (BW.out.trans (hb.mono BW.out.size)))
  have TM:=zh (fun (v:World) (hb:Below W.heap.size W v)=>TM.out v (BW.out.trans (hb.mono BW.out.size)))
  have STB:=zh (show Zb6 (fun w'=>((w'.cell? ⟨w.heap.size,0,none⟩=some (txt p.name)/\w'.cell? ⟨w.heap.size,1,none⟩=some (.slice As p.states.length cs))/\w'.cell? ⟨w.heap.size,2,none⟩=some (.slice Am rs.length cm))/\Below W.heap.size W w') from Za5 (Za5 (Za5 (Za9 _ _) (Za9 _ _)) (Za9 _ _)) (ZgC W))
  have HS:((W.drew.cell? ⟨w.heap.size,0,none⟩=some (txt p.name)/\W.drew.cell? ⟨w.heap.size,1,none⟩=some (.slice As p.states.length cs))/\W.drew.cell? ⟨w.heap.size,2,none⟩=some (.slice Am rs.length cm))/\Below W.heap.size W W.drew:=⟨⟨⟨r0,r1⟩,r2⟩,(Below.refl _ _).drew⟩
  clear r0 r1 r2
  refine wp_region_noPanic ?_
  refine wp_region_held_drew (S:=(fun w'=>((w'.cell? ⟨w.heap.size,0,none⟩=some (txt p.name)/\w'.cell? ⟨w.heap.size,1,none⟩=some (.slice As p.states.length cs))/\w'.cell? ⟨w.heap.size,2,none⟩=some (.slice Am rs.length cm))/\Below W.heap.size W w')) (by kernel_rfl) HS (fun hHeld=>?_)
  clear HS
  refine tk 0 rfl ?_
  refine tk 1 rfl ?_
  refine tk 3 rfl ?_
  refine tk 4 rfl ?_
  refine tk 6 rfl ?_
  refine tk 7 rfl ?_
  (try simp only [cl,Act.put])
  refine wpAnyH_ready (rs:=[2,10]) (by kernel_rfl) (by simp) (AllReadyH.cons (o:=_) rfl (fun K hK=>?_) (AllReadyH.cons (o:=_) rfl (fun K hK=>?_) AllReadyH.nil))
  rotate_left
  go_simp
  (first | refine hK.out _ _ (Zen STB.out (by with_reducible assumption)) (fun hH2=>?_) | refine hK.out _ _ (STB.out _ _ (below_alloc1 _ _) (by with_reducible assumption)) (fun hH2=>?_))
  clear hK K
  (try dsimp only at hH2)
  (first | have HC:=zh (Zcf hH2) | have HC:=zh (ZbO hH2))
  have hHeld0:=zh hHeld
  clear hHeld
  have hHeld:=hH2
  clear hH2
  (try have RS0:=RS)
  (try have RM0:=RM)
  (try have RS:=zh (Ze RS.out (below_alloc1 _ (.cells #[.string ⟨#[]⟩,.slice none 0 0,.slice none 0 0] 51))))
  (try have RM:=zh (Ze RM.out (below_alloc1 _ (.cells #[.string ⟨#[]⟩,.slice none 0 0,.slice none 0 0] 51))))
  (try simp only [cl,Act.put])
  refine rd 2 rfl fun K hK=>?_
  rotate_right
  all_goals
   go_simp
   (first
    | (go_at_call 43;(with_reducible refine (SC.out _).mono ?_);rintro e4 w4 ⟨rfl,hb⟩;(try have HC:=zh (HC.out.keep hb)))
    | (go_at_call 66;(with_reducible refine (TS.out _ hHeld.2).mono ?_);rintro e5 w5 ⟨A5,c5,rfl,ho,hb⟩;(try have HC:=zh (HC.out.keep hb));have RS:=zh (ZF ho hHeld.2.size);clear ho)
    | (go_at_call 67;(with_reducible refine (TM.out _ hHeld.2).mono ?_);rintro e6 w6 ⟨A6,c6,rfl,ho,hb⟩;(try have HC:=zh (HC.out.keep hb));have RS:=zh (Ze RS.out hb);have RM:=zh (ZF ho hHeld.2.size);clear ho))
   go_wp2_with fail
   refine hK.out _ _ (STB.out _ _ hb (by with_reducible assumption)) (fun hH2=>?_)
   clear hK K hHeld hb;have hHeld:=hH2;clear hH2
   (try simp only [cl,Act.put])
  all_goals (try (have _:=HC.out;refine rd 5 rfl fun K hK=>?_))
  refine wpAnyH_ready (rs:=[5,10]) (by kernel_rfl) (by simp) (AllReadyH.cons (o:=_) rfl (fun K hK=>?_) (AllReadyH.cons (o:=_) rfl (fun K hK=>?_) AllReadyH.nil))
  rotate_left
  go_simp
  (first | refine hK.out _ _ (Zen STB.out (by with_reducible assumption)) (fun hH2=>?_) | refine hK.out _ _ (STB.out _ _ (below_alloc1 _ _) (by with_reducible assumption)) (fun hH2=>?_))
  clear hK K
  (try dsimp only at hH2)
  (first | have HC:=zh (Zcf hH2) | have HC:=zh (ZbO hH2))
  have hHeld0:=zh hHeld
  clear hHeld
  have hHeld:=hH2
  clear hH2
  (try have RS0:=RS)
  (try have RM0:=RM)
  (try have RS:=zh (Ze RS.out (below_alloc1 _ (.cells #[.string ⟨#[]⟩,.slice none 0 0,.slice none 0 0] 51))))
  (try have RM:=zh (Ze RM.out (below_alloc1 _ (.cells #[.string ⟨#[]⟩,.slice none 0 0,.slice none 0 0] 51))))
  (try simp only [cl,Act.put])
  refine rd 5 rfl fun K hK=>?_
  rotate_right
  all_goals
   go_simp
   (first
    | (go_at_call 43;(with_reducible refine (SC.out _).mono ?_);rintro e4 w4 ⟨rfl,hb⟩;(try have HC:=zh (HC.out.keep hb)))
    | (go_at_call 66;(with_reducible refine (TS.out _ hHeld.2).mono ?_);rintro e5 w5 ⟨A5,c5,rfl,ho,hb⟩;(try have HC:=zh (HC.out.keep hb));have RS:=zh (ZF ho hHeld.2.size);clear ho)
    | (go_at_call 67;(with_reducible refine (TM.out _ hHeld.2).mono ?_);rintro e6 w6 ⟨A6,c6,rfl,ho,hb⟩;(try have HC:=zh (HC.out.keep hb));have RS:=zh (Ze RS.out hb);have RM:=zh (ZF ho hHeld.2.size);clear ho))
   go_wp2_with fail
   refine hK.out _ _ (STB.out _ _ hb (by with_reducible assumption)) (fun hH2=>?_)
   clear hK K hHeld hb;have hHeld:=hH2;clear hH2
   (try simp only [cl,Act.put])
  all_goals (try (have _:=HC.out;refine rd 8 rfl fun K hK=>?_))
  refine wpAnyH_ready (rs:=[8,10]) (by kernel_rfl) (by simp) (AllReadyH.cons (o:=_) rfl (fun K hK=>?_) (AllReadyH.cons (o:=_) rfl (fun K hK=>?_) AllReadyH.nil))
  rotate_left
  go_simp
  (first | refine hK.out _ _ (Zen STB.out (by with_reducible assumption)) (fun hH2=>?_) | refine hK.out _ _ (STB.out _ _ (below_alloc1 _ _) (by with_reducible assumption)) (fun hH2=>?_))
  clear hK K
  (try dsimp only at hH2)
  (first | have HC:=zh (Zcf hH2) | have HC:=zh (ZbO hH2))
  have hHeld0:=zh hHeld
  clear hHeld
  have hHeld:=hH2
  clear hH2
  (try have RS0:=RS)
  (try have RM0:=RM)
  (try have RS:=zh (Ze RS.out (below_alloc1 _ (.cells #[.string ⟨#[]⟩,.slice none 0 0,.slice none 0 0] 51))))
  (try have RM:=zh (Ze RM.out (below_alloc1 _ (.cells #[.string ⟨#[]⟩,.slice none 0 0,.slice none 0 0] 51))))
  (try simp only [cl,Act.put])
  refine rd 8 rfl fun K hK=>?_
  rotate_right
  all_goals
   go_simp
   (first
    | (go_at_call 43;(with_reducible refine (SC.out _).mono ?_);rintro e4 w4 ⟨rfl,hb⟩;(try have HC:=zh (HC.out.keep hb)))
    | (go_at_call 66;(with_reducible refine (TS.out _ hHeld.2).mono ?_);rintro e5 w5 ⟨A5,c5,rfl,ho,hb⟩;(try have HC:=zh (HC.out.keep hb));have RS:=zh (ZF ho hHeld.2.size);clear ho)
    | (go_at_call 67;(with_reducible refine (TM.out _ hHeld.2).mono ?_);rintro e6 w6 ⟨A6,c6,rfl,ho,hb⟩;(try have HC:=zh (HC.out.keep hb));have RS:=zh (Ze RS.out hb);have RM:=zh (ZF ho hHeld.2.size);clear ho))
   go_wp2_with fail
   refine hK.out _ _ (STB.out _ _ hb (by with_reducible assumption)) (fun hH2=>?_)
   clear hK K hHeld hb;have hHeld:=hH2;clear hH2
   (try simp only [cl,Act.put])
  all_goals
   refine tk 9 rfl ?_
   (try simp only [cl,Act.put])
  refine rd 10 rfl fun K hK=>?_
  go_simp
  (first | refine hK.out _ _ (Zen STB.out (by with_reducible assumption)) (fun hH2=>?_) | refine hK.out _ _ (STB.out _ _ (below_alloc1 _ _) (by with_reducible assumption)) (fun hH2=>?_))
  clear hK K
  (try dsimp only at hH2)
  (first | have HC:=zh (Zcf hH2) | have HC:=zh (ZbO hH2))
  have hHeld0:=zh hHeld
  clear hHeld
  have hHeld:=hH2
  clear hH2
  (try have RS0:=RS)
  (try have RM0:=RM)
  (try have RS:=zh (Ze RS.out (below_alloc1 _ (.cells #[.string ⟨#[]⟩,.slice none 0 0,.slice none 0 0] 51))))
  (try have RM:=zh (Ze RM.out (below_alloc1 _ (.cells #[.string ⟨#[]⟩,.slice none 0 0,.slice none 0 0] 51))))
  (try simp only [cl,Act.put])
  all_goals
   refine rd 11 rfl fun K hK=>?_
   obtain ⟨h0,h1,h2,h3,h4,h5⟩:=HC.out.cells
   go_simp
   clear h0 h1 h2 h3 h4 h5
   (first
    | refine hK.out _ _ (STB.out _ _ (below_alloc1 _ _) hHeld0.out) (fun hH2=>?_)
    | refine hK.out _ _ (STB.out _ _ (HC.out.fill _ _ _) hHeld0.out) (fun hH2=>?_))
   clear hK K hHeld
   (try dsimp only at hH2)
   have hHeld:=hH2
   clear hH2
   (try simp only [cl,Act.put])
   refine wpAnyH_done (by kernel_rfl) ?_ _
   refine NoPanic.normal ?_
   go_wp2_with fail
   go_meet
   case rel=>first | exact ZgQ hHeld0.out.2 RS0.out RM0.out | exact ZhJ hHeld0.out.2 HC.out RS.out RM.out
 case rest=>
  obtain ⟨c,vs,vm,rfl,hC⟩:=hcut
  have c1:=hC.box.blk.cell 1
  simp only [List.getElem?_toArray,List.getElem?_cons_zero,List.getElem?_cons_succ] at c1
  obtain ⟨A7,c7,e7⟩:=Zl hC.st
  subst e7
  have H0:=zh hC
  have HN:=zh HZ.out.1.st
  clear hC r0 r1 r2 TS TM SC HM
  generalize wc=w7 at *
  go_wp2_with fail
  go_loopg [21] p.states.length (fun gj v21 wr=>∃ j:Nat,v21=.int .i64 j/\j<=p.states.length/\gj=p.states.length-j/\CopS W wr c (.slice A7 p.states.length c7) vm p.name p.states rs)
  case atStart=>exact ⟨0,rfl,Nat.zero_le _,rfl,H0.out⟩
  case round=>
   obtain ⟨j,rfl,hj,hg,hC⟩:=hrel
   by_cases hjn:j=p.states.length
   ·have i1:decide (j<p.states.length)=false:=decide_eq_false (by omega)
    have H1:=zh hC
    have k2:=hC.box.blk.cell 2
    simp only [List.getElem?_toArray,List.getElem?_cons_zero,List.getElem?_cons_succ] at k2
    obtain ⟨A8,c8,e8⟩:=Zl hC.mv
    subst e8
    clear hj hg hC hjn
    generalize wr=w8 at *
    go_wp2_with fail
    go_loopg [38] rs.length (fun gj v38 wr=>∃ (j:Nat) (rn:List (Value×Mov)),v38=.int .i64 j/\j<=rs.length/\gj=rs.length-j/\MvS W wr c (.slice A7 p.states.length c7) (.slice A8 rs.length c8) p.name p.states rs rn j)
    case atStart=>exact ⟨0,rs,rfl,Nat.zero_le _,rfl,⟨H1.out,fun i x _ h=>absurd h (Nat.not_lt_zero _),fun _ _=>rfl,rfl⟩⟩
    case round=>
     obtain ⟨k,rn,rfl,hk,hg,hC⟩:=hrel
     by_cases hkn:k=rs.length
     ·have i2:decide (k<rs.length)=false:=decide_eq_false (by omega)
      have z0:=hC.cop.box.blk.cell 0
      have z1:=hC.cop.box.blk.cell 1
      have z2:=hC.cop.box.blk.cell 2
      have T2:=HB.out.2.keep hC.cop.below
      have y0:=T2.blk.cell 0
      have y1:=T2.blk.cell 1
      have y2:=T2.blk.cell 2
      have f0:=T2.blk.free 0
      have f1:=T2.blk.free 1
      have f2:=T2.blk.free 2
      simp only [List.getElem?_toArray,List.getElem?_cons_zero,List.getElem?_cons_succ] at z0 z1 z2 y0 y1 y2
      have FIN:=zh (hC.out (BW.out.trans (hC.cop.below.mono BW.out.size)) BW.out.size (by omega) HZ.out.2.1 T2 (Nat.le_succ _))
      clear hk hg hC hkn T2
      go_wp2_with fail
      obtain ⟨hg,h1,h2⟩:=FIN.out
      refine bodyPost_ret (results_cell_row (P:=Tryz.prog) rfl _ _ (w.heap.size+1) 51 #[txt p.name,.slice A7 p.states.length c7,.slice A8 rs.length c8] (0,0) _ rfl hg Tryz.underlying51 rfl (by obtain ⟨i,hi,_,hs,_⟩:=info_parts Zge;rw [hi];show some i.size=_;rw [hs];rfl)) rfl ?_
      exact ⟨_,_,rfl,h1,h2⟩
     ·have hlt:k<rs.length:=by omega
      have hlen:=hC.len
      obtain ⟨x,hx⟩:∃ x,rn[k]? = some x:=⟨_,List.getElem?_eq_getElem (by omega)⟩
      have hx0:=hx
      rw [hC.rest k (Nat.le_refl _)] at hx0
      have hE:=(HZ.out.2.2.1 x (List.mem_of_getElem? hx0)).2
      have hmx:=Za3 HZ.out.2.1 hx0
      have hz1:=HZ.out.1.no x.2 (List.mem_of_getElem? hmx)
      have hz2:=HZ.out.1.out x.2 (List.mem_of_getElem? hmx)
      have hmv:=hC.cop.mv
      rw [hlen] at hmv
      obtain ⟨g,cp,e3,hgb,_⟩:=World.ownsRow.form hmv (by omega)
      replace e3:=slA e3
      subst e3
      obtain ⟨q0,q1,q2⟩:=Zd2 hx
      have d0:=(World.ownsRow.cellAt hmv (k*3) (by omega)).trans q0
      have d1:=(World.ownsRow.cellAt hmv (k*3+1) (by omega)).trans q1
      have d2:=(World.ownsRow.cellAt hmv (k*3+2) (by omega)).trans q2
      have f0:=World.ownsRow.frozenAt hmv (k*3)
      have f2:=World.ownsRow.frozenAt hmv (k*3+2)
      have ne1:c≠g:=fun e=>hC.cop.box.off hC.cop.mv (by decide) (by rw [e];rfl)
      have ne2:wr.heap.size≠g:=by have:=(hmv.lt g rfl).2;omega
      obtain ⟨vo,op,z,outs⟩:=x
      dsimp only at d0 d1 d2 hE hz1 hz2
      obtain ⟨Ao,co,rfl,_⟩:=hE.len
      have i1:(k:Int)<(rs.length:Int):=by omega
      have i2:(0:Int)<=(k:Int):=by omega
      have wk:IntKind.i64.wrap ((k:Int)+1)=(k:Int)+1:=IntWalk.i64_in _ (by have:=HZ.out.1.mv;have:=ZbQ HZ.out.2.1;omega)
      have SC:=zh (fun (wr:World)=>Zbg op wr (by have:=hz1.1;omega))
      have CP:=zh (fun (v:World) (hb:Below W.heap.size W v)=>Zdz v (.slice Ao outs.length co) outs (hE.below (BW.out.trans (hb.mono BW.out.size))) hz2 (fun o ho=>by have:=hz1.2 o ho;omega))
      have a7:=below_alloc1 wr (.cells #[txt op,.int .i64 z,(.slice Ao outs.length co)] 85)
      have B7:=Blk.start wr #[txt op,.int .i64 z,(.slice Ao outs.length co)] 85
      have C7:=hC.keep a7
      have c2:=C7.cop.box.blk.drew.cell 2
      have r0:=B7.drew.cell 0
      have r2:=B7.drew.cell 2
      simp only [List.getElem?_toArray,List.getElem?_cons_zero,List.getElem?_cons_succ] at c2 r0 r2
      have STB:=zh (show Zb6 (fun v=>(((v.cell? ⟨c,2,none⟩=some (.slice (some ⟨g,0,none⟩) rs.length c8)/\v.cell? ⟨wr.heap.size,0,none⟩=some (txt op))/\v.cell? ⟨wr.heap.size,2,none⟩=some (.slice Ao outs.length co))/\(v.cell? ⟨g,k*3,none⟩=some (Zaz v ⟨g,k*3,none⟩)/\v.frozen? ⟨g,k*3,none⟩=false))/\(v.cell? ⟨g,k*3+2,none⟩=some (Zaz v ⟨g,k*3+2,none⟩)/\v.frozen? ⟨g,k*3+2,none⟩=false)) from Za5 (Za5 (Za5 (Za5 (Za9 _ _) (Za9 _ _)) (Za9 _ _)) (ZbT _)) (ZbT _))
      have HS0:=zh (show ((((wr.alloc (.cells #[txt op,.int .i64 z,(.slice Ao outs.length co)] 85)).drew.cell? ⟨c,2,none⟩=some (.slice (some ⟨g,0,none⟩) rs.length c8)/\(wr.alloc (.cells #[txt op,.int .i64 z,(.slice Ao outs.length co)] 85)).drew.cell? ⟨wr.heap.size,0,none⟩=some (txt op))/\(wr.alloc (.cells #[txt op,.int .i64 z,(.slice Ao outs.length co)] 85)).drew.cell? ⟨wr.heap.size,2,none⟩=some (.slice Ao outs.length co))/\((wr.alloc (.cells #[txt op,.int .i64 z,(.slice Ao outs.length co)] 85)).drew.cell? ⟨g,k*3,none⟩=some (Zaz (wr.alloc (.cells #[txt op,.int .i64 z,(.slice Ao outs.length co)] 85)).drew ⟨g,k*3,none⟩)/\(wr.alloc (.cells #[txt op,.int .i64 z,(.slice Ao outs.length co)] 85)).drew.frozen? ⟨g,k*3,none⟩=false))/\((wr.alloc (.cells #[txt op,.int .i64 z,(.slice Ao outs.length co)] 85)).drew.cell? ⟨g,k*3+2,none⟩=some (Zaz (wr.alloc (.cells #[txt op,.int .i64 z,(.slice Ao outs.length co)] 85)).drew ⟨g,k*3+2,none⟩)/\(wr.alloc (.cells #[txt op,.int .i64 z,(.slice Ao outs.length co)] 85)).drew.frozen? ⟨g,k*3+2,none⟩=false) from ⟨⟨⟨⟨c2,r0⟩,r2⟩,ZbT _ _ _ (a7.drew) ⟨Zb9 d0,f0⟩⟩,ZbT _ _ _ (a7.drew) ⟨Zb9 d2,f2⟩⟩)
      have NE:=zh (zi ne1 ne2)
      have HK:=zh (zi hlt (zi hg (zi C7 (zi hx hlen))))
      clear hkn hlt hk hg hx hx0 hC q0 q1 q2 hgb a7 B7 C7 hE hmx hz1 hz2 hmv f0 f2 ne1 ne2 c2 r0 r2 hlen
      go_upto_region 10 with fail
      generalize (wr.alloc (.cells #[txt op,.int .i64 z,(.slice Ao outs.length co)] 85))=W1 at *
      have HS:=HS0.out
      refine wp_region_noPanic ?_
      refine wp_region_held_drew (S:=(fun v=>(((v.cell? ⟨c,2,none⟩=some (.slice (some ⟨g,0,none⟩) rs.length c8)/\v.cell? ⟨wr.heap.size,0,none⟩=some (txt op))/\v.cell? ⟨wr.heap.size,2,none⟩=some (.slice Ao outs.length co))/\(v.cell? ⟨g,k*3,none⟩=some (Zaz v ⟨g,k*3,none⟩)/\v.frozen? ⟨g,k*3,none⟩=false))/\(v.cell? ⟨g,k*3+2,none⟩=some (Zaz v ⟨g,k*3+2,none⟩)/\v.frozen? ⟨g,k*3+2,none⟩=false))) (by kernel_rfl) HS (fun hHeld=>?_)
      clear HS
      refine tk 0 rfl ?_
      refine tk 1 rfl ?_
      refine tk 2 rfl ?_
      refine tk 3 rfl ?_
      refine tk 4 rfl ?_
      refine tk 5 rfl ?_
      refine tk 6 rfl ?_
      refine tk 7 rfl ?_
      refine tk 9 rfl ?_
      refine tk 10 rfl ?_
      (try simp only [cl,Act.put])
      refine rd 8 rfl fun K hK=>?_
      go_simp
      (first
       | (go_at_call 43;(with_reducible refine (SC.out _).mono ?_);rintro e4 w4 ⟨rfl,hb⟩;have M4:=zh (HK.out.2.2.1.keep ((Zo W1).trans hb)))
       | (go_at_call 68;(with_reducible refine (CP.out _ M4.out.cop.below).mono ?_);rintro e5 w5 ⟨A5,c5,rfl,ho,hb⟩;have M5:=zh (zi (M4.out.keep hb) (ZF ho M4.out.cop.below.size));clear ho))
      go_wp2_with fail
      refine hK.out _ _ (STB.out _ _ hb (by with_reducible assumption)) (fun hH2=>?_)
      clear hK K hHeld hb;have hHeld:=hH2;clear hH2
      (try simp only [cl,Act.put])
      refine rd 11 rfl fun K hK=>?_
      go_simp
      (first
       | (go_at_call 43;(with_reducible refine (SC.out _).mono ?_);rintro e4 w4 ⟨rfl,hb⟩;have M4:=zh (HK.out.2.2.1.keep ((Zo W1).trans hb)))
       | (go_at_call 68;(with_reducible refine (CP.out _ M4.out.cop.below).mono ?_);rintro e5 w5 ⟨A5,c5,rfl,ho,hb⟩;have M5:=zh (zi (M4.out.keep hb) (ZF ho M4.out.cop.below.size));clear ho))
      go_wp2_with fail
      refine hK.out _ _ (STB.out _ _ hb (by with_reducible assumption)) (fun hH2=>?_)
      clear hK K hHeld hb;have hHeld:=hH2;clear hH2
      (try simp only [cl,Act.put])
      refine tk 12 rfl ?_
      refine tk 13 rfl ?_
      (try simp only [cl,Act.put])
      refine rd 14 rfl fun K hK=>?_
      go_simp
      refine hK.out _ _ ?_ (fun hH2=>?_)
      ·exact ZfN NE.out (by with_reducible assumption)
      clear hK K hHeld;have hHeld:=hH2;clear hH2
      (try simp only [cl,Act.put])
      refine tk 15 rfl ?_
      refine tk 16 rfl ?_
      (try simp only [cl,Act.put])
      refine rd 17 rfl fun K hK=>?_
      go_simp
      refine hK.out _ _ ?_ (fun hH2=>?_)
      ·exact ZfN NE.out (by with_reducible assumption)
      clear hK K hHeld;have hHeld:=hH2;clear hH2
      (try simp only [cl,Act.put])
      refine wpAnyH_done (by kernel_rfl) ?_ _
      refine NoPanic.normal ?_
      go_wp2_with fail
      go_roundg (rs.length-(k+1))
      case measure=>have:=HK.out.1;have:=HK.out.2.1;omega
      case rel=>exact ⟨k+1,_,by push_cast;rfl,HK.out.1,rfl,M5.out.1.step HK.out.2.2.2.2.symm HK.out.2.2.2.1 M5.out.2⟩
   ·have hlt:j<p.states.length:=by omega
    obtain ⟨x,hx⟩:∃ x,p.states[j]? = some x:=⟨_,List.getElem?_eq_getElem hlt⟩
    obtain ⟨g,cp,e3,hgb,_⟩:=World.ownsRow.form hC.st (by omega)
    replace e3:=slA e3
    subst e3
    obtain ⟨q0,q1⟩:=Zgz hx
    have d0:=(World.ownsRow.cellAt hC.st (j*2) (by omega)).trans q0
    have d1:=(World.ownsRow.cellAt hC.st (j*2+1) (by omega)).trans q1
    have i1:(j:Int)<(p.states.length:Int):=by omega
    have i2:(0:Int)<=(j:Int):=by omega
    have wk:IntKind.i64.wrap ((j:Int)+1)=(j:Int)+1:=IntWalk.i64_in _ (by have:=HN.out;omega)
    have SC:=zh (fun (wr:World)=>Zbg x.name wr (by have:=HZ.out.1.ns x (List.mem_of_getElem? hx);omega))
    have a5:=below_alloc1 wr (.cells #[txt x.name,.bool x.final] 82)
    have B5:=Blk.start wr #[txt x.name,.bool x.final] 82
    have C5:=hC.keep a5
    have HK:=zh (zi hlt (zi hg (zi C5 (zi B5 (zi q0 hgb)))))
    clear hjn hlt hj hg hx hC q0 q1 hgb a5 B5 C5
    go_upto_region 5 with fail
    generalize (wr.alloc (.cells #[txt x.name,.bool x.final] 82))=W1 at *
    have k1:=HK.out.2.2.1.box.blk.drew.cell 1
    have k2:=HK.out.2.2.2.1.drew.cell 0
    simp only [List.getElem?_toArray,List.getElem?_cons_zero,List.getElem?_cons_succ] at k1 k2
    go_region_with (go_at_call 43;(with_reducible refine (SC.out _).mono ?_);rintro e w2 ⟨rfl,hb2⟩;have C2:=HK.out.2.2.1.keep ((Zo W1).trans hb2);have f2:=World.ownsRow.frozenAt C2.st (j*2);have d2:=(World.ownsRow.cellAt C2.st (j*2) (by have:=HK.out.1;omega)).trans HK.out.2.2.2.2.1;have k3:=C2.box.blk.cell 1;simp only [List.getElem?_toArray,List.getElem?_cons_zero,List.getElem?_cons_succ] at k3;have H2:=zh C2;clear C2 hb2)
    all_goals
     go_wp2_with fail
     go_roundg (p.states.length-(j+1))
     case measure=>have:=HK.out.1;have:=HK.out.2.1;omega
     case rel=>exact ⟨j+1,by push_cast;rfl,HK.out.1,rfl,H2.out.same rfl HK.out.2.2.2.2.1⟩
end
end Go.Proofs.YtkgkmdhpnhmcpaaGreatDoor
