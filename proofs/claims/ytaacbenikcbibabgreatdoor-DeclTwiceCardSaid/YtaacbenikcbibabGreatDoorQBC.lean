import Derived.Test.YtaacbenikcbibabGreatDoorQBB
set_option maxRecDepth 100000
set_option maxHeartbeats 8000000
namespace Go.Proofs.YtaacbenikcbibabGreatDoor
section
open Go.RowKit Go.Maps
def FrA (w w':World) (bk bm:Nat):Prop:=w.heap.size<=w'.heap.size/\∀ b,b<w.heap.size->b≠bk->b≠bm->(∀ cs,¬ Ze w b 9 cs)->w'.heap[b]? = w.heap[b]?
theorem Zbd.keepE {w w':World} {bm:Nat} {ps:List Pro} {al:List Nat} (h:Zbd w bm ps al) (he:w'.heap[bm]? = w.heap[bm]?):Zbd w' bm ps al:=by
 obtain ⟨D,⟨es,cl,h1,h2⟩,h3⟩:=h
 exact ⟨D,⟨es,cl,he.trans h1,h2⟩,h3⟩
theorem Zbd.lt {w:World} {bm:Nat} {ps:List Pro} {al:List Nat} (h:Zbd w bm ps al):bm<w.heap.size:=by
 obtain ⟨D,h1,_⟩:=h
 exact h1.lt
theorem Zbd.not_blk {w:World} {bm b:Nat} {ps:List Pro} {al:List Nat} {ty:TypeId} {cs:Array Value} (h:Zbd w bm ps al) (k:Ze w b ty cs):bm≠b:=by
 rintro rfl
 obtain ⟨D,⟨es,cl,h1,_⟩,_⟩:=h
 unfold Ze at k
 rw [h1] at k
 cases k
theorem BookS.keep {w w':World} {B bk bm:Nat} {ps:List Pro} {al:List Nat} (h:BookS B w bk bm ps al) (hb:Below w.heap.size w w'):BookS B w' bk bm ps al:=by
 obtain ⟨⟨vn,h1,h2⟩,h3,h4,h5,h6⟩:=h
 exact ⟨⟨vn,h1.keep hb,Zf h2 hb⟩,h3.keepE (hb.block _ h3.lt),h4,fun i p a hp ha=>(h5 i p a hp ha).keep (Zac.of_below hb),h6⟩
theorem Zb4 (w:World) (B bk bm:Nat) (ps:List Pro) (al:List Nat) (vs vm:Value) (p:Pro) (h:BookS B w bk bm ps al) (hp:ProAt w vs vm p) (hz:SzP p) (hw:(Zy p).1=0) (hf:∀ q∈ps,q.name≠p.name) (hn:ps.length<=1000) (hB:B<=w.heap.size) :
  Calls Tryz.prog 16 #[.pointer (some ⟨bk,0,none⟩),ZaF vs vm p] w fun e w'=>e=.returned (.tuple #[])/\(∃ a,BookS B w' bk bm (ps++[p]) (al++[a]))/\FrA w w' bk bm/\Below B w w':=by
 obtain ⟨As,cs,rfl,_⟩:=hp.states.len
 obtain ⟨Am,cm,rfl,_⟩:=hp.moves.len
 have a1:=Za w (.cells #[txt p.name,.slice As p.states.length cs,.slice Am p.moves.length cm] 41)
 have B1:=Ze.start w #[txt p.name,.slice As p.states.length cs,.slice Am p.moves.length cm] 41
 have NO:=Lib.hid (ZiH _ _ _ p (hp.below a1) hz hw)
 have HA:=Lib.hid (And.intro a1 (And.intro B1 (And.intro (h.keep a1) (And.intro hf (And.intro hn (And.intro hB hz.len.name))))))
 have c0:=B1.blk.cell 0
 have c1:=B1.blk.cell 1
 have c2:=B1.blk.cell 2
 simp only [List.getElem?_toArray,List.getElem?_cons_zero,List.getElem?_cons_succ] at c0 c1 c2
 obtain ⟨i0,hi,hz0,hz1,hz2⟩:=ZG Zi8
 clear a1 B1 h hp hz hw hf hn hB
 go_enter Tryz.func16,Tryz.ntmps16
 go_upto_region 2 with (go_at_call 33;(with_reducible refine NO.out.mono ?_);rintro e W ⟨a,rfl,hau,hal,hb1⟩;have H1:=Lib.hid (And.intro hau (And.intro hal hb1));clear hau hal hb1)
 have bW:=HA.out.1.trans (H1.out.2.2.mono HA.out.1.size)
 have bS:=HA.out.2.2.1.keep H1.out.2.2
 have bpW:=HA.out.2.1.keep H1.out.2.2
 obtain ⟨⟨vn,k1,k2⟩,k3,k4,k5,k6⟩:=bS
 generalize hbp:w.heap.size=bp at bpW c0 c1 c2
 have HB:=Lib.hid hbp
 generalize hnm:p.name=nm at bpW c0
 have HNM:=Lib.hid hnm
 have HR:=Lib.hid (And.intro k1 (And.intro k2 (And.intro bpW (And.intro (show ps.length<=1000 from HA.out.2.2.2.2.1) (And.intro (Nat.le_trans HA.out.2.2.2.2.2.1 bW.size) k6.1)))))
 have HM:=Lib.hid (And.intro k3 (And.intro k4 (And.intro k5 (And.intro k6.2 bW))))
 have d0:=k1.blk.cell 0
 simp only [List.getElem?_toArray,List.getElem?_cons_zero] at d0
 have d0a:∀ o,(W.alloc o).cell? ⟨bk,0,none⟩=some vn:=fun o=>(k1.keep (Za W o)).blk.cell 0
 clear c0 c1 c2 k1 k2 k3 k4 k5 k6 bpW bW NO
 (try rw [hbp])
 clear hbp hnm
 generalize hn_:ps.length=n at HR
 have HN:=Lib.hid hn_
 clear hn_
 go_cut [] from 11 to 21 (fun wx=>∃ v',Ze wx bk 51 #[v',.map (some bm)]/\wx.ownsRow B 9 1 v' (n+1) ((ps.map fun p=>txt p.name)++[txt nm])/\Ze wx bp 41 #[txt nm,.slice As p.states.length cs,.slice Am p.moves.length cm]/\Zae W wx bk 9/\Below B W wx)
 case first=>
  refine wp_region_noPanic ?_
  refine wp_region_held_drew (S:=fun V'=>V'.cell? ⟨bp,0,none⟩=some (txt nm)) (by kernel_rfl) (HR.out.2.2.1.blk.cell 0) (fun hHeld=>?_)
  refine tk 0 rfl ?_
  refine tk 1 rfl ?_
  refine tk 2 rfl ?_
  refine tk 3 rfl ?_
  refine tk 5 rfl ?_
  refine tk 6 rfl ?_
  (try simp only [cl,Act.put])
  refine wpAnyH_ready (rs:=[4,7]) (by kernel_rfl) (by simp) (AllReadyH.cons (o:=_) rfl (fun K hK=>?_) (AllReadyH.cons (o:=_) rfl (fun K hK=>?_) AllReadyH.nil))
  ·go_simp
   refine hK.out _ _ (HR.out.2.2.1.blk.cell 0) (fun _=>?_)
   clear hK K
   (try simp only [cl,Act.put])
   refine rd 7 rfl fun K hK=>?_
   go_simp
   refine hK.out _ _ ((Zau HR.out.2.2.1 _).blk.cell 0) (fun _=>?_)
   clear hK K
   (try simp only [cl,Act.put])
   refine rd 8 rfl fun K hK=>?_
   refine ZU _ rfl _ _ 23 rfl B 9 i0 (.string ⟨#[]⟩) 1 16 Tryz.underlying23 hi hz0 hz1 hz2 rfl (by decide) vn n _ rfl (Zal HR.out.2.1 _) (W.heap.size+1) (some ⟨W.heap.size,0,none⟩) 1 1 [txt nm] rfl (ZbP _ _ _) (Zi3 _) (by have:=HR.out.2.2.2.1;unfold maxLen;omega) (by have:=HR.out.2.2.2.1;omega) (Nat.le_trans HR.out.2.2.2.2.1 (Za W _).size) (fun v' w' hown hgrow hl=>?_)
   obtain ⟨g',k',rfl⟩:=Zm hown
   have T1:=(Zau HR.out.1 (.cells #[txt nm] 9)).grown hgrow ((Zau HR.out.1 (.cells #[txt nm] 9)).off (Zal HR.out.2.1 (.cells #[txt nm] 9)) (by decide))
   have P1:=(Zau HR.out.2.2.1 (.cells #[txt nm] 9)).grown hgrow ((Zau HR.out.2.2.1 (.cells #[txt nm] 9)).off (Zal HR.out.2.1 (.cells #[txt nm] 9)) (by decide))
   have g1:=T1.blk.cell 0
   have g2:=T1.blk.free 0
   simp only [List.getElem?_toArray,List.getElem?_cons_zero] at g1
   refine hK.out _ _ (P1.blk.cell 0) (fun _=>?_)
   clear hK K
   (try simp only [cl,Act.put])
   refine tk 9 rfl ?_
   refine tk 10 rfl ?_
   (try simp only [cl,Act.put])
   refine rd 11 rfl fun K hK=>?_
   go_simp
   have P2:=P1.other (p:=⟨bk,0,none⟩) (fun e=>ZaV T1 P1 (by decide) e) (.slice g' (n+1) k')
   refine hK.out _ _ (P2.blk.cell 0) (fun _=>?_)
   clear hK K
   refine wpAnyH_done (by kernel_rfl) ?_ _
   refine NoPanic.normal ?_
   go_wp2_with fail
   go_meet
   have K1:=((Zae.of_below (bd:=bk) (e:=9) (Za W (.cells #[txt nm] 9)).drew).trans (Zae.row (Zal HR.out.2.1 _) hgrow)).trans (Zae.set 0 (.slice g' (n+1) k'))
   have L1:=(((Za W (.cells #[txt nm] 9)).drew.mono HR.out.2.2.2.2.1).trans (Zv hgrow (Nat.le_trans HR.out.2.2.2.2.1 (Za W _).size) (fun k hk=>(HR.out.2.1.lt k hk).1))).setCell (p:=⟨bk,0,none⟩) HR.out.2.2.2.2.2 (.slice g' (n+1) k')
   exact ⟨_,by simpa using T1.set 0 (.slice g' (n+1) k'),Zk hown (T1.off hown (by decide)),P2,K1,L1⟩
  ·go_simp
   refine hK.out _ _ ((Zau HR.out.2.2.1 _).blk.cell 0) (fun _=>?_)
   clear hK K
   (try simp only [cl,Act.put])
   refine rd 4 rfl fun K hK=>?_
   go_simp
   refine hK.out _ _ ((Zau HR.out.2.2.1 _).blk.cell 0) (fun _=>?_)
   clear hK K
   (try simp only [cl,Act.put])
   refine rd 8 rfl fun K hK=>?_
   refine ZU _ rfl _ _ 23 rfl B 9 i0 (.string ⟨#[]⟩) 1 16 Tryz.underlying23 hi hz0 hz1 hz2 rfl (by decide) vn n _ rfl (Zal HR.out.2.1 _) (W.heap.size+1) (some ⟨W.heap.size,0,none⟩) 1 1 [txt nm] rfl (ZbP _ _ _) (Zi3 _) (by have:=HR.out.2.2.2.1;unfold maxLen;omega) (by have:=HR.out.2.2.2.1;omega) (Nat.le_trans HR.out.2.2.2.2.1 (Za W _).size) (fun v' w' hown hgrow hl=>?_)
   obtain ⟨g',k',rfl⟩:=Zm hown
   have T1:=(Zau HR.out.1 (.cells #[txt nm] 9)).grown hgrow ((Zau HR.out.1 (.cells #[txt nm] 9)).off (Zal HR.out.2.1 (.cells #[txt nm] 9)) (by decide))
   have P1:=(Zau HR.out.2.2.1 (.cells #[txt nm] 9)).grown hgrow ((Zau HR.out.2.2.1 (.cells #[txt nm] 9)).off (Zal HR.out.2.1 (.cells #[txt nm] 9)) (by decide))
   have g1:=T1.blk.cell 0
   have g2:=T1.blk.free 0
   simp only [List.getElem?_toArray,List.getElem?_cons_zero] at g1
   refine hK.out _ _ (P1.blk.cell 0) (fun _=>?_)
   clear hK K
   (try simp only [cl,Act.put])
   refine tk 9 rfl ?_
   refine tk 10 rfl ?_
   (try simp only [cl,Act.put])
   refine rd 11 rfl fun K hK=>?_
   go_simp
   have P2:=P1.other (p:=⟨bk,0,none⟩) (fun e=>ZaV T1 P1 (by decide) e) (.slice g' (n+1) k')
   refine hK.out _ _ (P2.blk.cell 0) (fun _=>?_)
   clear hK K
   refine wpAnyH_done (by kernel_rfl) ?_ _
   refine NoPanic.normal ?_
   go_wp2_with fail
   go_meet
   have K1:=((Zae.of_below (bd:=bk) (e:=9) (Za W (.cells #[txt nm] 9)).drew).trans (Zae.row (Zal HR.out.2.1 _) hgrow)).trans (Zae.set 0 (.slice g' (n+1) k'))
   have L1:=(((Za W (.cells #[txt nm] 9)).drew.mono HR.out.2.2.2.2.1).trans (Zv hgrow (Nat.le_trans HR.out.2.2.2.2.1 (Za W _).size) (fun k hk=>(HR.out.2.1.lt k hk).1))).setCell (p:=⟨bk,0,none⟩) HR.out.2.2.2.2.2 (.slice g' (n+1) k')
   exact ⟨_,by simpa using T1.set 0 (.slice g' (n+1) k'),Zk hown (T1.off hown (by decide)),P2,K1,L1⟩
 case rest=>
  obtain ⟨v',T1,o1,P1,K1,L1⟩:=hcut
  generalize wc=W2 at *
  have d1:=T1.blk.cell 1
  have p0:=P1.blk.cell 0
  simp only [List.getElem?_toArray,List.getElem?_cons_zero,List.getElem?_cons_succ] at d1 p0
  have hbm:=HM.out.1
  have m2:Zbd W2 bm ps al:=hbm.keepE (K1.2 bm hbm.lt (hbm.not_blk HR.out.1) (fun _ q=>hbm.not_blk q rfl))
  obtain ⟨D,m3,m4,m5,m6⟩:=m2
  rw [HN.out] at m3
  have MM:=Lib.hid (And.intro (show W2.drew.ownsMap Tryz.prog 9 Zbk bm n D from m3) (And.intro m4 (And.intro m5 m6)))
  have HT:=Lib.hid (And.intro T1 (And.intro o1 (And.intro K1 L1)))
  have nmB:∀ ty cs,¬ Ze W2 bm ty cs:=fun ty cs q=>(hbm.keepE (K1.2 bm hbm.lt (hbm.not_blk HR.out.1) (fun _ q=>hbm.not_blk q rfl)):Zbd W2 bm ps al).not_blk q rfl
  have hml:nm.length<=maxLen:=by have:=HA.out.2.2.2.2.2.2;rw [HNM.out] at this;exact this
  clear d0 d0a T1 o1 P1 K1 L1 m3 m4 m5 m6 hbm
  go_upto_region 3 with fail
  refine wp_region_still_tail 7 (by kernel_rfl) (by kernel_rfl) ?_
  simp only [List.take_succ_cons,List.take_zero,List.drop_succ_cons,List.drop_zero]
  iterate 7 still_step
  refine wpStill_nil ?_
  change wpList _ _ _ _ _ W2.drew
  go_wp2_with (at_mapUpdate;refine wpList_mapUpdate_own _ rfl _ _ _ _ rfl 9 35 ZcW Tryz.underlying49 Zbk _ _ D rfl MM.out.1 (by have:=HR.out.2.2.2.1;unfold maxLen;omega) (txt nm) (.pointer (some ⟨a,0,none⟩)) _ rfl rfl (Zey nm hml) (.lit (.int .i64 (a:Int))) [] rfl ?_;intro w2 hm1 hg1;have H2:=Lib.hid (And.intro hm1 hg1);clear hm1 hg1)
  go_end0
  have gW:W2.grownBy w2 (some bm):=⟨H2.out.2.os,H2.out.2.tape,H2.out.2.output,H2.out.2.size,H2.out.2.block⟩
  have KA:Zac W w2:=(Zac.of1 HT.out.2.2.1 HR.out.1 (by decide) (by decide)).trans (Zac.of_map gW nmB)
  have T3:=HT.out.1.grown gW (fun e=>by injection e with e;subst e;exact nmB _ _ HT.out.1)
  have o3:=HT.out.2.1.kept gW (by
   cases q:v'.ownBlock with
   | none=>exact .inl rfl
   | some g=>
    refine .inr fun e=>?_
    injection e with e
    subst e
    rcases HT.out.2.1.2 with ⟨z,_⟩ | ⟨g',cap,cur,z,_,k,_⟩
    ·rw [z] at q;cases q
    ·rw [z] at q
     injection q with q
     dsimp only at q
     subst q
     exact nmB _ _ k)
  have hnl:=HN.out
  refine ⟨rfl,⟨a,⟨⟨v',T3,?_⟩,?_,?_,?_,HR.out.2.2.2.2.2,HM.out.2.2.2.1⟩⟩,?_,?_⟩
  ·rw [List.length_append,List.map_append,hnl,List.map_cons,List.map_nil,HNM.out]
   exact o3
  ·refine ⟨_,by rw [List.length_append,hnl];exact H2.out.1,MM.out.2.1.put _ _,fun i q b hq hb=>?_,fun s hs=>?_⟩
   ·rcases Nat.lt_or_ge i ps.length with hi | hi
    ·rw [List.getElem?_append_left hi] at hq
     rw [List.getElem?_append_left (by rw [HM.out.2.1];exact hi)] at hb
     have ne:(Lit.string q.name)≠.string nm:=by
      intro z
      injection z with z
      exact HA.out.2.2.2.1 q (List.mem_of_getElem? hq) (z.trans HNM.out.symm)
     rw [has_put_other ne,atKey_put_other ne]
     exact MM.out.2.2.1 i q b hq hb
    ·rw [List.getElem?_append_right hi] at hq
     rw [List.getElem?_append_right (by rw [HM.out.2.1];exact hi),HM.out.2.1] at hb
     have e0:i-ps.length=0:=by have:=(List.getElem?_eq_some_iff.1 hq).1;simp at this;omega
     rw [e0] at hq hb
     injection hq with hq
     injection hb with hb
     subst hq hb
     rw [HNM.out]
     exact ⟨has_put_same MM.out.2.1 (by trivial) _,atKey_put_same MM.out.2.1 (by trivial) _ _⟩
   ·have ne:(Lit.string s)≠.string nm:=by
     intro z
     injection z with z
     exact hs p (by simp) (HNM.out.trans z.symm)
    rw [has_put_other ne]
    exact MM.out.2.2.2 s fun q hq=>hs q (by simp [hq])
  ·rw [List.length_append,List.length_append,HM.out.2.1]
   rfl
  ·intro i q b hq hb
   rcases Nat.lt_or_ge i ps.length with hi | hi
   ·rw [List.getElem?_append_left hi] at hq
    rw [List.getElem?_append_left (by rw [HM.out.2.1];exact hi)] at hb
    exact (HM.out.2.2.1 i q b hq hb).keep KA
   ·rw [List.getElem?_append_right hi] at hq
    rw [List.getElem?_append_right (by rw [HM.out.2.1];exact hi),HM.out.2.1] at hb
    have e0:i-ps.length=0:=by have:=(List.getElem?_eq_some_iff.1 hq).1;simp at this;omega
    rw [e0] at hq hb
    injection hq with hq
    injection hb with hb
    subst hq hb
    obtain ⟨u1,u2,u3,u4,u5⟩:=H1.out.1.keep KA
    have hBw:=Nat.le_trans HA.out.2.2.2.2.2.1 HA.out.1.size
    exact ⟨u1,u2,u3,u4.less hBw,Nat.le_trans hBw u5⟩
  ·refine ⟨Nat.le_trans HM.out.2.2.2.2.size (Nat.le_trans HT.out.2.2.1.1 gW.size),fun b hb h1 h2 h3=>?_⟩
   have q1:=HM.out.2.2.2.2.block b hb
   have q2:=HT.out.2.2.1.2 b (Nat.lt_of_lt_of_le hb HM.out.2.2.2.2.size) h1 (fun cs z=>h3 cs (by unfold Ze at z ⊢;rw [<- q1];exact z))
   exact ((gW.block b (Nat.lt_of_lt_of_le hb (Nat.le_trans HM.out.2.2.2.2.size HT.out.2.2.1.1)) (fun e=>h2 (by injection e))).trans q2).trans q1
  ·exact ((HM.out.2.2.2.2.mono HA.out.2.2.2.2.2.1).trans HT.out.2.2.2).trans (Zv gW (Nat.le_trans (Nat.le_trans HA.out.2.2.2.2.2.1 HM.out.2.2.2.2.size) HT.out.2.2.1.1) (fun k hk=>by injection hk with hk;rw [<- hk];exact HM.out.2.2.2.1))
end
end Go.Proofs.YtaacbenikcbibabGreatDoor
