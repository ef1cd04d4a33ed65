import Derived.StillTailTactics
import Derived.Test.YtkongcicmajolaaGreatDoorQAA
import Derived.Test.YtkongcicmajolaaGreatDoorQAD
import Derived.Test.YtkongcicmajolaaGreatDoorQBA
set_option maxRecDepth 100000
set_option maxHeartbeats 8000000
namespace Go.Proofs.YtkongcicmajolaaGreatDoor
section
open Go.RowKit
abbrev ZqR (t:Tok):Value:=.agg #[.int .i64 t.1,txt t.2.1,.int .i64 t.2.2]
theorem ParS.tok' {w0 w:World} {bp:Nat} {vL:Value} {L:List Tok} {s:PS} (h:ParS w0 w bp vL L s) {k:Nat} (hk:k<L.length) :
  ∃ ad c,vL=.slice (some ad) L.length c/\w.cell? (ad.add (k*3))=some (.int .i64 (Zi L k).1)/\w.cell? ⟨(ad.add (k*3)).block,(ad.add (k*3)).off+1,none⟩=some (txt (Zi L k).2.1)/\w.cell? ⟨(ad.add (k*3)).block,(ad.add (k*3)).off+2,none⟩=some (.int .i64 (Zi L k).2.2):=by
 obtain ⟨ad,c,e,h0,h1,h2⟩:=h.tok hk
 exact ⟨ad,c,e,h0,by rw [<- Zky ad (k*3) 0];exact h1,by rw [<- Zky ad (k*3) 1];exact h2⟩
theorem ParS.cells {w0 w:World} {bp:Nat} {vL:Value} {L:List Tok} {s:PS} (h:ParS w0 w bp vL L s) :
  w.cell? ⟨bp,0,none⟩=some vL/\w.cell? ⟨bp,1,none⟩=some (.int .i64 (s.at_:Int))/\w.cell? ⟨bp,2,none⟩=some (.int .i64 s.deep)/\w.cell? ⟨bp,3,none⟩=some (.int .i64 s.err)/\w.cell? ⟨bp,4,none⟩=some (.int .i64 s.fat):=by
 have c:=fun i=>h.box.blk.cell i
 exact ⟨c 0,c 1,c 2,c 3,c 4⟩
theorem ParS.frees {w0 w:World} {bp:Nat} {vL:Value} {L:List Tok} {s:PS} (h:ParS w0 w bp vL L s) (i:Nat):w.frozen? ⟨bp,i,none⟩=false:=h.box.blk.free i
theorem Zy (X:World) (b i j:Nat) (v:Value) (h:i≠j):(X.setCell ⟨b,i,none⟩ v).cell? ⟨b,j,none⟩=X.cell? ⟨b,j,none⟩:=World.cell?_setCell_other _ _ _ _ (fun e=>h (by injection e with _ e))
theorem ZpA {w0 w:World} {bp:Nat} {vL:Value} {L:List Tok} {s:PS} (h:ParS w0 w bp vL L s):IntKind.i64.wrap ((L.length:Int)-1)=((L.length-1:Nat):Int):=by
 have:=h.few.1
 have:=h.lt
 rw [show ((L.length-1:Nat):Int)=(L.length:Int)-1 by omega]
 exact IntWalk.i64_in _ (by omega)
theorem ZmW {X:World} {b:Nat} {ty:TypeId} {a0 a1 a2:Value} (h:Zh X b ty #[a0,a1,a2]) (u0 u1 u2:Value):(X.setCell ⟨b,0,none⟩ u0).cell? ⟨b,0,none⟩=some u0/\((X.setCell ⟨b,0,none⟩ u0).setCell ⟨b,1,none⟩ u1).cell? ⟨b,1,none⟩=some u1/\(((X.setCell ⟨b,0,none⟩ u0).setCell ⟨b,1,none⟩ u1).setCell ⟨b,2,none⟩ u2).cell? ⟨b,2,none⟩=some u2:=
 ⟨by rw [(h.set 0 u0).blk.cell 0];rfl,by rw [((h.set 0 u0).set 1 u1).blk.cell 1];rfl,by rw [(((h.set 0 u0).set 1 u1).set 2 u2).blk.cell 2];rfl⟩
theorem ZjM {w X:World} (h:Below w.heap.size w X) {b:Nat} (hb:w.heap.size<=b) (u0 u1 u2:Value):Below w.heap.size w (((X.setCell ⟨b,0,none⟩ u0).setCell ⟨b,1,none⟩ u1).setCell ⟨b,2,none⟩ u2):=
 ((h.setCell (p:=⟨b,0,none⟩) hb _).setCell (p:=⟨b,1,none⟩) hb _).setCell (p:=⟨b,2,none⟩) hb _
theorem ZdM (w0 w:World) (bp:Nat) (vL:Value) (L:List Tok) (s:PS) (h:ParS w0 w bp vL L s) :
  Calls Tryz.prog 47 #[.pointer (some ⟨bp,0,none⟩)] w fun e w'=>e=.returned (ZqR (ZaK L s))/\Below w.heap.size w w':=by
 have a1:=below_alloc1 w (.cells #[.int .i64 0,.string ⟨#[]⟩,.int .i64 0] 75)
 have B1:=Zh.start w #[.int .i64 0,.string ⟨#[]⟩,.int .i64 0] 75
 have h1:=h.keep a1
 have LN:=ZpA h
 have hlt:=h.lt
 generalize hw1:w.alloc (.cells #[.int .i64 0,.string ⟨#[]⟩,.int .i64 0] 75)=w1 at *
 have Z:=zh (zi a1 B1)
 by_cases he:s.err=0
 ·have hn:ZaK L s=Zi L s.at_:=by unfold ZaK;rw [if_neg (by simp [he])]
  obtain ⟨ad,c,rfl,t0,t1,t2⟩:=h1.tok' h1.lt
  obtain ⟨c0,c1,c2,c3,c4⟩:=h1.cells
  rw [he] at c3
  rw [hn]
  have i0:(0:Int)<=(s.at_:Int):=by omega
  have i1:(s.at_:Int)<(L.length:Int):=by omega
  generalize Zi L s.at_=t at *
  obtain ⟨tk,tt,ta⟩:=t
  dsimp only at t0 t1 t2 ⊢
  have z:=fun i=>B1.blk.cell i
  have z0:=z 0
  have z1:=z 1
  have z2:=z 2
  simp only [List.getElem?_toArray,List.getElem?_cons_zero,List.getElem?_cons_succ] at z0 z1 z2
  have f0:=B1.blk.free 0
  have f1:=B1.blk.free 1
  have f2:=B1.blk.free 2
  have so:=Zy
  clear z h he hn h1 hlt a1 B1 LN
  go_enter Tryz.func47,Tryz.ntmps47
  go_upto_region 3 with fail
  refine wp_region_still_tail 10 (by kernel_rfl) (by kernel_rfl) ?_
  simp only [List.take_succ_cons,List.take_zero,List.drop_succ_cons,List.drop_zero]
  iterate 10 still_step
  refine wpStill_nil ?_
  change wpList _ _ _ _ _ w1.drew
  go_wp2_with fail
  obtain ⟨r0,r1,r2⟩:=ZmW Z.out.2 (.int .i64 tk) (txt tt) (.int .i64 ta)
  exact bodyPost_ret (v:=.agg #[.int .i64 tk,txt tt,.int .i64 ta]) (by simp [results,Tryz.results47,go_sem,so,r0,r1,r2]) rfl ⟨rfl,(ZjM Z.out.1 (Nat.le_refl _) _ _ _).drew⟩
 ·have hn:ZaK L s=Zi L (L.length-1):=by unfold ZaK;rw [if_pos he]
  obtain ⟨ad,c,rfl,t0,t1,t2⟩:=h1.tok' (show L.length-1<L.length by omega)
  obtain ⟨c0,c1,c2,c3,c4⟩:=h1.cells
  rw [hn]
  have e1:(s.err != 0)=true:=by simp [he]
  have i0:(0:Int)<=((L.length-1:Nat):Int):=by omega
  have i1:((L.length-1:Nat):Int)<(L.length:Int):=by omega
  generalize Zi L (L.length-1)=t at *
  generalize L.length-1=lm at *
  obtain ⟨tk,tt,ta⟩:=t
  dsimp only at t0 t1 t2 ⊢
  have z:=fun i=>B1.blk.cell i
  have z0:=z 0
  have z1:=z 1
  have z2:=z 2
  simp only [List.getElem?_toArray,List.getElem?_cons_zero,List.getElem?_cons_succ] at z0 z1 z2
  have f0:=B1.blk.free 0
  have f1:=B1.blk.free 1
  have f2:=B1.blk.free 2
  have so:=Zy
  clear z h he hn h1 hlt a1 B1
  go_enter Tryz.func47,Tryz.ntmps47
  go_upto_region 2 with fail
  refine wp_region_still_tail 12 (by kernel_rfl) (by kernel_rfl) ?_
  simp only [List.take_succ_cons,List.take_zero,List.drop_succ_cons,List.drop_zero]
  iterate 12 still_step
  refine wpStill_nil ?_
  change wpList _ _ _ _ _ w1.drew
  go_wp2_with fail
  obtain ⟨r0,r1,r2⟩:=ZmW Z.out.2 (.int .i64 tk) (txt tt) (.int .i64 ta)
  exact bodyPost_ret (v:=.agg #[.int .i64 tk,txt tt,.int .i64 ta]) (by simp [results,Tryz.results47,go_sem,so,r0,r1,r2]) rfl ⟨rfl,(ZjM Z.out.1 (Nat.le_refl _) _ _ _).drew⟩
end
section
open Go.RowKit
theorem ParS.fault {w0 w:World} {bp:Nat} {vL:Value} {L:List Tok} {s:PS} (h:ParS w0 w bp vL L s) (e a:Int) :
  ParS w0 ((w.setCell ⟨bp,3,none⟩ (.int .i64 e)).setCell ⟨bp,4,none⟩ (.int .i64 a)) bp vL L { s with err:=e,fat:=a }/\Fp w ((w.setCell ⟨bp,3,none⟩ (.int .i64 e)).setCell ⟨bp,4,none⟩ (.int .i64 a)) bp:=by
 refine ⟨⟨?_,h.toks,(h.below.setCell h.ge _).setCell h.ge _,h.ge,h.lt,h.few⟩,Fp.trans Zas Zas⟩
 have k:=(h.box.set 3 (.int .i64 e)).set 4 (.int .i64 a)
 simpa using k
theorem ParS.moved {w0 w:World} {bp:Nat} {vL:Value} {L:List Tok} {s:PS} (h:ParS w0 w bp vL L s) (n:Nat) (hn:n<L.length) :
  ParS w0 (w.setCell ⟨bp,1,none⟩ (.int .i64 (n:Int))) bp vL L { s with at_:=n }/\Fp w (w.setCell ⟨bp,1,none⟩ (.int .i64 (n:Int))) bp:=by
 refine ⟨⟨?_,h.toks,h.below.setCell h.ge _,h.ge,hn,h.few⟩,Zas⟩
 have k:=h.box.set 1 (.int .i64 (n:Int))
 simpa using k
theorem ParS.deeper {w0 w:World} {bp:Nat} {vL:Value} {L:List Tok} {s:PS} (h:ParS w0 w bp vL L s) (d:Int) :
  ParS w0 (w.setCell ⟨bp,2,none⟩ (.int .i64 d)) bp vL L { s with deep:=d }/\Fp w (w.setCell ⟨bp,2,none⟩ (.int .i64 d)) bp:=by
 refine ⟨⟨?_,h.toks,h.below.setCell h.ge _,h.ge,h.lt,h.few⟩,Zas⟩
 have k:=h.box.set 2 (.int .i64 d)
 simpa using k
theorem Fp.drew {w w':World} {bp:Nat} (h:Fp w w' bp):Fp w w'.drew bp:=⟨h.os,h.tape,h.output,h.size,h.block⟩
theorem Fp.from_drew {w w':World} {bp:Nat} (h:Fp w.drew w' bp):Fp w w' bp:=⟨h.os,h.tape,h.output,h.size,h.block⟩
theorem ParS.drew {w0 w:World} {bp:Nat} {vL:Value} {L:List Tok} {s:PS} (h:ParS w0 w bp vL L s):ParS w0 w.drew bp vL L s:=h.keep (Za7 w)
abbrev Did (w0:World) (bp:Nat) (vL:Value) (L:List Tok) (w:World) (s2:PS) (e:Ending) (w':World):Prop:=e=.returned (.tuple #[])/\ParS w0 w' bp vL L s2/\Fp w w' bp
theorem ZdD (w0 w:World) (bp:Nat) (vL:Value) (L:List Tok) (s:PS) (er:Int) (h:ParS w0 w bp vL L s) :
  Calls Tryz.prog 51 #[.pointer (some ⟨bp,0,none⟩),.int .i64 er] w (Did w0 bp vL L w (Zb4 L er s)):=by
 have H:=zh h
 by_cases he:s.err=0
 ·have hf:Zb4 L er s={ s with err:=er,fat:=(Zi L s.at_).2.2 }:=by unfold Zb4;rw [if_pos he]
  rw [hf]
  obtain ⟨ad,c,rfl,t0,t1,t2⟩:=h.tok' h.lt
  obtain ⟨c0,c1,c2,c3,c4⟩:=h.cells
  have f3:=h.frees 3
  have f4:=h.frees 4
  have e1:(s.err==0)=true:=by simp [he]
  have i0:(0:Int)<=(s.at_:Int):=by omega
  have i1:(s.at_:Int)<(L.length:Int):=by have:=h.lt;omega
  generalize Zi L s.at_=t at *
  have so:=Zy
  have HE:=zh (zi he hf)
  clear h hf he t0 t1
  go_enter Tryz.func51,Tryz.ntmps51
  go_upto_region 1 with fail
  refine wp_region_still_tail 16 (by kernel_rfl) (by kernel_rfl) ?_
  simp only [List.take_succ_cons,List.take_zero,List.drop_succ_cons,List.drop_zero]
  iterate 16 still_step
  refine wpStill_nil ?_
  change wpList _ _ _ _ _ w.drew
  go_wp2_with fail
  go_end0
  obtain ⟨k1,k2⟩:=H.out.drew.fault er (t.2.2:Int)
  exact ⟨rfl,k1,k2.from_drew⟩
 ·have hf:Zb4 L er s=s:=by unfold Zb4;rw [if_neg he]
  rw [hf]
  obtain ⟨c0,c1,c2,c3,c4⟩:=h.cells
  have e1:(s.err==0)=false:=by simp [he]
  clear h hf he
  go_enter Tryz.func51,Tryz.ntmps51
  go_wp2_with fail
  go_end0
  exact ⟨rfl,H.out,Fp.refl _ _⟩
theorem ZdU (w0 w:World) (bp:Nat) (vL:Value) (L:List Tok) (s:PS) (x:Txt) (h:ParS w0 w bp vL L s) :
  Calls Tryz.prog 48 #[.pointer (some ⟨bp,0,none⟩),txt x] w fun e w'=>e=.returned (.bool (isM L x s))/\Below w.heap.size w w':=by
 obtain ⟨z,hz⟩:∃ z,z=isM L x s:=⟨_,rfl⟩
 rw [<- hz]
 have RN:=zh (ZdM w0 w bp vL L s h)
 have H:=zh h
 unfold isM at hz
 obtain ⟨t,ht⟩:∃ t,t=ZaK L s:=⟨_,rfl⟩
 rw [<- ht] at hz RN
 obtain ⟨tk,tt,ta⟩:=t
 have q2:(tk=2)↔((tk:Int)=2):=by omega
 simp only [q2] at hz
 have HZ:=zh hz
 clear hz ht h q2
 go_enter Tryz.func48,Tryz.ntmps48
 go_upto_region 2 with (go_at_call 47;(with_reducible refine RN.out.mono ?_);rintro e w1 ⟨rfl,hb⟩;have B1:=zh hb;clear hb)
 have Z1:=H.out.keep B1.out
 have a2:=below_alloc1 w1 (.cells #[.int .i64 (tk:Int),txt tt,.int .i64 (ta:Int)] 75)
 have T2:=Zh.start w1 #[.int .i64 (tk:Int),txt tt,.int .i64 (ta:Int)] 75
 have Z2:=Z1.keep a2
 generalize hw2:w1.alloc (.cells #[.int .i64 (tk:Int),txt tt,.int .i64 (ta:Int)] 75)=w2 at *
 have z:=fun i=>T2.blk.cell i
 have z0:=z 0
 have z1:=z 1
 simp only [List.getElem?_toArray,List.getElem?_cons_zero,List.getElem?_cons_succ] at z0 z1
 obtain ⟨c0,c1,c2,c3,c4⟩:=Z2.cells
 have RK:=zh (Zlh ⟨x.toArray⟩ w2)
 have HW:=zh (zi (B1.out.trans (a2.mono B1.out.size)) Z2)
 clear z T2 a2 Z1 Z2 c0 c1 c2 c4
 go_wp2_with (go_at_call 70;(with_reducible refine RK.out.mono ?_);rintro e w3 ⟨rfl,hb⟩;have k3:=(HW.out.2.keep hb).cells.2.2.2.1;have B3:=zh (HW.out.1.trans (hb.mono HW.out.1.size));clear hb)
 all_goals go_ret
 all_goals refine ⟨?_,?_⟩
 all_goals first | exact HW.out.1 | exact B3.out | (rw [HZ.out];simp [*];done) | (rw [HZ.out];simp [*];rfl)
theorem ZcT (w0 w:World) (bp:Nat) (vL:Value) (L:List Tok) (s:PS) (h:ParS w0 w bp vL L s) :
  Calls Tryz.prog 96 #[.pointer (some ⟨bp,0,none⟩)] w fun e w'=>e=.returned (.bool (ZaZ L s))/\Below w.heap.size w w':=by
 obtain ⟨z,hz⟩:∃ z,z=ZaZ L s:=⟨_,rfl⟩
 rw [<- hz]
 have RN:=zh (ZdM w0 w bp vL L s h)
 have H:=zh h
 unfold ZaZ at hz
 have hm:(ZaK L s).2.1.length<=maxLen:=by
  have key:∀ k,(Zi L k).2.1.length<=maxLen:=fun k=>by
   unfold Zi
   cases e:L[k]? with
   | none=>exact Nat.zero_le _
   | some t=>have:=h.few.2.2 t (List.mem_of_getElem? e);show t.2.1.length<=maxLen;unfold maxLen;omega
  unfold ZaK
  split<;>exact key _
 obtain ⟨t,ht⟩:∃ t,t=ZaK L s:=⟨_,rfl⟩
 rw [<- ht] at hz RN hm
 obtain ⟨tk,tt,ta⟩:=t
 have HZ:=zh hz
 have HM:=zh hm
 clear hz ht h hm
 go_enter Tryz.func96,Tryz.ntmps96
 go_upto_region 2 with (go_at_call 47;(with_reducible refine RN.out.mono ?_);rintro e w1 ⟨rfl,hb⟩;have B1:=zh hb;clear hb)
 have Z1:=H.out.keep B1.out
 have a2:=below_alloc1 w1 (.cells #[.int .i64 (tk:Int),txt tt,.int .i64 (ta:Int)] 75)
 have T2:=Zh.start w1 #[.int .i64 (tk:Int),txt tt,.int .i64 (ta:Int)] 75
 have Z2:=Z1.keep a2
 generalize hw2:w1.alloc (.cells #[.int .i64 (tk:Int),txt tt,.int .i64 (ta:Int)] 75)=w2 at *
 have z:=fun i=>T2.blk.cell i
 have z0:=z 0
 have z1:=z 1
 simp only [List.getElem?_toArray,List.getElem?_cons_zero,List.getElem?_cons_succ] at z0 z1
 obtain ⟨c0,c1,c2,c3,c4⟩:=Z2.cells
 have RK:=zh (Zpm ⟨tt.toArray⟩ w2 (by show tt.toArray.size<=_;rw [List.size_toArray];exact HM.out))
 have HW:=zh (zi (B1.out.trans (a2.mono B1.out.size)) Z2)
 clear z T2 a2 Z1 Z2 c0 c1 c2 c4
 go_wp2_with (go_at_call 56;(with_reducible refine RK.out.mono ?_);rintro e w3 ⟨rfl,hb⟩;have k3:=(HW.out.2.keep hb).cells.2.2.2.1;have B3:=zh (HW.out.1.trans (hb.mono HW.out.1.size));clear hb)
 all_goals go_ret
 all_goals refine ⟨?_,?_⟩
 all_goals first | exact HW.out.1 | exact B3.out | (rw [HZ.out];simp [*];done) | (rw [HZ.out];simp [*];rfl)
end
section
open Go.RowKit
abbrev Got (w0:World) (bp:Nat) (vL:Value) (L:List Tok) (w:World) (v:Value) (s2:PS) (e:Ending) (w':World):Prop:=e=.returned v/\ParS w0 w' bp vL L s2/\Fp w w' bp
theorem ZhU {w0 w:World} {bp:Nat} {vL:Value} {L:List Tok} {s:PS} (h:ParS w0 w bp vL L s):IntKind.i64.wrap ((s.at_:Int)+1)=((s.at_+1:Nat):Int):=by
 have:=h.few.1
 have:=h.lt
 push_cast
 exact IntWalk.i64_in _ (by omega)
theorem ZqX {w0 w:World} {bp:Nat} {vL:Value} {L:List Tok} {s:PS} {x:Txt} (h:ParS w0 w bp vL L s) (hx:isM L x s=true):s.at_+1<L.length:=(ZC h.few.2.1 h.lt hx).lt h.lt
theorem Zgr (w0 w:World) (bp:Nat) (vL:Value) (L:List Tok) (s:PS) (x:Txt) (h:ParS w0 w bp vL L s) :
  Calls Tryz.prog 73 #[.pointer (some ⟨bp,0,none⟩),txt x] w (Got w0 bp vL L w (.bool (isM L x s)) (Zdr L x s).2):=by
 have RI:=zh (ZdU w0 w bp vL L s x h)
 have H:=zh h
 by_cases hx:isM L x s=true
 ·have hm:(Zdr L x s).2={ s with at_:=s.at_+1 }:=by unfold Zdr;rw [if_pos hx];rfl
  have wk:=ZhU h
  have HL:=zh (ZqX h hx)
  rw [hm]
  rw [hx] at RI ⊢
  clear h hm hx
  go_enter Tryz.func73,Tryz.ntmps73
  go_wp2_with (go_at_call 48;(with_reducible refine RI.out.mono ?_);rintro e w1 ⟨rfl,hb⟩;have P1:=zh (H.out.keep hb);obtain ⟨c0,c1,c2,c3,c4⟩:=P1.out.cells;have f1:=P1.out.frees 1;have B1:=zh hb;clear hb)
  go_ret
  obtain ⟨k1,k2⟩:=P1.out.moved (s.at_+1) HL.out
  exact ⟨rfl,k1,(Fp.of_below bp B1.out).trans k2⟩
 ·have hx0:isM L x s=false:=by simpa using hx
  have hm:(Zdr L x s).2=s:=by unfold Zdr;rw [if_neg hx]
  rw [hm]
  rw [hx0] at RI ⊢
  clear h hm hx hx0
  go_enter Tryz.func73,Tryz.ntmps73
  go_wp2_with (go_at_call 48;(with_reducible refine RI.out.mono ?_);rintro e w1 ⟨rfl,hb⟩;have B1:=zh hb;clear hb)
  go_ret
  exact ⟨rfl,H.out.keep B1.out,Fp.of_below bp B1.out⟩
theorem Zad (w0 w:World) (bp:Nat) (vL:Value) (L:List Tok) (s:PS) (x:Txt) (h:ParS w0 w bp vL L s) :
  Calls Tryz.prog 71 #[.pointer (some ⟨bp,0,none⟩),txt x] w (Did w0 bp vL L w (Zf L x s)):=by
 have RT:=zh (Zgr w0 w bp vL L s x h)
 by_cases hx:isM L x s=true
 ·have hm:(Zdr L x s).2=Zf L x s:=by unfold Zdr Zf;rw [if_pos hx,if_pos hx]
  rw [hm,hx] at RT
  clear h hm hx
  go_enter Tryz.func71,Tryz.ntmps71
  go_wp2_with (go_at_call 73;(with_reducible refine RT.out.mono ?_);rintro e w1 ⟨rfl,hb⟩;have B1:=zh hb;clear hb)
  go_end0
  exact ⟨rfl,B1.out⟩
 ·have hx0:isM L x s=false:=by simpa using hx
  have hm:(Zdr L x s).2=s:=by unfold Zdr;rw [if_neg hx]
  have hw:Zf L x s=Zb4 L 11 s:=by unfold Zf;rw [if_neg hx]
  rw [hm,hx0] at RT
  rw [hw]
  clear h hm hx hx0 hw
  go_enter Tryz.func71,Tryz.ntmps71
  go_wp2_with (first
   | (go_at_call 73;(with_reducible refine RT.out.mono ?_);rintro e w1 ⟨rfl,hp,hf⟩;have B1:=zh (zi hp hf);clear hp hf)
   | (go_at_call 51;(with_reducible refine (ZdD w0 _ bp vL L s 11 B1.out.1).mono ?_);rintro e w2 ⟨rfl,hp,hf⟩;have B2:=zh (zi hp (B1.out.2.trans hf));clear hp hf))
  go_end0
  exact ⟨rfl,B2.out⟩
theorem Zdq (w0 w:World) (bp:Nat) (vL:Value) (L:List Tok) (s:PS) (h:ParS w0 w bp vL L s) :
  Calls Tryz.prog 72 #[.pointer (some ⟨bp,0,none⟩)] w (Got w0 bp vL L w (txt (Zb L s).1) (Zb L s).2):=by
 have RI:=zh (ZcT w0 w bp vL L s h)
 have H:=zh h
 by_cases hx:ZaZ L s=true
 ·have hm:Zb L s=((Zi L s.at_).2.1,{ s with at_:=s.at_+1 }):=by
   unfold Zb;rw [if_pos hx]
   unfold ZaK;rw [if_neg (by simp [(ZeY hx).1])];rfl
  have wk:=ZhU h
  have HL:=zh (Zla h.few.2.1 h.lt (ZeY hx).1 (ZeY hx).2)
  rw [hm]
  rw [hx] at RI
  have wm:IntKind.i64.wrap (((s.at_+1:Nat):Int)-1)=(s.at_:Int):=by
   have:=h.few.1
   have:=h.lt
   push_cast
   rw [show ((s.at_:Int)+1-1)=s.at_ by omega]
   exact IntWalk.i64_in _ (by omega)
  have i0:(0:Int)<=(s.at_:Int):=by omega
  have i1:(s.at_:Int)<(L.length:Int):=by have:=h.lt;omega
  generalize hn1:s.at_+1=n1 at *
  have HN1:=zh hn1
  clear h hm hx hn1
  go_enter Tryz.func72,Tryz.ntmps72
  go_upto_region 5 with (go_at_call 96;(with_reducible refine RI.out.mono ?_);rintro e w1 ⟨rfl,hb⟩;have P1:=zh (H.out.keep hb);obtain ⟨c0,c1,c2,c3,c4⟩:=P1.out.cells;have f1:=P1.out.frees 1;have B1:=zh hb;clear hb)
  obtain ⟨k1,k2⟩:=P1.out.moved n1 HL.out
  have K:=zh (zi k1 ((Fp.of_below bp B1.out).trans k2))
  clear c0 c1 c2 c3 c4
  generalize w1.setCell ⟨bp,1,none⟩ (.int .i64 (n1:Int))=w2 at *
  obtain ⟨ad,c,rfl,t0,t1,t2⟩:=k1.tok' (show s.at_<L.length by omega)
  obtain ⟨c0,c1,c2,c3,c4⟩:=k1.cells
  dsimp only at c1
  clear k1 k2
  go_quiet (fail)
  go_wp2_with fail
  go_ret
  exact ⟨rfl,K.out.1.keep (below_drewN (Below.refl _ _) _),K.out.2.trans (Fp.of_below bp (below_drewN (Below.refl _ _) _))⟩
 ·have hx0:ZaZ L s=false:=by simpa using hx
  have hm:Zb L s=([],Zb4 L 11 s):=by unfold Zb;rw [if_neg hx]
  rw [hm]
  rw [hx0] at RI
  clear h hm hx hx0
  go_enter Tryz.func72,Tryz.ntmps72
  go_wp2_with (first
   | (go_at_call 96;(with_reducible refine RI.out.mono ?_);rintro e w1 ⟨rfl,hb⟩;have P1:=zh (H.out.keep hb);have B1:=zh hb;clear hb)
   | (go_at_call 51;(with_reducible refine (ZdD w0 _ bp vL L s 11 P1.out).mono ?_);rintro e w2 ⟨rfl,hp,hf⟩;have B2:=zh (zi hp ((Fp.of_below bp B1.out).trans hf));clear hp hf))
  go_ret
  exact ⟨rfl,B2.out⟩
theorem Zix (w0 w:World) (bp:Nat) (vL:Value) (L:List Tok) (s:PS) (h:ParS w0 w bp vL L s) (hd:0<=s.deep) (hd2:s.deep<=100000) :
  Calls Tryz.prog 100 #[.pointer (some ⟨bp,0,none⟩)] w (Did w0 bp vL L w (inM L s)):=by
 have wk:IntKind.i64.wrap (s.deep+1)=s.deep+1:=IntWalk.i64_in _ (by omega)
 obtain ⟨k1,k2⟩:=h.deeper (s.deep+1)
 obtain ⟨c0,c1,c2,c3,c4⟩:=h.cells
 have f2:=h.frees 2
 have K:=zh (zi k1 k2)
 have c2':=k1.cells.2.2.1
 dsimp only at c2'
 by_cases hx:200<s.deep+1
 ·have hm:inM L s=Zb4 L 12 { s with deep:=s.deep+1 }:=by unfold inM;rw [if_pos hx]
  rw [hm]
  clear h hm k1 k2 hd hd2
  go_enter Tryz.func100,Tryz.ntmps100
  go_wp2_with (go_at_call 51;(with_reducible refine (ZdD w0 _ bp vL L _ 12 K.out.1).mono ?_);rintro e w2 ⟨rfl,hp,hf⟩;have B2:=zh (zi hp (K.out.2.trans hf));clear hp hf)
  go_end0
  exact ⟨rfl,B2.out⟩
 ·have hm:inM L s={ s with deep:=s.deep+1 }:=by unfold inM;rw [if_neg hx]
  rw [hm]
  clear h hm k1 k2 hd hd2
  go_enter Tryz.func100,Tryz.ntmps100
  go_wp2_with fail
  go_end0
  exact ⟨rfl,K.out⟩
end
end Go.Proofs.YtkongcicmajolaaGreatDoor
