import Derived.Test.YtkongcicmajolaaGreatDoorQBB
set_option maxRecDepth 100000
set_option maxHeartbeats 8000000
namespace Go.Proofs.YtkongcicmajolaaGreatDoor
section
open Go.RowKit
abbrev ZfC (X:World) (b:Nat) (u0 u1 u2 u3 u4 u5:Value):World:=((((((X.setCell ⟨b,0,none⟩ u0).setCell ⟨b,1,none⟩ u1).setCell ⟨b,2,none⟩ u2).setCell ⟨b,3,none⟩ u3).setCell ⟨b,4,none⟩ u4).setCell ⟨b,5,none⟩ u5)
theorem ZrP {X:World} {b:Nat} {ty:TypeId} {a0 a1 a2 a3 a4 a5:Value} (h:Zh X b ty #[a0,a1,a2,a3,a4,a5]) (u0 u1 u2 u3 u4 u5:Value):Zh (ZfC X b u0 u1 u2 u3 u4 u5) b ty #[u0,u1,u2,u3,u4,u5]:=by
 have k:=((((((h.set 0 u0).set 1 u1).set 2 u2).set 3 u3).set 4 u4).set 5 u5)
 simp only [List.setIfInBounds_toArray,List.set_cons_zero,List.set_cons_succ] at k
 exact k
theorem ZaH {X:World} {b:Nat} {ty:TypeId} {a0 a1 a2 a3 a4 a5:Value} (h:Zh X b ty #[a0,a1,a2,a3,a4,a5]) (u0 u1 u2 u3 u4 u5:Value) :
  (X.setCell ⟨b,0,none⟩ u0).cell? ⟨b,0,none⟩=some u0/\((X.setCell ⟨b,0,none⟩ u0).setCell ⟨b,1,none⟩ u1).cell? ⟨b,1,none⟩=some u1/\(((X.setCell ⟨b,0,none⟩ u0).setCell ⟨b,1,none⟩ u1).setCell ⟨b,2,none⟩ u2).cell? ⟨b,2,none⟩=some u2/\((((X.setCell ⟨b,0,none⟩ u0).setCell ⟨b,1,none⟩ u1).setCell ⟨b,2,none⟩ u2).setCell ⟨b,3,none⟩ u3).cell? ⟨b,3,none⟩=some u3/\(((((X.setCell ⟨b,0,none⟩ u0).setCell ⟨b,1,none⟩ u1).setCell ⟨b,2,none⟩ u2).setCell ⟨b,3,none⟩ u3).setCell ⟨b,4,none⟩ u4).cell? ⟨b,4,none⟩=some u4/\(ZfC X b u0 u1 u2 u3 u4 u5).cell? ⟨b,5,none⟩=some u5:=
 ⟨by rw [(h.set 0 u0).blk.cell 0];rfl,by rw [((h.set 0 u0).set 1 u1).blk.cell 1];rfl,by rw [(((h.set 0 u0).set 1 u1).set 2 u2).blk.cell 2];rfl,by rw [((((h.set 0 u0).set 1 u1).set 2 u2).set 3 u3).blk.cell 3];rfl,by rw [(((((h.set 0 u0).set 1 u1).set 2 u2).set 3 u3).set 4 u4).blk.cell 4];rfl,by rw [((((((h.set 0 u0).set 1 u1).set 2 u2).set 3 u3).set 4 u4).set 5 u5).blk.cell 5];rfl⟩
theorem Zog {B:Nat} {w X:World} (h:Below B w X) {b:Nat} (hb:B<=b) (u0 u1 u2 u3 u4 u5:Value):Below B w (ZfC X b u0 u1 u2 u3 u4 u5):=
 (((((h.setCell (p:=⟨b,0,none⟩) hb _).setCell (p:=⟨b,1,none⟩) hb _).setCell (p:=⟨b,2,none⟩) hb _).setCell (p:=⟨b,3,none⟩) hb _).setCell (p:=⟨b,4,none⟩) hb _).setCell (p:=⟨b,5,none⟩) hb _
theorem Znj (tk:Nat) (tt:Txt) (ta:Nat) (w:World):Sem.run Tryz.prog (Instr.field 75 (ZqR (tk,tt,ta)) 2) w=.ok (.int .i64 (ta:Int)) w:=by kernel_rfl
theorem ZeW (tk:Nat) (tt:Txt) (ta:Nat) (w:World):Sem.run Tryz.prog (Instr.field 75 (ZqR (tk,tt,ta)) 0) w=.ok (.int .i64 (tk:Int)) w:=by kernel_rfl
theorem ZpK (x:Int):RowKit.wrap64 x=IntKind.i64.wrap x:=(IntWalk.i64_left x).symm
theorem Zh.off_ne {w0 w:World} {bp b:Nat} {vL:Value} {L:List Tok} {s:PS} {cs:Array Value} (h:Zh w b 9 cs) (hp:ParS w0 w bp vL L s):b≠bp:=fun e=>by
 subst e
 have q:=hp.box
 unfold Zh at h q
 rw [h] at q
 injection q with q
 injection q with _ q
 exact absurd q (by decide)
theorem ZnO (l:Txt) (c:UInt8):Zdt (l++[c])=IntKind.i64.wrap (IntKind.i64.wrap (10*Zdt l)+((c.toNat:Int)-48) % 256):=by
 unfold Zdt
 rw [List.foldl_append]
 rfl
theorem Zar (w0 w:World) (bp:Nat) (vL:Value) (L:List Tok) (s:PS) (k:Int) (h:ParS w0 w bp vL L s) :
  Calls Tryz.prog 46 #[.pointer (some ⟨bp,0,none⟩),.int .i64 k] w fun e w'=>e=.returned (.agg #[.int .i64 k,.slice none 0 0,.slice none 0 0,.slice none 0 0,.int .i64 (Ze L s),.slice none 0 0])/\Below w.heap.size w w':=by
 have a1:=below_alloc1 w (.cells #[.int .i64 0,.slice none 0 0,.slice none 0 0,.slice none 0 0,.int .i64 0,.slice none 0 0] 58)
 have B1:=Zh.start w #[.int .i64 0,.slice none 0 0,.slice none 0 0,.slice none 0 0,.int .i64 0,.slice none 0 0] 58
 have h1:=h.keep a1
 generalize hw1:w.alloc (.cells #[.int .i64 0,.slice none 0 0,.slice none 0 0,.slice none 0 0,.int .i64 0,.slice none 0 0] 58)=w1 at *
 have RN:=zh (ZdM w0 w1 bp vL L s h1)
 have hp:Ze L s=(ZaK L s).2.2:=rfl
 rw [hp]
 generalize ZaK L s=t at *
 obtain ⟨tk,tt,ta⟩:=t
 have H:=zh (zi a1 B1)
 have hfd:=fun w=>Znj tk tt ta w
 clear a1 B1 h1 h hp
 go_enter Tryz.func46,Tryz.ntmps46
 go_wp2_with (go_at_call 47;(with_reducible refine RN.out.mono ?_);rintro e w2 ⟨rfl,hb⟩;have K2:=zh (zi (H.out.1.trans (hb.mono H.out.1.size)) (H.out.2.keep hb));clear hb;have z:=fun i=>K2.out.2.blk.cell i;have z0:=z 0;have z1:=z 1;have z2:=z 2;have z3:=z 3;have z4:=z 4;have z5:=z 5;simp only [List.getElem?_toArray,List.getElem?_cons_zero,List.getElem?_cons_succ] at z0 z1 z2 z3 z4 z5;have f0:=K2.out.2.blk.free 0;have f1:=K2.out.2.blk.free 1;have f2:=K2.out.2.blk.free 2;have f3:=K2.out.2.blk.free 3;have f4:=K2.out.2.blk.free 4;have f5:=K2.out.2.blk.free 5;clear z;have so:=Zy)
 obtain ⟨r0,r1,r2,r3,r4,r5⟩:=ZaH K2.out.2 (.int .i64 k) (.slice none 0 0) (.slice none 0 0) (.slice none 0 0) (.int .i64 (ta:Int)) (.slice none 0 0)
 exact bodyPost_ret (v:=.agg #[.int .i64 k,.slice none 0 0,.slice none 0 0,.slice none 0 0,.int .i64 (ta:Int),.slice none 0 0]) (by simp [results,Tryz.results46,go_sem,so,r0,r1,r2,r3,r4,r5]) rfl ⟨rfl,Zog K2.out.1 (Nat.le_refl _) _ _ _ _ _ _⟩
theorem Zfs (w0 w:World) (bp:Nat) (vL:Value) (L:List Tok) (s:PS) (least:Int) (h:ParS w0 w bp vL L s) :
  Calls Tryz.prog 98 #[.pointer (some ⟨bp,0,none⟩),.int .i64 least] w (Got w0 bp vL L w (.int .i64 (Zao L least s).1) (Zao L least s).2):=by
 have RN:=zh (ZdM w0 w bp vL L s h)
 have H:=zh h
 have hm:(ZaK L s).2.1.length<=100000:=by
  have key:∀ k,(Zi L k).2.1.length<=100000:=fun k=>by
   unfold Zi
   cases e:L[k]? with
   | none=>exact Nat.zero_le _
   | some t=>exact h.few.2.2 t (List.mem_of_getElem? e)
  unfold ZaK
  split<;>exact key _
 obtain ⟨R,hR⟩:∃ R,R=Zao L least s:=⟨_,rfl⟩
 rw [<- hR]
 unfold Zao at hR
 have hlt:(ZaK L s).1=1->s.err=0->s.at_+1<L.length:=fun h1 he=>Zla h.few.2.1 h.lt he (by omega)
 have wk:=ZhU h
 generalize ZaK L s=t at *
 obtain ⟨tk,tt,ta⟩:=t
 dsimp only at hR hm hlt
 by_cases k1:tk=1
 ·subst k1
  have HR:=zh (zi hR (zi hm hlt))
  clear hR h hm hlt
  go_enter Tryz.func98,Tryz.ntmps98
  go_upto_region 2 with (go_at_call 47;(with_reducible refine RN.out.mono ?_);rintro e w1 ⟨rfl,hb⟩;have B1:=zh hb;clear hb)
  have a2:=below_alloc1 w1 (.cells #[.int .i64 ((1:Nat):Int),txt tt,.int .i64 (ta:Int)] 75)
  have T2:=Zh.start w1 #[.int .i64 ((1:Nat):Int),txt tt,.int .i64 (ta:Int)] 75
  have Z2:=(H.out.keep B1.out).keep a2
  generalize hw2:w1.alloc (.cells #[.int .i64 ((1:Nat):Int),txt tt,.int .i64 (ta:Int)] 75)=w2 at *
  have z:=fun i=>T2.blk.cell i
  have z0:=z 0
  have z1:=z 1
  simp only [List.getElem?_toArray,List.getElem?_cons_zero,List.getElem?_cons_succ] at z0 z1
  obtain ⟨c0,c1,c2,c3,c4⟩:=Z2.cells
  have f1:=Z2.frees 1
  have HW:=zh (zi ((Fp.of_below bp B1.out).trans (Fp.of_below bp a2)) Z2)
  clear z T2 a2 Z2 c0 c2 c4
  have j0:(((1:Nat):Int)==1)=true:=rfl
  go_wp2_with fail
  go_loopg [6,7] tt.length (fun g v6 v7 wr=>∃ i:Nat,v7=.int .i64 i/\v6=.int .i64 (Zdt (tt.take i))/\i<=tt.length/\g=tt.length-i/\wr=w2)
  case atStart=>exact ⟨0,rfl,rfl,Nat.zero_le _,rfl,rfl⟩
  case round=>
   obtain ⟨i,rfl,rfl,hi,hg,rfl⟩:=hrel
   by_cases hlt:i<tt.length
   ·have i1:(i:Int)<(tt.length:Int):=by omega
    have i2:(0:Int)<=(i:Int):=by omega
    have wi:IntKind.i64.wrap ((i:Int)+1)=((i+1:Nat):Int):=by push_cast;exact IntWalk.i64_in _ (by have:=HR.out.2.1;omega)
    have nx:tt.take (i+1)=tt.take i++[tt[i]]:=by rw [List.take_add_one,List.getElem?_eq_getElem hlt];rfl
    have HK:=zh (zi hlt (zi hg nx))
    clear hi hg nx
    go_wp2_with fail
    go_roundg (tt.length-(i+1))
    case measure=>have:=HK.out.1;have:=HK.out.2.1;omega
    case rel=>exact ⟨i+1,by push_cast;rfl,by rw [HK.out.2.2,ZnO,<- ZpK,<- ZpK];rfl,HK.out.1,rfl,rfl⟩
   ·obtain rfl:i=tt.length:=by omega
    rw [List.take_length]
    clear hi hg hlt
    by_cases q1:Zdt tt<least
    ·have hr:R=(0,Zb4 L 11 s):=by rw [HR.out.1,if_neg (by omega)]
     have HQ:=zh hr
     clear hr
     go_wp2_with (go_at_call 51;(with_reducible refine (ZdD w0 _ bp vL L s 11 HW.out.2).mono ?_);rintro e w3 ⟨rfl,hp,hf⟩;have B3:=zh (zi hp (HW.out.1.trans hf));clear hp hf)
     go_ret
     rw [HQ.out]
     exact ⟨rfl,B3.out⟩
    ·by_cases q2:s.err=0
     ·have hr:R=(Zdt tt,Zd s):=by rw [HR.out.1,if_pos ⟨trivial,by omega,q2⟩]
      have HQ:=zh (zi hr (HR.out.2.2 trivial q2))
      have q3:(s.err != 0)=false:=by simp [q2]
      clear hr q2
      go_wp2_with fail
      go_ret
      rw [HQ.out.1]
      obtain ⟨k1,k2⟩:=HW.out.2.moved (s.at_+1) HQ.out.2
      exact ⟨rfl,k1,HW.out.1.trans k2⟩
     ·have hr:R=(0,Zb4 L 11 s):=by rw [HR.out.1,if_neg (by omega)]
      have HQ:=zh hr
      have q3:(s.err != 0)=true:=by simp [q2]
      clear hr q2
      go_wp2_with (go_at_call 51;(with_reducible refine (ZdD w0 _ bp vL L s 11 HW.out.2).mono ?_);rintro e w3 ⟨rfl,hp,hf⟩;have B3:=zh (zi hp (HW.out.1.trans hf));clear hp hf)
      go_ret
      rw [HQ.out]
      exact ⟨rfl,B3.out⟩
 ·have hr:R=(0,Zb4 L 11 s):=by rw [hR,if_neg (by omega)]
  rw [hr]
  have k2:((tk:Int)==1)=false:=by simp;omega
  have k3:((tk:Int) != 1)=true:=by simp;omega
  clear hR h hm hlt hr
  go_enter Tryz.func98,Tryz.ntmps98
  go_upto_region 2 with (go_at_call 47;(with_reducible refine RN.out.mono ?_);rintro e w1 ⟨rfl,hb⟩;have B1:=zh hb;clear hb)
  have a2:=below_alloc1 w1 (.cells #[.int .i64 (tk:Int),txt tt,.int .i64 (ta:Int)] 75)
  have T2:=Zh.start w1 #[.int .i64 (tk:Int),txt tt,.int .i64 (ta:Int)] 75
  have Z2:=(H.out.keep B1.out).keep a2
  generalize hw2:w1.alloc (.cells #[.int .i64 (tk:Int),txt tt,.int .i64 (ta:Int)] 75)=w2 at *
  have z:=fun i=>T2.blk.cell i
  have z0:=z 0
  have z1:=z 1
  simp only [List.getElem?_toArray,List.getElem?_cons_zero,List.getElem?_cons_succ] at z0 z1
  have HW:=zh (zi ((Fp.of_below bp B1.out).trans (Fp.of_below bp a2)) Z2)
  clear z T2 a2 Z2
  go_wp2_with (go_at_call 51;(with_reducible refine (ZdD w0 _ bp vL L s 11 HW.out.2).mono ?_);rintro e w3 ⟨rfl,hp,hf⟩;have B3:=zh (zi hp (HW.out.1.trans hf));clear hp hf)
  go_ret
  exact ⟨rfl,B3.out⟩
end
section
open Go.RowKit
abbrev ZgD:List Txt:=[[117,110,105,113,117,101],[102,117,108,108],[115,104,97,114,101],[105,109,109],[112,117,114,101]]
theorem Znr (k:Nat) (hk:k<5):∃ x,ZgD[k]? = some x/\Zr k=((k:Int),x)::Zr (k+1):=by
 rcases (by omega:k=0\/k=1\/k=2\/k=3\/k=4) with rfl | rfl | rfl | rfl | rfl<;>exact ⟨_,rfl,rfl⟩
theorem Zha (w0 w:World) (bp:Nat) (vL:Value) (L:List Tok) (s:PS) (least:Nat) (hl:least<=5) (h:ParS w0 w bp vL L s) :
  Calls Tryz.prog 97 #[.pointer (some ⟨bp,0,none⟩),.int .i64 (least:Int)] w (Got w0 bp vL L w (.int .i64 (ZD L (Zr least) s).1) (ZD L (Zr least) s).2):=by
 obtain ⟨R,hR⟩:∃ R,R=ZD L (Zr least) s:=⟨_,rfl⟩
 rw [<- hR]
 have a1:=below_alloc1 w (.cells (ZgD.map txt).toArray 9)
 have T1:=Zh.start w (ZgD.map txt).toArray 9
 have Z1:=h.keep a1
 have HR:=zh (zi hR hl)
 clear hR hl h
 generalize hw1:w.alloc (.cells (ZgD.map txt).toArray 9)=w1 at *
 have H1:=zh (zi a1 (zi T1 Z1))
 clear a1 T1 Z1
 simp only [List.map_cons,List.map_nil] at hw1
 go_enter Tryz.func97,Tryz.ntmps97
 go_wp2_with fail
 go_loopg [6] (5-least) (fun g v6 wr=>∃ k:Nat,v6=.int .i64 k/\k<=5/\g=5-k/\R=ZD L (Zr k) s/\Fp w wr bp/\ParS w0 wr bp vL L s/\Zh wr w.heap.size 9 (ZgD.map txt).toArray)
 case atStart=>exact ⟨least,rfl,HR.out.2,rfl,HR.out.1,Fp.of_below bp H1.out.1,H1.out.2.2,H1.out.2.1⟩
 case round=>
  obtain ⟨k,rfl,hk,hg,hr,hf,hp,hT⟩:=hrel
  by_cases hlt:k<5
  ·obtain ⟨x,hx,hd⟩:=Znr k hlt
   have c0:=(hT.blk.cell k).trans (show (ZgD.map txt).toArray[k]? = some (txt x) by rw [List.getElem?_toArray,List.getElem?_map,hx];rfl)
   have i1:(k:Int)<5:=by omega
   have i2:(0:Int)<=(k:Int):=by omega
   have wk:IntKind.i64.wrap ((k:Int)+1)=((k+1:Nat):Int):=by push_cast;exact IntWalk.i64_in _ (by omega)
   have RT:=zh (Zgr w0 wr bp vL L s x hp)
   rw [hd] at hr
   unfold ZD at hr
   have HK:=zh (zi hlt (zi hg (zi hr (zi hf (zi hp (hT.off_ne hp))))))
   have HT:=zh hT
   clear hlt hk hg hr hf hp hT hx hd
   by_cases hm:isM L x s=true
   ·have hq:R=((k:Int),(Zdr L x s).2):=by rw [HK.out.2.2.1,if_pos hm];unfold Zdr;rw [if_pos hm]
    rw [hm] at RT
    have HQ:=zh hq
    clear hq hm
    go_wp2_with (go_at_call 73;(with_reducible refine RT.out.mono ?_);rintro e w2 ⟨rfl,hp,hf⟩;have B2:=zh (zi hp hf);clear hp hf)
    go_ret
    rw [HQ.out]
    exact ⟨rfl,B2.out.1,HK.out.2.2.2.1.trans B2.out.2⟩
   ·have hm0:isM L x s=false:=by simpa using hm
    have hq:R=ZD L (Zr (k+1)) s:=by rw [HK.out.2.2.1,if_neg hm]
    have hs:(Zdr L x s).2=s:=by unfold Zdr;rw [if_neg hm]
    rw [hm0,hs] at RT
    have HQ:=zh hq
    clear hq hm hm0 hs
    go_wp2_with (go_at_call 73;(with_reducible refine RT.out.mono ?_);rintro e w2 ⟨rfl,hp,hf⟩;have B2:=zh (zi hp hf);clear hp hf)
    go_roundg (5-(k+1))
    case measure=>have:=HK.out.1;have:=HK.out.2.1;omega
    case rel=>exact ⟨k+1,by push_cast;rfl,HK.out.1,rfl,HQ.out,HK.out.2.2.2.1.trans B2.out.2,B2.out.1,B2.out.2.tblk HT.out HK.out.2.2.2.2.2⟩
  ·obtain rfl:k=5:=by omega
   have hq:R=(0,Zb4 L 11 s):=hr
   have HK:=zh (zi hf (zi hp hq))
   clear hf hp hq hT hr hk hlt hg
   go_wp2_with (go_at_call 51;(with_reducible refine (ZdD w0 _ bp vL L s 11 HK.out.2.1).mono ?_);rintro e w3 ⟨rfl,hp,hf⟩;have B3:=zh (zi hp (HK.out.1.trans hf));clear hp hf)
   go_ret
   rw [HK.out.2.2]
   exact ⟨rfl,B3.out⟩
end
section
open Go.RowKit
abbrev Zbj:Array Value:=#[.int .i64 0,.slice none 0 0,.slice none 0 0,.slice none 0 0,.int .i64 0,.slice none 0 0]
theorem Za8:(Tryz.prog.info? 58).map (fun i=>(i.zero,i.size,i.bytes))=some (some (.agg Zbj),6,112):=by kernel_rfl
theorem Zbd:(Tryz.prog.info? 9).map (fun i=>(i.zero,i.size,i.bytes))=some (some (.string ⟨#[]⟩),1,16):=by kernel_rfl
theorem Zbl:(Tryz.prog.info? 2).map (fun i=>(i.zero,i.size,i.bytes))=some (some (.int .i64 0),1,8):=by kernel_rfl
theorem Zee {w:World} {b b2:Nat} {t1 t2:TypeId} {c1 c2:Array Value} (h1:Zh w b t1 c1) (h2:Zh w b2 t2 c2) (hne:t1≠t2):b≠b2:=fun e=>by
 subst e
 unfold Zh at h1 h2
 rw [h1] at h2
 injection h2 with h2
 injection h2 with _ h2
 exact hne h2
structure Gn (w0 w wi:World) (bp b r:Nat) (vL:Value) (L:List Tok) (s:PS) (x:NV) (k p:Int) (ws:List Txt) (us:List Int) (vs:List (NV×Tr)):Prop where
 P:ParS w0 wi bp vL L s
 F:Fp w wi bp
 K:Zh wi b 58 #[.int .i64 k,x.1,x.2.1,.slice none 0 0,.int .i64 p,x.2.2]
 W:wi.ownsRow w.heap.size 9 1 x.1 ws.length (ws.map txt)
 M:∀ y∈ws,y.length<=maxLen
 U:wi.ownsRow w.heap.size 2 1 x.2.1 us.length (us.map (Value.int .i64))
 V:wi.ownsRow w.heap.size 58 6 x.2.2 vs.length (ZaY vs)
 N:x.2.2.ownBlock≠some b/\x.2.2.ownBlock≠some r
 E:∀ v∈vs,TrO wi (fun c=>w.heap.size<=c/\c≠b/\c≠r/\x.2.2.ownBlock≠some c) v.1 v.2
 R:r≠0->Zh wi r 58 Zbj
 B:w.heap.size<=b/\(r≠0->w.heap.size<=r)/\b≠r/\w0.heap.size<=w.heap.size
theorem Zis {w:World} {B B2 n size:Nat} {e:TypeId} {v:Value} {xs:List Value} (h:w.ownsRow B e size v n xs) (hb:B2<=B):w.ownsRow B2 e size v n xs:=
 ⟨h.1,h.2.imp id fun ⟨g,cap,cur,h1,h2,h3⟩=>⟨g,cap,cur,h1,Nat.le_trans hb h2,h3⟩⟩
theorem ZcM {w w3:World} {B B2 n n2 size size2:Nat} {e e2:TypeId} {v v2:Value} {xs xs2:List Value} (h:w.ownsRow B e size v n xs) (h2:w.ownsRow B2 e2 size2 v2 n2 xs2) (hne:e≠e2) (hg:w.grownBy w3 v2.ownBlock):w3.ownsRow B e size v n xs:=
 h.kept hg (by
  cases q:v2.ownBlock with
  | none=>cases q2:v.ownBlock with
   | none=>exact .inl rfl
   | some c=>exact .inr (by simp)
  | some c=>exact .inr fun e=>Zo3 h h2 hne c e q)
theorem Zb3 {w:World} {B n size b j:Nat} {e t:TypeId} {v u:Value} {cs:Array Value} {xs:List Value} (h:w.ownsRow B e size v n xs) (hb:Zh w b t cs) (hne:t≠e):(w.setCell ⟨b,j,none⟩ u).ownsRow B e size v n xs:=ZdJ h (hb.off h hne)
section
variable {w0 w wi w1 w3:World} {bp b r:Nat} {vL:Value} {L:List Tok} {s s2:PS} {x:NV} {k p:Int} {ws:List Txt} {us:List Int} {vs:List (NV×Tr)}
theorem Gn.bne (h:Gn w0 w wi bp b r vL L s x k p ws us vs):b≠bp/\(r≠0->r≠bp):=⟨Zee h.K h.P.box (by decide),fun hr=>Zee (h.R hr) h.P.box (by decide)⟩
theorem Gn.call (h:Gn w0 w wi bp b r vL L s x k p ws us vs) (hp:ParS w0 w1 bp vL L s2) (hf:Fp wi w1 bp):Gn w0 w w1 bp b r vL L s2 x k p ws us vs:=
 ⟨hp,h.F.trans hf,hf.tblk h.K h.bne.1,h.P.own h.W hf (by decide),h.M,h.P.own h.U hf (by decide),h.P.own h.V hf (by decide),h.N,fun v hv=>h.P.tree (h.E v hv) hf,fun hr=>hf.tblk (h.R hr) (h.bne.2 hr),h.B⟩
theorem Gn.below (h:Gn w0 w wi bp b r vL L s x k p ws us vs) (hb:Below wi.heap.size wi w1):Gn w0 w w1 bp b r vL L s x k p ws us vs:=h.call (h.P.keep hb) (Fp.of_below bp hb)
theorem Gn.drew (h:Gn w0 w wi bp b r vL L s x k p ws us vs):Gn w0 w wi.drew bp b r vL L s x k p ws us vs:=h.below (Za7 wi)
theorem Gn.grow {row:Option Nat} (h:Gn w0 w wi bp b r vL L s x k p ws us vs) (hg:wi.grownBy w3 row) (h1:row≠some bp) (h4:∀ q,row=some q->w.heap.size<=q):ParS w0 w3 bp vL L s/\Fp w w3 bp:=
 ⟨⟨h.P.box.grown hg h1,h.P.toks,h.P.below.grown hg h.P.below.size (fun q hq=>Nat.le_trans h.B.2.2.2 (h4 q hq)),h.P.ge,h.P.lt,h.P.few⟩,
   ⟨hg.os.trans h.F.os,hg.tape.trans h.F.tape,hg.output.trans h.F.output,Nat.le_trans h.F.size hg.size,fun c hc hn=>(hg.block c (Nat.lt_of_lt_of_le hc h.F.size) (fun e=>by have:=h4 c e.symm;omega)).trans (h.F.block c hc hn)⟩⟩
theorem Gn.put (h:Gn w0 w wi bp b r vL L s x k p ws us vs) (i:Nat) (u:Value):ParS w0 (wi.setCell ⟨b,i,none⟩ u) bp vL L s/\Fp w (wi.setCell ⟨b,i,none⟩ u) bp/\(r≠0->Zh (wi.setCell ⟨b,i,none⟩ u) r 58 Zbj):=by
 obtain ⟨h1,h2⟩:=h.grow (w3:=wi.setCell ⟨b,i,none⟩ u) (row:=some b) Zas (fun e=>h.bne.1 (by injection e)) (fun q hq=>by injection hq with hq;subst hq;exact h.B.1)
 exact ⟨h1,h2,fun hr=>(h.R hr).other (p:=⟨b,i,none⟩) h.B.2.2.1 u⟩
theorem Gn.setk (h:Gn w0 w wi bp b r vL L s x k p ws us vs) (k2:Int):Gn w0 w (wi.setCell ⟨b,0,none⟩ (.int .i64 k2)) bp b r vL L s x k2 p ws us vs:=by
 obtain ⟨h1,h2,h3⟩:=h.put 0 (.int .i64 k2)
 have kb:=h.K.set 0 (.int .i64 k2)
 simp only [List.setIfInBounds_toArray,List.set_cons_zero] at kb
 exact ⟨h1,h2,kb,Zb3 h.W h.K (by decide),h.M,Zb3 h.U h.K (by decide),ZdJ h.V h.N.1,h.N,fun v hv=>(h.E v hv).kept Zas (fun g e=>by
  injection e with e
  subst e
  exact ⟨_,_,h.K,by decide,by decide,.inr fun c hc=>hc.2.1⟩),h3,h.B⟩
theorem Gn.word {v:Value} {y:Txt} (h:Gn w0 w wi bp b r vL L s x k p ws us []) (hy:y.length<=maxLen) (hown:w3.ownsRow w.heap.size 9 1 v (ws.length+1) (ws.map txt++[txt y])) (hg:wi.grownBy w3 x.1.ownBlock) :
  w3.cell? ⟨b,1,none⟩=some x.1/\w3.frozen? ⟨b,1,none⟩=false/\Gn w0 w (w3.setCell ⟨b,1,none⟩ v) bp b r vL L s (v,x.2.1,x.2.2) k p (ws++[y]) us []:=by
 have kb:=h.K.grown hg (h.K.off h.W (by decide))
 have rb:=fun hr=>(h.R hr).grown hg ((h.R hr).off h.W (by decide))
 obtain ⟨hp,hf⟩:=h.grow hg (h.P.box.off h.W (by decide)) (fun q hq=>(h.W.lt q hq).1)
 have hu:=ZcM h.U h.W (by decide) hg
 have hv:=ZcM h.V h.W (by decide) hg
 have k2:=kb.set 1 v
 simp only [List.setIfInBounds_toArray,List.set_cons_zero,List.set_cons_succ] at k2
 have nb:some b≠some bp:=fun e=>h.bne.1 (by injection e)
 have gs:w3.grownBy (w3.setCell ⟨b,1,none⟩ v) (some b):=Zas
 refine ⟨kb.blk.cell 1,kb.blk.free 1,⟨⟨hp.box.grown gs nb,hp.toks,hp.below.setCell (p:=⟨b,1,none⟩) (Nat.le_trans h.B.2.2.2 h.B.1) v,hp.ge,hp.lt,hp.few⟩,?_,k2,?_,?_,Zb3 hu kb (by decide),ZdJ hv h.N.1,h.N,fun _ hq=>(nomatch hq),fun hr=>(rb hr).other (p:=⟨b,1,none⟩) h.B.2.2.1 v,h.B⟩⟩
 ·exact ⟨gs.os.trans hf.os,gs.tape.trans hf.tape,gs.output.trans hf.output,Nat.le_trans hf.size gs.size,fun c hc hn=>(gs.block c (Nat.lt_of_lt_of_le hc hf.size) (fun e=>by injection e with e;have:=h.B.1;omega)).trans (hf.block c hc hn)⟩
 ·rw [List.length_append,List.map_append];exact Zb3 hown kb (by decide)
 ·intro z hz
  rcases List.mem_append.1 hz with hz | hz
  ·exact h.M z hz
  ·rw [List.mem_singleton] at hz;subst hz;exact hy
theorem Gn.nums {v:Value} {ys:List Int} (h:Gn w0 w wi bp b r vL L s x k p ws us []) (hown:w3.ownsRow w.heap.size 2 1 v (us.length+ys.length) (us.map (Value.int .i64)++ys.map (Value.int .i64))) (hg:wi.grownBy w3 x.2.1.ownBlock) :
  w3.cell? ⟨b,2,none⟩=some x.2.1/\w3.frozen? ⟨b,2,none⟩=false/\Gn w0 w (w3.setCell ⟨b,2,none⟩ v) bp b r vL L s (x.1,v,x.2.2) k p ws (us++ys) []:=by
 have kb:=h.K.grown hg (h.K.off h.U (by decide))
 have rb:=fun hr=>(h.R hr).grown hg ((h.R hr).off h.U (by decide))
 obtain ⟨hp,hf⟩:=h.grow hg (h.P.box.off h.U (by decide)) (fun q hq=>(h.U.lt q hq).1)
 have hu:=ZcM h.W h.U (by decide) hg
 have hv:=ZcM h.V h.U (by decide) hg
 have k2:=kb.set 2 v
 simp only [List.setIfInBounds_toArray,List.set_cons_zero,List.set_cons_succ] at k2
 have nb:some b≠some bp:=fun e=>h.bne.1 (by injection e)
 have gs:w3.grownBy (w3.setCell ⟨b,2,none⟩ v) (some b):=Zas
 refine ⟨kb.blk.cell 2,kb.blk.free 2,⟨⟨hp.box.grown gs nb,hp.toks,hp.below.setCell (p:=⟨b,2,none⟩) (Nat.le_trans h.B.2.2.2 h.B.1) v,hp.ge,hp.lt,hp.few⟩,?_,k2,Zb3 hu kb (by decide),h.M,?_,ZdJ hv h.N.1,h.N,fun _ hq=>(nomatch hq),fun hr=>(rb hr).other (p:=⟨b,2,none⟩) h.B.2.2.1 v,h.B⟩⟩
 ·exact ⟨gs.os.trans hf.os,gs.tape.trans hf.tape,gs.output.trans hf.output,Nat.le_trans hf.size gs.size,fun c hc hn=>(gs.block c (Nat.lt_of_lt_of_le hc hf.size) (fun e=>by injection e with e;have:=h.B.1;omega)).trans (hf.block c hc hn)⟩
 ·rw [List.length_append,List.map_append];exact Zb3 hown kb (by decide)
theorem Gn.kid {v:Value} {y:NV×Tr} {Q:Nat->Prop} (h:Gn w0 w wi bp b r vL L s x k p ws us vs) (hy:TrO wi Q y.1 y.2) (hQ:∀ c,Q c->w.heap.size<=c/\c≠b/\c≠r/\x.2.2.ownBlock≠some c)
  (hown:w3.ownsRow w.heap.size 58 6 v (vs.length+1) (ZaY vs++ZaY [y])) (hg:wi.grownBy w3 x.2.2.ownBlock) (hor:v.ownBlock=x.2.2.ownBlock\/v.ownBlock=some wi.heap.size) :
  w3.cell? ⟨b,5,none⟩=some x.2.2/\w3.frozen? ⟨b,5,none⟩=false/\Gn w0 w (w3.setCell ⟨b,5,none⟩ v) bp b r vL L s (x.1,x.2.1,v) k p ws us (vs++[y]):=by
 have kb:=h.K.grown hg h.N.1
 have rb:=fun hr=>(h.R hr).grown hg h.N.2
 obtain ⟨hp,hf⟩:=h.grow hg (h.P.box.off h.V (by decide)) (fun q hq=>(h.V.lt q hq).1)
 have hw:=ZcM h.W h.V (by decide) hg
 have hu:=ZcM h.U h.V (by decide) hg
 have k2:=kb.set 5 v
 simp only [List.setIfInBounds_toArray,List.set_cons_zero,List.set_cons_succ] at k2
 have nb:some b≠some bp:=fun e=>h.bne.1 (by injection e)
 have gs:w3.grownBy (w3.setCell ⟨b,5,none⟩ v) (some b):=Zas
 have hb:=h.K.lt
 have hr0:r=0\/r<wi.heap.size:=by
  by_cases q:r=0
  ·exact .inl q
  ·exact .inr (h.R q).lt
 have N2:v.ownBlock≠some b/\v.ownBlock≠some r:=by
  rcases hor with e | e
  ·rw [e];exact h.N
  ·rw [e];exact ⟨fun q=>by injection q with q;omega,fun q=>by injection q with q;omega⟩
 have old:∀ z:NV×Tr,TrO wi (fun c=>w.heap.size<=c/\c≠b/\c≠r/\x.2.2.ownBlock≠some c) z.1 z.2->TrO (w3.setCell ⟨b,5,none⟩ v) (fun c=>w.heap.size<=c/\c≠b/\c≠r/\v.ownBlock≠some c) z.1 z.2:=fun z hz=>by
  have h1:=hz.lt.kept hg (fun g e=>by
   obtain ⟨A,c,hv⟩:=Zby h.V
   rcases h.V.2 with ⟨q,_⟩ | ⟨g2,cap,cur,q,_,hgg,_⟩
   ·rw [q] at e;cases e
   ·rw [q] at e
    injection e with e
    dsimp only at e
    subst e
    exact ⟨_,_,hgg,by decide,by decide,.inr fun c hc=>fun e=>hc.1.2.2.2 (by rw [q,e];rfl)⟩)
  refine (h1.kept Zas (fun g e=>by
   injection e with e
   subst e
   exact ⟨_,_,kb,by decide,by decide,.inr fun c hc=>hc.1.2.1⟩)).mono fun c hc=>⟨hc.1.1,hc.1.2.1,hc.1.2.2.1,?_⟩
  rcases hor with e | e
  ·rw [e];exact hc.1.2.2.2
  ·rw [e];exact fun q=>by injection q with q;have:=hc.2;omega
 refine ⟨kb.blk.cell 5,kb.blk.free 5,⟨⟨hp.box.grown gs nb,hp.toks,hp.below.setCell (p:=⟨b,5,none⟩) (Nat.le_trans h.B.2.2.2 h.B.1) v,hp.ge,hp.lt,hp.few⟩,?_,k2,Zb3 hw kb (by decide),h.M,Zb3 hu kb (by decide),?_,N2,?_,fun hr=>(rb hr).other (p:=⟨b,5,none⟩) h.B.2.2.1 v,h.B⟩⟩
 ·exact ⟨gs.os.trans hf.os,gs.tape.trans hf.tape,gs.output.trans hf.output,Nat.le_trans hf.size gs.size,fun c hc hn=>(gs.block c (Nat.lt_of_lt_of_le hc hf.size) (fun e=>by injection e with e;have:=h.B.1;omega)).trans (hf.block c hc hn)⟩
 ·rw [List.length_append,Zhg];exact ZdJ hown N2.1
 ·intro z hz
  rcases List.mem_append.1 hz with hz | hz
  ·exact old z (h.E z hz)
  ·rw [List.mem_singleton] at hz;subst hz;exact old _ (hy.mono hQ)
theorem ZmO:∀ (l:List Value) (a0 a1 a2 a3 a4 a5 u0 u1 u2 u3 u4 u5:Value) (n:Nat),l.length=n->((((((l++[a0,a1,a2,a3,a4,a5]).set n u0).set (n+1) u1).set (n+2) u2).set (n+3) u3).set (n+4) u4).set (n+5) u5=l++[u0,u1,u2,u3,u4,u5]
 | [],a0,a1,a2,a3,a4,a5,u0,u1,u2,u3,u4,u5,n,h=>by subst h;rfl
 | z::l,a0,a1,a2,a3,a4,a5,u0,u1,u2,u3,u4,u5,n,h=>by
  subst h
  have q:=ZmO l a0 a1 a2 a3 a4 a5 u0 u1 u2 u3 u4 u5 l.length rfl
  rw [List.length_cons,show l.length+1+1=(l.length+1)+1 by omega,show l.length+1+2=(l.length+2)+1 by omega,show l.length+1+3=(l.length+3)+1 by omega,show l.length+1+4=(l.length+4)+1 by omega,show l.length+1+5=(l.length+5)+1 by omega]
  simp only [List.cons_append,List.set_cons_succ]
  rw [q]
theorem ZqW {B g c:Nat} {vs:List (NV×Tr)} (hown:w3.ownsRow B 58 6 (.slice (some ⟨g,0,none⟩) (vs.length+1) c) (vs.length+1) (ZaY vs++Zbj.toList)) (y:NV×Tr) :
  (w3.setCell ⟨g,vs.length*6,none⟩ (.int .i64 y.2.kd) |>.setCell ⟨g,vs.length*6+1,none⟩ y.1.1 |>.setCell ⟨g,vs.length*6+2,none⟩ y.1.2.1 |>.setCell ⟨g,vs.length*6+3,none⟩ (.slice none 0 0) |>.setCell ⟨g,vs.length*6+4,none⟩ (.int .i64 y.2.ps) |>.setCell ⟨g,vs.length*6+5,none⟩ y.1.2.2).ownsRow B 58 6 (.slice (some ⟨g,0,none⟩) (vs.length+1) c) (vs.length+1) (ZaY vs++ZaY [y]) ∧
  w3.grownBy (w3.setCell ⟨g,vs.length*6,none⟩ (.int .i64 y.2.kd) |>.setCell ⟨g,vs.length*6+1,none⟩ y.1.1 |>.setCell ⟨g,vs.length*6+2,none⟩ y.1.2.1 |>.setCell ⟨g,vs.length*6+3,none⟩ (.slice none 0 0) |>.setCell ⟨g,vs.length*6+4,none⟩ (.int .i64 y.2.ps) |>.setCell ⟨g,vs.length*6+5,none⟩ y.1.2.2) (some g) ∧
  ∀ j,w3.cell? ⟨g,vs.length*6+j,none⟩=if j<6 then Zbj[j]? else w3.cell? ⟨g,vs.length*6+j,none⟩:=by
 have s0:=World.ownsRow.stored hown (vs.length*6) (.int .i64 y.2.kd)
 have s1:=World.ownsRow.stored s0.1 (vs.length*6+1) y.1.1
 have s2:=World.ownsRow.stored s1.1 (vs.length*6+2) y.1.2.1
 have s3:=World.ownsRow.stored s2.1 (vs.length*6+3) (.slice none 0 0)
 have s4:=World.ownsRow.stored s3.1 (vs.length*6+4) (.int .i64 y.2.ps)
 have s5:=World.ownsRow.stored s4.1 (vs.length*6+5) y.1.2.2
 have e:=ZmO (ZaY vs) (.int .i64 0) (.slice none 0 0) (.slice none 0 0) (.slice none 0 0) (.int .i64 0) (.slice none 0 0) (.int .i64 y.2.kd) y.1.1 y.1.2.1 (.slice none 0 0) (.int .i64 y.2.ps) y.1.2.2 _ (Zeq vs)
 refine ⟨?_,(((((s0.2.trans s1.2).trans s2.2).trans s3.2).trans s4.2).trans s5.2),fun j=>?_⟩
 ·have:=s5.1
  rw [show Zbj.toList=[.int .i64 0,.slice none 0 0,.slice none 0 0,.slice none 0 0,.int .i64 0,.slice none 0 0] from rfl,e] at this
  exact this
 ·by_cases hj:j<6
  ·rw [if_pos hj]
   have hc:=hown.cells (g:=g) rfl (vs.length*6+j)
   have:(ZaY vs++Zbj.toList)[vs.length*6+j]? = Zbj[j]?:=by
    rw [List.getElem?_append_right (by rw [Zeq];omega),Zeq,show vs.length*6+j-vs.length*6=j by omega]
    simp
   obtain ⟨u,hu⟩:∃ u,Zbj[j]? = some u:=⟨_,Array.getElem?_eq_getElem (by exact hj)⟩
   rw [hu] at this ⊢
   have:=hc u this
   rw [show (⟨g,0,none⟩:Addr).add (vs.length*6+j)=⟨g,vs.length*6+j,none⟩ by unfold Addr.add;by_cases e:vs.length*6+j=0<;>simp only [e,if_true,if_false,Nat.zero_add]] at this
   exact this
  ·rw [if_neg hj]
theorem Gn.tree (h:Gn w0 w wi bp b r vL L s x k p ws us vs):TrO wi (fun c=>w.heap.size<=c/\c≠b/\c≠r) x (.mk k ws us p (vs.map (·.2))):=
 .mk vs (Zis h.W (Nat.zero_le _)) h.M (Zis h.U (Nat.zero_le _)) (Zis h.V (Nat.zero_le _)) (fun c hc=>⟨(h.V.lt c hc).1,fun e=>h.N.1 (e▸hc),fun e=>h.N.2 (e▸hc)⟩) fun v hv=>(h.E v hv).mono fun _ hc=>⟨⟨hc.1,hc.2.1,hc.2.2.1⟩,hc.2.2.2⟩
end
end
end Go.Proofs.YtkongcicmajolaaGreatDoor
