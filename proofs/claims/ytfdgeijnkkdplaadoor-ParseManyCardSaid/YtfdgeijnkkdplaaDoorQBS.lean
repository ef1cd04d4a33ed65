import Derived.Test.YtfdgeijnkkdplaaDoorQBL
import Derived.Test.YtfdgeijnkkdplaaDoorQBM
import Derived.Test.YtfdgeijnkkdplaaDoorQBR
set_option maxRecDepth 100000
set_option maxHeartbeats 8000000
namespace Go.Proofs.YtfdgeijnkkdplaaDoor
section
open Go Go.RowKit
section
variable {w0:World} {bp c:Nat} {ad:Addr} {L:List Tok}
theorem Zez (hE:ZW L) {M:PS->Tr×PS} (hS:ZJ M) (hM:∀ s,s.at_<L.length->s.err=0->Gon L s (M s).2):∀ (f:Nat) (first:Bool) (l:List Tr) (s:PS),s.at_<L.length->(Zr L M f first l s).2.err=0->l.length<=s.at_->(Zr L M f first l s).1.length<=(Zr L M f first l s).2.at_
 | 0,_,l,s,_,_,hl=>hl
 | f+1,first,l,s,hs,z,hl=>by
  unfold Zr at z ⊢
  by_cases he:s.err=0
  ·rw [if_pos he] at z ⊢
   by_cases q:isM L [41] s=true
   ·rw [if_pos q] at z ⊢
    show l.length<=s.at_+1
    omega
   ·rw [if_neg q] at z ⊢
    dsimp only at z ⊢
    have gw:Adv L s (if first then s else Zd L [44] s):=by
     cases first with
     | true=>exact Adv.refl s
     | false=>exact (ZA hE [44] hs).toAdv
    generalize (if first then s else Zd L [44] s)=s1 at *
    by_cases e2:(M s1).2.err=0
    ·have e1:s1.err=0:=by
      by_cases e1:s1.err=0
      ·exact e1
      ·exact absurd ((hS s1 e1).1.symm.trans e2) e1
     have g:=hM s1 (gw.lt hs) e1
     have:=g.on e2
     have:=gw.le
     exact Zez hE hS hM f false _ _ (g.lt (gw.lt hs)) z (by rw [List.length_append,List.length_singleton];omega)
    ·have k:=ZaZ (L:=L) hS f false (l++[(M s1).1]) (M s1).2 e2
     exact absurd (k.1.symm.trans z) e2
  ·rw [if_neg he] at z
   exact absurd z he
theorem Zl6 (hL:LaidP w0):Zw w0 bp c ad L 24 #[pV bp] (Dd (0)) (fnM L (exP L) (Zh L (exP L) 200)):=fun w s h hd=>by
 have hE:=h.end_
 have hgo':=Zcp (L:=L) hE (ex:=exP L) (fun f=>ZcM hE (f+1)) 200
 have hp:Dp L 201 s:=h.dp hd (by omega) (by omega) (by omega)
 have hB:Zw w0 bp c ad L 40 #[pV bp] (Dd (0)) (Zm L (Zh L (exP L) 200)):=ZeI 200 0 (by omega) (by omega) (by omega) (fun q=>Zfr hL 200 1 (by omega) (by omega) (by omega))
 have a1:=ZA hE [102,110] h.lt
 have a2:=ZD hE (a1.lt h.lt)
 have a3:=ZA hE [40] (a2.lt (a1.lt h.lt))
 have hlt3:=a3.lt (a2.lt (a1.lt h.lt))
 have hd3:(Zd L [40] (Za L (Zd L [102,110] s)).2).deep=0:=a3.deep.trans (a2.deep.trans (a1.deep.trans hd))
 have hpg:∀ s,s.deep=0->s.at_<L.length->s.err=0->Gon L s (ZP L s).2:=fun s' _ hlt _=>ZbN hE hlt
 have hc:=ZbL hE (D:=fun s=>s.at_<L.length/\s.deep=0) ⟨fun a b ha hab=>⟨hab.lt ha.1,hab.deep.trans ha.2⟩,fun a ha=>ha.1⟩ (ea:=ZP L) (fun s' hs'=>(ZbN hE hs'.1).toAdv) (L.length+1) true [] _ ⟨hlt3,hd3⟩
 exact Zl7 hL w s 0 h hd (exP L) (Zh L (exP L) 200) (ZaT Zdg 200) (ZiF hL 0) hpg hB (fun _=>hc.deep.trans hd3) (fun z=>by have:=Zez hE Zcx (fun s' hlt he=>ZbN hE hlt) (L.length+1) true [] _ hlt3 z (Nat.zero_le _);have:=h.few.1;have:=hc.lt hlt3;omega) (ZfK hE hgo' hp (by omega))
theorem Zgg {s:PS} (h:isM L [112,114,111,116,111] s=true):ZbF L s=ZeK L 1 (Zj L s) (Zb s):=by
 have hw:Zd L [112,114,111,116,111] s=Zb s:=by unfold Zd;rw [if_pos h]
 unfold ZbF
 rw [hw]
 rfl
def ZhG (w:World) (bp:Nat) (p:Int) (R:List Tr×PS) (e:Ending) (w':World):Prop:=
 FrP w w' bp/\(R.2.err=0->∃ b,e=.returned (brV b)/\BrP w' (ZbC w w') (.mk 0 [] [] p R.1) b)/\(R.2.err≠0->e=ZaY R.2.err R.2.fat)
theorem Zeo:∀ (f:Nat) (l:List Tr) (s:PS),s.err≠0->Zae L (exP L) (Zh L (exP L) 200) f l s=(l,s)
 | 0,_,_,_=>rfl
 | f+1,l,s,h=>by
  unfold Zae
  rw [if_neg (by simp [h])]
theorem Zgf (hL:LaidP w0) (w:World) (s:PS) (h:ParQ w0 w bp ad c L s) (hd:s.deep=0) :
  Calls Tryd.prog 13 #[pV bp] w (ZhG w bp (Zj L s) (Zae L (exP L) (Zh L (exP L) 200) (L.length+1) [] s)):=by
 obtain ⟨R,hR⟩:∃ R,Zae L (exP L) (Zh L (exP L) 200) (L.length+1) [] s=R:=⟨_,rfl⟩
 rw [hR]
 have hpl:=zh (ZQ (L:=L) h.err)
 have BG:=zh (ZK w0 w bp c ad L s h 0)
 have hfd:∀ (w:World) (a:Int) (b c:Value),(Instr.field 47 (.agg #[.int .i64 a,b,c]) 0).run Tryd.prog w=.ok (.int .i64 a) w:=fun _ _ _ _=>by kernel_rfl
 have HL:=zh hL
 have H:=zh (zi h (zi hd hR))
 clear h hd hR hL
 go_enter Tryd.func13,Tryd.ntmps13
 go_upto_region 2 with (go_at_call 19;(refine BG.out.mono ?_);rintro e1 wb ⟨b,rfl,T,hb,hB⟩)
 have G1:=zh (Way.start H.out.1 T hb hB)
 rw [hpl.out] at G1
 clear T hb hB
 go_loopg [4] (L.length-s.at_) (fun g v4 wr=>∃ (l:List Tr) (s':PS) (f:Nat),Way w0 w wr bp c ad L s' 0 [] [] (Zj L s) l b []/\s'.deep=0/\Zae L (exP L) (Zh L (exP L) 200) f l s'=R/\L.length-s'.at_<f/\l.length<=s'.at_/\g=L.length-s'.at_)
 case atStart=>exact ⟨[],s,L.length+1,G1.out,H.out.2.1,H.out.2.2,by omega,Nat.zero_le _,rfl⟩
 case round=>
  obtain ⟨l,s',f,hW,hd,hP,hf,hl,hg⟩:=hrel
  obtain ⟨f,rfl⟩:∃ k,f=k+1:=⟨f-1,by omega⟩
  have he:=hW.P.err
  have hlt:=hW.P.lt
  have few:=hW.P.few.1
  have hE:=hW.P.end_
  have hnow:=ZeY (L:=L) he
  have NX:=zh (Zbq w0 wr bp c ad L s' hW.P)
  by_cases q3:(Zak L s').1=3
  ·have hR2:R=(l,s'):=by
    rw [<- hP]
    unfold Zae
    rw [if_neg (by simp [q3])]
   have hk:((Zx L s'.at_).1==3)=true:=by rw [<- hnow,q3];rfl
   have HW:=zh (zi hW hR2)
   clear hW hR2 hP hd hf hl hg hlt few hE hnow q3 he
   go_wp2_with (go_at_call 20;(refine NX.out.mono ?_);rintro e2 w2 ⟨rfl,hB⟩)
   go_ret
   rw [HW.out.2]
   have G9:=HW.out.1.grown hB
   exact ⟨G9.F,fun _=>⟨b,rfl,G9.done⟩,fun e=>absurd G9.P.err e⟩
  ·have hk:((Zx L s'.at_).1==3)=false:=by rw [<- hnow];simpa using q3
   have hstep:Zae L (exP L) (Zh L (exP L) 200) (f+1) l s'=(if isM L [112,114,111,116,111] s' then Zae L (exP L) (Zh L (exP L) 200) f (l++[(ZbF L s').1]) (ZbF L s').2 else if isM L [102,110] s' then Zae L (exP L) (Zh L (exP L) 200) f (l++[(fnM L (exP L) (Zh L (exP L) 200) s').1]) (fnM L (exP L) (Zh L (exP L) 200) s').2 else Zae L (exP L) (Zh L (exP L) 200) f l (ZL L 11 s')):=by
    conv=>lhs;unfold Zae
    rw [if_pos ⟨he,q3⟩]
   rw [hP] at hstep
   have HW:=zh (zi hW (zi hf (zi hl (zi hg (zi few hlt)))))
   have BI:=zh (fun wn h'=>ZK w0 wn bp c ad L s' h' 1)
   cases q:isM L [112,114,111,116,111] s' with
   | true=>
    rw [q,if_pos rfl,Zgg q] at hstep
    have g:=Zep hE hlt
    rw [Zgg q] at g
    have T:=zh (fun w' h'=>Zg w0 w' bp c ad L s' h' [112,114,111,116,111] (Zv _ (by decide)))
    rw [Zah q] at T
    have HS:=zh (zi hstep (zi g (zi (show (Zb s').deep=0 from hd) (ZQ (L:=L) he))))
    obtain ⟨M,hM⟩:∃ M,ZeK L 1 (Zj L s') (Zb s')=M:=⟨_,rfl⟩
    rw [hM] at HS
    have HM:=zh hM
    clear hW hstep g hd hP hf hl hg few hlt hE hnow q3 he q hM
    go_wp2_with (first
     | (go_at_call 20;(refine NX.out.mono ?_);rintro e2 w2 ⟨rfl,hB⟩;have G2:=zh (HW.out.1.grown hB);have B2:=zh (BI.out _ G2.out.P);clear hB)
     | (go_at_call 19;(refine B2.out.mono ?_);rintro e3 w3 ⟨bi,rfl,TI,hbi,hBI⟩;have I3:=zh (Way.start G2.out.P TI hbi hBI);rw [HS.out.2.2.2] at I3;have T3:=zh (T.out _ I3.out.P);clear TI hbi hBI)
     | (go_at_call 21;(refine T3.out.mono ?_);rintro e4 w4 ⟨rfl,hP,hF⟩;have I4:=zh (I3.out.call hP hF);have PT:=zh (ZiI HL.out _ (Zb s') 0 HS.out.2.2.1 I4.out (Ze0 HL.out 0));rw [HM.out] at PT;clear hP hF)
     | (go_at_call 22;(refine PT.out.mono ?_);rintro e5 w5 ⟨hF,hok,hbd⟩;by_cases z:M.2.err=0;(case neg=>(obtain rfl:=hbd z;exact zi rfl (show ZhG _ _ _ R _ _ by rw [HS.out.1,Zeo _ _ _ z];exact ⟨G2.out.F.trans hF,fun e=>absurd e z,fun _=>rfl⟩)));obtain ⟨rfl,hW5⟩:=hok z;have D5:=zh hW5.parts;have K5:=zh ((WayK.of G2.out).got D5.out.1 D5.out.2.1 D5.out.2.2);have AD:=zh (K5.out.add (by have:=HW.out.2.2.1;have:=HW.out.2.2.2.2;omega) (m:=1) rfl (by decide));have Z:=zh z;clear hF hok hbd hW5 z)
     | (go_at_call 23;(refine AD.out.mono ?_);rintro e6 w6 ⟨rfl,hW6⟩;have G6:=zh hW6;clear hW6))
    go_roundg (L.length-M.2.at_)
    case measure=>have:=HW.out;have:=HS.out.2.1.on Z.out;have:=G6.out.P.lt;omega
    case rel=>exact ⟨_,M.2,f,G6.out,HS.out.2.1.deep.trans HS.out.2.2.1,HS.out.1.symm,by have:=HW.out;have:=HS.out.2.1.on Z.out;have:=G6.out.P.lt;omega,by simp only [List.nil_append,List.length_append,List.length_singleton];have:=HW.out;have:=HS.out.2.1.on Z.out;omega,rfl⟩
   | false=>
    rw [q,if_neg (by simp)] at hstep
    have T:=zh (fun w' h'=>Zg w0 w' bp c ad L s' h' [112,114,111,116,111] (Zv _ (by decide)))
    rw [Zu q] at T
    have hp:Dp L 201 s':=hW.P.dp hd (by omega) (by omega) (by omega)
    have g:=ZfK hE (Zcp (L:=L) hE (ex:=exP L) (fun f=>ZcM hE (f+1)) 200) (ex:=exP L) hp (by omega)
    obtain ⟨M,hM⟩:∃ M,fnM L (exP L) (Zh L (exP L) 200) s'=M:=⟨_,rfl⟩
    rw [hM] at hstep g
    have hbadR:M.2.err≠0->R.2.err=M.2.err/\R.2.fat=M.2.fat:=by
     intro z
     cases qf:isM L [102,110] s' with
     | true=>
      rw [qf,if_pos rfl,Zeo _ _ _ z] at hstep
      rw [hstep]
      exact ⟨rfl,rfl⟩
     | false=>
      rw [qf,if_neg (by simp)] at hstep
      have hff:ZL L 11 s'={ s' with err:=11,fat:=(Zx L s'.at_).2.2 }:=by unfold ZL;rw [if_pos he]
      have hne:(ZL L 11 s').err≠0:=by rw [hff];show ¬ (11:Int)=0;decide
      rw [Zeo _ _ _ hne] at hstep
      have hw:Zd L [102,110] s'=ZL L 11 s':=by unfold Zd;rw [if_neg (by simp [qf])]
      have k:Stk (ZL L 11 s') M.2:=by
       rw [<- hM]
       unfold fnM
       dsimp only
       rw [hw]
       exact (((ZB _).trans (Zq _ _)).trans (ZaZ Zcx _ _ _ _)).trans (Zal (ZaT Zdg 200) _)
      obtain ⟨k1,k2⟩:=k hne
      rw [hstep]
      exact ⟨k1.symm,k2.symm⟩
    have hgood:M.2.err=0->R=Zae L (exP L) (Zh L (exP L) 200) f (l++[M.1]) M.2:=by
     intro z
     cases qf:isM L [102,110] s' with
     | true=>rw [qf,if_pos rfl] at hstep;exact hstep
     | false=>
      exfalso
      have hff:ZL L 11 s'={ s' with err:=11,fat:=(Zx L s'.at_).2.2 }:=by unfold ZL;rw [if_pos he]
      have hne:(ZL L 11 s').err≠0:=by rw [hff];show ¬ (11:Int)=0;decide
      have hw:Zd L [102,110] s'=ZL L 11 s':=by unfold Zd;rw [if_neg (by simp [qf])]
      have k:Stk (ZL L 11 s') M.2:=by
       rw [<- hM]
       unfold fnM
       dsimp only
       rw [hw]
       exact (((ZB _).trans (Zq _ _)).trans (ZaZ Zcx _ _ _ _)).trans (Zal (ZaT Zdg 200) _)
      exact hne ((k hne).1.symm.trans z)
    have HS:=zh (zi hgood (zi hbadR (zi g hd)))
    have HM:=zh hM
    clear hW hstep g hd hP hf hl hg few hlt hE hnow q3 he q hM hgood hbadR hp
    go_wp2_with (first
     | (go_at_call 20;(refine NX.out.mono ?_);rintro e2 w2 ⟨rfl,hB⟩;have G2:=zh (HW.out.1.grown hB);have B2:=zh (BI.out _ G2.out.P);clear hB)
     | (go_at_call 19;(refine B2.out.mono ?_);rintro e3 w3 ⟨bi,rfl,TI,hbi,hBI⟩;have G3:=zh (G2.out.grown hBI);have T3:=zh (T.out _ G3.out.P);clear TI hbi hBI)
     | (go_at_call 21;(refine T3.out.mono ?_);rintro e4 w4 ⟨rfl,hP,hF⟩;have G4:=zh (G3.out.call hP hF);have PT:=zh (Zl6 HL.out _ s' G4.out.P HS.out.2.2.2);rw [HM.out] at PT;clear hP hF)
     | (go_at_call 24;(refine PT.out.mono ?_);rintro e5 w5 ⟨hF,hok,hbd⟩;by_cases z:M.2.err=0;(case neg=>(obtain rfl:=hbd z;exact zi rfl (show ZhG _ _ _ R _ _ from ⟨G4.out.F.trans hF,fun e=>absurd ((HS.out.2.1 z).1.symm.trans e) z,fun _=>by rw [(HS.out.2.1 z).1,(HS.out.2.1 z).2]⟩)));obtain ⟨gk,rfl,hP5,hD5,_,hT5⟩:=hok z;have K5:=zh ((WayK.of G4.out).got hP5 hF hT5);have AD:=zh (K5.out.add (by have:=HW.out.2.2.1;have:=HW.out.2.2.2.2;omega) (m:=1) rfl (by decide));have Z:=zh z;clear hF hok hbd hP5 hD5 hT5 z)
     | (go_at_call 23;(refine AD.out.mono ?_);rintro e6 w6 ⟨rfl,hW6⟩;have G6:=zh hW6;clear hW6))
    go_roundg (L.length-M.2.at_)
    case measure=>have:=HW.out;have:=HS.out.2.2.1.on Z.out;have:=G6.out.P.lt;omega
    case rel=>exact ⟨_,M.2,f,G6.out,HS.out.2.2.1.deep.trans HS.out.2.2.2,(HS.out.1 Z.out).symm,by have:=HW.out;have:=HS.out.2.2.1.on Z.out;have:=G6.out.P.lt;omega,by simp only [List.nil_append,List.length_append,List.length_singleton];have:=HW.out;have:=HS.out.2.2.1.on Z.out;omega,rfl⟩
end
end
end Go.Proofs.YtfdgeijnkkdplaaDoor
