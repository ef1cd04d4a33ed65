import Derived.Test.YtfdgeijnkkdplaaDoorQBW
import Derived.Test.YtfdgeijnkkdplaaDoorQBY
set_option maxRecDepth 100000
set_option maxHeartbeats 8000000
namespace Go.Proofs.YtfdgeijnkkdplaaDoor
section
open Go Go.RowKit
theorem Tryd.gSignsP:Tryd.prog.globalNamed "ballcock/parse.signs"=some 4:=by kernel_rfl
theorem Tryd.gKindsP:Tryd.prog.globalNamed "ballcock/parse.kinds"=some 1:=by kernel_rfl
theorem Tryd.gNamesP:Tryd.prog.globalNamed "ballcock/parse.namesWords"=some 2:=by kernel_rfl
theorem Tryd.gSignsPType:(Tryd.prog.globals[4]?).map (·.type)=some 97:=by kernel_rfl
theorem Tryd.gKindsPType:(Tryd.prog.globals[1]?).map (·.type)=some 85:=by kernel_rfl
theorem Tryd.gNamesPType:(Tryd.prog.globals[2]?).map (·.type)=some 83:=by kernel_rfl
theorem ZlR:"*"++"errors.errorString"="*errors.errorString":=by decide
theorem Tryd.rowErrP (u:TypeId) (h:Tryd.prog.typeName? 3 u=some "*errors.errorString"):u=111:=
 typeName_ptr_named (nm:="errors.errorString") (by rw [ZlR];kernel_rfl) (by kernel_rfl) (by decide) u (by rw [ZlR];exact h)
def Zc7 (w:World):Prop:=LaidP w/\Zaf w 0 Zs
theorem Zc7.below {w w':World} (h:Zc7 w) (hb:Below w.heap.size w w'):Zc7 w':=⟨h.1.below hb,h.2.below hb⟩
theorem ZlP {W:World} (h:laidMetH Tryd.prog [("math/bits.deBruijn32tab",Rows.laid_math_bits_deBruijn32tab),("math/bits.deBruijn64tab",Rows.laid_math_bits_deBruijn64tab),("internal/strconv.uint64pow10",Rows.laid_internal_strconv_uint64pow10),("strconv.ErrRange",Rows.laid_strconv_ErrRange),("strconv.ErrSyntax",Rows.laid_strconv_ErrSyntax),("ballcock/lex.signs",Rows.laid_ballcock_lex_signs),("ballcock/lex.keywords",Rows.laid_ballcock_lex_keywords),("ballcock/parse.signs",Rows.laid_ballcock_parse_signs),("ballcock/parse.kinds",Rows.laid_ballcock_parse_kinds),("ballcock/parse.namesWords",Rows.laid_ballcock_parse_namesWords)] W):Zc7 W:=by
 rw [MakeChecks.laidMetH_plain _ _ _ (by kernel_rfl)] at h
 have h4:=laidMet.tail (laidMet.tail (laidMet.tail (laidMet.tail h)))
 have h5:=laidMet.tail h4
 have h6:=laidMet.tail h5
 have h7:=laidMet.tail h6
 have h8:=laidMet.tail h7
 have h9:=laidMet.tail h8
 obtain ⟨a,s,hv,_⟩:=laid_sentinel (g:=5) (ti:=89) (ts:=9) h4 Tryd.laysC174.m15 (by kernel_rfl) Tryd.underlying89 Tryd.rowErrP Tryd.underlying111 Tryd.underlying113 rfl rfl Tryd.underlying9 (by kernel_rfl) (by kernel_rfl)
 exact ⟨⟨Zcb (zs:=Zbp) Tryd.gSignsP Tryd.gSignsPType Tryd.underlying97 Tryd.underlying9 Tryd.cellsS (by kernel_rfl) h7,Zcb (zs:=Zen) Tryd.gKindsP Tryd.gKindsPType Tryd.underlying85 Tryd.underlying9 Tryd.cellsS (by kernel_rfl) h8,Zcb (zs:=ZbA) (rest:=[]) Tryd.gNamesP Tryd.gNamesPType Tryd.underlying83 Tryd.underlying9 Tryd.cellsS (by kernel_rfl) h9,Zcb (zs:=Zu) Tryd.gKeys Tryd.gKeysType Tryd.underlying87 Tryd.underlying9 Tryd.cellsS (by kernel_rfl) h6,⟨_,_,hv⟩⟩,Zcb (zs:=Zs) Tryd.gSigns Tryd.gSignsType Tryd.underlying70 Tryd.underlying9 Tryd.cellsS (by kernel_rfl) h5⟩
end
section
open Go Go.RowKit
def ZfX:List UInt8:=[102,110,32,109,97,105,110,40,41,32,123,32,125]
def Zlc:List UInt8:=[102,110,32,109,97,105,110,40,32,123]
theorem ZmA:(ZbE ZfX).2=(0,0)/\(ZbE ZfX).1.length=3/\((ZbE ZfX).1[1]?).map (·.kind)=some 4:=by decide +kernel
theorem ZmB:(ZbE Zlc).2=(11,9):=by decide +kernel
theorem ZdH (s:ByteArray) (w:World) (h:Zc7 w):Calls Tryd.prog 6 #[.string s] w (Zmw w (ZbE s.data.toList)):=ZiO s w h.1 h.2
theorem ZhX (w:World) (ht:Zc7 w):Calls Tryd.prog 5 #[] w fun e w'=>e=.returned (.bool true)/\Below w.heap.size w w':=by
 have ta:=fun w' (h:Below w.heap.size w w')=>ZdH ⟨#[102,110,32,109,97,105,110,40,41,32,123,32,125]⟩ w' (ht.below h)
 have te:=fun w' (h:Below w.heap.size w w')=>ZdH ⟨#[102,110,32,109,97,105,110,40,32,123]⟩ w' (ht.below h)
 rw [show (⟨#[102,110,32,109,97,105,110,40,41,32,123,32,125]⟩:ByteArray).data.toList=ZfX from rfl] at ta
 rw [show (⟨#[102,110,32,109,97,105,110,40,32,123]⟩:ByteArray).data.toList=Zlc from rfl] at te
 have X1:=ZmA
 have X2:=ZmB
 generalize ZbE ZfX=P1 at *
 generalize ZbE Zlc=P2 at *
 obtain ⟨n1,f1⟩:=P1
 obtain ⟨n2,f2⟩:=P2
 dsimp only at X1 X2
 obtain ⟨rfl,X3,X4⟩:=X1
 subst X2
 have TA:=zh ta
 have TE:=zh te
 have X:=zh (zi X3 X4)
 clear ta te ht X3 X4
 go_enter Tryd.func5,Tryd.ntmps5
 go_upto_region 2 with (go_at_call 6;(refine (TA.out _ (Below.refl _ _)).mono ?_);rintro e w1 ⟨v,rs,rfl,hb,hN,hm⟩)
 obtain ⟨A,c,rfl⟩:=ZbD hN.own
 try dsimp only at hm
 obtain ⟨x0,x1,x2,rfl⟩:∃ x0 x1 x2,rs=[x0,x1,x2]:=by
  have hl:rs.length=3:=by rw [<- X.out.1,<- hm,List.length_map]
  match rs,hl with
  | [a,b,d],_=>exact ⟨a,b,d,rfl⟩
 have hk:x1.2.kind=4:=by
  have h:=X.out.2
  rw [<- hm] at h
  simpa using h
 have F1:=Blk.start w1 #[.int .i64 0,.int .i64 0] 26
 have a1:=below_alloc1 w1 (.cells #[.int .i64 0,.int .i64 0] 26)
 have HB:=zh (zi (hb.trans (a1.mono hb.size)) (zi F1 (zi (hN.keep a1) hk)))
 clear hb hN F1 a1 hm hk
 generalize w1.heap.size=bf at *
 generalize w1.alloc (.cells #[.int .i64 0,.int .i64 0] 26)=w2 at *
 go_upto_region 3 with (go_at_call 6;(refine (TE.out _ HB.out.1).mono ?_);rintro e w3 ⟨v2,rs2,rfl,hb2,hN2,hm2⟩)
 have F2:=Blk.start w3 #[.int .i64 11,.int .i64 9] 26
 have a2:=below_alloc1 w3 (.cells #[.int .i64 11,.int .i64 9] 26)
 have b2:=hb2.trans (a2.mono hb2.size)
 have HB2:=zh (zi (HB.out.1.trans (b2.mono HB.out.1.size)) (zi (HB.out.2.1.keep b2) (zi (HB.out.2.2.1.keep b2) F2)))
 clear hb2 hN2 hm2 F2 a2 b2
 generalize w3.heap.size=bg at *
 generalize w3.alloc (.cells #[.int .i64 11,.int .i64 9] 26)=w4 at *
 obtain ⟨_,_,hr⟩:=Zeb HB2.out.2.2.1.own
 obtain ⟨ad,rfl,_,hc⟩:=hr.2 (by simp)
 have c3:w4.cell? ⟨ad.block,ad.off+5,none⟩=some (.int .i64 4):=by
  have:=hc 5 (.int .i64 x1.2.kind) rfl
  rw [HB.out.2.2.2] at this
  rwa [show ad.add 5=⟨ad.block,ad.off+5,none⟩ from rfl] at this
 have g0:=HB2.out.2.1.cell 0
 have g1:=HB2.out.2.1.cell 1
 have d0:=HB2.out.2.2.2.cell 0
 have d1:=HB2.out.2.2.2.cell 1
 simp only [List.getElem?_toArray,List.getElem?_cons_zero,List.getElem?_cons_succ] at g0 g1 d0 d1
 clear hr hc
 go_wp2_with fail
 exact bodyPost_ret (v:=.bool true) (by simp [results,Tryd.results5,go_sem]) rfl ⟨rfl,HB2.out.1⟩
end
section
open Go Go.RowKit
theorem Zgj {l:List UInt8} (e:(ZbE l).2.1=0):ZeQ 0 (ZbE l).1:=by
 unfold ZbE at e ⊢
 obtain ⟨L,er,pl,hr⟩:∃ L er pl,ZbY l=(L,er,pl):=⟨_,_,_,rfl⟩
 rw [hr] at e ⊢
 dsimp only at e ⊢
 by_cases h1:er≠0
 ·rw [if_pos h1] at e;exact absurd e h1
 ·rw [if_neg h1] at e ⊢
  by_cases h2:(ZaO L).2.err≠0
  ·rw [if_pos h2] at e;exact absurd e h2
  ·rw [if_neg h2] at e ⊢
   by_cases h3:(ZaZ (ZaB L)).1≠0
   ·rw [if_pos h3] at e;exact absurd e h3
   ·rw [if_neg h3]
    obtain rfl:er=0:=Classical.not_not.1 h1
    exact ZlI hr (Classical.not_not.1 h2)
theorem Zkt {ns:List Nd} {l:List Int} {j:Nat} {c last:Int} {first:Bool} (hc:l[j]? = some c) (h:ZdZ ns last first (l.drop j)):∃ y,0<=c/\ns[c.toNat]? = some y/\(last<y.pos\/first=true/\last<=y.pos)/\ZdZ ns y.pos false (l.drop (j+1)):=by
 obtain ⟨hl,hv⟩:=List.getElem?_eq_some_iff.1 hc
 rw [List.drop_eq_getElem_cons hl,hv] at h
 exact h
theorem ZiT (s:ByteArray) (w:World) (ht:Zc7 w):Calls Tryd.prog 4 #[.string s] w fun e w'=>e=.returned (.bool true)/\Below w.heap.size w w':=by
 have AW:=zh (fun (w1:World) (hb:Below w.heap.size w w1)=>ZhX w1 (ht.below hb))
 have PA:=zh (fun (w1:World) (hb:Below w.heap.size w w1)=>ZdH s w1 (ht.below hb))
 have SP:=zh (Zgj (l:=s.data.toList))
 generalize ZbE s.data.toList=R at *
 obtain ⟨ns,er,pl⟩:=R
 dsimp only at SP
 clear ht
 by_cases hs:(1500:Int)<(s.size:Int)
 ·go_enter Tryd.func4,Tryd.ntmps4
  go_upto_region 2 with (go_at_call 5;(refine (AW.out _ (Below.refl _ _)).mono ?_);rintro e w1 ⟨rfl,hb⟩;have HB:=zh hb;clear hb)
  go_wp2_with (go_at_call 5;(refine (AW.out _ HB.out).mono ?_);rintro e w2 ⟨rfl,hb⟩;have HB2:=zh (HB.out.trans (hb.mono HB.out.size));clear hb)
  exact bodyPost_ret (v:=.bool true) (by simp [results,Tryd.results4,go_sem]) rfl ⟨rfl,HB2.out⟩
 ·go_enter Tryd.func4,Tryd.ntmps4
  go_upto_region 3 with (go_at_call 5;(refine (AW.out _ (Below.refl _ _)).mono ?_);rintro e w1 ⟨rfl,hb⟩;have HB:=zh hb;clear hb)
  go_upto_region 4 with (go_at_call 6;(refine (PA.out _ HB.out).mono ?_);rintro e w2 ⟨v,rs,rfl,hb,hN,hm⟩;have H2:=zh (zi (HB.out.trans (hb.mono HB.out.size)) (zi hN hm));clear hb hN hm)
  have a3:=below_alloc1 w2 (.cells #[.int .i64 er,.int .i64 pl] 26)
  have F3:=Blk.start w2 #[.int .i64 er,.int .i64 pl] 26
  have H3:=zh (zi (H2.out.1.trans (a3.mono H2.out.1.size)) (H2.out.2.1.keep a3))
  have q0:=F3.cell 0
  simp only [List.getElem?_toArray,List.getElem?_cons_zero] at q0
  clear a3 F3
  generalize w2.alloc (.cells #[.int .i64 er,.int .i64 pl] 26)=w3 at *
  by_cases he:er=0
  ·subst he
   obtain ⟨A,c,rfl⟩:=ZbD H3.out.2.own
   have hok:=SP.out rfl
   rw [<- H2.out.2.2] at hok
   obtain ⟨r1,r2,r3⟩:=Zeb H3.out.2.own
   have HM:=zh (zi hok (zi r1 (zi r2 r3)))
   clear hok r1 r2 r3
   go_upto_region 7 with fail
   clear q0
   go_loopg [5] rs.length (fun g v5 wr=>∃ i:Nat,v5=.int .i64 i/\i<=rs.length/\g=rs.length-i/\wr=w3)
   case atStart=>exact ⟨0,rfl,Nat.zero_le _,rfl,rfl⟩
   case round=>
    obtain ⟨i,rfl,hi,hg,rfl⟩:=hrel
    by_cases hlt:i<rs.length
    ·obtain ⟨x,hx⟩:∃ x,rs[i]? = some x:=⟨_,List.getElem?_eq_getElem hlt⟩
     obtain ⟨ad,rfl,c0,c1,c2,c3,c4⟩:=Zev HM.out.2.2.2 (Below.refl _ _) hx (by omega)
     have hk:=HM.out.1 i x.2 (Nat.zero_le _) (by rw [List.getElem?_map,hx];rfl)
     have kk:=(H3.out.2.each x (List.mem_of_getElem? hx)).2.2
     obtain ⟨Ak,ck,hAk⟩:=ZbD kk
     rw [hAk] at c3 kk
     obtain ⟨k1,k2,k3⟩:=Zeb kk
     have i0:(i:Int)<(rs.length:Int):=by omega
     have i1:(0:Int)<=(i:Int):=by omega
     have wi:IntKind.i64.wrap ((i:Int)+1)=(i:Int)+1:=IntWalk.i64_in _ (by have:=HM.out.2.1;have:=HM.out.2.2.1;unfold maxLen at *;omega)
     have HX:=zh (zi hk (zi k1 (zi k2 (zi k3 (zi hlt hg)))))
     clear hk kk k1 k2 k3 hlt hg hi c0 c1 c2 hx
     go_upto_region 11 with fail
     go_loopg [6,7] x.2.kids.length (fun gk v6 v7 wq=>∃ (j:Nat) (last:Int),v7=.int .i64 j/\v6=.int .i64 last/\j<=x.2.kids.length/\gk=x.2.kids.length-j/\wq=wr/\ZdZ (rs.map (·.2)) last (decide (j=0)) (x.2.kids.drop j))
     case atStart=>exact ⟨0,x.2.pos,rfl,rfl,Nat.zero_le _,rfl,rfl,HX.out.1⟩
     case round=>
      obtain ⟨j,last,rfl,rfl,hj,hg,hq,hc⟩:=hrel
      rw [hq]
      clear hq
      by_cases hjl:j<x.2.kids.length
      ·obtain ⟨c',hcj⟩:∃ c',x.2.kids[j]? = some c':=⟨_,List.getElem?_eq_getElem hjl⟩
       obtain ⟨y,y1,y2,y3,y4⟩:=Zkt hcj hc
       obtain ⟨cn,rfl⟩:∃ cn:Nat,c'=cn:=⟨c'.toNat,by omega⟩
       rw [Int.toNat_natCast,List.getElem?_map] at y2
       obtain ⟨z,hz,rfl⟩:=Option.map_eq_some_iff.1 y2
       have hcn:cn<rs.length:=(List.getElem?_eq_some_iff.1 hz).1
       obtain ⟨ad',had,z0,z1,z2,z3,z4⟩:=Zev HM.out.2.2.2 (Below.refl _ _) hz (by omega)
       injection had with had
       subst had
       obtain ⟨ak,rfl,kc⟩:=ints_at HX.out.2.2.2.1 (Below.refl _ _) hcj (by omega)
       have j0:(j:Int)<(x.2.kids.length:Int):=by omega
       have j1:(0:Int)<=(j:Int):=by omega
       have d0:(cn:Int)<(rs.length:Int):=by omega
       have d1:(0:Int)<=(cn:Int):=by omega
       have wj:IntKind.i64.wrap ((j:Int)+1)=(j:Int)+1:=IntWalk.i64_in _ (by have:=HX.out.2.1;have:=HX.out.2.2.1;unfold maxLen at *;omega)
       have n0:¬ z.2.pos<last:=by rcases y3 with q | q<;>omega
       have HY:=zh (zi y4 (zi hjl hg))
       have H3':=zh y3
       clear hc y1 y2 y3 y4 hz hcn z0 z1 z2 z3 hcj hjl hg hj
       by_cases hj0:j=0
       ·have j2:¬ (0:Int)<(j:Int):=by omega
        clear hj0
        go_wp2_with fail
        go_roundg (x.2.kids.length-(j+1))
        case measure=>have:=HY.out;omega
        case rel=>exact ⟨j+1,z.2.pos,by push_cast;rfl,rfl,by have:=HY.out;omega,rfl,rfl,HY.out.1⟩
       ·have j2:(0:Int)<(j:Int):=by omega
        have n1:(z.2.pos==last)=false:=by
         rcases H3'.out with q | q
         ·simp;omega
         ·exact absurd (of_decide_eq_true q.1) hj0
        clear hj0
        go_wp2_with fail
        go_roundg (x.2.kids.length-(j+1))
        case measure=>have:=HY.out;omega
        case rel=>exact ⟨j+1,z.2.pos,by push_cast;rfl,rfl,by have:=HY.out;omega,rfl,rfl,HY.out.1⟩
      ·obtain rfl:j=x.2.kids.length:=by omega
       clear hc hj hg hjl
       go_wp2_with fail
       go_roundg (rs.length-(i+1))
       case measure=>have:=HX.out.2.2.2.2;omega
       case rel=>exact ⟨i+1,by push_cast;rfl,by have:=HX.out.2.2.2.2;omega,rfl,rfl⟩
    ·obtain rfl:i=rs.length:=by omega
     clear hi hg hlt
     go_wp2_with fail
     exact bodyPost_ret (v:=.bool true) (by simp [results,Tryd.results4,go_sem]) rfl ⟨rfl,H3.out.1⟩
  ·have e0:(er != 0)=true:=by simpa using he
   go_wp2_with fail
   exact bodyPost_ret (v:=.bool true) (by simp [results,Tryd.results4,go_sem]) rfl ⟨rfl,H3.out.1⟩
theorem Zfg (w:World) (ht:Zc7 w) (s:ByteArray) (_:s.size<=maxLen):Calls Tryd.prog 4 #[.string s] w fun e w'=>e=.returned (.bool true)/\Below w.heap.size w w':=ZiT s w ht
end
end Go.Proofs.YtfdgeijnkkdplaaDoor
