import Derived.Test.YtkongcicmajolaaGreatDoorQBK
import Derived.Test.YtkongcicmajolaaGreatDoorQBM
set_option maxRecDepth 100000
set_option maxHeartbeats 8000000
namespace Go.Proofs.YtkongcicmajolaaGreatDoor
section
open Go.RowKit
theorem ZrI (w0 w wi:World) (bp b:Nat) (vL:Value) (L:List Tok) (s:PS) (p:Int) (f:Nat) (st:PS->Tr×PS) (hd:Dp L (f+1) s) (h200:s.deep<=200) (hb:Zcr w0 bp vL L f st) (hgo:Stm L f st) (hG:Gn w0 w wi bp b w.heap.size vL L s ZeZ 8 p [] [] []) :
  Calls Tryz.prog 123 #[.pointer (some ⟨bp,0,none⟩),.pointer (some ⟨b,0,none⟩)] wi (Zem w0 w bp b w.heap.size vL L (doM L st p s).1 (doM L st p s).2):=by
 cases h1:isM L [59] (Zb L (Zf L [46] (Zb L s).2)).2 with
 | true=>exact ZqA w0 w wi bp b vL L s p st h1 hG
 | false=>exact Zpd w0 w wi bp b vL L s p f st h1 hd h200 hb hgo hG
theorem ZqE (w0 w:World) (bp:Nat) (vL:Value) (L:List Tok) (s:PS) (f:Nat) (ex:PS->Tr×PS) (hex:∀ g,ZbH 122 w0 bp vL L (Dp L g) ex) (hxo:∀ g,Onw L (Dp L g) ex) (hb:Zcr w0 bp vL L f (Zv L ex f)) (hgo:Stm L f (Zv L ex f)) (h:ParS w0 w bp vL L s) (hd:Dp L (f+1) s) (h200:s.deep<=200) (h1:isM L [108,101,116] s=false) (h2:ZaZ L s=false) (h3:isM L [111,112,101,110] s=false) (h4:isM L [100,111] s=true) :
  Calls Tryz.prog 101 #[.pointer (some ⟨bp,0,none⟩)] w (Zcz w0 bp vL L w (Zv L ex (f+1) s).1 (Zv L ex (f+1) s).2):=by
 have hM:Zv L ex (f+1) s=doM L (Zv L ex f) (Ze L s) (Zd s):=by rw [Zv];simp only [h1,h2,h3,h4,if_true,Bool.false_eq_true,if_false]
 rw [hM]
 clear hM
 have D:=ZR (L:=L) (f+1)
 have d0:=(show Dp L (f+1) s/\s.deep<=200 from ⟨hd,h200⟩)
 have hE:=h.few.2.1
 have g1:=ZC hE h.lt h4
 have d1:=D.next _ _ d0 g1.toAdv
 have HX:=zh (zi hex (zi hb hgo))
 have HD:=zh d1
 have HW:=zh (zi h3 h4)
 have HXO:=zh (hxo (f+1))
 clear d1 g1 hE d0 D hd h200 hex hxo hb hgo
 clear h3 h4
 obtain ⟨iS,hS,zS0,zS1,zS2⟩:=info_parts Zbd
 obtain ⟨iU,hU,zU0,zU1,zU2⟩:=info_parts Zbl
 obtain ⟨iN,hN,zN0,zN1,zN2⟩:=info_parts Za8
 have a0:=below_alloc1 w (.cells #[.int .i64 0,.slice none 0 0,.slice none 0 0,.slice none 0 0,.int .i64 0,.slice none 0 0] 58)
 have ha:=h.keep a0
 generalize hwa:w.alloc (.cells #[.int .i64 0,.slice none 0 0,.slice none 0 0,.slice none 0 0,.int .i64 0,.slice none 0 0] 58)=wa at *
 have RB:=zh (Zar w0 wa bp vL L s 8 ha)
 have H:=zh h
 have HZ:=zh h.size0
 clear a0 ha h
 go_enter Tryz.func101,Tryz.ntmps101
 go_upto_region 2 with (go_at_call 46;(with_reducible refine RB.out.mono ?_);rintro e w1 ⟨rfl,hb⟩;have B1:=zh hb;clear hb)
 have G2:=zh (Gn.start (k:=8) (p:=Ze L s) H.out hwa B1.out)
 clear hwa RB
 generalize w1.alloc (.cells #[.int .i64 8,.slice none 0 0,.slice none 0 0,.slice none 0 0,.int .i64 (Ze L s),.slice none 0 0] 58)=w2 at *
 clear B1
 generalize w1.heap.size=b at *
 have CI:=zh (ZdU w0 w2 bp vL L s [108,101,116] G2.out.P)
 rw [h1] at CI
 have CN:∀ W:World,ParS w0 W bp vL L s->Calls Tryz.prog 96 #[.pointer (some ⟨bp,0,none⟩)] W fun e w'=>e=.returned (.bool false)/\Below W.heap.size W w':=fun W hW=>by
  have q:=ZcT w0 W bp vL L s hW
  rw [h2] at q
  exact q
 have CNH:=zh CN
 clear CN
 clear h1 h2
 go_upto_region 10 with (first | (go_at_call 48;(with_reducible refine CI.out.mono ?_);rintro e w3 ⟨rfl,hb⟩;have G3:=zh (G2.out.below hb);clear hb) | (go_at_call 96;(with_reducible refine (CNH.out _ G3.out.P).mono ?_);rintro e w4 ⟨rfl,hb⟩;have G4:=zh (G3.out.below hb);clear hb))
 clear CI CNH G2 G3
 have CT:=zh (ZQ (y:=[111,112,101,110]) G4.out.P HW.out.1)
 go_upto_region 17 with (go_at_call 73;(with_reducible refine CT.out.mono ?_);rintro e w5 ⟨rfl,hp,hf⟩;have G5:=zh (G4.out.call hp hf);clear hp hf)
 clear G4
 clear CT
 have CT:=zh (ZY (y:=[100,111]) G5.out.P HW.out.2)
 go_upto_region 18 with (go_at_call 73;(with_reducible refine CT.out.mono ?_);rintro e w6 ⟨rfl,hp,hf⟩;have G6:=zh (G5.out.call hp hf);clear hp hf)
 clear G5
 clear CT
 have NM:=zh (ZrI w0 w w6 bp b vL L (Zd s) (Ze L s) f (Zv L ex f) HD.out.1 HD.out.2 HX.out.2.1 HX.out.2.2 G6.out)
 go_upto_region 32 with (go_at_call 123;(refine NM.out.mono ?_);rintro e w7 ⟨rfl,x2,k2,p2,ws2,us2,vs2,hT,hG⟩;have SH:=hG.shape;obtain ⟨X7,x7,y7,Y7,i7,j7,Z7,k7,l7,rfl⟩:=SH;have G7:=zh hG;have HT:=zh hT;clear hG hT)
 clear NM G6
 obtain ⟨q0,q1,q2,q3,q4,q5⟩:=G7.out.cells
 dsimp only at q1 q2 q5
 have qf:=G7.out.free
 obtain ⟨z0,z1,z2,z3,z4,z5⟩:=G7.out.zeros HZ.out
 have zf:=G7.out.rfree HZ.out
 have so:=Zy
 go_wp2_with fail
 obtain ⟨r0,r1,r2,r3,r4,r5⟩:=ZaH (G7.out.R HZ.out) (.int .i64 k2) (.slice X7 x7 y7) (.slice Y7 i7 j7) (.slice none 0 0) (.int .i64 p2) (.slice Z7 k7 l7)
 obtain ⟨o1,o2,o3⟩:=G7.out.out HZ.out (.int .i64 k2) (.slice X7 x7 y7) (.slice Y7 i7 j7) (.slice none 0 0) (.int .i64 p2) (.slice Z7 k7 l7)
 rw [<- HT.out] at o2
 exact bodyPost_ret (v:=.agg #[.int .i64 k2,(.slice X7 x7 y7),(.slice Y7 i7 j7),.slice none 0 0,.int .i64 p2,(.slice Z7 k7 l7)]) (by simp [results,Tryz.results101,go_sem,so,r0,r1,r2,r3,r4,r5]) rfl ⟨((.slice X7 x7 y7),(.slice Y7 i7 j7),(.slice Z7 k7 l7)),(by rw [HT.out];rfl),o1,o2,o3⟩
theorem ZnY (w0 w:World) (bp:Nat) (vL:Value) (L:List Tok) (s:PS) (f:Nat) (ex:PS->Tr×PS) (hex:∀ g,ZbH 122 w0 bp vL L (Dp L g) ex) (hxo:∀ g,Onw L (Dp L g) ex) (hb:Zcr w0 bp vL L f (Zv L ex f)) (hgo:Stm L f (Zv L ex f)) (h:ParS w0 w bp vL L s) (hd:Dp L (f+1) s) (h200:s.deep<=200) (h1:isM L [108,101,116] s=false) (h2:ZaZ L s=false) (h3:isM L [111,112,101,110] s=false) (h4:isM L [100,111] s=false) (h5:isM L [115,112,108,105,116] s=false) (h6:isM L [99,97,108,108] s=true) :
  Calls Tryz.prog 101 #[.pointer (some ⟨bp,0,none⟩)] w (Zcz w0 bp vL L w (Zv L ex (f+1) s).1 (Zv L ex (f+1) s).2):=by
 have hM:Zv L ex (f+1) s=ZcC L ex (Ze L s) (Zd s):=by rw [Zv];simp only [h1,h2,h3,h4,h5,h6,if_true,Bool.false_eq_true,if_false]
 rw [hM]
 clear hM
 have D:=ZR (L:=L) (f+1)
 have d0:=(show Dp L (f+1) s/\s.deep<=200 from ⟨hd,h200⟩)
 have hE:=h.few.2.1
 have g1:=ZC hE h.lt h6
 have d1:=D.next _ _ d0 g1.toAdv
 have HX:=zh (zi hex (zi hb hgo))
 have HD:=zh d1
 have HW:=zh (zi h3 (zi h4 (zi h5 h6)))
 have HXO:=zh (hxo (f+1))
 clear d1 g1 hE d0 D hd h200 hex hxo hb hgo
 clear h3 h4 h5 h6
 obtain ⟨iS,hS,zS0,zS1,zS2⟩:=info_parts Zbd
 obtain ⟨iU,hU,zU0,zU1,zU2⟩:=info_parts Zbl
 obtain ⟨iN,hN,zN0,zN1,zN2⟩:=info_parts Za8
 have a0:=below_alloc1 w (.cells #[.int .i64 0,.slice none 0 0,.slice none 0 0,.slice none 0 0,.int .i64 0,.slice none 0 0] 58)
 have ha:=h.keep a0
 generalize hwa:w.alloc (.cells #[.int .i64 0,.slice none 0 0,.slice none 0 0,.slice none 0 0,.int .i64 0,.slice none 0 0] 58)=wa at *
 have RB:=zh (Zar w0 wa bp vL L s 8 ha)
 have H:=zh h
 have HZ:=zh h.size0
 clear a0 ha h
 go_enter Tryz.func101,Tryz.ntmps101
 go_upto_region 2 with (go_at_call 46;(with_reducible refine RB.out.mono ?_);rintro e w1 ⟨rfl,hb⟩;have B1:=zh hb;clear hb)
 have G2:=zh (Gn.start (k:=8) (p:=Ze L s) H.out hwa B1.out)
 clear hwa RB
 generalize w1.alloc (.cells #[.int .i64 8,.slice none 0 0,.slice none 0 0,.slice none 0 0,.int .i64 (Ze L s),.slice none 0 0] 58)=w2 at *
 clear B1
 generalize w1.heap.size=b at *
 have CI:=zh (ZdU w0 w2 bp vL L s [108,101,116] G2.out.P)
 rw [h1] at CI
 have CN:∀ W:World,ParS w0 W bp vL L s->Calls Tryz.prog 96 #[.pointer (some ⟨bp,0,none⟩)] W fun e w'=>e=.returned (.bool false)/\Below W.heap.size W w':=fun W hW=>by
  have q:=ZcT w0 W bp vL L s hW
  rw [h2] at q
  exact q
 have CNH:=zh CN
 clear CN
 clear h1 h2
 go_upto_region 10 with (first | (go_at_call 48;(with_reducible refine CI.out.mono ?_);rintro e w3 ⟨rfl,hb⟩;have G3:=zh (G2.out.below hb);clear hb) | (go_at_call 96;(with_reducible refine (CNH.out _ G3.out.P).mono ?_);rintro e w4 ⟨rfl,hb⟩;have G4:=zh (G3.out.below hb);clear hb))
 clear CI CNH G2 G3
 have CT:=zh (ZQ (y:=[111,112,101,110]) G4.out.P HW.out.1)
 go_upto_region 17 with (go_at_call 73;(with_reducible refine CT.out.mono ?_);rintro e w5 ⟨rfl,hp,hf⟩;have G5:=zh (G4.out.call hp hf);clear hp hf)
 clear G4
 clear CT
 have CT:=zh (ZQ (y:=[100,111]) G5.out.P HW.out.2.1)
 go_upto_region 19 with (go_at_call 73;(with_reducible refine CT.out.mono ?_);rintro e w6 ⟨rfl,hp,hf⟩;have G6:=zh (G5.out.call hp hf);clear hp hf)
 clear G5
 clear CT
 have CT:=zh (ZQ (y:=[115,112,108,105,116]) G6.out.P HW.out.2.2.1)
 go_upto_region 30 with (go_at_call 73;(with_reducible refine CT.out.mono ?_);rintro e w7 ⟨rfl,hp,hf⟩;have G7:=zh (G6.out.call hp hf);clear hp hf)
 clear G6
 clear CT
 have CT:=zh (ZY (y:=[99,97,108,108]) G7.out.P HW.out.2.2.2)
 go_upto_region 31 with (go_at_call 73;(with_reducible refine CT.out.mono ?_);rintro e w8 ⟨rfl,hp,hf⟩;have G8:=zh (G7.out.call hp hf);clear hp hf)
 clear G7
 clear CT
 have NM:=zh (Zpc w0 w w8 bp b vL L (Zd s) (Ze L s) (f+1) ex HD.out.1 (HX.out.1 (f+1)) HXO.out G8.out)
 go_upto_region 32 with (go_at_call 124;(refine NM.out.mono ?_);rintro e w9 ⟨rfl,x2,k2,p2,ws2,us2,vs2,hT,hG⟩;have SH:=hG.shape;obtain ⟨X9,x9,y9,Y9,i9,j9,Z9,k9,l9,rfl⟩:=SH;have G9:=zh hG;have HT:=zh hT;clear hG hT)
 clear NM G8
 obtain ⟨q0,q1,q2,q3,q4,q5⟩:=G9.out.cells
 dsimp only at q1 q2 q5
 have qf:=G9.out.free
 obtain ⟨z0,z1,z2,z3,z4,z5⟩:=G9.out.zeros HZ.out
 have zf:=G9.out.rfree HZ.out
 have so:=Zy
 go_wp2_with fail
 obtain ⟨r0,r1,r2,r3,r4,r5⟩:=ZaH (G9.out.R HZ.out) (.int .i64 k2) (.slice X9 x9 y9) (.slice Y9 i9 j9) (.slice none 0 0) (.int .i64 p2) (.slice Z9 k9 l9)
 obtain ⟨o1,o2,o3⟩:=G9.out.out HZ.out (.int .i64 k2) (.slice X9 x9 y9) (.slice Y9 i9 j9) (.slice none 0 0) (.int .i64 p2) (.slice Z9 k9 l9)
 rw [<- HT.out] at o2
 exact bodyPost_ret (v:=.agg #[.int .i64 k2,(.slice X9 x9 y9),(.slice Y9 i9 j9),.slice none 0 0,.int .i64 p2,(.slice Z9 k9 l9)]) (by simp [results,Tryz.results101,go_sem,so,r0,r1,r2,r3,r4,r5]) rfl ⟨((.slice X9 x9 y9),(.slice Y9 i9 j9),(.slice Z9 k9 l9)),(by rw [HT.out];rfl),o1,o2,o3⟩
theorem ZnZ (w0 w:World) (bp:Nat) (vL:Value) (L:List Tok) (s:PS) (f:Nat) (ex:PS->Tr×PS) (hex:∀ g,ZbH 122 w0 bp vL L (Dp L g) ex) (hxo:∀ g,Onw L (Dp L g) ex) (hb:Zcr w0 bp vL L f (Zv L ex f)) (hgo:Stm L f (Zv L ex f)) (h:ParS w0 w bp vL L s) (hd:Dp L (f+1) s) (h200:s.deep<=200) (h1:isM L [108,101,116] s=false) (h2:ZaZ L s=false) (h3:isM L [111,112,101,110] s=false) (h4:isM L [100,111] s=false) (h5:isM L [115,112,108,105,116] s=false) (h6:isM L [99,97,108,108] s=false) :
  Calls Tryz.prog 101 #[.pointer (some ⟨bp,0,none⟩)] w (Zcz w0 bp vL L w (Zv L ex (f+1) s).1 (Zv L ex (f+1) s).2):=by
 have hM:Zv L ex (f+1) s=Zbb L ex (Zv L ex f) (Ze L s) s:=by rw [Zv];simp only [h1,h2,h3,h4,h5,h6,Bool.false_eq_true,if_false]
 rw [hM]
 clear hM
 have D:=ZR (L:=L) (f+1)
 have d0:=(show Dp L (f+1) s/\s.deep<=200 from ⟨hd,h200⟩)
 have hE:=h.few.2.1
 have HX:=zh (zi hex (zi hb hgo))
 have HD:=zh d0
 have HW:=zh (zi h3 (zi h4 (zi h5 h6)))
 have HXO:=zh (hxo (f+1))
 clear hE d0 D hd h200 hex hxo hb hgo
 clear h3 h4 h5 h6
 obtain ⟨iS,hS,zS0,zS1,zS2⟩:=info_parts Zbd
 obtain ⟨iU,hU,zU0,zU1,zU2⟩:=info_parts Zbl
 obtain ⟨iN,hN,zN0,zN1,zN2⟩:=info_parts Za8
 have a0:=below_alloc1 w (.cells #[.int .i64 0,.slice none 0 0,.slice none 0 0,.slice none 0 0,.int .i64 0,.slice none 0 0] 58)
 have ha:=h.keep a0
 generalize hwa:w.alloc (.cells #[.int .i64 0,.slice none 0 0,.slice none 0 0,.slice none 0 0,.int .i64 0,.slice none 0 0] 58)=wa at *
 have RB:=zh (Zar w0 wa bp vL L s 8 ha)
 have H:=zh h
 have HZ:=zh h.size0
 clear a0 ha h
 go_enter Tryz.func101,Tryz.ntmps101
 go_upto_region 2 with (go_at_call 46;(with_reducible refine RB.out.mono ?_);rintro e w1 ⟨rfl,hb⟩;have B1:=zh hb;clear hb)
 have G2:=zh (Gn.start (k:=8) (p:=Ze L s) H.out hwa B1.out)
 clear hwa RB
 generalize w1.alloc (.cells #[.int .i64 8,.slice none 0 0,.slice none 0 0,.slice none 0 0,.int .i64 (Ze L s),.slice none 0 0] 58)=w2 at *
 clear B1
 generalize w1.heap.size=b at *
 have CI:=zh (ZdU w0 w2 bp vL L s [108,101,116] G2.out.P)
 rw [h1] at CI
 have CN:∀ W:World,ParS w0 W bp vL L s->Calls Tryz.prog 96 #[.pointer (some ⟨bp,0,none⟩)] W fun e w'=>e=.returned (.bool false)/\Below W.heap.size W w':=fun W hW=>by
  have q:=ZcT w0 W bp vL L s hW
  rw [h2] at q
  exact q
 have CNH:=zh CN
 clear CN
 clear h1 h2
 go_upto_region 10 with (first | (go_at_call 48;(with_reducible refine CI.out.mono ?_);rintro e w3 ⟨rfl,hb⟩;have G3:=zh (G2.out.below hb);clear hb) | (go_at_call 96;(with_reducible refine (CNH.out _ G3.out.P).mono ?_);rintro e w4 ⟨rfl,hb⟩;have G4:=zh (G3.out.below hb);clear hb))
 clear CI CNH G2 G3
 have CT:=zh (ZQ (y:=[111,112,101,110]) G4.out.P HW.out.1)
 go_upto_region 17 with (go_at_call 73;(with_reducible refine CT.out.mono ?_);rintro e w5 ⟨rfl,hp,hf⟩;have G5:=zh (G4.out.call hp hf);clear hp hf)
 clear G4
 clear CT
 have CT:=zh (ZQ (y:=[100,111]) G5.out.P HW.out.2.1)
 go_upto_region 19 with (go_at_call 73;(with_reducible refine CT.out.mono ?_);rintro e w6 ⟨rfl,hp,hf⟩;have G6:=zh (G5.out.call hp hf);clear hp hf)
 clear G5
 clear CT
 have CT:=zh (ZQ (y:=[115,112,108,105,116]) G6.out.P HW.out.2.2.1)
 go_upto_region 30 with (go_at_call 73;(with_reducible refine CT.out.mono ?_);rintro e w7 ⟨rfl,hp,hf⟩;have G7:=zh (G6.out.call hp hf);clear hp hf)
 clear G6
 clear CT
 have CT:=zh (ZQ (y:=[99,97,108,108]) G7.out.P HW.out.2.2.2)
 go_upto_region 2 with (go_at_call 73;(with_reducible refine CT.out.mono ?_);rintro e w8 ⟨rfl,hp,hf⟩;have G8:=zh (G7.out.call hp hf);clear hp hf)
 clear G7
 clear CT
 have NM:=zh (Zpf w0 w w8 bp b vL L s (Ze L s) f ex (Zv L ex f) HD.out.1 HD.out.2 (HX.out.1 (f+1)) HXO.out HX.out.2.1 HX.out.2.2 G8.out)
 go_upto_region 32 with (go_at_call 125;(refine NM.out.mono ?_);rintro e w9 ⟨rfl,x2,k2,p2,ws2,us2,vs2,hT,hG⟩;have SH:=hG.shape;obtain ⟨X9,x9,y9,Y9,i9,j9,Z9,k9,l9,rfl⟩:=SH;have G9:=zh hG;have HT:=zh hT;clear hG hT)
 clear NM G8
 obtain ⟨q0,q1,q2,q3,q4,q5⟩:=G9.out.cells
 dsimp only at q1 q2 q5
 have qf:=G9.out.free
 obtain ⟨z0,z1,z2,z3,z4,z5⟩:=G9.out.zeros HZ.out
 have zf:=G9.out.rfree HZ.out
 have so:=Zy
 go_wp2_with fail
 obtain ⟨r0,r1,r2,r3,r4,r5⟩:=ZaH (G9.out.R HZ.out) (.int .i64 k2) (.slice X9 x9 y9) (.slice Y9 i9 j9) (.slice none 0 0) (.int .i64 p2) (.slice Z9 k9 l9)
 obtain ⟨o1,o2,o3⟩:=G9.out.out HZ.out (.int .i64 k2) (.slice X9 x9 y9) (.slice Y9 i9 j9) (.slice none 0 0) (.int .i64 p2) (.slice Z9 k9 l9)
 rw [<- HT.out] at o2
 exact bodyPost_ret (v:=.agg #[.int .i64 k2,(.slice X9 x9 y9),(.slice Y9 i9 j9),.slice none 0 0,.int .i64 p2,(.slice Z9 k9 l9)]) (by simp [results,Tryz.results101,go_sem,so,r0,r1,r2,r3,r4,r5]) rfl ⟨((.slice X9 x9 y9),(.slice Y9 i9 j9),(.slice Z9 k9 l9)),(by rw [HT.out];rfl),o1,o2,o3⟩
theorem Zkc (w0:World) (bp:Nat) (vL:Value) (L:List Tok) (hE:ZW L):∀ f,Zjq w0 bp vL L f (Zv L (ex7 L) f)
 | 0=>fun w s h hd he=>by have:=hd.fuel he;omega
 | f+1=>fun w s h hd he=>by
  have hgo:=ZfX hE (fun g=>ZgB hE (g+1)) f
  have hb:=ZkE hgo (Zkc w0 bp vL L hE f)
  have hex:=fun g=>Zot w0 bp vL L hE g
  have hxo:=fun g=>ZgB (L:=L) hE g
  have h200:=(hd.fuel he).1
  cases h1:isM L [108,101,116] s with
  | true=>exact Zpq w0 w bp vL L s f (ex7 L) hex hxo hb hgo h hd h200 h1
  | false=>
  cases h2:ZaZ L s with
  | true=>exact Zl5 w0 w bp vL L s f (ex7 L) hex hxo hb hgo h hd h200 h1 h2
  | false=>
  cases h3:isM L [111,112,101,110] s with
  | true=>exact Zn0 w0 w bp vL L s f (ex7 L) hex hxo hb hgo h hd h200 h1 h2 h3
  | false=>
  cases h4:isM L [100,111] s with
  | true=>exact ZqE w0 w bp vL L s f (ex7 L) hex hxo hb hgo h hd h200 h1 h2 h3 h4
  | false=>
  cases h5:isM L [115,112,108,105,116] s with
  | true=>exact Zl6 w0 w bp vL L s f (ex7 L) hex hxo hb hgo h hd h200 h1 h2 h3 h4 h5
  | false=>
  cases h6:isM L [99,97,108,108] s with
  | true=>exact ZnY w0 w bp vL L s f (ex7 L) hex hxo hb hgo h hd h200 h1 h2 h3 h4 h5 h6
  | false=>exact ZnZ w0 w bp vL L s f (ex7 L) hex hxo hb hgo h hd h200 h1 h2 h3 h4 h5 h6
end
section
open Go.RowKit
theorem Zln (w0 w:World) (bp:Nat) (vL:Value) (L:List Tok) (s:PS) (f:Nat) (ex st:PS->Tr×PS) (hb:Zcr w0 bp vL L f st) (hgo:Stm L f st) (h:ParS w0 w bp vL L s) (hd:Dp L (f+1) s) (h200:s.deep<=200) :
  Calls Tryz.prog 20 #[.pointer (some ⟨bp,0,none⟩)] w (Zcz w0 bp vL L w (.mk 0 [] [] (Ze L s) (Zaz L ex st (L.length+1) [] s).1) (Zaz L ex st (L.length+1) [] s).2):=by
 obtain ⟨R,hR⟩:∃ R,R=Zaz L ex st (L.length+1) [] s:=⟨_,rfl⟩
 rw [<- hR]
 have HR:=zh (zi hR (zi hd h200))
 have HB:=zh (zi hb hgo)
 clear hR hd h200 hb hgo
 obtain ⟨iS,hS,zS0,zS1,zS2⟩:=info_parts Zbd
 obtain ⟨iU,hU,zU0,zU1,zU2⟩:=info_parts Zbl
 obtain ⟨iN,hN,zN0,zN1,zN2⟩:=info_parts Za8
 have a0:=below_alloc1 w (.cells #[.int .i64 0,.slice none 0 0,.slice none 0 0,.slice none 0 0,.int .i64 0,.slice none 0 0] 58)
 have ha:=h.keep a0
 generalize hwa:w.alloc (.cells #[.int .i64 0,.slice none 0 0,.slice none 0 0,.slice none 0 0,.int .i64 0,.slice none 0 0] 58)=wa at *
 have RB:=zh (Zar w0 wa bp vL L s 0 ha)
 have H:=zh h
 have HZ:=zh h.size0
 clear a0 ha h
 go_enter Tryz.func20,Tryz.ntmps20
 go_upto_region 2 with (go_at_call 46;(with_reducible refine RB.out.mono ?_);rintro e w1 ⟨rfl,hb⟩;have B1:=zh hb;clear hb)
 have G2:=zh (Gn.start (k:=0) (p:=Ze L s) H.out hwa B1.out)
 clear hwa RB
 generalize w1.alloc (.cells #[.int .i64 0,.slice none 0 0,.slice none 0 0,.slice none 0 0,.int .i64 (Ze L s),.slice none 0 0] 58)=w2 at *
 clear B1
 generalize w1.heap.size=b at *
 go_upto_region 2 with fail
 have FEW:=zh G2.out.P.few.1
 go_loopg [] (L.length+1) (fun g wr=>∃ (l:List Tr) (t:PS) (x:NV) (vs:List (NV×Tr)),R=Zaz L ex st g l t/\(Dp L (f+1) t/\PS.deep t<=200)/\(t.err=0->L.length-t.at_<g)/\vs.length+g<=L.length+1/\vs.map (·.2)=l/\Gn w0 w wr bp b w.heap.size vL L t x 0 (Ze L s) [] [] vs)
 case atStart=>exact ⟨[],_,_,[],HR.out.1,HR.out.2,fun _=>by omega,by simp,rfl,G2.out⟩
 case round=>
  obtain ⟨l,t,x,vs,hr,hD,hf,hlen,hvl,hG⟩:=hrel
  have SH:=hG.shape
  obtain ⟨xA,xn,xc,xB,xm,xd,xC,xq,xe,rfl⟩:=SH
  clear G2
  have G40:=zh hG
  have LB:=zh (show vs.length<=100004 by have:=FEW.out;omega)
  clear hG
  by_cases he:t.err=0
  ·skip
   have hk0:(t.err==0)=true:=by simp [he]
   obtain ⟨tk,tt,ta,ht⟩:∃ tk tt ta,ZaK L t=(tk,tt,ta):=⟨_,_,_,rfl⟩
   have CT:=zh (ZdM w0 wr bp vL L t G40.out.P)
   rw [ht] at CT
   have hfd:=fun w=>ZeW tk tt ta w
   by_cases h3:tk=3
   ·skip
    have hr2:R=(l,t):=by
     rw [hr]
     cases gk with
     | zero=>rfl
     | succ g2=>rw [Zaz,if_neg (by rw [ht];simp [h3])]
    have hk1:((tk:Int) != 3)=false:=by rw [h3];rfl
    have HQ:=zh (zi hr2 hvl)
    clear hr hr2 hD hf hlen hvl he ht h3
    obtain ⟨c0,c1,c2,c3,c4⟩:=G40.out.P.cells
    have cf:=G40.out.P.frees
    go_upto_region 8 with (go_at_call 47;(with_reducible refine CT.out.mono ?_);rintro e w41 ⟨rfl,hb⟩;have G41:=zh (G40.out.below hb);clear hb)
    clear c0 c1 c2 c3 c4 cf
    clear hk0 hk1 hfd CT G40
    obtain ⟨hr2,hvl⟩:=HQ.out
    subst hr2
    subst hvl
    obtain ⟨q0,q1,q2,q3,q4,q5⟩:=G41.out.cells
    dsimp only at q1 q2 q5
    have qf:=G41.out.free
    obtain ⟨z0,z1,z2,z3,z4,z5⟩:=G41.out.zeros HZ.out
    have zf:=G41.out.rfree HZ.out
    have so:=Zy
    go_wp2_with fail
    obtain ⟨r0,r1,r2,r3,r4,r5⟩:=ZaH (G41.out.R HZ.out) (.int .i64 0) (.slice xA xn xc) (.slice xB xm xd) (.slice none 0 0) (.int .i64 (Ze L s)) (.slice xC xq xe)
    obtain ⟨o1,o2,o3⟩:=G41.out.out HZ.out (.int .i64 0) (.slice xA xn xc) (.slice xB xm xd) (.slice none 0 0) (.int .i64 (Ze L s)) (.slice xC xq xe)
    exact bodyPost_ret (v:=.agg #[.int .i64 0,(.slice xA xn xc),(.slice xB xm xd),.slice none 0 0,.int .i64 (Ze L s),(.slice xC xq xe)]) (by simp [results,Tryz.results20,go_sem,so,r0,r1,r2,r3,r4,r5]) rfl ⟨((.slice xA xn xc),(.slice xB xm xd),(.slice xC xq xe)),rfl,o1,o2,o3⟩
   ·skip
    obtain ⟨g2,rfl⟩:∃ g2,gk=g2+1:=⟨gk-1,by have:=hf he;omega⟩
    have hk1:((tk:Int) != 3)=true:=by simp;omega
    have hr1:R=if isM L [112,114,111,116,111] t then Zaz L ex st g2 (l++[(ZbL L t).1]) (ZbL L t).2 else if isM L [102,110] t then Zaz L ex st g2 (l++[(fnM L ex st t).1]) (fnM L ex st t).2 else Zaz L ex st g2 l (Zb4 L 11 t):=by rw [hr,Zaz,if_pos ⟨he,by rw [ht];exact h3⟩]
    have HK0:=zh (zi hr1 (zi (hf he) (zi hlen (zi hvl (zi he hD)))))
    clear hr hr1 hD hf hlen hvl he ht h3
    obtain ⟨c0,c1,c2,c3,c4⟩:=G40.out.P.cells
    have cf:=G40.out.P.frees
    go_upto_region 3 with (go_at_call 47;(with_reducible refine CT.out.mono ?_);rintro e w41 ⟨rfl,hb⟩;have G41:=zh (G40.out.below hb);clear hb)
    clear c0 c1 c2 c3 c4 cf
    clear hk0 hk1 hfd CT G40
    have GT:=zh G41.out
    have CI:=zh (ZdU w0 w41 bp vL L t [112,114,111,116,111] G41.out.P)
    by_cases hp:isM L [112,114,111,116,111] t=true
    ·skip
     have HK:=zh (show R=Zaz L ex st g2 (l++[(ZbL L t).1]) (ZbL L t).2 by rw [HK0.out.1,if_pos hp])
     rw [hp] at CI
     clear hp
     go_upto_region 4 with (go_at_call 48;(with_reducible refine CI.out.mono ?_);rintro e w61 ⟨rfl,hb⟩;have G61:=zh (G41.out.below hb);clear hb)
     clear CI
     (try go_upto_region 4 with fail)
     refine ZdV 20 0 3 G61.out (by have:=LB.out;(try simp only [List.length_append,List.length_cons,List.length_nil]);omega) (by intro _ _;go_simp) (fun wr hP=>ZnX w0 wr bp vL L t hP) (fun v5 A63 n63 c63 y63 w63 hG=>?_)
     (try dsimp only at hG)
     have G63:=zh hG
     clear hG G61
     (try simp only [cl,Act.put])
     go_wp2_with fail
     go_roundg g2
     case measure=>omega
     case rel=>
      have AD:Gon L t (ZbL L t).2:=Zg9 GT.out.P.few.2.1 GT.out.P.lt
      refine ⟨_,_,_,_,HK.out,(ZR (f+1)).next _ _ HK0.out.2.2.2.2.2 AD.toAdv,fun q=>?_,?_,?_,G63.out⟩
      ·have:=AD.on q
       have:=HK0.out.2.1
       have:PS.at_ (ZbL L t).2<L.length:=G63.out.P.lt
       omega
      ·have:=HK0.out.2.2.1
       simp only [List.length_append,List.length_cons,List.length_nil]
       omega
      ·rw [List.map_append,HK0.out.2.2.2.1];rfl
    ·skip
     have hp0:isM L [112,114,111,116,111] t=false:=by simpa using hp
     rw [hp0] at CI
     clear hp0
     go_upto_region 5 with (go_at_call 48;(with_reducible refine CI.out.mono ?_);rintro e w61 ⟨rfl,hb⟩;have G61:=zh (G41.out.below hb);clear hb)
     clear CI
     have CI:=zh (ZdU w0 w61 bp vL L t [102,110] G61.out.P)
     by_cases hq:isM L [102,110] t=true
     ·skip
      have HK:=zh (show R=Zaz L ex st g2 (l++[(fnM L ex st t).1]) (fnM L ex st t).2 by rw [HK0.out.1,if_neg hp,if_pos hq])
      rw [hq] at CI
      clear hp hq
      go_upto_region 6 with (go_at_call 48;(with_reducible refine CI.out.mono ?_);rintro e w62 ⟨rfl,hb⟩;have G62:=zh (G61.out.below hb);clear hb)
      clear CI
      (try go_upto_region 6 with fail)
      refine ZdV 29 0 3 G62.out (by have:=LB.out;(try simp only [List.length_append,List.length_cons,List.length_nil]);omega) (by intro _ _;go_simp) (fun wr hP=>ZrN w0 wr bp vL L t f ex st HB.out.1 hP HK0.out.2.2.2.2.2.1 HK0.out.2.2.2.2.2.2) (fun v5 A64 n64 c64 y64 w64 hG=>?_)
      (try dsimp only at hG)
      have G64:=zh hG
      clear hG G62
      (try simp only [cl,Act.put])
      go_wp2_with fail
      go_roundg g2
      case measure=>omega
      case rel=>
       have AD:Gon L t (fnM L ex st t).2:=Zku GT.out.P.few.2.1 HB.out.2 HK0.out.2.2.2.2.2.1 HK0.out.2.2.2.2.2.2
       refine ⟨_,_,_,_,HK.out,(ZR (f+1)).next _ _ HK0.out.2.2.2.2.2 AD.toAdv,fun q=>?_,?_,?_,G64.out⟩
       ·have:=AD.on q
        have:=HK0.out.2.1
        have:PS.at_ (fnM L ex st t).2<L.length:=G64.out.P.lt
        omega
       ·have:=HK0.out.2.2.1
        simp only [List.length_append,List.length_cons,List.length_nil]
        omega
       ·rw [List.map_append,HK0.out.2.2.2.1];rfl
     ·skip
      have HK:=zh (show R=Zaz L ex st g2 l (Zb4 L 11 t) by rw [HK0.out.1,if_neg hp,if_neg hq])
      have hq0:isM L [102,110] t=false:=by simpa using hq
      rw [hq0] at CI
      clear hp hq hq0
      go_upto_region 7 with (go_at_call 48;(with_reducible refine CI.out.mono ?_);rintro e w62 ⟨rfl,hb⟩;have G62:=zh (G61.out.below hb);clear hb)
      clear CI
      have CT:=zh (ZdD w0 w62 bp vL L t 11 G62.out.P)
      go_wp2_with (go_at_call 51;(with_reducible refine CT.out.mono ?_);rintro e w63 ⟨rfl,hp,hf⟩;have G63:=zh (G62.out.call hp hf);clear hp hf)
      go_roundg g2
      case measure=>omega
      case rel=>
       have AD:Gon L t (Zb4 L 11 t):=ZeG (by decide) t
       refine ⟨_,_,_,_,HK.out,(ZR (f+1)).next _ _ HK0.out.2.2.2.2.2 AD.toAdv,fun q=>?_,?_,HK0.out.2.2.2.1,G63.out⟩
       ·have:=AD.on q
        have:=HK0.out.2.1
        have:PS.at_ (Zb4 L 11 t)<L.length:=G63.out.P.lt
        omega
       ·have:=HK0.out.2.2.1
        omega
  ·skip
   have hr2:R=(l,t):=by
    rw [hr]
    cases gk with
    | zero=>rfl
    | succ g2=>rw [Zaz,if_neg (by simp [he])]
   have hk0:(t.err==0)=false:=by simp [he]
   have HQ:=zh (zi hr2 hvl)
   clear hr hr2 hD hf hlen hvl he
   obtain ⟨c0,c1,c2,c3,c4⟩:=G40.out.P.cells
   have cf:=G40.out.P.frees
   go_upto_region 8 with fail
   clear c0 c1 c2 c3 c4 cf
   clear hk0
   obtain ⟨hr2,hvl⟩:=HQ.out
   subst hr2
   subst hvl
   obtain ⟨q0,q1,q2,q3,q4,q5⟩:=G40.out.cells
   dsimp only at q1 q2 q5
   have qf:=G40.out.free
   obtain ⟨z0,z1,z2,z3,z4,z5⟩:=G40.out.zeros HZ.out
   have zf:=G40.out.rfree HZ.out
   have so:=Zy
   go_wp2_with fail
   obtain ⟨r0,r1,r2,r3,r4,r5⟩:=ZaH (G40.out.R HZ.out) (.int .i64 0) (.slice xA xn xc) (.slice xB xm xd) (.slice none 0 0) (.int .i64 (Ze L s)) (.slice xC xq xe)
   obtain ⟨o1,o2,o3⟩:=G40.out.out HZ.out (.int .i64 0) (.slice xA xn xc) (.slice xB xm xd) (.slice none 0 0) (.int .i64 (Ze L s)) (.slice xC xq xe)
   exact bodyPost_ret (v:=.agg #[.int .i64 0,(.slice xA xn xc),(.slice xB xm xd),.slice none 0 0,.int .i64 (Ze L s),(.slice xC xq xe)]) (by simp [results,Tryz.results20,go_sem,so,r0,r1,r2,r3,r4,r5]) rfl ⟨((.slice xA xn xc),(.slice xB xm xd),(.slice xC xq xe)),rfl,o1,o2,o3⟩
end
end Go.Proofs.YtkongcicmajolaaGreatDoor
