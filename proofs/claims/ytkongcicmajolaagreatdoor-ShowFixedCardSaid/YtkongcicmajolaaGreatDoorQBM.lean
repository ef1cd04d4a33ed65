import Derived.Test.YtkongcicmajolaaGreatDoorQBK
import Derived.Test.YtkongcicmajolaaGreatDoorQBL
set_option maxRecDepth 100000
set_option maxHeartbeats 8000000
namespace Go.Proofs.YtkongcicmajolaaGreatDoor
section
open Go.RowKit
theorem Zpq (w0 w:World) (bp:Nat) (vL:Value) (L:List Tok) (s:PS) (f:Nat) (ex:PS->Tr×PS) (hex:∀ g,ZbH 122 w0 bp vL L (Dp L g) ex) (_hxo:∀ g,Onw L (Dp L g) ex) (hb:Zcr w0 bp vL L f (Zv L ex f)) (hgo:Stm L f (Zv L ex f)) (h:ParS w0 w bp vL L s) (hd:Dp L (f+1) s) (h200:s.deep<=200) (h1:isM L [108,101,116] s=true) :
  Calls Tryz.prog 101 #[.pointer (some ⟨bp,0,none⟩)] w (Zcz w0 bp vL L w (Zv L ex (f+1) s).1 (Zv L ex (f+1) s).2):=by
 have hM:Zv L ex (f+1) s=(.mk 8 [(Zb L (Zd s)).1] [] (Ze L s) [(ex (Zf L [61] (Zb L (Zd s)).2)).1],Zf L [59] (ex (Zf L [61] (Zb L (Zd s)).2)).2):=by rw [Zv];simp only [h1,if_true]
 rw [hM]
 clear hM
 have D:=ZR (L:=L) (f+1)
 have d0:=(show Dp L (f+1) s/\s.deep<=200 from ⟨hd,h200⟩)
 have hE:=h.few.2.1
 have g1:=ZC hE h.lt h1
 have d1:=D.next _ _ d0 g1.toAdv
 have d2:=D.next _ _ d1 (Zo hE d1.1.lt).toAdv
 have d3:=D.next _ _ d2 (Zq hE [61] d2.1.lt).toAdv
 have HX:=zh (zi hex (zi hb hgo))
 have HD:=zh d3.1
 have HW:=zh h1
 clear d3 d2 d1 g1 hE d0 D hd h200 hex _hxo hb hgo
 obtain ⟨iS,hS,zS0,zS1,zS2⟩:=info_parts Zbd
 obtain ⟨iU,hU,zU0,zU1,zU2⟩:=info_parts Zbl
 obtain ⟨iN,hN,zN0,zN1,zN2⟩:=info_parts Za8
 have a0:=below_alloc1 w (.cells #[.int .i64 0,.slice none 0 0,.slice none 0 0,.slice none 0 0,.int .i64 0,.slice none 0 0] 58)
 have ha:=h.keep a0
 generalize hwa:w.alloc (.cells #[.int .i64 0,.slice none 0 0,.slice none 0 0,.slice none 0 0,.int .i64 0,.slice none 0 0] 58)=wa at *
 have RB:=zh (Zar w0 wa bp vL L s 8 ha)
 have H:=zh h
 have HZ:=zh h.size0
 clear a0 ha h
 go_enter Tryz.func101,Tryz.ntmps101
 go_upto_region 2 with (go_at_call 46;(with_reducible refine RB.out.mono ?_);rintro e w1 ⟨rfl,hb⟩;have B1:=zh hb;clear hb)
 have G2:=zh (Gn.start (k:=8) (p:=Ze L s) H.out hwa B1.out)
 clear hwa RB
 generalize w1.alloc (.cells #[.int .i64 8,.slice none 0 0,.slice none 0 0,.slice none 0 0,.int .i64 (Ze L s),.slice none 0 0] 58)=w2 at *
 clear B1
 generalize w1.heap.size=b at *
 have CI:=zh (ZdU w0 w2 bp vL L s [108,101,116] G2.out.P)
 rw [h1] at CI
 clear h1
 go_upto_region 4 with (go_at_call 48;(with_reducible refine CI.out.mono ?_);rintro e w3 ⟨rfl,hb⟩;have G3:=zh (G2.out.below hb);clear hb)
 clear CI G2
 have CT:=zh (ZY (y:=[108,101,116]) G3.out.P HW.out)
 go_upto_region 6 with (go_at_call 73;(with_reducible refine CT.out.mono ?_);rintro e w5 ⟨rfl,hp,hf⟩;have G5:=zh (G3.out.call hp hf);clear hp hf)
 clear G3
 clear CT
 (try go_upto_region 6 with fail)
 refine Zbg 20 0 3 G5.out (by simp) (fun v5 A6 n6 c6 w6 hG=>?_)
 (try dsimp only at hG)
 have G6:=zh hG
 clear hG G5
 (try simp only [cl,Act.put])
 (try go_upto_region 7 with fail)
 have CT:=zh (Zad w0 w6 bp vL L (Zb L (Zd s)).2 [61] G6.out.P)
 go_upto_region 8 with (go_at_call 71;(with_reducible refine CT.out.mono ?_);rintro e w7 ⟨rfl,hp,hf⟩;have G7:=zh (G6.out.call hp hf);clear hp hf)
 clear G6
 clear CT
 (try go_upto_region 8 with fail)
 have LO:=G7.out.loose
 obtain ⟨A8,n8,c8,B8,m8,d8,C8,q8,e8,hL⟩:=LO
 have G8:=zh hL
 clear hL G7
 (try go_upto_region 8 with fail)
 refine Zgj 31 0 3 G8.out (by simp) (by intro _ _;go_simp) (fun wr hP=>HX.out.1 (f+1) wr _ hP HD.out) (fun v7 g9 c9 y9 w9 hG=>?_)
 (try dsimp only at hG)
 have G9:=zh hG
 clear hG G8
 (try simp only [cl,Act.put])
 (try go_upto_region 9 with fail)
 have CT:=zh (Zad w0 w9 bp vL L (ex (Zf L [61] (Zb L (Zd s)).2)).2 [59] G9.out.P)
 go_upto_region 32 with (go_at_call 71;(with_reducible refine CT.out.mono ?_);rintro e w10 ⟨rfl,hp,hf⟩;have G10:=zh (G9.out.call hp hf);clear hp hf)
 clear G9
 clear CT
 obtain ⟨q0,q1,q2,q3,q4,q5⟩:=G10.out.cells
 dsimp only at q1 q2 q5
 have qf:=G10.out.free
 obtain ⟨z0,z1,z2,z3,z4,z5⟩:=G10.out.zeros HZ.out
 have zf:=G10.out.rfree HZ.out
 have so:=Zy
 go_wp2_with fail
 obtain ⟨r0,r1,r2,r3,r4,r5⟩:=ZaH (G10.out.R HZ.out) (.int .i64 8) (.slice A8 n8 c8) (.slice B8 m8 d8) (.slice none 0 0) (.int .i64 (Ze L s)) (.slice (some ⟨g9,0,none⟩) (q8+1) c9)
 obtain ⟨o1,o2,o3⟩:=G10.out.out HZ.out (.int .i64 8) (.slice A8 n8 c8) (.slice B8 m8 d8) (.slice none 0 0) (.int .i64 (Ze L s)) (.slice (some ⟨g9,0,none⟩) (q8+1) c9)
 exact bodyPost_ret (v:=.agg #[.int .i64 8,(.slice A8 n8 c8),(.slice B8 m8 d8),.slice none 0 0,.int .i64 (Ze L s),(.slice (some ⟨g9,0,none⟩) (q8+1) c9)]) (by simp [results,Tryz.results101,go_sem,so,r0,r1,r2,r3,r4,r5]) rfl ⟨((.slice A8 n8 c8),(.slice B8 m8 d8),(.slice (some ⟨g9,0,none⟩) (q8+1) c9)),rfl,o1,o2,o3⟩
theorem Zl5 (w0 w:World) (bp:Nat) (vL:Value) (L:List Tok) (s:PS) (f:Nat) (ex:PS->Tr×PS) (hex:∀ g,ZbH 122 w0 bp vL L (Dp L g) ex) (_hxo:∀ g,Onw L (Dp L g) ex) (hb:Zcr w0 bp vL L f (Zv L ex f)) (hgo:Stm L f (Zv L ex f)) (h:ParS w0 w bp vL L s) (hd:Dp L (f+1) s) (h200:s.deep<=200) (h1:isM L [108,101,116] s=false) (h2:ZaZ L s=true) :
  Calls Tryz.prog 101 #[.pointer (some ⟨bp,0,none⟩)] w (Zcz w0 bp vL L w (Zv L ex (f+1) s).1 (Zv L ex (f+1) s).2):=by
 have hM:Zv L ex (f+1) s=(.mk 9 [(Zb L s).1] [] (Ze L s) [(ex (Zf L [61] (Zb L s).2)).1],Zf L [59] (ex (Zf L [61] (Zb L s).2)).2):=by rw [Zv];simp only [h1,h2,if_true,Bool.false_eq_true,if_false]
 rw [hM]
 clear hM
 have D:=ZR (L:=L) (f+1)
 have d0:=(show Dp L (f+1) s/\s.deep<=200 from ⟨hd,h200⟩)
 have hE:=h.few.2.1
 have d2:=D.next _ _ d0 (Zo hE h.lt).toAdv
 have d3:=D.next _ _ d2 (Zq hE [61] d2.1.lt).toAdv
 have HX:=zh (zi hex (zi hb hgo))
 have HD:=zh d3.1
 have HW:=zh h1
 clear d3 d2 hE d0 D hd h200 hex _hxo hb hgo
 obtain ⟨iS,hS,zS0,zS1,zS2⟩:=info_parts Zbd
 obtain ⟨iU,hU,zU0,zU1,zU2⟩:=info_parts Zbl
 obtain ⟨iN,hN,zN0,zN1,zN2⟩:=info_parts Za8
 have a0:=below_alloc1 w (.cells #[.int .i64 0,.slice none 0 0,.slice none 0 0,.slice none 0 0,.int .i64 0,.slice none 0 0] 58)
 have ha:=h.keep a0
 generalize hwa:w.alloc (.cells #[.int .i64 0,.slice none 0 0,.slice none 0 0,.slice none 0 0,.int .i64 0,.slice none 0 0] 58)=wa at *
 have RB:=zh (Zar w0 wa bp vL L s 8 ha)
 have H:=zh h
 have HZ:=zh h.size0
 clear a0 ha h
 go_enter Tryz.func101,Tryz.ntmps101
 go_upto_region 2 with (go_at_call 46;(with_reducible refine RB.out.mono ?_);rintro e w1 ⟨rfl,hb⟩;have B1:=zh hb;clear hb)
 have G2:=zh (Gn.start (k:=8) (p:=Ze L s) H.out hwa B1.out)
 clear hwa RB
 generalize w1.alloc (.cells #[.int .i64 8,.slice none 0 0,.slice none 0 0,.slice none 0 0,.int .i64 (Ze L s),.slice none 0 0] 58)=w2 at *
 clear B1
 generalize w1.heap.size=b at *
 have CI:=zh (ZdU w0 w2 bp vL L s [108,101,116] G2.out.P)
 rw [h1] at CI
 have CN:∀ W:World,ParS w0 W bp vL L s->Calls Tryz.prog 96 #[.pointer (some ⟨bp,0,none⟩)] W fun e w'=>e=.returned (.bool true)/\Below W.heap.size W w':=fun W hW=>by
  have q:=ZcT w0 W bp vL L s hW
  rw [h2] at q
  exact q
 have CNH:=zh CN
 clear CN
 clear h1 h2
 go_upto_region 4 with (first | (go_at_call 48;(with_reducible refine CI.out.mono ?_);rintro e w3 ⟨rfl,hb⟩;have G3:=zh (G2.out.below hb);clear hb) | (go_at_call 96;(with_reducible refine (CNH.out _ G3.out.P).mono ?_);rintro e w4 ⟨rfl,hb⟩;have G4:=zh (G3.out.below hb);clear hb))
 clear CI CNH G2 G3
 have CT:=zh (ZQ (y:=[108,101,116]) G4.out.P HW.out)
 go_upto_region 5 with (go_at_call 73;(with_reducible refine CT.out.mono ?_);rintro e w5 ⟨rfl,hp,hf⟩;have G5:=zh (G4.out.call hp hf);clear hp hf)
 clear G4
 clear CT
 obtain ⟨q0,q1,q2,q3,q4,q5⟩:=G5.out.cells
 dsimp only at q1 q2 q5
 have qf:=G5.out.free
 go_upto_region 6 with fail
 clear q0 q1 q2 q3 q4 q5 qf
 have G6:=zh (G5.out.setk 9)
 clear G5
 generalize w5.setCell ⟨b,0,none⟩ (.int .i64 9)=w6 at *
 (try go_upto_region 6 with fail)
 refine Zbg 20 0 3 G6.out (by simp) (fun v5 A7 n7 c7 w7 hG=>?_)
 (try dsimp only at hG)
 have G7:=zh hG
 clear hG G6
 (try simp only [cl,Act.put])
 (try go_upto_region 7 with fail)
 have CT:=zh (Zad w0 w7 bp vL L (Zb L s).2 [61] G7.out.P)
 go_upto_region 8 with (go_at_call 71;(with_reducible refine CT.out.mono ?_);rintro e w8 ⟨rfl,hp,hf⟩;have G8:=zh (G7.out.call hp hf);clear hp hf)
 clear G7
 clear CT
 (try go_upto_region 8 with fail)
 have LO:=G8.out.loose
 obtain ⟨A9,n9,c9,B9,m9,d9,C9,q9,e9,hL⟩:=LO
 have G9:=zh hL
 clear hL G8
 (try go_upto_region 8 with fail)
 refine Zgj 31 0 3 G9.out (by simp) (by intro _ _;go_simp) (fun wr hP=>HX.out.1 (f+1) wr _ hP HD.out) (fun v7 g10 c10 y10 w10 hG=>?_)
 (try dsimp only at hG)
 have G10:=zh hG
 clear hG G9
 (try simp only [cl,Act.put])
 (try go_upto_region 9 with fail)
 have CT:=zh (Zad w0 w10 bp vL L (ex (Zf L [61] (Zb L s).2)).2 [59] G10.out.P)
 go_upto_region 32 with (go_at_call 71;(with_reducible refine CT.out.mono ?_);rintro e w11 ⟨rfl,hp,hf⟩;have G11:=zh (G10.out.call hp hf);clear hp hf)
 clear G10
 clear CT
 obtain ⟨q0,q1,q2,q3,q4,q5⟩:=G11.out.cells
 dsimp only at q1 q2 q5
 have qf:=G11.out.free
 obtain ⟨z0,z1,z2,z3,z4,z5⟩:=G11.out.zeros HZ.out
 have zf:=G11.out.rfree HZ.out
 have so:=Zy
 go_wp2_with fail
 obtain ⟨r0,r1,r2,r3,r4,r5⟩:=ZaH (G11.out.R HZ.out) (.int .i64 9) (.slice A9 n9 c9) (.slice B9 m9 d9) (.slice none 0 0) (.int .i64 (Ze L s)) (.slice (some ⟨g10,0,none⟩) (q9+1) c10)
 obtain ⟨o1,o2,o3⟩:=G11.out.out HZ.out (.int .i64 9) (.slice A9 n9 c9) (.slice B9 m9 d9) (.slice none 0 0) (.int .i64 (Ze L s)) (.slice (some ⟨g10,0,none⟩) (q9+1) c10)
 exact bodyPost_ret (v:=.agg #[.int .i64 9,(.slice A9 n9 c9),(.slice B9 m9 d9),.slice none 0 0,.int .i64 (Ze L s),(.slice (some ⟨g10,0,none⟩) (q9+1) c10)]) (by simp [results,Tryz.results101,go_sem,so,r0,r1,r2,r3,r4,r5]) rfl ⟨((.slice A9 n9 c9),(.slice B9 m9 d9),(.slice (some ⟨g10,0,none⟩) (q9+1) c10)),rfl,o1,o2,o3⟩
end
section
open Go.RowKit
theorem Zn0 (w0 w:World) (bp:Nat) (vL:Value) (L:List Tok) (s:PS) (f:Nat) (ex:PS->Tr×PS) (hex:∀ g,ZbH 122 w0 bp vL L (Dp L g) ex) (_hxo:∀ g,Onw L (Dp L g) ex) (hb:Zcr w0 bp vL L f (Zv L ex f)) (hgo:Stm L f (Zv L ex f)) (h:ParS w0 w bp vL L s) (hd:Dp L (f+1) s) (h200:s.deep<=200) (h1:isM L [108,101,116] s=false) (h2:ZaZ L s=false) (h3:isM L [111,112,101,110] s=true) :
  Calls Tryz.prog 101 #[.pointer (some ⟨bp,0,none⟩)] w (Zcz w0 bp vL L w (Zv L ex (f+1) s).1 (Zv L ex (f+1) s).2):=by
 have hM:Zv L ex (f+1) s=(.mk 10 [(Zb L (Zd s)).1,(Zb L (Zb L (Zd s)).2).1] [] (Ze L s) [(Zag L (Zv L ex f) (Zb L (Zb L (Zd s)).2).2).1,(Zag L (Zv L ex f) (Zf L [101,108,115,101] (Zag L (Zv L ex f) (Zb L (Zb L (Zd s)).2).2).2)).1],(Zag L (Zv L ex f) (Zf L [101,108,115,101] (Zag L (Zv L ex f) (Zb L (Zb L (Zd s)).2).2).2)).2):=by rw [Zv];simp only [h1,h2,h3,if_true,Bool.false_eq_true,if_false]
 rw [hM]
 clear hM
 have D:=ZR (L:=L) (f+1)
 have d0:=(show Dp L (f+1) s/\s.deep<=200 from ⟨hd,h200⟩)
 have hE:=h.few.2.1
 have g1:=ZC hE h.lt h3
 have d1:=D.next _ _ d0 g1.toAdv
 have d2:=D.next _ _ d1 (Zo hE d1.1.lt).toAdv
 have d3:=D.next _ _ d2 (Zo hE d2.1.lt).toAdv
 have d4:=D.next _ _ d3 (Zbz hE hgo.adv d3.1 d3.2).toAdv
 have d5:=D.next _ _ d4 (Zq hE [101,108,115,101] d4.1.lt).toAdv
 have HX:=zh (zi hex (zi hb hgo))
 have HD:=zh (zi d3 d5)
 have HW:=zh h3
 clear d5 d4 d3 d2 d1 g1 hE d0 D hd h200 hex _hxo hb hgo
 clear h3
 obtain ⟨iS,hS,zS0,zS1,zS2⟩:=info_parts Zbd
 obtain ⟨iU,hU,zU0,zU1,zU2⟩:=info_parts Zbl
 obtain ⟨iN,hN,zN0,zN1,zN2⟩:=info_parts Za8
 have a0:=below_alloc1 w (.cells #[.int .i64 0,.slice none 0 0,.slice none 0 0,.slice none 0 0,.int .i64 0,.slice none 0 0] 58)
 have ha:=h.keep a0
 generalize hwa:w.alloc (.cells #[.int .i64 0,.slice none 0 0,.slice none 0 0,.slice none 0 0,.int .i64 0,.slice none 0 0] 58)=wa at *
 have RB:=zh (Zar w0 wa bp vL L s 8 ha)
 have H:=zh h
 have HZ:=zh h.size0
 clear a0 ha h
 go_enter Tryz.func101,Tryz.ntmps101
 go_upto_region 2 with (go_at_call 46;(with_reducible refine RB.out.mono ?_);rintro e w1 ⟨rfl,hb⟩;have B1:=zh hb;clear hb)
 have G2:=zh (Gn.start (k:=8) (p:=Ze L s) H.out hwa B1.out)
 clear hwa RB
 generalize w1.alloc (.cells #[.int .i64 8,.slice none 0 0,.slice none 0 0,.slice none 0 0,.int .i64 (Ze L s),.slice none 0 0] 58)=w2 at *
 clear B1
 generalize w1.heap.size=b at *
 have CI:=zh (ZdU w0 w2 bp vL L s [108,101,116] G2.out.P)
 rw [h1] at CI
 have CN:∀ W:World,ParS w0 W bp vL L s->Calls Tryz.prog 96 #[.pointer (some ⟨bp,0,none⟩)] W fun e w'=>e=.returned (.bool false)/\Below W.heap.size W w':=fun W hW=>by
  have q:=ZcT w0 W bp vL L s hW
  rw [h2] at q
  exact q
 have CNH:=zh CN
 clear CN
 clear h1 h2
 go_upto_region 10 with (first | (go_at_call 48;(with_reducible refine CI.out.mono ?_);rintro e w3 ⟨rfl,hb⟩;have G3:=zh (G2.out.below hb);clear hb) | (go_at_call 96;(with_reducible refine (CNH.out _ G3.out.P).mono ?_);rintro e w4 ⟨rfl,hb⟩;have G4:=zh (G3.out.below hb);clear hb))
 clear CI CNH G2 G3
 have CT:=zh (ZY (y:=[111,112,101,110]) G4.out.P HW.out)
 go_upto_region 11 with (go_at_call 73;(with_reducible refine CT.out.mono ?_);rintro e w5 ⟨rfl,hp,hf⟩;have G5:=zh (G4.out.call hp hf);clear hp hf)
 clear G4
 clear CT
 obtain ⟨q0,q1,q2,q3,q4,q5⟩:=G5.out.cells
 dsimp only at q1 q2 q5
 have qf:=G5.out.free
 go_upto_region 12 with fail
 clear q0 q1 q2 q3 q4 q5 qf
 have G6:=zh (G5.out.setk 10)
 clear G5
 generalize w5.setCell ⟨b,0,none⟩ (.int .i64 10)=w6 at *
 (try go_upto_region 12 with fail)
 refine Zbg 47 0 3 G6.out (by simp) (fun v5 A7 n7 c7 w7 hG=>?_)
 (try dsimp only at hG)
 have G7:=zh hG
 clear hG G6
 (try simp only [cl,Act.put])
 (try go_upto_region 13 with fail)
 refine Zbg 56 0 3 G7.out (by simp) (fun v5 A8 n8 c8 w8 hG=>?_)
 (try dsimp only at hG)
 have G8:=zh hG
 clear hG G7
 (try simp only [cl,Act.put])
 (try go_upto_region 14 with fail)
 have LO:=G8.out.loose
 obtain ⟨A9,n9,c9,B9,m9,d9,C9,q9,e9,hL⟩:=LO
 have G9:=zh hL
 clear hL G8
 (try go_upto_region 14 with fail)
 refine Zgj 65 0 3 G9.out (by simp) (by intro _ _;go_simp) (fun wr hP=>HX.out.2.1 wr _ hP HD.out.1) (fun v7 g10 c10 y10 w10 hG=>?_)
 (try dsimp only at hG)
 have G10:=zh hG
 clear hG G9
 (try simp only [cl,Act.put])
 (try go_upto_region 15 with fail)
 have CT:=zh (Zad w0 w10 bp vL L (Zag L (Zv L ex f) (Zb L (Zb L (Zd s)).2).2).2 [101,108,115,101] G10.out.P)
 go_upto_region 16 with (go_at_call 71;(with_reducible refine CT.out.mono ?_);rintro e w11 ⟨rfl,hp,hf⟩;have G11:=zh (G10.out.call hp hf);clear hp hf)
 clear G10
 clear CT
 (try go_upto_region 16 with fail)
 have LO:=G11.out.loose
 obtain ⟨A12,n12,c12,B12,m12,d12,C12,q12,e12,hL⟩:=LO
 have G12:=zh hL
 clear hL G11
 (try go_upto_region 16 with fail)
 refine Zgj 76 0 3 G12.out (by simp) (by intro _ _;go_simp) (fun wr hP=>HX.out.2.1 wr _ hP HD.out.2) (fun v7 g13 c13 y13 w13 hG=>?_)
 (try dsimp only at hG)
 have G13:=zh hG
 clear hG G12
 (try simp only [cl,Act.put])
 (try go_upto_region 32 with fail)
 obtain ⟨q0,q1,q2,q3,q4,q5⟩:=G13.out.cells
 dsimp only at q1 q2 q5
 have qf:=G13.out.free
 obtain ⟨z0,z1,z2,z3,z4,z5⟩:=G13.out.zeros HZ.out
 have zf:=G13.out.rfree HZ.out
 have so:=Zy
 go_wp2_with fail
 obtain ⟨r0,r1,r2,r3,r4,r5⟩:=ZaH (G13.out.R HZ.out) (.int .i64 10) (.slice A12 n12 c12) (.slice B12 m12 d12) (.slice none 0 0) (.int .i64 (Ze L s)) (.slice (some ⟨g13,0,none⟩) (q12+1) c13)
 obtain ⟨o1,o2,o3⟩:=G13.out.out HZ.out (.int .i64 10) (.slice A12 n12 c12) (.slice B12 m12 d12) (.slice none 0 0) (.int .i64 (Ze L s)) (.slice (some ⟨g13,0,none⟩) (q12+1) c13)
 exact bodyPost_ret (v:=.agg #[.int .i64 10,(.slice A12 n12 c12),(.slice B12 m12 d12),.slice none 0 0,.int .i64 (Ze L s),(.slice (some ⟨g13,0,none⟩) (q12+1) c13)]) (by simp [results,Tryz.results101,go_sem,so,r0,r1,r2,r3,r4,r5]) rfl ⟨((.slice A12 n12 c12),(.slice B12 m12 d12),(.slice (some ⟨g13,0,none⟩) (q12+1) c13)),rfl,o1,o2,o3⟩
theorem Zl6 (w0 w:World) (bp:Nat) (vL:Value) (L:List Tok) (s:PS) (f:Nat) (ex:PS->Tr×PS) (hex:∀ g,ZbH 122 w0 bp vL L (Dp L g) ex) (_hxo:∀ g,Onw L (Dp L g) ex) (hb:Zcr w0 bp vL L f (Zv L ex f)) (hgo:Stm L f (Zv L ex f)) (h:ParS w0 w bp vL L s) (hd:Dp L (f+1) s) (h200:s.deep<=200) (h1:isM L [108,101,116] s=false) (h2:ZaZ L s=false) (h3:isM L [111,112,101,110] s=false) (h4:isM L [100,111] s=false) (h5:isM L [115,112,108,105,116] s=true) :
  Calls Tryz.prog 101 #[.pointer (some ⟨bp,0,none⟩)] w (Zcz w0 bp vL L w (Zv L ex (f+1) s).1 (Zv L ex (f+1) s).2):=by
 have hM:Zv L ex (f+1) s=(.mk 13 [(Zb L (Zd s)).1,(Zb L (Zf L [61] (Zb L (Zd s)).2)).1] [(ZD L (Zr 1) (Zb L (Zf L [61] (Zb L (Zd s)).2)).2).1,(Zao L 1 (ZD L (Zr 1) (Zb L (Zf L [61] (Zb L (Zd s)).2)).2).2).1,(Zao L 1 (Zf L [47] (Zao L 1 (ZD L (Zr 1) (Zb L (Zf L [61] (Zb L (Zd s)).2)).2).2).2)).1] (Ze L s) ((ZB L [105,110] 2 (Zao L 1 (Zf L [47] (Zao L 1 (ZD L (Zr 1) (Zb L (Zf L [61] (Zb L (Zd s)).2)).2).2).2)).2).1++[(Zag L (Zv L ex f) (ZB L [105,110] 2 (Zao L 1 (Zf L [47] (Zao L 1 (ZD L (Zr 1) (Zb L (Zf L [61] (Zb L (Zd s)).2)).2).2).2)).2).2).1]),(Zag L (Zv L ex f) (ZB L [105,110] 2 (Zao L 1 (Zf L [47] (Zao L 1 (ZD L (Zr 1) (Zb L (Zf L [61] (Zb L (Zd s)).2)).2).2).2)).2).2).2):=by rw [Zv];simp only [h1,h2,h3,h4,h5,if_true,Bool.false_eq_true,if_false];rfl
 rw [hM]
 clear hM
 have D:=ZR (L:=L) (f+1)
 have d0:=(show Dp L (f+1) s/\s.deep<=200 from ⟨hd,h200⟩)
 have hE:=h.few.2.1
 have g1:=ZC hE h.lt h5
 have d1:=D.next _ _ d0 g1.toAdv
 have d2:=D.next _ _ d1 (Zo hE d1.1.lt).toAdv
 have d3:=D.next _ _ d2 (Zq hE [61] d2.1.lt).toAdv
 have d4:=D.next _ _ d3 (Zo hE d3.1.lt).toAdv
 have d5:=D.next _ _ d4 (ZeI hE (Zr 1) d4.1.lt).toAdv
 have d6:=D.next _ _ d5 (Zc4 hE 1 d5.1.lt).toAdv
 have d7:=D.next _ _ d6 (Zq hE [47] d6.1.lt).toAdv
 have d8:=D.next _ _ d7 (Zc4 hE 1 d7.1.lt).toAdv
 have d9:=D.next _ _ d8 (Zcu hE [105,110] 2 d8.1.lt)
 have HX:=zh (zi hex (zi hb hgo))
 have HD:=zh d9
 have HW:=zh (zi h3 (zi h4 h5))
 clear d9 d8 d7 d6 d5 d4 d3 d2 d1 g1 hE d0 D hd h200 hex _hxo hb hgo
 clear h3 h4 h5
 obtain ⟨iS,hS,zS0,zS1,zS2⟩:=info_parts Zbd
 obtain ⟨iU,hU,zU0,zU1,zU2⟩:=info_parts Zbl
 obtain ⟨iN,hN,zN0,zN1,zN2⟩:=info_parts Za8
 have a0:=below_alloc1 w (.cells #[.int .i64 0,.slice none 0 0,.slice none 0 0,.slice none 0 0,.int .i64 0,.slice none 0 0] 58)
 have ha:=h.keep a0
 generalize hwa:w.alloc (.cells #[.int .i64 0,.slice none 0 0,.slice none 0 0,.slice none 0 0,.int .i64 0,.slice none 0 0] 58)=wa at *
 have RB:=zh (Zar w0 wa bp vL L s 8 ha)
 have H:=zh h
 have HZ:=zh h.size0
 clear a0 ha h
 go_enter Tryz.func101,Tryz.ntmps101
 go_upto_region 2 with (go_at_call 46;(with_reducible refine RB.out.mono ?_);rintro e w1 ⟨rfl,hb⟩;have B1:=zh hb;clear hb)
 have G2:=zh (Gn.start (k:=8) (p:=Ze L s) H.out hwa B1.out)
 clear hwa RB
 generalize w1.alloc (.cells #[.int .i64 8,.slice none 0 0,.slice none 0 0,.slice none 0 0,.int .i64 (Ze L s),.slice none 0 0] 58)=w2 at *
 clear B1
 generalize w1.heap.size=b at *
 have CI:=zh (ZdU w0 w2 bp vL L s [108,101,116] G2.out.P)
 rw [h1] at CI
 have CN:∀ W:World,ParS w0 W bp vL L s->Calls Tryz.prog 96 #[.pointer (some ⟨bp,0,none⟩)] W fun e w'=>e=.returned (.bool false)/\Below W.heap.size W w':=fun W hW=>by
  have q:=ZcT w0 W bp vL L s hW
  rw [h2] at q
  exact q
 have CNH:=zh CN
 clear CN
 clear h1 h2
 go_upto_region 10 with (first | (go_at_call 48;(with_reducible refine CI.out.mono ?_);rintro e w3 ⟨rfl,hb⟩;have G3:=zh (G2.out.below hb);clear hb) | (go_at_call 96;(with_reducible refine (CNH.out _ G3.out.P).mono ?_);rintro e w4 ⟨rfl,hb⟩;have G4:=zh (G3.out.below hb);clear hb))
 clear CI CNH G2 G3
 have CT:=zh (ZQ (y:=[111,112,101,110]) G4.out.P HW.out.1)
 go_upto_region 17 with (go_at_call 73;(with_reducible refine CT.out.mono ?_);rintro e w5 ⟨rfl,hp,hf⟩;have G5:=zh (G4.out.call hp hf);clear hp hf)
 clear G4
 clear CT
 have CT:=zh (ZQ (y:=[100,111]) G5.out.P HW.out.2.1)
 go_upto_region 19 with (go_at_call 73;(with_reducible refine CT.out.mono ?_);rintro e w6 ⟨rfl,hp,hf⟩;have G6:=zh (G5.out.call hp hf);clear hp hf)
 clear G5
 clear CT
 have CT:=zh (ZY (y:=[115,112,108,105,116]) G6.out.P HW.out.2.2)
 go_upto_region 20 with (go_at_call 73;(with_reducible refine CT.out.mono ?_);rintro e w7 ⟨rfl,hp,hf⟩;have G7:=zh (G6.out.call hp hf);clear hp hf)
 clear G6
 clear CT
 obtain ⟨q0,q1,q2,q3,q4,q5⟩:=G7.out.cells
 dsimp only at q1 q2 q5
 have qf:=G7.out.free
 go_upto_region 21 with fail
 clear q0 q1 q2 q3 q4 q5 qf
 have G8:=zh (G7.out.setk 13)
 clear G7
 generalize w7.setCell ⟨b,0,none⟩ (.int .i64 13)=w8 at *
 (try go_upto_region 21 with fail)
 refine Zbg 95 0 3 G8.out (by simp) (fun v5 A9 n9 c9 w9 hG=>?_)
 (try dsimp only at hG)
 have G9:=zh hG
 clear hG G8
 (try simp only [cl,Act.put])
 (try go_upto_region 22 with fail)
 have CT:=zh (Zad w0 w9 bp vL L (Zb L (Zd s)).2 [61] G9.out.P)
 go_upto_region 23 with (go_at_call 71;(with_reducible refine CT.out.mono ?_);rintro e w10 ⟨rfl,hp,hf⟩;have G10:=zh (G9.out.call hp hf);clear hp hf)
 clear G9
 clear CT
 (try go_upto_region 23 with fail)
 refine Zbg 106 0 3 G10.out (by simp) (fun v5 A11 n11 c11 w11 hG=>?_)
 (try dsimp only at hG)
 have G11:=zh hG
 clear hG G10
 (try simp only [cl,Act.put])
 (try go_upto_region 24 with fail)
 refine ZeP 115 0 3 G11.out (by simp) (by intro _ _;go_simp) (fun wr hP=>Zha w0 wr bp vL L (Zb L (Zf L [61] (Zb L (Zd s)).2)).2 1 (by omega) hP) (fun v5 A12 n12 c12 w12 hG=>?_)
 (try dsimp only at hG)
 have G12:=zh hG
 clear hG G11
 (try simp only [cl,Act.put])
 (try go_upto_region 25 with fail)
 refine ZeP 124 0 3 G12.out (by simp) (by intro _ _;go_simp) (fun wr hP=>Zfs w0 wr bp vL L (ZD L (Zr 1) (Zb L (Zf L [61] (Zb L (Zd s)).2)).2).2 1 hP) (fun v5 A13 n13 c13 w13 hG=>?_)
 (try dsimp only at hG)
 have G13:=zh hG
 clear hG G12
 (try simp only [cl,Act.put])
 (try go_upto_region 26 with fail)
 have CT:=zh (Zad w0 w13 bp vL L (Zao L 1 (ZD L (Zr 1) (Zb L (Zf L [61] (Zb L (Zd s)).2)).2).2).2 [47] G13.out.P)
 go_upto_region 27 with (go_at_call 71;(with_reducible refine CT.out.mono ?_);rintro e w14 ⟨rfl,hp,hf⟩;have G14:=zh (G13.out.call hp hf);clear hp hf)
 clear G13
 clear CT
 (try go_upto_region 27 with fail)
 refine ZeP 135 0 3 G14.out (by simp) (by intro _ _;go_simp) (fun wr hP=>Zfs w0 wr bp vL L (Zf L [47] (Zao L 1 (ZD L (Zr 1) (Zb L (Zf L [61] (Zb L (Zd s)).2)).2).2).2) 1 hP) (fun v5 A15 n15 c15 w15 hG=>?_)
 (try dsimp only at hG)
 have G15:=zh hG
 clear hG G14
 (try simp only [cl,Act.put])
 (try go_upto_region 28 with fail)
 have NM:=zh (ZdL w0 w w15 bp b w.heap.size vL L (Zao L 1 (Zf L [47] (Zao L 1 (ZD L (Zr 1) (Zb L (Zf L [61] (Zb L (Zd s)).2)).2).2).2)).2 ((.slice A11 n11 c11),(.slice A15 n15 c15),(.slice none 0 0)) 13 (Ze L s) [(Zb L (Zd s)).1,(Zb L (Zf L [61] (Zb L (Zd s)).2)).1] [(ZD L (Zr 1) (Zb L (Zf L [61] (Zb L (Zd s)).2)).2).1,(Zao L 1 (ZD L (Zr 1) (Zb L (Zf L [61] (Zb L (Zd s)).2)).2).2).1,(Zao L 1 (Zf L [47] (Zao L 1 (ZD L (Zr 1) (Zb L (Zf L [61] (Zb L (Zd s)).2)).2).2).2)).1] [] [105,110] 2 G15.out (by simp))
 go_upto_region 29 with (go_at_call 99;(refine NM.out.mono ?_);rintro e w16 ⟨rfl,xn,v16,hG,hv⟩;have SH:=hG.shape;obtain ⟨X16,x16,y16,Y16,i16,j16,Z16,k16,l16,rfl⟩:=SH;have G16:=zh hG;have V16:=zh hv;clear hG hv)
 clear NM G15
 have VL:=zh (show v16.length<=1 by have:=congrArg List.length V16.out;have:=Zd2 L [105,110] 2 (Zao L 1 (Zf L [47] (Zao L 1 (ZD L (Zr 1) (Zb L (Zf L [61] (Zb L (Zd s)).2)).2).2).2)).2;simp only [List.length_map,List.length_append,List.map_nil,List.length_nil] at *;omega)
 (try go_upto_region 29 with fail)
 have LO:=G16.out.loose
 obtain ⟨A17,n17,c17,B17,m17,d17,C17,q17,e17,hL⟩:=LO
 have G17:=zh hL
 clear hL G16
 (try go_upto_region 29 with fail)
 refine Zgj 146 0 3 G17.out (by have:=VL.out;(try simp only [List.length_append,List.length_cons,List.length_nil]);omega) (by intro _ _;go_simp) (fun wr hP=>HX.out.2.1 wr _ hP HD.out) (fun v7 g18 c18 y18 w18 hG=>?_)
 (try dsimp only at hG)
 have G18:=zh hG
 clear hG G17
 (try simp only [cl,Act.put])
 (try go_upto_region 32 with fail)
 obtain ⟨q0,q1,q2,q3,q4,q5⟩:=G18.out.cells
 dsimp only at q1 q2 q5
 have qf:=G18.out.free
 obtain ⟨z0,z1,z2,z3,z4,z5⟩:=G18.out.zeros HZ.out
 have zf:=G18.out.rfree HZ.out
 have so:=Zy
 go_wp2_with fail
 obtain ⟨r0,r1,r2,r3,r4,r5⟩:=ZaH (G18.out.R HZ.out) (.int .i64 13) (.slice A17 n17 c17) (.slice B17 m17 d17) (.slice none 0 0) (.int .i64 (Ze L s)) (.slice (some ⟨g18,0,none⟩) (q17+1) c18)
 obtain ⟨o1,o2,o3⟩:=G18.out.out HZ.out (.int .i64 13) (.slice A17 n17 c17) (.slice B17 m17 d17) (.slice none 0 0) (.int .i64 (Ze L s)) (.slice (some ⟨g18,0,none⟩) (q17+1) c18)
 rw [List.map_append,V16.out] at o2
 exact bodyPost_ret (v:=.agg #[.int .i64 13,(.slice A17 n17 c17),(.slice B17 m17 d17),.slice none 0 0,.int .i64 (Ze L s),(.slice (some ⟨g18,0,none⟩) (q17+1) c18)]) (by simp [results,Tryz.results101,go_sem,so,r0,r1,r2,r3,r4,r5]) rfl ⟨((.slice A17 n17 c17),(.slice B17 m17 d17),(.slice (some ⟨g18,0,none⟩) (q17+1) c18)),rfl,o1,o2,o3⟩
end
end Go.Proofs.YtkongcicmajolaaGreatDoor
