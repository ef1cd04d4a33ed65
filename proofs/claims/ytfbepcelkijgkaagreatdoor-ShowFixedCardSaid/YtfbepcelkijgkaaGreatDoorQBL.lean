import Derived.Test.YtfbepcelkijgkaaGreatDoorQBI
import Derived.Test.YtfbepcelkijgkaaGreatDoorQBK
set_option maxRecDepth 100000
set_option maxHeartbeats 8000000
open Option renaming none → Yb
open Go.Value renaming slice → Yc, int → Yd, pointer → Ye
open Go.IntKind renaming i64 → Yf
open Go.Obj renaming cells → Yg
open Go renaming World → Yh
namespace Go.Proofs.YtfbepcelkijgkaaGreatDoor
section
open Go.RowKit
theorem ZrF (e w g:Yh) (a b:Nat) (d:Value) (L:List Tok) (s:PS) (p:Int) (f:Nat) (st:PS->Tr×PS) (hd:Dp L (f+1) s) (c:s.deep<=200) (j:Zcp e a d L f st) (h:Stm L f st) (i:Gn e w g a b w.heap.size d L s ZeW 8 p [] [] []) :
  Calls Tryz.prog 123 #[Ye (some ⟨a,0,Yb⟩),Ye (some ⟨b,0,Yb⟩)] g (Zek e w a b w.heap.size d L (doM L st p s).1 (doM L st p s).2):=by
 cases h1:isM L [59] (Zb L (Zf L [46] (Zb L s).2)).2 with
 |true=>exact Zqx e w g a b d L s p st h1 i
 |false=>exact Zpa e w g a b d L s p f st h1 hd c j h i
theorem ZqB (i w:Yh) (a:Nat) (d:Value) (L:List Tok) (s:PS) (f:Nat) (ex:PS->Tr×PS) (o:∀g,ZbD 122 i a d L (Dp L g) ex) (A:∀g,Onw L (Dp L g) ex) (c:Zcp i a d L f (Zt L ex f)) (t:Stm L f (Zt L ex f)) (h:ParS i w a d L s) (hd:Dp L (f+1) s) (j:s.deep<=200) (X:isM L [108,101,116] s=false) (Y:ZaY L s=false) (Z:isM L [111,112,101,110] s=false) (G:isM L [100,111] s=true) :
  Calls Tryz.prog 101 #[Ye (some ⟨a,0,Yb⟩)] w (Zcx i a d L w (Zt L ex (f+1) s).1 (Zt L ex (f+1) s).2):=by
 have hM:Zt L ex (f+1) s=doM L (Zt L ex f) (Ze L s) (Zd s):=by rw[Zt];simp only[X,Y,Z,G,if_true,Bool.false_eq_true,if_false]
 rw[hM];clear hM;have D:=ZQ (L:=L) (f+1);have d0:=(show Dp L (f+1) s/\s.deep<=200 from⟨hd,j⟩)
 have hE:=h.few.2.1;have g1:=ZA hE h.lt G;have d1:=D.next _ _ d0 g1.toAdv;have HX:=zh (zi o (zi c t));have HD:=zh d1;have HW:=zh (zi Z G);have aw:=zh (A (f+1));clear d1 g1 hE d0 D hd j o A c t;clear Z G;obtain⟨iS,hS,bs,bt,bu⟩:=info_parts Zbd;obtain⟨iU,hU,bv,bw,bx⟩:=info_parts Zbk;obtain⟨iN,hN,bo,bq,br⟩:=info_parts Za8;have a0:=below_alloc1 w (Yg #[Yd Yf 0,Yc Yb 0 0,Yc Yb 0 0,Yc Yb 0 0,Yd Yf 0,Yc Yb 0 0] 58);have ha:=h.keep a0;generalize z:w.alloc (Yg #[Yd Yf 0,Yc Yb 0 0,Yc Yb 0 0,Yc Yb 0 0,Yd Yf 0,Yc Yb 0 0] 58)=wa at *;have RB:=zh (Zar i wa a d L s 8 ha);have H:=zh h;have B:=zh h.size0;clear a0 ha h;go_enter Tryz.func101,Tryz.ntmps101;go_upto_region 2 with(go_at_call 46;(with_reducible refine RB.out.mono ?_);rintro e w1 ⟨rfl,c⟩;have B1:=zh c;clear c)
 have S:=zh (Gn.start (k:=8) (p:=Ze L s) H.out z B1.out);clear z RB;generalize w1.alloc (Yg #[Yd Yf 8,Yc Yb 0 0,Yc Yb 0 0,Yc Yb 0 0,Yd Yf (Ze L s),Yc Yb 0 0] 58)=w2 at *;clear B1;generalize w1.heap.size=b at *;have Q:=zh (ZdS i w2 a d L s [108,101,116] S.out.P);rw[X]at Q
 have CN:∀W:Yh,ParS i W a d L s->Calls Tryz.prog 96 #[Ye (some ⟨a,0,Yb⟩)] W fun e w'=>e=.returned (.bool false)/\Below W.heap.size W w':=fun W hW=>by
  have q:=ZcS i W a d L s hW;rw[Y]at q;exact q
 have m:=zh CN;clear CN;clear X Y;go_upto_region 10 with(first|(go_at_call 48;(with_reducible refine Q.out.mono ?_);rintro e w3 ⟨rfl,c⟩;have T:=zh (S.out.below c);clear c)|(go_at_call 96;(with_reducible refine(m.out _ T.out.P).mono ?_);rintro e w4 ⟨rfl,c⟩;have U:=zh (T.out.below c);clear c))
 clear Q m S T;have n:=zh (ZP (y:=[111,112,101,110]) U.out.P HW.out.1);go_upto_region 17 with(go_at_call 73;(with_reducible refine n.out.mono ?_);rintro e w5 ⟨rfl,u,r⟩;have V:=zh (U.out.call u r);clear u r)
 clear U;clear n;have n:=zh (ZY (y:=[100,111]) V.out.P HW.out.2);go_upto_region 18 with(go_at_call 73;(with_reducible refine n.out.mono ?_);rintro e w6 ⟨rfl,u,r⟩;have G6:=zh (V.out.call u r);clear u r)
 clear V;clear n;have NM:=zh (ZrF i w w6 a b d L (Zd s) (Ze L s) f (Zt L ex f) HD.out.1 HD.out.2 HX.out.2.1 HX.out.2.2 G6.out);go_upto_region 32 with(go_at_call 123;(refine NM.out.mono ?_);rintro e w7 ⟨rfl,x2,k2,p2,bn,bh,bi,hT,hG⟩;have SH:=hG.shape;obtain⟨C,N,O,E,I,J,F,K,M,rfl⟩:=SH;have l:=zh hG;have HT:=zh hT;clear hG hT)
 clear NM G6;obtain⟨q0,q1,q2,q3,q4,q5⟩:=l.out.cells;dsimp only at q1 q2 q5;have qf:=l.out.free;obtain⟨z0,z1,z2,z3,z4,z5⟩:=l.out.zeros B.out;have zf:=l.out.rfree B.out;have so:=Zw;go_wp2_with fail;obtain⟨r0,r1,r2,r3,r4,r5⟩:=ZaG (l.out.R B.out) (Yd Yf k2) (Yc C N O) (Yc E I J) (Yc Yb 0 0) (Yd Yf p2) (Yc F K M);obtain⟨o1,o2,o3⟩:=l.out.out B.out (Yd Yf k2) (Yc C N O) (Yc E I J) (Yc Yb 0 0) (Yd Yf p2) (Yc F K M);rw[<-HT.out]at o2;exact bodyPost_ret (v:=.agg #[Yd Yf k2,(Yc C N O),(Yc E I J),Yc Yb 0 0,Yd Yf p2,(Yc F K M)]) (by simp[results,Tryz.results101,go_sem,so,r0,r1,r2,r3,r4,r5]) rfl ⟨((Yc C N O),(Yc E I J),(Yc F K M)),(by rw[HT.out];rfl),o1,o2,o3⟩
theorem ZnY (m w:Yh) (c:Nat) (l:Value) (L:List Tok) (s:PS) (f:Nat) (ex:PS->Tr×PS) (t:∀g,ZbD 122 m c l L (Dp L g) ex) (A:∀g,Onw L (Dp L g) ex) (d:Zcp m c l L f (Zt L ex f)) (u:Stm L f (Zt L ex f)) (h:ParS m w c l L s) (hd:Dp L (f+1) s) (n:s.deep<=200) (h1:isM L [108,101,116] s=false) (h2:ZaY L s=false) (h3:isM L [111,112,101,110] s=false) (h4:isM L [100,111] s=false) (h5:isM L [115,112,108,105,116] s=false) (I:isM L [99,97,108,108] s=true) :
  Calls Tryz.prog 101 #[Ye (some ⟨c,0,Yb⟩)] w (Zcx m c l L w (Zt L ex (f+1) s).1 (Zt L ex (f+1) s).2):=by
 have hM:Zt L ex (f+1) s=ZcA L ex (Ze L s) (Zd s):=by rw[Zt];simp only[h1,h2,h3,h4,h5,I,if_true,Bool.false_eq_true,if_false]
 rw[hM];clear hM;have D:=ZQ (L:=L) (f+1);have d0:=(show Dp L (f+1) s/\s.deep<=200 from⟨hd,n⟩)
 have hE:=h.few.2.1;have g1:=ZA hE h.lt I;have d1:=D.next _ _ d0 g1.toAdv;have HX:=zh (zi t (zi d u));have HD:=zh d1;have B:=zh (zi h3 (zi h4 (zi h5 I)));have Z:=zh (A (f+1));clear d1 g1 hE d0 D hd n t A d u;clear h3 h4 h5 I;obtain⟨iS,hS,bv,bw,bx⟩:=info_parts Zbd;obtain⟨iU,hU,bz,b0,b1⟩:=info_parts Zbk;obtain⟨iN,hN,bs,bt,bu⟩:=info_parts Za8;have a0:=below_alloc1 w (Yg #[Yd Yf 0,Yc Yb 0 0,Yc Yb 0 0,Yc Yb 0 0,Yd Yf 0,Yc Yb 0 0] 58);have ha:=h.keep a0;generalize z:w.alloc (Yg #[Yd Yf 0,Yc Yb 0 0,Yc Yb 0 0,Yc Yb 0 0,Yd Yf 0,Yc Yb 0 0] 58)=wa at *;have RB:=zh (Zar m wa c l L s 8 ha);have H:=zh h;have C:=zh h.size0;clear a0 ha h;go_enter Tryz.func101,Tryz.ntmps101;go_upto_region 2 with(go_at_call 46;(with_reducible refine RB.out.mono ?_);rintro e w1 ⟨rfl,d⟩;have B1:=zh d;clear d)
 have S:=zh (Gn.start (k:=8) (p:=Ze L s) H.out z B1.out);clear z RB;generalize w1.alloc (Yg #[Yd Yf 8,Yc Yb 0 0,Yc Yb 0 0,Yc Yb 0 0,Yd Yf (Ze L s),Yc Yb 0 0] 58)=w2 at *;clear B1;generalize w1.heap.size=b at *;have Q:=zh (ZdS m w2 c l L s [108,101,116] S.out.P);rw[h1]at Q
 have CN:∀W:Yh,ParS m W c l L s->Calls Tryz.prog 96 #[Ye (some ⟨c,0,Yb⟩)] W fun e w'=>e=.returned (.bool false)/\Below W.heap.size W w':=fun W hW=>by
  have q:=ZcS m W c l L s hW;rw[h2]at q;exact q
 have r:=zh CN;clear CN;clear h1 h2;go_upto_region 10 with(first|(go_at_call 48;(with_reducible refine Q.out.mono ?_);rintro e w3 ⟨rfl,d⟩;have T:=zh (S.out.below d);clear d)|(go_at_call 96;(with_reducible refine(r.out _ T.out.P).mono ?_);rintro e w4 ⟨rfl,d⟩;have U:=zh (T.out.below d);clear d))
 clear Q r S T;have a:=zh (ZP (y:=[111,112,101,110]) U.out.P B.out.1);go_upto_region 17 with(go_at_call 73;(with_reducible refine a.out.mono ?_);rintro e w5 ⟨rfl,j,i⟩;have V:=zh (U.out.call j i);clear j i)
 clear U;clear a;have a:=zh (ZP (y:=[100,111]) V.out.P B.out.2.1);go_upto_region 19 with(go_at_call 73;(with_reducible refine a.out.mono ?_);rintro e w6 ⟨rfl,j,i⟩;have X:=zh (V.out.call j i);clear j i)
 clear V;clear a;have a:=zh (ZP (y:=[115,112,108,105,116]) X.out.P B.out.2.2.1);go_upto_region 30 with(go_at_call 73;(with_reducible refine a.out.mono ?_);rintro e w7 ⟨rfl,j,i⟩;have Y:=zh (X.out.call j i);clear j i)
 clear X;clear a;have a:=zh (ZY (y:=[99,97,108,108]) Y.out.P B.out.2.2.2);go_upto_region 31 with(go_at_call 73;(with_reducible refine a.out.mono ?_);rintro e w8 ⟨rfl,j,i⟩;have G8:=zh (Y.out.call j i);clear j i)
 clear Y;clear a;have NM:=zh (Zo9 m w w8 c b l L (Zd s) (Ze L s) (f+1) ex HD.out.1 (HX.out.1 (f+1)) Z.out G8.out);go_upto_region 32 with(go_at_call 124;(refine NM.out.mono ?_);rintro e w9 ⟨rfl,x2,k2,p2,br,bk,bl,hT,hG⟩;have SH:=hG.shape;obtain⟨E,N,O,F,i9,J,G,K,M,rfl⟩:=SH;have o:=zh hG;have HT:=zh hT;clear hG hT)
 clear NM G8;obtain⟨q0,q1,q2,q3,q4,q5⟩:=o.out.cells;dsimp only at q1 q2 q5;have qf:=o.out.free;obtain⟨z0,z1,z2,z3,z4,z5⟩:=o.out.zeros C.out;have zf:=o.out.rfree C.out;have so:=Zw;go_wp2_with fail;obtain⟨r0,r1,r2,r3,r4,r5⟩:=ZaG (o.out.R C.out) (Yd Yf k2) (Yc E N O) (Yc F i9 J) (Yc Yb 0 0) (Yd Yf p2) (Yc G K M);obtain⟨o1,o2,o3⟩:=o.out.out C.out (Yd Yf k2) (Yc E N O) (Yc F i9 J) (Yc Yb 0 0) (Yd Yf p2) (Yc G K M);rw[<-HT.out]at o2;exact bodyPost_ret (v:=.agg #[Yd Yf k2,(Yc E N O),(Yc F i9 J),Yc Yb 0 0,Yd Yf p2,(Yc G K M)]) (by simp[results,Tryz.results101,go_sem,so,r0,r1,r2,r3,r4,r5]) rfl ⟨((Yc E N O),(Yc F i9 J),(Yc G K M)),(by rw[HT.out];rfl),o1,o2,o3⟩
theorem ZnZ (m w:Yh) (c:Nat) (l:Value) (L:List Tok) (s:PS) (f:Nat) (ex:PS->Tr×PS) (t:∀g,ZbD 122 m c l L (Dp L g) ex) (A:∀g,Onw L (Dp L g) ex) (d:Zcp m c l L f (Zt L ex f)) (u:Stm L f (Zt L ex f)) (h:ParS m w c l L s) (hd:Dp L (f+1) s) (n:s.deep<=200) (h1:isM L [108,101,116] s=false) (h2:ZaY L s=false) (h3:isM L [111,112,101,110] s=false) (h4:isM L [100,111] s=false) (h5:isM L [115,112,108,105,116] s=false) (h6:isM L [99,97,108,108] s=false) :
  Calls Tryz.prog 101 #[Ye (some ⟨c,0,Yb⟩)] w (Zcx m c l L w (Zt L ex (f+1) s).1 (Zt L ex (f+1) s).2):=by
 have hM:Zt L ex (f+1) s=Zbb L ex (Zt L ex f) (Ze L s) s:=by rw[Zt];simp only[h1,h2,h3,h4,h5,h6,Bool.false_eq_true,if_false]
 rw[hM];clear hM;have D:=ZQ (L:=L) (f+1);have d0:=(show Dp L (f+1) s/\s.deep<=200 from⟨hd,n⟩)
 have hE:=h.few.2.1;have Y:=zh (zi t (zi d u));have HD:=zh d0;have B:=zh (zi h3 (zi h4 (zi h5 h6)));have Z:=zh (A (f+1));clear hE d0 D hd n t A d u;clear h3 h4 h5 h6;obtain⟨iS,hS,bt,bu,bv⟩:=info_parts Zbd;obtain⟨iU,hU,bw,bx,bz⟩:=info_parts Zbk;obtain⟨iN,hN,bq,br,bs⟩:=info_parts Za8;have a0:=below_alloc1 w (Yg #[Yd Yf 0,Yc Yb 0 0,Yc Yb 0 0,Yc Yb 0 0,Yd Yf 0,Yc Yb 0 0] 58);have ha:=h.keep a0;generalize z:w.alloc (Yg #[Yd Yf 0,Yc Yb 0 0,Yc Yb 0 0,Yc Yb 0 0,Yd Yf 0,Yc Yb 0 0] 58)=wa at *;have RB:=zh (Zar m wa c l L s 8 ha);have H:=zh h;have C:=zh h.size0;clear a0 ha h;go_enter Tryz.func101,Tryz.ntmps101;go_upto_region 2 with(go_at_call 46;(with_reducible refine RB.out.mono ?_);rintro e w1 ⟨rfl,d⟩;have B1:=zh d;clear d)
 have Q:=zh (Gn.start (k:=8) (p:=Ze L s) H.out z B1.out);clear z RB;generalize w1.alloc (Yg #[Yd Yf 8,Yc Yb 0 0,Yc Yb 0 0,Yc Yb 0 0,Yd Yf (Ze L s),Yc Yb 0 0] 58)=w2 at *;clear B1;generalize w1.heap.size=b at *;have O:=zh (ZdS m w2 c l L s [108,101,116] Q.out.P);rw[h1]at O
 have CN:∀W:Yh,ParS m W c l L s->Calls Tryz.prog 96 #[Ye (some ⟨c,0,Yb⟩)] W fun e w'=>e=.returned (.bool false)/\Below W.heap.size W w':=fun W hW=>by
  have q:=ZcS m W c l L s hW;rw[h2]at q;exact q
 have r:=zh CN;clear CN;clear h1 h2;go_upto_region 10 with(first|(go_at_call 48;(with_reducible refine O.out.mono ?_);rintro e w3 ⟨rfl,d⟩;have S:=zh (Q.out.below d);clear d)|(go_at_call 96;(with_reducible refine(r.out _ S.out.P).mono ?_);rintro e w4 ⟨rfl,d⟩;have T:=zh (S.out.below d);clear d))
 clear O r Q S;have a:=zh (ZP (y:=[111,112,101,110]) T.out.P B.out.1);go_upto_region 17 with(go_at_call 73;(with_reducible refine a.out.mono ?_);rintro e w5 ⟨rfl,j,i⟩;have U:=zh (T.out.call j i);clear j i)
 clear T;clear a;have a:=zh (ZP (y:=[100,111]) U.out.P B.out.2.1);go_upto_region 19 with(go_at_call 73;(with_reducible refine a.out.mono ?_);rintro e w6 ⟨rfl,j,i⟩;have V:=zh (U.out.call j i);clear j i)
 clear U;clear a;have a:=zh (ZP (y:=[115,112,108,105,116]) V.out.P B.out.2.2.1);go_upto_region 30 with(go_at_call 73;(with_reducible refine a.out.mono ?_);rintro e w7 ⟨rfl,j,i⟩;have X:=zh (V.out.call j i);clear j i)
 clear V;clear a;have a:=zh (ZP (y:=[99,97,108,108]) X.out.P B.out.2.2.2);go_upto_region 2 with(go_at_call 73;(with_reducible refine a.out.mono ?_);rintro e w8 ⟨rfl,j,i⟩;have G8:=zh (X.out.call j i);clear j i)
 clear X;clear a;have NM:=zh (Zpc m w w8 c b l L s (Ze L s) f ex (Zt L ex f) HD.out.1 HD.out.2 (Y.out.1 (f+1)) Z.out Y.out.2.1 Y.out.2.2 G8.out);go_upto_region 32 with(go_at_call 125;(refine NM.out.mono ?_);rintro e w9 ⟨rfl,x2,k2,p2,bo,bi,bj,hT,hG⟩;have SH:=hG.shape;obtain⟨E,M,N,F,i9,I,G,J,K,rfl⟩:=SH;have o:=zh hG;have HT:=zh hT;clear hG hT)
 clear NM G8;obtain⟨q0,q1,q2,q3,q4,q5⟩:=o.out.cells;dsimp only at q1 q2 q5;have qf:=o.out.free;obtain⟨z0,z1,z2,z3,z4,z5⟩:=o.out.zeros C.out;have zf:=o.out.rfree C.out;have so:=Zw;go_wp2_with fail;obtain⟨r0,r1,r2,r3,r4,r5⟩:=ZaG (o.out.R C.out) (Yd Yf k2) (Yc E M N) (Yc F i9 I) (Yc Yb 0 0) (Yd Yf p2) (Yc G J K);obtain⟨o1,o2,o3⟩:=o.out.out C.out (Yd Yf k2) (Yc E M N) (Yc F i9 I) (Yc Yb 0 0) (Yd Yf p2) (Yc G J K);rw[<-HT.out]at o2;exact bodyPost_ret (v:=.agg #[Yd Yf k2,(Yc E M N),(Yc F i9 I),Yc Yb 0 0,Yd Yf p2,(Yc G J K)]) (by simp[results,Tryz.results101,go_sem,so,r0,r1,r2,r3,r4,r5]) rfl ⟨((Yc E M N),(Yc F i9 I),(Yc G J K)),(by rw[HT.out];rfl),o1,o2,o3⟩
theorem Zkc (j:Yh) (e:Nat) (i:Value) (L:List Tok) (l:ZW L):∀f,Zjq j e i L f (Zt L (ex7 L) f)
 |0=>fun w s h hd m=>by have:=hd.fuel m;omega
 |f+1=>fun w s h hd m=>by
  have b:=ZfV l (fun g=>Zgz l (g+1)) f;have k:=ZkE b (Zkc j e i L l f);have c:=fun g=>Zot j e i L l g;have d:=fun g=>Zgz (L:=L) l g;have a:=(hd.fuel m).1;cases h1:isM L [108,101,116] s with
  |true=>exact Zpn j w e i L s f (ex7 L) c d k b h hd a h1
  |false=>
  cases h2:ZaY L s with
  |true=>exact Zl5 j w e i L s f (ex7 L) c d k b h hd a h1 h2
  |false=>
  cases h3:isM L [111,112,101,110] s with
  |true=>exact Zn0 j w e i L s f (ex7 L) c d k b h hd a h1 h2 h3
  |false=>
  cases h4:isM L [100,111] s with
  |true=>exact ZqB j w e i L s f (ex7 L) c d k b h hd a h1 h2 h3 h4
  |false=>
  cases h5:isM L [115,112,108,105,116] s with
  |true=>exact Zl6 j w e i L s f (ex7 L) c d k b h hd a h1 h2 h3 h4 h5
  |false=>
  cases h6:isM L [99,97,108,108] s with
  |true=>exact ZnY j w e i L s f (ex7 L) c d k b h hd a h1 h2 h3 h4 h5 h6
  |false=>exact ZnZ j w e i L s f (ex7 L) c d k b h hd a h1 h2 h3 h4 h5 h6
end
section
open Go.RowKit
theorem Zln (D w:Yh) (u:Nat) (C:Value) (L:List Tok) (s:PS) (f:Nat) (ex st:PS->Tr×PS) (i:Zcp D u C L f st) (ak:Stm L f st) (h:ParS D w u C L s) (hd:Dp L (f+1) s) (J:s.deep<=200) :
  Calls Tryz.prog 20 #[Ye (some ⟨u,0,Yb⟩)] w (Zcx D u C L w (.mk 0 [] [] (Ze L s) (Zay L ex st (L.length+1) [] s).1) (Zay L ex st (L.length+1) [] s).2):=by
 obtain⟨R,hR⟩:∃R,R=Zay L ex st (L.length+1) [] s:=⟨_,rfl⟩
 rw[<-hR];have HR:=zh (zi hR (zi hd J));have HB:=zh (zi i ak);clear hR hd J i ak;obtain⟨iS,hS,cg,ch,ci⟩:=info_parts Zbd;obtain⟨iU,hU,cj,ck,cm⟩:=info_parts Zbk;obtain⟨iN,hN,cc,cd,ce⟩:=info_parts Za8;have a0:=below_alloc1 w (Yg #[Yd Yf 0,Yc Yb 0 0,Yc Yb 0 0,Yc Yb 0 0,Yd Yf 0,Yc Yb 0 0] 58);have ha:=h.keep a0;generalize ap:w.alloc (Yg #[Yd Yf 0,Yc Yb 0 0,Yc Yb 0 0,Yc Yb 0 0,Yd Yf 0,Yc Yb 0 0] 58)=wa at *;have RB:=zh (Zar D wa u C L s 0 ha);have H:=zh h;have I:=zh h.size0;clear a0 ha h;go_enter Tryz.func20,Tryz.ntmps20;go_upto_region 2 with(go_at_call 46;(with_reducible refine RB.out.mono ?_);rintro e w1 ⟨rfl,i⟩;have B1:=zh i;clear i)
 have G2:=zh (Gn.start (k:=0) (p:=Ze L s) H.out ap B1.out);clear ap RB;generalize w1.alloc (Yg #[Yd Yf 0,Yc Yb 0 0,Yc Yb 0 0,Yc Yb 0 0,Yd Yf (Ze L s),Yc Yb 0 0] 58)=w2 at *;clear B1;generalize w1.heap.size=b at *;go_upto_region 2 with fail;have aw:=zh G2.out.P.few.1;go_loopg [] (L.length+1) (fun g wr=>∃(l:List Tr) (t:PS) (x:NV) (vs:List (NV×Tr)),R=Zay L ex st g l t/\(Dp L (f+1) t/\PS.deep t<=200)/\(t.err=0->L.length-t.at_<g)/\vs.length+g<=L.length+1/\vs.map (·.2)=l/\Gn D w wr u b w.heap.size C L t x 0 (Ze L s) [] [] vs)
 case atStart=>exact⟨[],_,_,[],HR.out.1,HR.out.2,fun _=>by omega,by simp,rfl,G2.out⟩
 case round=>
  obtain⟨l,t,x,vs,Z,hD,K,m,hvl,A⟩:=hrel;have SH:=A.shape;obtain⟨M,V,Q,N,U,S,O,W,T,rfl⟩:=SH;clear G2;have c:=zh A;have LB:=zh (show vs.length<=100004 by have:=aw.out;omega);clear A;by_cases E:t.err=0
  ·skip
   have F:(t.err==0)=true:=by simp[E]
   obtain⟨tk,tt,ta,ht⟩:∃tk tt ta,ZaK L t=(tk,tt,ta):=⟨_,_,_,rfl⟩
   have X:=zh (ZdK D wr u C L t c.out.P);rw[ht]at X;have aj:=fun w=>ZeT tk tt ta w;by_cases h3:tk=3
   ·skip
    have j:R=(l,t):=by
     rw[Z];cases gk with
     |zero=>rfl
     |succ r=>rw[Zay,Yn (by rw[ht];simp[h3])]
    have Y:((tk:Int) != 3)=false:=by rw[h3];rfl
    have HQ:=zh (zi j hvl);clear Z j hD K m hvl E ht h3;obtain⟨c0,c1,c2,c3,c4⟩:=c.out.P.cells;have cf:=c.out.P.frees;go_upto_region 8 with(go_at_call 47;(with_reducible refine X.out.mono ?_);rintro e ar ⟨rfl,i⟩;have d:=zh (c.out.below i);clear i)
    clear c0 c1 c2 c3 c4 cf;clear F Y aj X c;obtain⟨j,hvl⟩:=HQ.out;subst j;subst hvl;obtain⟨q0,q1,q2,q3,q4,q5⟩:=d.out.cells;dsimp only at q1 q2 q5;have qf:=d.out.free;obtain⟨z0,z1,z2,z3,z4,z5⟩:=d.out.zeros I.out;have zf:=d.out.rfree I.out;have so:=Zw;go_wp2_with fail;obtain⟨r0,r1,r2,r3,r4,r5⟩:=ZaG (d.out.R I.out) (Yd Yf 0) (Yc M V Q) (Yc N U S) (Yc Yb 0 0) (Yd Yf (Ze L s)) (Yc O W T);obtain⟨o1,o2,o3⟩:=d.out.out I.out (Yd Yf 0) (Yc M V Q) (Yc N U S) (Yc Yb 0 0) (Yd Yf (Ze L s)) (Yc O W T);exact bodyPost_ret (v:=.agg #[Yd Yf 0,(Yc M V Q),(Yc N U S),Yc Yb 0 0,Yd Yf (Ze L s),(Yc O W T)]) (by simp[results,Tryz.results20,go_sem,so,r0,r1,r2,r3,r4,r5]) rfl ⟨((Yc M V Q),(Yc N U S),(Yc O W T)),rfl,o1,o2,o3⟩
   ·skip
    obtain⟨r,rfl⟩:∃r,gk=r+1:=⟨gk-1,by have:=K E;omega⟩
    have Y:((tk:Int) != 3)=true:=by simp;omega
    have an:R=if isM L [112,114,111,116,111] t then Zay L ex st r (l++[(ZbI L t).1]) (ZbI L t).2 else if isM L [102,110] t then Zay L ex st r (l++[(fnM L ex st t).1]) (fnM L ex st t).2 else Zay L ex st r l (ZbZ L 11 t):=by rw[Z,Zay,Yo ⟨E,by rw[ht];exact h3⟩]
    have a:=zh (zi an (zi (K E) (zi m (zi hvl (zi E hD)))));clear Z an hD K m hvl E ht h3;obtain⟨c0,c1,c2,c3,c4⟩:=c.out.P.cells;have cf:=c.out.P.frees;go_upto_region 3 with(go_at_call 47;(with_reducible refine X.out.mono ?_);rintro e ar ⟨rfl,i⟩;have d:=zh (c.out.below i);clear i)
    clear c0 c1 c2 c3 c4 cf;clear F Y aj X c;have GT:=zh d.out;have n:=zh (ZdS D ar u C L t [112,114,111,116,111] d.out.P);by_cases B:isM L [112,114,111,116,111] t=true
    ·skip
     have HK:=zh (show R=Zay L ex st r (l++[(ZbI L t).1]) (ZbI L t).2 by rw[a.out.1,Yo B]);rw[B]at n;clear B;go_upto_region 4 with(go_at_call 48;(with_reducible refine n.out.mono ?_);rintro e au ⟨rfl,i⟩;have o:=zh (d.out.below i);clear i)
     clear n;(try go_upto_region 4 with fail);refine ZdT 20 0 3 o.out (by have:=LB.out;(try simp only[Yj,Yk,Yl]);omega) (by intro _ _;go_simp) (fun wr hP=>ZnX D wr u C L t hP) (fun v5 bv b1 bz b9 bn A=>?_);(try dsimp only at A);have z:=zh A;clear A o;(try simp only[cl,Act.put]);go_wp2_with fail;go_roundg r
     case measure=>omega
     case rel=>
      have G:Gon L t (ZbI L t).2:=Zg7 GT.out.P.few.2.1 GT.out.P.lt;refine⟨_,_,_,_,HK.out,(ZQ (f+1)).next _ _ a.out.2.2.2.2.2 G.toAdv,fun q=>?_,?_,?_,z.out⟩
      ·have:=G.on q;have:=a.out.2.1;have:PS.at_ (ZbI L t).2<L.length:=z.out.P.lt;omega
      ·have:=a.out.2.2.1;simp only[Yj,Yk,Yl];omega
      ·rw[List.map_append,a.out.2.2.2.1];rfl
    ·skip
     have al:isM L [112,114,111,116,111] t=false:=by simpa using B
     rw[al]at n;clear al;go_upto_region 5 with(go_at_call 48;(with_reducible refine n.out.mono ?_);rintro e au ⟨rfl,i⟩;have o:=zh (d.out.below i);clear i)
     clear n;have n:=zh (ZdS D au u C L t [102,110] o.out.P);by_cases hq:isM L [102,110] t=true
     ·skip
      have HK:=zh (show R=Zay L ex st r (l++[(fnM L ex st t).1]) (fnM L ex st t).2 by rw[a.out.1,Yn B,Yo hq]);rw[hq]at n;clear B hq;go_upto_region 6 with(go_at_call 48;(with_reducible refine n.out.mono ?_);rintro e av ⟨rfl,i⟩;have y:=zh (o.out.below i);clear i)
      clear n;(try go_upto_region 6 with fail);refine ZdT 29 0 3 y.out (by have:=LB.out;(try simp only[Yj,Yk,Yl]);omega) (by intro _ _;go_simp) (fun wr hP=>ZrK D wr u C L t f ex st HB.out.1 hP a.out.2.2.2.2.2.1 a.out.2.2.2.2.2.2) (fun v5 bw b2 b0 ca b7 A=>?_);(try dsimp only at A);have aa:=zh A;clear A y;(try simp only[cl,Act.put]);go_wp2_with fail;go_roundg r
      case measure=>omega
      case rel=>
       have G:Gon L t (fnM L ex st t).2:=Zku GT.out.P.few.2.1 HB.out.2 a.out.2.2.2.2.2.1 a.out.2.2.2.2.2.2;refine⟨_,_,_,_,HK.out,(ZQ (f+1)).next _ _ a.out.2.2.2.2.2 G.toAdv,fun q=>?_,?_,?_,aa.out⟩
       ·have:=G.on q;have:=a.out.2.1;have:PS.at_ (fnM L ex st t).2<L.length:=aa.out.P.lt;omega
       ·have:=a.out.2.2.1;simp only[Yj,Yk,Yl];omega
       ·rw[List.map_append,a.out.2.2.2.1];rfl
     ·skip
      have HK:=zh (show R=Zay L ex st r l (ZbZ L 11 t)by rw[a.out.1,Yn B,Yn hq]);have am:isM L [102,110] t=false:=by simpa using hq
      rw[am]at n;clear B hq am;go_upto_region 7 with(go_at_call 48;(with_reducible refine n.out.mono ?_);rintro e av ⟨rfl,i⟩;have y:=zh (o.out.below i);clear i)
      clear n;have X:=zh (ZdB D av u C L t 11 y.out.P);go_wp2_with (go_at_call 51;(with_reducible refine X.out.mono ?_);rintro e bn ⟨rfl,B,K⟩;have z:=zh (y.out.call B K);clear B K);go_roundg r
      case measure=>omega
      case rel=>
       have G:Gon L t (ZbZ L 11 t):=ZeE (by decide) t;refine⟨_,_,_,_,HK.out,(ZQ (f+1)).next _ _ a.out.2.2.2.2.2 G.toAdv,fun q=>?_,?_,a.out.2.2.2.1,z.out⟩
       ·have:=G.on q;have:=a.out.2.1;have:PS.at_ (ZbZ L 11 t)<L.length:=z.out.P.lt;omega
       ·have:=a.out.2.2.1;omega
  ·skip
   have j:R=(l,t):=by
    rw[Z];cases gk with
    |zero=>rfl
    |succ r=>rw[Zay,Yn (by simp[E])]
   have F:(t.err==0)=false:=by simp[E]
   have HQ:=zh (zi j hvl);clear Z j hD K m hvl E;obtain⟨c0,c1,c2,c3,c4⟩:=c.out.P.cells;have cf:=c.out.P.frees;go_upto_region 8 with fail;clear c0 c1 c2 c3 c4 cf;clear F;obtain⟨j,hvl⟩:=HQ.out;subst j;subst hvl;obtain⟨q0,q1,q2,q3,q4,q5⟩:=c.out.cells;dsimp only at q1 q2 q5;have qf:=c.out.free;obtain⟨z0,z1,z2,z3,z4,z5⟩:=c.out.zeros I.out;have zf:=c.out.rfree I.out;have so:=Zw;go_wp2_with fail;obtain⟨r0,r1,r2,r3,r4,r5⟩:=ZaG (c.out.R I.out) (Yd Yf 0) (Yc M V Q) (Yc N U S) (Yc Yb 0 0) (Yd Yf (Ze L s)) (Yc O W T);obtain⟨o1,o2,o3⟩:=c.out.out I.out (Yd Yf 0) (Yc M V Q) (Yc N U S) (Yc Yb 0 0) (Yd Yf (Ze L s)) (Yc O W T);exact bodyPost_ret (v:=.agg #[Yd Yf 0,(Yc M V Q),(Yc N U S),Yc Yb 0 0,Yd Yf (Ze L s),(Yc O W T)]) (by simp[results,Tryz.results20,go_sem,so,r0,r1,r2,r3,r4,r5]) rfl ⟨((Yc M V Q),(Yc N U S),(Yc O W T)),rfl,o1,o2,o3⟩
end
end Go.Proofs.YtfbepcelkijgkaaGreatDoor
