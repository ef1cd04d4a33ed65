import Derived.Deep.DeepFit
import Derived.Test.YtdkegpkfjgloeaaGreatDoorQAI
import Derived.Test.YtdkegpkfjgloeaaGreatDoorQAV
import Derived.Test.YtdkegpkfjgloeaaGreatDoorQAZ
import Derived.Test.YtdkegpkfjgloeaaGreatDoorQBF
import Derived.Test.YtdkegpkfjgloeaaGreatDoorQBH
set_option maxRecDepth 100000
set_option maxHeartbeats 8000000
open Option renaming some → Ya, none → Yb
open Go.Value renaming slice → Yc, int → Yd, pointer → Ye
open Go.IntKind renaming i64 → Yf
open Go.Obj renaming cells → Yg
open Go renaming World → Yh, Value → Yi
open Go.RowKit
namespace Go.Proofs.YtdkegpkfjgloeaaGreatDoor
theorem ZrM (e w g:Yh) (a b:Nat) (d:Yi) (L:List Tok) (s:PS) (p:Int) (f:Nat) (st:PS->Tr×PS) (hd:Dp L (f+1) s) (c:s.deep<=200) (j:Zco e a d L f st) (h:Stm L f st) (i:Gn e w g a b w.heap.size d L s ZeN 8 p [] [] []) :
  Calls Tryz.prog 119 #[Ye (Ya ⟨a,0,Yb⟩),Ye (Ya ⟨b,0,Yb⟩)] g (Zek e w a b w.heap.size d L (doM L st p s).1 (doM L st p s).2):=by
 cases h1:isM L [59] (Zc L (Zg L [46] (Zc L s).2)).2 with
 |true=>exact ZqJ e w g a b d L s p st h1 i
 |false=>exact Zpf e w g a b d L s p f st h1 hd c j h i
theorem ZqN (i w:Yh) (a:Nat) (d:Yi) (L:List Tok) (s:PS) (f:Nat) (ex:PS->Tr×PS) (o:∀g,ZbG 118 i a d L (Dp L g) ex) (A:∀g,Onw L (Dp L g) ex) (c:Zco i a d L f (Zu L ex f)) (t:Stm L f (Zu L ex f)) (h:ParS i w a d L s) (hd:Dp L (f+1) s) (j:s.deep<=200) (X:isM L [108,101,116] s=false) (Y:Zbk L s=false) (Z:isM L [111,112,101,110] s=false) (G:isM L [100,111] s=true) :
  Calls Tryz.prog 95 #[Ye (Ya ⟨a,0,Yb⟩)] w (Zcw i a d L w (Zu L ex (f+1) s).1 (Zu L ex (f+1) s).2):=by
 have hM:Zu L ex (f+1) s=doM L (Zu L ex f) (Zf L s) (Ze s):=by rw[Zu];simp only[X,Y,Z,G,if_true,Bool.false_eq_true,if_false]
 rw[hM];clear hM;have D:=Zag (L:=L) (f+1);have d0:=(show Dp L (f+1) s/\s.deep<=200 from⟨hd,j⟩)
 have hE:=h.few.2.1;have g1:=ZT hE h.lt G;have d1:=D.next _ _ d0 g1.toAdv;have HX:=zh (zi o (zi c t));have HD:=zh d1;have HW:=zh (zi Z G);have aw:=zh (A (f+1));clear d1 g1 hE d0 D hd j o A c t;clear Z G;obtain⟨iS,hS,bs,bt,bu⟩:=info_parts Zbj;obtain⟨iU,hU,bv,bw,bx⟩:=info_parts Zbr;obtain⟨iN,hN,bo,bq,br⟩:=info_parts Zba;have a0:=below_alloc1 w (Yg #[Yd Yf 0,Yc Yb 0 0,Yc Yb 0 0,Yc Yb 0 0,Yd Yf 0,Yc Yb 0 0] 55);have ha:=h.keep a0;generalize z:w.alloc (Yg #[Yd Yf 0,Yc Yb 0 0,Yc Yb 0 0,Yc Yb 0 0,Yd Yf 0,Yc Yb 0 0] 55)=wa at *;have RB:=zh (Zau i wa a d L s 8 ha);have H:=zh h;have B:=zh h.size0;clear a0 ha h;go_enter Tryz.func95,Tryz.ntmps95;go_upto_region 2 with(go_at_call 42;go_fit RB.out;rintro e w1 ⟨rfl,c⟩;have B1:=zh c;clear c)
 have S:=zh (Gn.start (k:=8) (p:=Zf L s) H.out z B1.out);clear z RB;generalize w1.alloc (Yg #[Yd Yf 8,Yc Yb 0 0,Yc Yb 0 0,Yc Yb 0 0,Yd Yf (Zf L s),Yc Yb 0 0] 55)=w2 at *;clear B1;generalize w1.heap.size=b at *;have Q:=zh (ZdS i w2 a d L s [108,101,116] S.out.P);rw[X]at Q
 have CN:∀W:Yh,ParS i W a d L s->Calls Tryz.prog 90 #[Ye (Ya ⟨a,0,Yb⟩)] W fun e w'=>e=.returned (.bool false)/\Below W.heap.size W w':=fun W hW=>by
  have q:=ZcQ i W a d L s hW;rw[Y]at q;exact q
 have m:=zh CN;clear CN;clear X Y;go_upto_region 10 with(first|(go_at_call 44;go_fit Q.out;rintro e w3 ⟨rfl,c⟩;have T:=zh (S.out.below c);clear c)|(go_at_call 90;go_fit (m.out _ T.out.P);rintro e w4 ⟨rfl,c⟩;have U:=zh (T.out.below c);clear c))
 clear Q m S T;have n:=zh (ZS (y:=[111,112,101,110]) U.out.P HW.out.1);go_upto_region 17 with(go_at_call 66;go_fit n.out;rintro e w5 ⟨rfl,u,r⟩;have V:=zh (U.out.call u r);clear u r)
 clear U;clear n;have n:=zh (Zac (y:=[100,111]) V.out.P HW.out.2);go_upto_region 18 with(go_at_call 66;go_fit n.out;rintro e w6 ⟨rfl,u,r⟩;have G6:=zh (V.out.call u r);clear u r)
 clear V;clear n;have NM:=zh (ZrM i w w6 a b d L (Ze s) (Zf L s) f (Zu L ex f) HD.out.1 HD.out.2 HX.out.2.1 HX.out.2.2 G6.out);go_upto_region 32 with(go_at_call 119;(refine NM.out.mono ?_);rintro e w7 ⟨rfl,x2,k2,p2,bn,bh,bi,hT,hG⟩;have SH:=hG.shape;obtain⟨C,N,O,E,I,J,F,K,M,rfl⟩:=SH;have l:=zh hG;have HT:=zh hT;clear hG hT)
 clear NM G6;obtain⟨q0,q1,q2,q3,q4,q5⟩:=l.out.cells;dsimp only at q1 q2 q5;have qf:=l.out.free;obtain⟨z0,z1,z2,z3,z4,z5⟩:=l.out.zeros B.out;have zf:=l.out.rfree B.out;have so:=Zt;go_wp2_with fail;obtain⟨r0,r1,r2,r3,r4,r5⟩:=ZaO (l.out.R B.out) (Yd Yf k2) (Yc C N O) (Yc E I J) (Yc Yb 0 0) (Yd Yf p2) (Yc F K M);obtain⟨o1,o2,o3⟩:=l.out.out B.out (Yd Yf k2) (Yc C N O) (Yc E I J) (Yc Yb 0 0) (Yd Yf p2) (Yc F K M);rw[<-HT.out]at o2;exact bodyPost_ret (v:=.agg #[Yd Yf k2,(Yc C N O),(Yc E I J),Yc Yb 0 0,Yd Yf p2,(Yc F K M)]) (by simp[results,Tryz.results95,go_sem,so,r0,r1,r2,r3,r4,r5]) rfl ⟨((Yc C N O),(Yc E I J),(Yc F K M)),(by rw[HT.out];rfl),o1,o2,o3⟩
theorem ZnW (m w:Yh) (c:Nat) (l:Yi) (L:List Tok) (s:PS) (f:Nat) (ex:PS->Tr×PS) (t:∀g,ZbG 118 m c l L (Dp L g) ex) (A:∀g,Onw L (Dp L g) ex) (d:Zco m c l L f (Zu L ex f)) (u:Stm L f (Zu L ex f)) (h:ParS m w c l L s) (hd:Dp L (f+1) s) (n:s.deep<=200) (h1:isM L [108,101,116] s=false) (h2:Zbk L s=false) (h3:isM L [111,112,101,110] s=false) (h4:isM L [100,111] s=false) (h5:isM L [115,112,108,105,116] s=false) (I:isM L [99,97,108,108] s=true) :
  Calls Tryz.prog 95 #[Ye (Ya ⟨c,0,Yb⟩)] w (Zcw m c l L w (Zu L ex (f+1) s).1 (Zu L ex (f+1) s).2):=by
 have hM:Zu L ex (f+1) s=Zc2 L ex (Zf L s) (Ze s):=by rw[Zu];simp only[h1,h2,h3,h4,h5,I,if_true,Bool.false_eq_true,if_false]
 rw[hM];clear hM;have D:=Zag (L:=L) (f+1);have d0:=(show Dp L (f+1) s/\s.deep<=200 from⟨hd,n⟩)
 have hE:=h.few.2.1;have g1:=ZT hE h.lt I;have d1:=D.next _ _ d0 g1.toAdv;have HX:=zh (zi t (zi d u));have HD:=zh d1;have B:=zh (zi h3 (zi h4 (zi h5 I)));have Z:=zh (A (f+1));clear d1 g1 hE d0 D hd n t A d u;clear h3 h4 h5 I;obtain⟨iS,hS,bv,bw,bx⟩:=info_parts Zbj;obtain⟨iU,hU,bz,b0,b1⟩:=info_parts Zbr;obtain⟨iN,hN,bs,bt,bu⟩:=info_parts Zba;have a0:=below_alloc1 w (Yg #[Yd Yf 0,Yc Yb 0 0,Yc Yb 0 0,Yc Yb 0 0,Yd Yf 0,Yc Yb 0 0] 55);have ha:=h.keep a0;generalize z:w.alloc (Yg #[Yd Yf 0,Yc Yb 0 0,Yc Yb 0 0,Yc Yb 0 0,Yd Yf 0,Yc Yb 0 0] 55)=wa at *;have RB:=zh (Zau m wa c l L s 8 ha);have H:=zh h;have C:=zh h.size0;clear a0 ha h;go_enter Tryz.func95,Tryz.ntmps95;go_upto_region 2 with(go_at_call 42;go_fit RB.out;rintro e w1 ⟨rfl,d⟩;have B1:=zh d;clear d)
 have S:=zh (Gn.start (k:=8) (p:=Zf L s) H.out z B1.out);clear z RB;generalize w1.alloc (Yg #[Yd Yf 8,Yc Yb 0 0,Yc Yb 0 0,Yc Yb 0 0,Yd Yf (Zf L s),Yc Yb 0 0] 55)=w2 at *;clear B1;generalize w1.heap.size=b at *;have Q:=zh (ZdS m w2 c l L s [108,101,116] S.out.P);rw[h1]at Q
 have CN:∀W:Yh,ParS m W c l L s->Calls Tryz.prog 90 #[Ye (Ya ⟨c,0,Yb⟩)] W fun e w'=>e=.returned (.bool false)/\Below W.heap.size W w':=fun W hW=>by
  have q:=ZcQ m W c l L s hW;rw[h2]at q;exact q
 have r:=zh CN;clear CN;clear h1 h2;go_upto_region 10 with(first|(go_at_call 44;go_fit Q.out;rintro e w3 ⟨rfl,d⟩;have T:=zh (S.out.below d);clear d)|(go_at_call 90;go_fit (r.out _ T.out.P);rintro e w4 ⟨rfl,d⟩;have U:=zh (T.out.below d);clear d))
 clear Q r S T;have a:=zh (ZS (y:=[111,112,101,110]) U.out.P B.out.1);go_upto_region 17 with(go_at_call 66;go_fit a.out;rintro e w5 ⟨rfl,j,i⟩;have V:=zh (U.out.call j i);clear j i)
 clear U;clear a;have a:=zh (ZS (y:=[100,111]) V.out.P B.out.2.1);go_upto_region 19 with(go_at_call 66;go_fit a.out;rintro e w6 ⟨rfl,j,i⟩;have X:=zh (V.out.call j i);clear j i)
 clear V;clear a;have a:=zh (ZS (y:=[115,112,108,105,116]) X.out.P B.out.2.2.1);go_upto_region 30 with(go_at_call 66;go_fit a.out;rintro e w7 ⟨rfl,j,i⟩;have Y:=zh (X.out.call j i);clear j i)
 clear X;clear a;have a:=zh (Zac (y:=[99,97,108,108]) Y.out.P B.out.2.2.2);go_upto_region 31 with(go_at_call 66;go_fit a.out;rintro e w8 ⟨rfl,j,i⟩;have G8:=zh (Y.out.call j i);clear j i)
 clear Y;clear a;have NM:=zh (Zpe m w w8 c b l L (Ze s) (Zf L s) (f+1) ex HD.out.1 (HX.out.1 (f+1)) Z.out G8.out);go_upto_region 32 with(go_at_call 120;(refine NM.out.mono ?_);rintro e w9 ⟨rfl,x2,k2,p2,br,bk,bl,hT,hG⟩;have SH:=hG.shape;obtain⟨E,N,O,F,i9,J,G,K,M,rfl⟩:=SH;have o:=zh hG;have HT:=zh hT;clear hG hT)
 clear NM G8;obtain⟨q0,q1,q2,q3,q4,q5⟩:=o.out.cells;dsimp only at q1 q2 q5;have qf:=o.out.free;obtain⟨z0,z1,z2,z3,z4,z5⟩:=o.out.zeros C.out;have zf:=o.out.rfree C.out;have so:=Zt;go_wp2_with fail;obtain⟨r0,r1,r2,r3,r4,r5⟩:=ZaO (o.out.R C.out) (Yd Yf k2) (Yc E N O) (Yc F i9 J) (Yc Yb 0 0) (Yd Yf p2) (Yc G K M);obtain⟨o1,o2,o3⟩:=o.out.out C.out (Yd Yf k2) (Yc E N O) (Yc F i9 J) (Yc Yb 0 0) (Yd Yf p2) (Yc G K M);rw[<-HT.out]at o2;exact bodyPost_ret (v:=.agg #[Yd Yf k2,(Yc E N O),(Yc F i9 J),Yc Yb 0 0,Yd Yf p2,(Yc G K M)]) (by simp[results,Tryz.results95,go_sem,so,r0,r1,r2,r3,r4,r5]) rfl ⟨((Yc E N O),(Yc F i9 J),(Yc G K M)),(by rw[HT.out];rfl),o1,o2,o3⟩
theorem ZnX (m w:Yh) (c:Nat) (l:Yi) (L:List Tok) (s:PS) (f:Nat) (ex:PS->Tr×PS) (t:∀g,ZbG 118 m c l L (Dp L g) ex) (A:∀g,Onw L (Dp L g) ex) (d:Zco m c l L f (Zu L ex f)) (u:Stm L f (Zu L ex f)) (h:ParS m w c l L s) (hd:Dp L (f+1) s) (n:s.deep<=200) (h1:isM L [108,101,116] s=false) (h2:Zbk L s=false) (h3:isM L [111,112,101,110] s=false) (h4:isM L [100,111] s=false) (h5:isM L [115,112,108,105,116] s=false) (h6:isM L [99,97,108,108] s=false) :
  Calls Tryz.prog 95 #[Ye (Ya ⟨c,0,Yb⟩)] w (Zcw m c l L w (Zu L ex (f+1) s).1 (Zu L ex (f+1) s).2):=by
 have hM:Zu L ex (f+1) s=Zbx L ex (Zu L ex f) (Zf L s) s:=by rw[Zu];simp only[h1,h2,h3,h4,h5,h6,Bool.false_eq_true,if_false]
 rw[hM];clear hM;have D:=Zag (L:=L) (f+1);have d0:=(show Dp L (f+1) s/\s.deep<=200 from⟨hd,n⟩)
 have hE:=h.few.2.1;have Y:=zh (zi t (zi d u));have HD:=zh d0;have B:=zh (zi h3 (zi h4 (zi h5 h6)));have Z:=zh (A (f+1));clear hE d0 D hd n t A d u;clear h3 h4 h5 h6;obtain⟨iS,hS,bt,bu,bv⟩:=info_parts Zbj;obtain⟨iU,hU,bw,bx,bz⟩:=info_parts Zbr;obtain⟨iN,hN,bq,br,bs⟩:=info_parts Zba;have a0:=below_alloc1 w (Yg #[Yd Yf 0,Yc Yb 0 0,Yc Yb 0 0,Yc Yb 0 0,Yd Yf 0,Yc Yb 0 0] 55);have ha:=h.keep a0;generalize z:w.alloc (Yg #[Yd Yf 0,Yc Yb 0 0,Yc Yb 0 0,Yc Yb 0 0,Yd Yf 0,Yc Yb 0 0] 55)=wa at *;have RB:=zh (Zau m wa c l L s 8 ha);have H:=zh h;have C:=zh h.size0;clear a0 ha h;go_enter Tryz.func95,Tryz.ntmps95;go_upto_region 2 with(go_at_call 42;go_fit RB.out;rintro e w1 ⟨rfl,d⟩;have B1:=zh d;clear d)
 have Q:=zh (Gn.start (k:=8) (p:=Zf L s) H.out z B1.out);clear z RB;generalize w1.alloc (Yg #[Yd Yf 8,Yc Yb 0 0,Yc Yb 0 0,Yc Yb 0 0,Yd Yf (Zf L s),Yc Yb 0 0] 55)=w2 at *;clear B1;generalize w1.heap.size=b at *;have O:=zh (ZdS m w2 c l L s [108,101,116] Q.out.P);rw[h1]at O
 have CN:∀W:Yh,ParS m W c l L s->Calls Tryz.prog 90 #[Ye (Ya ⟨c,0,Yb⟩)] W fun e w'=>e=.returned (.bool false)/\Below W.heap.size W w':=fun W hW=>by
  have q:=ZcQ m W c l L s hW;rw[h2]at q;exact q
 have r:=zh CN;clear CN;clear h1 h2;go_upto_region 10 with(first|(go_at_call 44;go_fit O.out;rintro e w3 ⟨rfl,d⟩;have S:=zh (Q.out.below d);clear d)|(go_at_call 90;go_fit (r.out _ S.out.P);rintro e w4 ⟨rfl,d⟩;have T:=zh (S.out.below d);clear d))
 clear O r Q S;have a:=zh (ZS (y:=[111,112,101,110]) T.out.P B.out.1);go_upto_region 17 with(go_at_call 66;go_fit a.out;rintro e w5 ⟨rfl,j,i⟩;have U:=zh (T.out.call j i);clear j i)
 clear T;clear a;have a:=zh (ZS (y:=[100,111]) U.out.P B.out.2.1);go_upto_region 19 with(go_at_call 66;go_fit a.out;rintro e w6 ⟨rfl,j,i⟩;have V:=zh (U.out.call j i);clear j i)
 clear U;clear a;have a:=zh (ZS (y:=[115,112,108,105,116]) V.out.P B.out.2.2.1);go_upto_region 30 with(go_at_call 66;go_fit a.out;rintro e w7 ⟨rfl,j,i⟩;have X:=zh (V.out.call j i);clear j i)
 clear V;clear a;have a:=zh (ZS (y:=[99,97,108,108]) X.out.P B.out.2.2.2);go_upto_region 2 with(go_at_call 66;go_fit a.out;rintro e w8 ⟨rfl,j,i⟩;have G8:=zh (X.out.call j i);clear j i)
 clear X;clear a;have NM:=zh (Zph m w w8 c b l L s (Zf L s) f ex (Zu L ex f) HD.out.1 HD.out.2 (Y.out.1 (f+1)) Z.out Y.out.2.1 Y.out.2.2 G8.out);go_upto_region 32 with(go_at_call 121;(refine NM.out.mono ?_);rintro e w9 ⟨rfl,x2,k2,p2,bo,bi,bj,hT,hG⟩;have SH:=hG.shape;obtain⟨E,M,N,F,i9,I,G,J,K,rfl⟩:=SH;have o:=zh hG;have HT:=zh hT;clear hG hT)
 clear NM G8;obtain⟨q0,q1,q2,q3,q4,q5⟩:=o.out.cells;dsimp only at q1 q2 q5;have qf:=o.out.free;obtain⟨z0,z1,z2,z3,z4,z5⟩:=o.out.zeros C.out;have zf:=o.out.rfree C.out;have so:=Zt;go_wp2_with fail;obtain⟨r0,r1,r2,r3,r4,r5⟩:=ZaO (o.out.R C.out) (Yd Yf k2) (Yc E M N) (Yc F i9 I) (Yc Yb 0 0) (Yd Yf p2) (Yc G J K);obtain⟨o1,o2,o3⟩:=o.out.out C.out (Yd Yf k2) (Yc E M N) (Yc F i9 I) (Yc Yb 0 0) (Yd Yf p2) (Yc G J K);rw[<-HT.out]at o2;exact bodyPost_ret (v:=.agg #[Yd Yf k2,(Yc E M N),(Yc F i9 I),Yc Yb 0 0,Yd Yf p2,(Yc G J K)]) (by simp[results,Tryz.results95,go_sem,so,r0,r1,r2,r3,r4,r5]) rfl ⟨((Yc E M N),(Yc F i9 I),(Yc G J K)),(by rw[HT.out];rfl),o1,o2,o3⟩
theorem ZjU (j:Yh) (e:Nat) (i:Yi) (L:List Tok) (l:ZaJ L):∀f,Zi5 j e i L f (Zu L (ex7 L) f)
 |0=>fun w s h hd m=>by have:=hd.fuel m;omega
 |f+1=>fun w s h hd m=>by
  have b:=ZhS l (fun g=>Zix l (g+1)) f;have k:=Zkl b (ZjU j e i L l f);have c:=fun g=>ZoA j e i L l g;have d:=fun g=>Zix (L:=L) l g;have a:=(hd.fuel m).1;cases h1:isM L [108,101,116] s with
  |true=>exact ZpE j w e i L s f (ex7 L) c d k b h hd a h1
  |false=>
  cases h2:Zbk L s with
  |true=>exact Zl3 j w e i L s f (ex7 L) c d k b h hd a h1 h2
  |false=>
  cases h3:isM L [111,112,101,110] s with
  |true=>exact ZnY j w e i L s f (ex7 L) c d k b h hd a h1 h2 h3
  |false=>
  cases h4:isM L [100,111] s with
  |true=>exact ZqN j w e i L s f (ex7 L) c d k b h hd a h1 h2 h3 h4
  |false=>
  cases h5:isM L [115,112,108,105,116] s with
  |true=>exact Zl4 j w e i L s f (ex7 L) c d k b h hd a h1 h2 h3 h4 h5
  |false=>
  cases h6:isM L [99,97,108,108] s with
  |true=>exact ZnW j w e i L s f (ex7 L) c d k b h hd a h1 h2 h3 h4 h5 h6
  |false=>exact ZnX j w e i L s f (ex7 L) c d k b h hd a h1 h2 h3 h4 h5 h6
theorem Zlc (D w:Yh) (u:Nat) (C:Yi) (L:List Tok) (s:PS) (f:Nat) (ex st:PS->Tr×PS) (i:Zco D u C L f st) (ak:Stm L f st) (h:ParS D w u C L s) (hd:Dp L (f+1) s) (J:s.deep<=200) :
  Calls Tryz.prog 17 #[Ye (Ya ⟨u,0,Yb⟩)] w (Zcw D u C L w (.mk 0 [] [] (Zf L s) (ZaU L ex st (L.length+1) [] s).1) (ZaU L ex st (L.length+1) [] s).2):=by
 obtain⟨R,hR⟩:∃R,R=ZaU L ex st (L.length+1) [] s:=⟨_,rfl⟩
 rw[<-hR];have HR:=zh (zi hR (zi hd J));have HB:=zh (zi i ak);clear hR hd J i ak;obtain⟨iS,hS,cg,ch,ci⟩:=info_parts Zbj;obtain⟨iU,hU,cj,ck,cm⟩:=info_parts Zbr;obtain⟨iN,hN,cc,cd,ce⟩:=info_parts Zba;have a0:=below_alloc1 w (Yg #[Yd Yf 0,Yc Yb 0 0,Yc Yb 0 0,Yc Yb 0 0,Yd Yf 0,Yc Yb 0 0] 55);have ha:=h.keep a0;generalize ap:w.alloc (Yg #[Yd Yf 0,Yc Yb 0 0,Yc Yb 0 0,Yc Yb 0 0,Yd Yf 0,Yc Yb 0 0] 55)=wa at *;have RB:=zh (Zau D wa u C L s 0 ha);have H:=zh h;have I:=zh h.size0;clear a0 ha h;go_enter Tryz.func17,Tryz.ntmps17;go_upto_region 2 with(go_at_call 42;go_fit RB.out;rintro e w1 ⟨rfl,i⟩;have B1:=zh i;clear i)
 have G2:=zh (Gn.start (k:=0) (p:=Zf L s) H.out ap B1.out);clear ap RB;generalize w1.alloc (Yg #[Yd Yf 0,Yc Yb 0 0,Yc Yb 0 0,Yc Yb 0 0,Yd Yf (Zf L s),Yc Yb 0 0] 55)=w2 at *;clear B1;generalize w1.heap.size=b at *;go_upto_region 2 with fail;have aw:=zh G2.out.P.few.1;go_loopg [] (L.length+1) (fun g wr=>∃(l:List Tr) (t:PS) (x:NV) (vs:List (NV×Tr)),R=ZaU L ex st g l t/\(Dp L (f+1) t/\PS.deep t<=200)/\(t.err=0->L.length-t.at_<g)/\vs.length+g<=L.length+1/\vs.map (·.2)=l/\Gn D w wr u b w.heap.size C L t x 0 (Zf L s) [] [] vs)
 case atStart=>exact⟨[],_,_,[],HR.out.1,HR.out.2,fun _=>by omega,by simp,rfl,G2.out⟩
 case round=>
  obtain⟨l,t,x,vs,Z,hD,K,m,hvl,A⟩:=hrel;have SH:=A.shape;obtain⟨M,V,Q,N,U,S,O,W,T,rfl⟩:=SH;clear G2;have c:=zh A;have LB:=zh (show vs.length<=100004 by have:=aw.out;omega);clear A;by_cases E:t.err=0
  ·skip
   have F:(t.err==0)=true:=by simp[E]
   obtain⟨tk,tt,ta,ht⟩:∃tk tt ta,Za0 L t=(tk,tt,ta):=⟨_,_,_,rfl⟩
   have X:=zh (ZdJ D wr u C L t c.out.P);rw[ht]at X;have aj:=fun w=>ZeK tk tt ta w;by_cases h3:tk=3
   ·skip
    have j:R=(l,t):=by
     rw[Z];cases gk with
     |zero=>rfl
     |succ r=>rw[ZaU,Yn (by rw[ht];simp[h3])]
    have Y:((tk:Int) != 3)=false:=by rw[h3];rfl
    have HQ:=zh (zi j hvl);clear Z j hD K m hvl E ht h3;obtain⟨c0,c1,c2,c3,c4⟩:=c.out.P.cells;have cf:=c.out.P.frees;go_upto_region 8 with(go_at_call 43;go_fit X.out;rintro e ar ⟨rfl,i⟩;have d:=zh (c.out.below i);clear i)
    clear c0 c1 c2 c3 c4 cf;clear F Y aj X c;obtain⟨j,hvl⟩:=HQ.out;subst j;subst hvl;obtain⟨q0,q1,q2,q3,q4,q5⟩:=d.out.cells;dsimp only at q1 q2 q5;have qf:=d.out.free;obtain⟨z0,z1,z2,z3,z4,z5⟩:=d.out.zeros I.out;have zf:=d.out.rfree I.out;have so:=Zt;go_wp2_with fail;obtain⟨r0,r1,r2,r3,r4,r5⟩:=ZaO (d.out.R I.out) (Yd Yf 0) (Yc M V Q) (Yc N U S) (Yc Yb 0 0) (Yd Yf (Zf L s)) (Yc O W T);obtain⟨o1,o2,o3⟩:=d.out.out I.out (Yd Yf 0) (Yc M V Q) (Yc N U S) (Yc Yb 0 0) (Yd Yf (Zf L s)) (Yc O W T);exact bodyPost_ret (v:=.agg #[Yd Yf 0,(Yc M V Q),(Yc N U S),Yc Yb 0 0,Yd Yf (Zf L s),(Yc O W T)]) (by simp[results,Tryz.results17,go_sem,so,r0,r1,r2,r3,r4,r5]) rfl ⟨((Yc M V Q),(Yc N U S),(Yc O W T)),rfl,o1,o2,o3⟩
   ·skip
    obtain⟨r,rfl⟩:∃r,gk=r+1:=⟨gk-1,by have:=K E;omega⟩
    have Y:((tk:Int) != 3)=true:=by simp;omega
    have an:R=if isM L [112,114,111,116,111] t then ZaU L ex st r (l++[(Zb8 L t).1]) (Zb8 L t).2 else if isM L [102,110] t then ZaU L ex st r (l++[(fnM L ex st t).1]) (fnM L ex st t).2 else ZaU L ex st r l (Zcb L 11 t):=by rw[Z,ZaU,Yo ⟨E,by rw[ht];exact h3⟩]
    have a:=zh (zi an (zi (K E) (zi m (zi hvl (zi E hD)))));clear Z an hD K m hvl E ht h3;obtain⟨c0,c1,c2,c3,c4⟩:=c.out.P.cells;have cf:=c.out.P.frees;go_upto_region 3 with(go_at_call 43;go_fit X.out;rintro e ar ⟨rfl,i⟩;have d:=zh (c.out.below i);clear i)
    clear c0 c1 c2 c3 c4 cf;clear F Y aj X c;have GT:=zh d.out;have n:=zh (ZdS D ar u C L t [112,114,111,116,111] d.out.P);by_cases B:isM L [112,114,111,116,111] t=true
    ·skip
     have HK:=zh (show R=ZaU L ex st r (l++[(Zb8 L t).1]) (Zb8 L t).2 by rw[a.out.1,Yo B]);rw[B]at n;clear B;go_upto_region 4 with(go_at_call 44;go_fit n.out;rintro e au ⟨rfl,i⟩;have o:=zh (d.out.below i);clear i)
     clear n;(try go_upto_region 4 with fail);refine ZdT 20 0 3 o.out (by have:=LB.out;(try simp only[Yj,Yk,Yl]);omega) (by intro _ _;go_simp) (fun wr hP=>ZnU D wr u C L t hP) (fun v5 bv b1 bz b9 bn A=>?_);(try dsimp only at A);have z:=zh A;clear A o;(try simp only[cl,Act.put]);go_wp2_with fail;go_roundg r
     case measure=>omega
     case rel=>
      have G:Gon L t (Zb8 L t).2:=Zim GT.out.P.few.2.1 GT.out.P.lt;refine⟨_,_,_,_,HK.out,(Zag (f+1)).next _ _ a.out.2.2.2.2.2 G.toAdv,fun q=>?_,?_,?_,z.out⟩
      ·have:=G.on q;have:=a.out.2.1;have:PS.at_ (Zb8 L t).2<L.length:=z.out.P.lt;omega
      ·have:=a.out.2.2.1;simp only[Yj,Yk,Yl];omega
      ·rw[List.map_append,a.out.2.2.2.1];rfl
    ·skip
     have al:isM L [112,114,111,116,111] t=false:=by simpa using B
     rw[al]at n;clear al;go_upto_region 5 with(go_at_call 44;go_fit n.out;rintro e au ⟨rfl,i⟩;have o:=zh (d.out.below i);clear i)
     clear n;have n:=zh (ZdS D au u C L t [102,110] o.out.P);by_cases hq:isM L [102,110] t=true
     ·skip
      have HK:=zh (show R=ZaU L ex st r (l++[(fnM L ex st t).1]) (fnM L ex st t).2 by rw[a.out.1,Yn B,Yo hq]);rw[hq]at n;clear B hq;go_upto_region 6 with(go_at_call 44;go_fit n.out;rintro e av ⟨rfl,i⟩;have y:=zh (o.out.below i);clear i)
      clear n;(try go_upto_region 6 with fail);refine ZdT 29 0 3 y.out (by have:=LB.out;(try simp only[Yj,Yk,Yl]);omega) (by intro _ _;go_simp) (fun wr hP=>ZrR D wr u C L t f ex st HB.out.1 hP a.out.2.2.2.2.2.1 a.out.2.2.2.2.2.2) (fun v5 bw b2 b0 ca b7 A=>?_);(try dsimp only at A);have aa:=zh A;clear A y;(try simp only[cl,Act.put]);go_wp2_with fail;go_roundg r
      case measure=>omega
      case rel=>
       have G:Gon L t (fnM L ex st t).2:=Znb GT.out.P.few.2.1 HB.out.2 a.out.2.2.2.2.2.1 a.out.2.2.2.2.2.2;refine⟨_,_,_,_,HK.out,(Zag (f+1)).next _ _ a.out.2.2.2.2.2 G.toAdv,fun q=>?_,?_,?_,aa.out⟩
       ·have:=G.on q;have:=a.out.2.1;have:PS.at_ (fnM L ex st t).2<L.length:=aa.out.P.lt;omega
       ·have:=a.out.2.2.1;simp only[Yj,Yk,Yl];omega
       ·rw[List.map_append,a.out.2.2.2.1];rfl
     ·skip
      have HK:=zh (show R=ZaU L ex st r l (Zcb L 11 t)by rw[a.out.1,Yn B,Yn hq]);have am:isM L [102,110] t=false:=by simpa using hq
      rw[am]at n;clear B hq am;go_upto_region 7 with(go_at_call 44;go_fit n.out;rintro e av ⟨rfl,i⟩;have y:=zh (o.out.below i);clear i)
      clear n;have X:=zh (ZdA D av u C L t 11 y.out.P);go_wp2_with (go_at_call 47;go_fit X.out;rintro e bn ⟨rfl,B,K⟩;have z:=zh (y.out.call B K);clear B K);go_roundg r
      case measure=>omega
      case rel=>
       have G:Gon L t (Zcb L 11 t):=ZeZ (by decide) t;refine⟨_,_,_,_,HK.out,(Zag (f+1)).next _ _ a.out.2.2.2.2.2 G.toAdv,fun q=>?_,?_,a.out.2.2.2.1,z.out⟩
       ·have:=G.on q;have:=a.out.2.1;have:PS.at_ (Zcb L 11 t)<L.length:=z.out.P.lt;omega
       ·have:=a.out.2.2.1;omega
  ·skip
   have j:R=(l,t):=by
    rw[Z];cases gk with
    |zero=>rfl
    |succ r=>rw[ZaU,Yn (by simp[E])]
   have F:(t.err==0)=false:=by simp[E]
   have HQ:=zh (zi j hvl);clear Z j hD K m hvl E;obtain⟨c0,c1,c2,c3,c4⟩:=c.out.P.cells;have cf:=c.out.P.frees;go_upto_region 8 with fail;clear c0 c1 c2 c3 c4 cf;clear F;obtain⟨j,hvl⟩:=HQ.out;subst j;subst hvl;obtain⟨q0,q1,q2,q3,q4,q5⟩:=c.out.cells;dsimp only at q1 q2 q5;have qf:=c.out.free;obtain⟨z0,z1,z2,z3,z4,z5⟩:=c.out.zeros I.out;have zf:=c.out.rfree I.out;have so:=Zt;go_wp2_with fail;obtain⟨r0,r1,r2,r3,r4,r5⟩:=ZaO (c.out.R I.out) (Yd Yf 0) (Yc M V Q) (Yc N U S) (Yc Yb 0 0) (Yd Yf (Zf L s)) (Yc O W T);obtain⟨o1,o2,o3⟩:=c.out.out I.out (Yd Yf 0) (Yc M V Q) (Yc N U S) (Yc Yb 0 0) (Yd Yf (Zf L s)) (Yc O W T);exact bodyPost_ret (v:=.agg #[Yd Yf 0,(Yc M V Q),(Yc N U S),Yc Yb 0 0,Yd Yf (Zf L s),(Yc O W T)]) (by simp[results,Tryz.results17,go_sem,so,r0,r1,r2,r3,r4,r5]) rfl ⟨((Yc M V Q),(Yc N U S),(Yc O W T)),rfl,o1,o2,o3⟩
theorem ZmY {b:List Nd} {a j:Nat} {n:Int} (h:j≠a):(ZeW b a n)[j]? = b[j]?:=by
 unfold ZeW
 split
 ·rw[List.getElem?_set_ne (fun e=>h e.symm)]
 ·rfl
theorem Zmf {b:List Nd} {a:Nat} {n:Int} {x:Nd} (h:b[a]? = Ya x):(ZeW b a n)[a]? = Ya ⟨x.kind,x.words,x.nums,x.kids++[n],x.pos⟩:=by
 unfold ZeW;rw[h];exact List.getElem?_set_self (List.getElem?_eq_some_iff.1 h).1
mutual
theorem Zhp:∀(t:Tr) (a:List Nd) (j:Nat),j<a.length->(ZcV t a)[j]? = a[j]?
 |.mk k ws us p ks,a,j,hj=>by
  rw[ZcV,ZgQ ks a.length _ j (by rw[Yj];omega) (by omega),List.getElem?_append_left hj]
theorem ZgQ:∀(ts:List Tr) (a:Nat) (b:List Nd) (j:Nat),j<b.length->j≠a->(ZcY ts a b)[j]? = b[j]?
 |[],a,b,j,_,_=>by rw[ZcY]
 |t::r,a,b,j,hj,hne=>by
  rw[ZcY,ZgQ r a _ j (by rw[ZfZ,ZdD];omega) hne,Zhp t _ j (by rw[ZdD];exact hj),ZmY hne]
end
theorem ZmL:∀ts:List Tr,ts.length<=ZaQ ts
 |[]=>Nat.zero_le _
 |t::r=>by
  have:=ZmL r;have a:1<=szT t:=by cases t;rw[szT];omega
  rw[ZaQ,Yk];omega
theorem ZqL {W:Yh} {Q:Nat->Prop} {x:NV} {t:Tr} (h:TrO W Q x t):∀(w:Yh) (v:Yi) (f:List (NdV×Nd)),Below W.heap.size W w->LayS w W.heap.size v f->f.length+szT t<=1000000 ->
  Calls Tryz.prog 18 #[ZbQ (x,t),v] w fun e w'=>∃(v':Yi) (ai:List (NdV×Nd)),e=.returned v'/\LayS w' W.heap.size v' ai/\ai.map (·.2)=ZcV t (f.map (·.2))/\Below W.heap.size W w'/\ZcO w w':=by
 obtain⟨iA,hA,bn,bo,bp⟩:=info_parts Zsk;obtain⟨iK,bd,bq,br,bs⟩:=info_parts Zsl
 induction h with
 |@mk Q wv uv lv k p ws us vs hw hm hu hl hq he ih=>
  intro w v f hb hL r;have S1:=Zbh hw;have S2:=Zbh hu;have S3:=ZbB hl;have S4:=ZbB hL.own;obtain⟨A,n,c,rfl⟩:=S1;obtain⟨B,m,d,rfl⟩:=S2;obtain⟨C,e,rfl⟩:=S3;obtain⟨O,o,rfl⟩:=S4;have hM:ZcV (.mk k ws us p (vs.map (·.2))) (f.map (·.2))=ZcY (vs.map (·.2)) f.length (f.map (·.2)++[⟨k,ws,us,[],p⟩]):=by rw[ZcV,List.length_map]
  have hS:szT (.mk k ws us p (vs.map (·.2)))=ZaQ (vs.map (·.2))+1:=by rw[szT]
  rw[hS]at r;rw[hM];dsimp only[ZbQ,Tr.kd,Tr.ps];obtain⟨R,hR⟩:∃R,R=ZcY (vs.map (·.2)) f.length (f.map (·.2)++[⟨k,ws,us,[],p⟩]):=⟨_,rfl⟩
  rw[<-hR];have a1:=below_alloc1 w (Yg #[Yd Yf k,Yc A n c,Yc B m d,Yc Yb 0 0,Yd Yf p,Yc C vs.length e] 55);have T1:=Zk.start w #[Yd Yf k,Yc A n c,Yc B m d,Yc Yb 0 0,Yd Yf p,Yc C vs.length e] 55;have L1:=hL.below a1;have b1:=hb.trans (a1.mono hb.size);generalize da:w.alloc (Yg #[Yd Yf k,Yc A n c,Yc B m d,Yc Yb 0 0,Yd Yf p,Yc C vs.length e] 55)=w1 at *;have z:=fun i=>T1.blk.cell i;have z0:=z 0;have z1:=z 1;have z2:=z 2;have z3:=z 3;have z4:=z 4;simp only[List.getElem?_toArray,List.getElem?_cons_zero,List.getElem?_cons_succ]at z0 z1 z2 z3 z4;have a2:=below_alloc1 w1 (Yg #[Yd Yf k,Yc A n c,Yc B m d,Yc Yb 0 0,Yd Yf p] 36);have L2:=zh (L1.below a2);have RD:=zh (ZnG w1 (Yd Yf k) (Yc A n c) (Yc B m d) (Yc Yb 0 0) (Yd Yf p) 36);have b2:=b1.trans (a2.mono b1.size);generalize db:w1.alloc (Yg #[Yd Yf k,Yc A n c,Yc B m d,Yc Yb 0 0,Yd Yf p] 36)=w2 at *;have L:vs.length<=maxLen:=by
   rcases hl.2 with⟨_,q⟩|⟨_,bc,_,q,_,_,h3,h4,_⟩
   ·omega
   ·injection q with _ q2 q3;omega
  have G:=zh (zi hl (zi he (zi ih (zi L (zi r hm)))));have HO:=zh (zi hw hu);have HB:=zh (zi b2 ((ZcO.of_below a1).trans (ZcO.of_below a2)));have HT:=zh (T1.keep a2);have HR:=zh hR;have T:=zh (show Below W.heap.size W w2 from b2);clear z T1 a1 a2 L1 b1 b2 hw hm hu hl hq he ih hb hL r hM hS hR L;go_enter Tryz.func18,Tryz.ntmps18;go_upto_region 3 with(at_builtin;(refine ZaV _ rfl _ _ 22 rfl W.heap.size 36 iA (.agg #[Yd Yf 0,Yc Yb 0 0,Yc Yb 0 0,Yc Yb 0 0,Yd Yf 0]) 5 88 Tryz.underlying22 hA bn bo bp rfl (by decide) (Yc O f.length o) _ _ rfl L2.out.own _ _ 1 1 [Yd Yf k,Yc A n c,Yc B m d,Yc Yb 0 0,Yd Yf p] rfl RD.out (ZqD _ _ _ _ _ _ _ _ _ _ _) (by have:=G.out.2.2.2.2.1;unfold maxLen;omega) (by have:=G.out.2.2.2.2.1;omega) T.out.size ?_);intro v3 w3 j b _;have G3:=zh (zi j b);clear j b)
  have af:w2.ownsRow 0 9 1 (Yc A n c) ws.length (ws.map txt)/\w2.ownsRow 0 2 1 (Yc B m d) us.length (us.map (Value.int Yf))/\∀y∈ws,y.length<=maxLen:=
   ⟨ZcC HO.out.1 (T.out),ZcC HO.out.2 (T.out),G.out.2.2.2.2.2⟩
  have L3:=L2.out.push (x:=((Yc A n c,Yc B m d,Yc Yb 0 0),⟨k,ws,us,[],p⟩)) af ⟨rfl,rfl⟩ G3.out.1 G3.out.2;have F3:=Zij L3.own (by simp);obtain⟨g3,c3,c6,rfl,_,_⟩:=F3;have M:=zh (zi L3 (zi (T.out.grown G3.out.2 T.out.size (fun q hq=>(L2.out.own.lt q hq).1)) (ZcO.row L2.out.own (.inl rfl) G3.out.2)));clear af L3 z0 z1 z2 z3 z4;go_upto_region 4 with fail;go_loopg [1,6] vs.length (fun g v1 v6 wr=>∃(i:Nat) (a:List (NdV×Nd)),v6=Yd Yf i/\i<=vs.length/\g=vs.length-i/\LayS wr W.heap.size v1 a/\R=ZcY ((vs.map (·.2)).drop i) f.length (a.map (·.2))/\Below W.heap.size W wr/\ZcO w2 wr/\f.length<a.length/\a.length+ZaQ ((vs.map (·.2)).drop i)<=1000000/\∃nq:Nd,(a.map (·.2))[f.length]? = Ya nq/\nq.kids.length=i)
  case atStart=>
   refine⟨0,f++[((Yc A n c,Yc B m d,Yc Yb 0 0),⟨k,ws,us,[],p⟩)],rfl,Nat.zero_le _,rfl,?_,?_,M.out.2.1,M.out.2.2,by simp,?_,⟨k,ws,us,[],p⟩,by simp,rfl⟩
   ·have q:=M.out.1;rw[Yj]at q;exact q
   ·rw[HR.out,List.map_append];rfl
   ·have:=G.out.2.2.2.2.1;rw[Yj];simp only[List.drop_zero,Yk,Yl];omega
  case round=>
   obtain⟨i,a,rfl,hi,hg,l,S,E,F,I,r,nq,s,N⟩:=hrel;have F4:=Zij l.own (by omega);obtain⟨g,c,cs,rfl,hT,aa⟩:=F4;have TB:=F.2 _ _ _ HT.out (by decide) (by decide);have y5:wr.cell? ⟨w.heap.size,5,Yb⟩=Ya (Yc C vs.length e):=TB.blk.cell 5;by_cases H:i<vs.length
   ·obtain⟨y,hy⟩:∃y,vs[i]? = Ya y:=⟨_,Ym H⟩
    have hd:(vs.map (·.2)).drop i=y.2::(vs.map (·.2)).drop (i+1):=List.drop_eq_getElem?_toList_append.trans (by rw[List.getElem?_map,hy];rfl);rw[hd,ZcY,List.length_map]at S;rw[hd,ZaQ]at r;obtain⟨x2,D⟩:∃x2,a[f.length]? = Ya x2:=⟨_,Ym I⟩
    have k0:=l.own.cells (g:=g) rfl (f.length*5+3) x2.1.2.2 (ZeO a f.length x2 D).2.2.2.1;rw[Addr.add_lit,Nat.zero_add]at k0;have SK:=Zbh (l.each _ _ D).2.2.1;have U:=zh (zi D (l.each _ _ D).2.2.1);obtain⟨⟨xw,xu,xk⟩,nd⟩:=x2;dsimp only at k0 SK;obtain⟨KA,kn,kc,rfl⟩:=SK;have J:=List.mem_of_getElem? hy;have i0:(0:Int)<=(i:Int):=by omega
    have i1:(i:Int)<(vs.length:Int):=by omega
    have r0:(0:Int)<=(f.length:Int):=by omega
    have r1:(f.length:Int)<(a.length:Int):=by omega
    have wi:IntKind.i64.wrap ((i:Int)+1)=((i+1:Nat):Int):=by push_cast;exact IntWalk.i64_in _ (by have:=G.out.2.2.2.1;unfold maxLen at this;omega)
    have a4:=below_alloc1 wr (Yg #[Yd Yf (a.length:Int)] 3);have L4:=zh (l.below a4);have ay:=zh (Zdl wr (Yd Yf (a.length:Int)) 3);have V:=zh (ZcC U.out.2 a4);have B4:=zh (zi (E.trans (a4.mono E.size)) (ZcO.of_below a4));generalize dc:wr.alloc (Yg #[Yd Yf (a.length:Int)] 3)=w4 at *;have u:=zh (zi H (zi hg (zi S (zi F (zi I (zi r (zi hy (zi J aa))))))));have ag:nd.kids.length<=maxLen:=by
     rcases U.out.2.2 with⟨_,q⟩|⟨_,bc,_,q,_,_,h3,h4,_⟩
     ·dsimp only at q;omega
     ·dsimp only at h3 q;omega
    have ah:nd.kids.length=i:=by rw[List.getElem?_map,D]at s;injection s with s;dsimp only at s;rw[s];exact N
    have vl:vs.length<=1000000:=by have:=ZmL (vs.map (·.2));have:=G.out.2.2.2.2.1;rw[List.length_map]at *;omega
    have kb:(nd.kids.length+1)*8<=140737488355328:=by omega
    have HN:=zh ah;clear H hi hg S F I r hy hd J aa l E hT TB a4 s N ah vl nq D;go_upto_region 7 with(at_builtin;(refine ZaV _ rfl _ _ 32 rfl W.heap.size 3 iK (Yd Yf 0) 1 8 Tryz.underlying32 bd bq br bs rfl (by decide) (Yc KA kn kc) _ _ rfl V.out _ _ 1 1 [Yd Yf (a.length:Int)] rfl ay.out (Zrb _) (by have:=kb;unfold maxLen;dsimp only;omega) (by dsimp only;exact kb) B4.out.1.size ?_);intro vq w5 j b ad;have OS:=Zbh j;obtain⟨A5,n5,c5,rfl⟩:=OS;have X:=zh (L4.out.kid U.out.1 j b ad);have B5:=zh (B4.out.1.grown b B4.out.1.size (fun q hq=>(V.out.lt q hq).1));clear j b ad;have k1:=X.out.1;have k2:=X.out.2.1;dsimp only at k1)
    clear k0 k1 k2 kb ag;have N6:=zh X.out.2.2.1;have Q6:=zh (X.out.2.2.2);have B6:=zh (B5.out.setCell (p:=⟨g,f.length*5+3,Yb⟩) u.out.2.2.2.2.2.2.2.2 (Yc A5 n5 c5));clear X B5;generalize w5.setCell ⟨g,f.length*5+3,Yb⟩ (Yc A5 n5 c5)=w6 at *;have K6:=zh ((u.out.2.2.2.1.trans B4.out.2).trans Q6.out);have y6:w6.cell? ⟨w.heap.size,5,Yb⟩=Ya (Yc C vs.length e):=(K6.out.2 _ _ _ HT.out (by decide) (by decide)).blk.cell 5;obtain⟨g7,e7,hC,c0,c1,c2,c3,c4,bb⟩:=Zmx G.out.1 B6.out u.out.2.2.2.2.2.2.1;injection hC with hC1 _ hC2;subst hC1 hC2;have SY:=(G.out.2.1 y u.out.2.2.2.2.2.2.2.1).shape2;have ae:=u.out.2.2.2.2.2.1;have CT:=zh (G.out.2.2.1 y u.out.2.2.2.2.2.2.2.1 w6 _ _ B6.out N6.out (by rw[List.length_set];omega));have MP:=zh (Zp4 (kv:=Yc A5 n5 c5) (n:=(a.length:Int)) U.out.1);clear y5 ae;obtain⟨⟨y1,y2,y3⟩,yt⟩:=y;dsimp only at c0 c1 c2 c3 c4 bb SY CT;obtain⟨yA,yn,yc,yB,ym,yd,yC,yq,ye,bi⟩:=SY;injection bi with q1 q2;injection q2 with q2 q3;subst q1 q2 q3;go_wp2_with (go_at_call 18;(refine CT.out.mono ?_);rintro e w7 ⟨v7,aj,rfl,Y,ac,Z,ab⟩;have P:=zh (zi Y (zi ac (zi Z ab)));clear Y ac Z ab);go_roundg (vs.length-(i+1))
    case measure=>have:=u.out.1;have:=u.out.2.1;omega
    case rel=>
     have K:aj.length=a.length+szT yt:=by have:=congrArg List.length P.out.2.1;rw[List.length_map,ZfZ,MP.out,ZdD,List.length_map]at this;exact this
     refine⟨i+1,aj,by push_cast;rfl,u.out.1,rfl,P.out.1,?_,P.out.2.2.1,K6.out.trans P.out.2.2.2,?_,?_,?_⟩
     ·rw[u.out.2.2.1,P.out.2.1,MP.out]
     ·rw[K];have:=u.out.2.2.2.2.1;omega
     ·rw[K];have:=u.out.2.2.2.2.2.1;omega
     ·have hx:=U.out.1;have hm:(a.map (·.2))[f.length]? = Ya nd:=by rw[List.getElem?_map,hx];rfl
      rw[P.out.2.1,MP.out,Zhp _ _ _ (by rw[ZdD,List.length_map];exact u.out.2.2.2.2.1),Zmf hm];exact⟨_,rfl,by simp[HN.out]⟩
   ·obtain rfl:i=vs.length:=by omega
    rw[List.drop_of_length_le (by simp),ZcY]at S;have HQ:=zh (zi S (zi l (zi E F)));clear S l E F H hi hg s N r I hT TB;go_wp2_with fail;go_ret;exact⟨_,rfl,_,HQ.out.2.1,HQ.out.1.symm,HQ.out.2.2.1,HB.out.2.trans HQ.out.2.2.2⟩
theorem Zoz {t:Tok} {us:List Tok} (h:ZaJ us):ZaJ (t::us):=by
 refine⟨Nat.succ_pos _,?_⟩;have:=h.1;obtain⟨n,hn⟩:∃n,us.length=n+1:=⟨us.length-1,by omega⟩
 have e:=h.2;unfold Zl at e⊢;rw[Yk,show us.length+1-1=(us.length-1)+1 by omega,List.getElem?_cons_succ];exact e
theorem Zso:∀(m:Nat) (l:List UInt8) (a:Nat) (ts:List Tok),l.length<=m->ZbK l a=.ok ts->ZaJ ts/\ts.length<=l.length+1/\∀t∈ts,t.2.1.length<=l.length:=by
 intro m
 induction m with
 |zero=>
  intro l a ts hm h;obtain rfl:l=[]:=List.eq_nil_of_length_eq_zero (by omega);rw[Zie]at h;injection h with h;subst h;exact⟨⟨by simp,rfl⟩,by simp,fun t b=>by rw[List.mem_singleton]at b;subst b;simp⟩
 |succ m j=>
  intro l a ts hm h;cases q:l.drop (ZW l)with
  |nil=>
   have d:ZW l=l.length:=by have:=List.length_drop (i:=ZW l) (l:=l);have:=ZgC l;rw[q]at *;simp at *;omega
   rw[ZgS d]at h;injection h with h;subst h;exact⟨⟨by simp,rfl⟩,by simp,fun t b=>by rw[List.mem_singleton]at b;subst b;simp⟩
  |cons c r=>
   have e:(c::r).length<=l.length:=by rw[<-q,List.length_drop];omega
   cases f:(Zbi (c::r)).2.2 with
   |false=>rw[ZgR q f]at h;cases h
   |true=>
    have n:=ZiB f;rw[Zf1 q f]at h;cases hr:ZbK ((c::r).drop (Zbi (c::r)).2.1) (a+ZW l+(Zbi (c::r)).2.1)with
    |bad p=>rw[hr]at h;cases h
    |ok k=>
     rw[hr]at h;injection h with h;subst h;have hd:((c::r).drop (Zbi (c::r)).2.1).length<=l.length-1:=by rw[List.length_drop];omega
     obtain⟨g,i2,i3⟩:=j _ _ k (by omega) hr
     refine⟨Zoz g,by rw[Yk];have:1<=l.length:=by(have:=e;rw[Yk]at this;omega)
                     omega,fun t b=>?_⟩
     rcases List.mem_cons.1 b with rfl|b
     ·dsimp only;rw[List.length_take];omega
     ·have:=i3 t b;omega
abbrev st7 (L:List Tok):PS->Tr×PS:=Zu L (ex7 L) 200
abbrev s07:PS:=⟨0,0,0,0⟩
abbrev Zdj (L:List Tok):List Tr×PS:=ZaU L (ex7 L) (st7 L) (L.length+1) [] s07
abbrev ZdW (L:List Tok):Tr:=.mk 0 [] [] (Zf L s07) (Zdj L).1
def Zf5 (l:Txt):List Nd×Int×Int:=
 let r:=Zep l
 if r.2.1≠0 then([],r.2.1,(r.2.2:Int))
 else if(Zdj r.1).2.err≠0 then([],(Zdj r.1).2.err,(Zdj r.1).2.fat)
 else if 1500<(ZcV (ZdW r.1) []).length then([],13,0)
 else if 0<=Zci (ZdW r.1) 1 then([],12,Zci (ZdW r.1) 1)
 else(ZcV (ZdW r.1) [],0,0)
def Zp0 (w:Yh) (r:List Nd×Int×Int) (e:Ending) (w':Yh):Prop:=∃v,e=.returned (.tuple #[v,.agg #[Yd Yf r.2.1,Yd Yf r.2.2]])/\Zi w' v r.1/\Below w.heap.size w w'
theorem LayS.nodes {w:Yh} {B:Nat} {v:Yi} {g:List (NdV×Nd)} (h:LayS w B v g):Zi w v (g.map (·.2)):=by obtain⟨A,c,rfl⟩:=ZbB h.own;obtain⟨C,D,E⟩:=Zgh h.own;refine⟨A,c,g,by rw[List.length_map],by rw[List.length_map];exact C,D,rfl,by rw[List.length_map];exact E,fun x hx=>?_⟩;obtain⟨i,F⟩:=List.mem_iff_getElem?.1 hx;obtain⟨e1,e,f,z⟩:=h.each i x F;obtain⟨⟨J,I,H⟩,G⟩:=x;obtain⟨j,q,a⟩:=ZbB e1;obtain⟨k,r,b⟩:=ZbB e;obtain⟨l,s,d⟩:=ZbB f;dsimp only at a b d e1 e f;subst a b d;obtain⟨m,a2,a3⟩:=Zgh e1;obtain⟨n,o,p⟩:=Zgh e;obtain⟨t,u,y⟩:=Zgh f;exact⟨⟨j,q,rfl,m,a2,a3,z⟩,⟨k,r,rfl,n,o,p⟩,⟨l,s,rfl,t,u,y⟩⟩
theorem Zrz {L:List Tok} {us:TS} (h:L.map kt=us):Zar L 0 us:=by subst h;refine⟨by simp,fun i u a=>?_⟩;rw[List.getElem?_map,Option.map_eq_some_iff]at a;obtain⟨t,b,rfl⟩:=a;rw[Nat.zero_add,Zl,b];rfl
theorem ZnC {ns:List Nd} (R:RightP ns) {f:Nat} (u:f<=90) (q:∀c∈(Zb ns 0).kids,Zfe ns f (Zb ns c)) {L:List Tok} (t:L.map kt=((Zb ns 0).kids.map fun c=>ZcB ns f (Zb ns c)).flatten++[(3,[])]) :
  ∃ts,Zdj L=(ts,Zd s07 (((Zb ns 0).kids.map fun c=>ZcB ns f (Zb ns c)).flatten).length)/\Za6 (fun c=>Zv ns (3*f+3) (Zb ns c)) (Zb ns 0).kids ts:=by
 have l:=Zrz t
 have o:∃i:Nat,ns[i]? = Ya (Zb ns 0):=⟨0,by
  have:=R.some_;unfold Zb;rw[show(0:Int).toNat=0 from rfl,Ym this]
  rfl⟩
 obtain⟨i0,e⟩:=o
 have k:∀c∈(Zb ns 0).kids,ZmW L ((2*f:Nat)+1) (ex7 L) (st7 L) (ZcB ns f (Zb ns c)) (Zv ns (3*f+3) (Zb ns c)):=fun c hc=>by
  obtain⟨j,w⟩:=ZaI R e hc;exact Zne (F:=90) R (fun m i n v hn p=>(ZiA R m i n 201 hn p (by omega)).x) u (by omega) w (q c hc)
 have s:(Zb ns 0).kids.length<L.length+1:=by
  have g:=ZdG (U:=fun c=>ZcB ns f (Zb ns c)) (Zb ns 0).kids fun b d=>by
   rcases k b d with⟨⟨r,h⟩,-⟩|⟨⟨r,h⟩,-⟩<;>rw[h]<;>exact List.cons_ne_nil _ _
  have a:=l.1;rw[Yj]at a;omega
 obtain⟨ts,g,a⟩:=Zfs (U:=fun c=>ZcB ns f (Zb ns c)) (Zb ns 0).kids (L.length+1) [] s07 rfl (by show(0:Int)+_<=200;omega) l s k;exact⟨ts,by rw[show Zdj L=ZaU L (ex7 L) (st7 L) (L.length+1) [] s07 from rfl,g,List.nil_append],a⟩
theorem Zhs:∀(r:List Int) (y:Int),y<=r.foldl max y/\∀x∈r,x<=r.foldl max y
 |[],y=>⟨Int.le_refl _,fun x h=>by simp at h⟩
 |z::r,y=>by
  obtain⟨a,b⟩:=Zhs r (max y z);rw[List.foldl_cons];refine⟨by omega,fun x hx=>?_⟩;rcases List.mem_cons.1 hx with rfl|hx
  ·omega
  ·exact b x hx
theorem ZrH {l:List Int} {x:Int} (h:x∈l):x<=Zf2 l:=by
 cases l with
 |nil=>simp at h
 |cons y r=>
  rcases List.mem_cons.1 h with rfl|h
  ·exact(Zhs r _).1
  ·exact(Zhs r y).2 x h
theorem Zi8 {p:List Int}:∀(j k:Nat),k<j->(Zc0 p j)[k]? = Ya (if 0<=atI p k then 1+atI (Zc0 p k) (atI p k)else 1)
 |0,k,h=>absurd h (Nat.not_lt_zero _)
 |j+1,k,h=>by
  rw[Zc0];rcases Nat.lt_or_ge k j with a|a
  ·rw[List.getElem?_append_left (by rw[Zb0];exact a)];exact Zi8 j k a
  ·obtain rfl:k=j:=by omega
   rw[List.getElem?_append_right (by rw[Zb0];exact Nat.le_refl _),Zb0,Nat.sub_self];rfl
structure DepP (ns:List Nd) (dep:Nat->Nat):Prop where
 root:dep 0=1
 kid:∀(i:Nat) (d:Nd),ns[i]? = Ya d->∀m:Nat,(m:Int)∈d.kids->dep m=dep i+1
 top:∀i:Nat,i<ns.length->dep i<=24
theorem Zpk {ns:List Nd} (h:Zb9 ns=true):∃f,DepP ns f:=by
 cases hp:Zb7 ns with
 |none=>rw[ZdR hp]at h;cases h
 |some p=>
  rw[Zfb hp,Bool.and_eq_true,Bool.and_eq_true,decide_eq_true_eq]at h;obtain⟨⟨_,hm⟩,_⟩:=h;have L:=ZfG hp;obtain⟨u,v,l,o⟩:=ZfF hp;have g:(Zb1 p).length=ns.length:=by unfold Zb1;rw[Zb0,l]
  have a:∀k:Nat,k<ns.length->atI (Zb1 p) k=if 0<=atI p k then 1+atI (Zc0 p k) (atI p k)else 1:=fun k hk=>by
   rw[ZdP];unfold Zb1;rw[Zi8 _ k (by rw[l];exact hk)];rfl
  have b:∀k:Nat,k<ns.length->1<=atI (Zb1 p) k/\atI (Zb1 p) k<=24:=fun k hk=>by
   obtain⟨x,hx⟩:∃x,(Zb1 p)[k]? = Ya x:=⟨_,Ym (by rw[g];exact hk)⟩
   have e:atI (Zb1 p) k=x:=by rw[ZdP,hx];rfl
   have w:=(ZgI o p.length (Nat.le_refl _) k x hx).1;have y:=ZrH (List.mem_of_getElem? hx);omega
  refine⟨fun k=>(atI (Zb1 p) (k:Int)).toNat,?_,fun i d hd m hk=>?_,fun i c=>?_⟩
  ·have:=a 0 (by omega)
   have r:¬0<=atI p ((0:Nat):Int):=fun q=>by
    have:=ZiP L q;omega
   rw[Yn r]at this;rw[this];rfl
  ·obtain⟨s,t,j⟩:=ZfP L hd hk;have c:i<ns.length:=(List.getElem?_eq_some_iff.1 hd).1;have e1:=a m (by omega);rw[Yo (by rw[j];omega),j]at e1;have n:atI (Zc0 p m) (i:Int)=atI (Zb1 p) (i:Int):=by rw[a i c,ZdP,Zi8 m i (by omega)];rfl
   have:=(b i c).1;have:=(b m (by omega)).1;rw[e1,n];omega
  ·have:=b i c;omega
theorem Zcr {ns:List Nd} {a:Nat->Nat} (R:RightP ns) (D:DepP ns a) {i:Nat} {d:Nd} (hd:ns[i]? = Ya d) {c:List Int} (f:∀k∈c,k∈d.kids) {P:Nd->Prop} (h:∀(m:Nat) (e:Nd),a m=a i+1->ns[m]? = Ya e->(m:Int)∈c->Zs ns m=e.kind->P e):Zae ns c P:=
 ZbU R hd f fun m e _ g b hk=>h m e (D.kid i d hd m (f _ b)) g b hk
theorem Zhh {ns:List Nd} {l:Nat->Nat} (R:RightP ns) (D:DepP ns l):∀(f i:Nat) (d:Nd),ns[i]? = Ya d->24<l i+f->ZR d.kind=true->ZZ ns f d
 |0,i,d,hd,hf,_=>by have:=D.top i (List.getElem?_eq_some_iff.1 hd).1;omega
 |f+1,i,d,hd,hf,hk=>by
  obtain⟨_,z,g⟩:=R.node i d hd
  have w:∀k∈d.kids,ZR (Zs ns k)=true->∃m:Nat,k=m/\m<ns.length/\ZZ ns f (Zb ns k):=fun k n p=>by
   obtain⟨m,e,e1,_,A,B,C,E⟩:=ZfX R hd n;have K:=D.kid i d hd m (by rw[<-e1];exact n);refine⟨m,e1,A,?_⟩;rw[C];exact Zhh R D f m e B (by omega) (by rw[<-E];exact p)
  have hc:d.kind=20\/d.kind=21\/d.kind=22\/d.kind=23:=by unfold ZR at hk;rw[Bool.and_eq_true,decide_eq_true_eq,decide_eq_true_eq]at hk;omega
  rw[ZZ];rcases hc with e|e|e|e
  ·simp[Zo,e]at g;obtain⟨y,o⟩:=Zaf g.1;obtain⟨v,hv⟩:=Zb6 o;have:=ZaY z (x:=v) (by rw[hv];simp);unfold Zbf at this;exact⟨fun h=>by rw[e]at h;exact absurd h (by decide),.inl ⟨e,v,[],hv,by omega,by omega⟩⟩
  ·simp[Zo,e]at g;obtain⟨y,o⟩:=Zaf g.1;obtain⟨s,G⟩:=Zb6 y;exact⟨fun h=>by rw[e]at h;exact absurd h (by decide),.inr (.inl ⟨e,s,[],G⟩)⟩
  ·simp[Zo,e]at g;obtain⟨⟨n,p⟩,F⟩:=g;obtain⟨y,o⟩:=Zaf n;obtain⟨v,hv⟩:=Zb6 o;have:=ZaY z (x:=v) (by rw[hv];simp);unfold Zbf at this;have q:v<=5:=by simpa[num,hv]using p
   obtain⟨j,k,c,a,b⟩:=ZfS F;obtain⟨H,rfl,I,J⟩:=w j (by rw[c];simp) a;obtain⟨r,rfl,t,u⟩:=w k (by rw[c];simp) b;exact⟨fun _=>⟨v,[],hv,this.1,q⟩,.inr (.inr (.inr ⟨e,H,r,by rw[c];rfl,I,J,by rw[c];rfl,t,u⟩))⟩
  ·simp[Zo,e]at g;obtain⟨k,c,a⟩:=Zeq g.2;obtain⟨r,rfl,t,u⟩:=w k (by rw[c];simp) a;exact⟨fun h=>by rw[e]at h;exact absurd h (by decide),.inr (.inr (.inl ⟨e,r,by rw[c];rfl,t,u⟩))⟩
theorem ZjX {ns:List Nd} {A:Nat->Nat} (R:RightP ns) (D:DepP ns A):∀(f i:Nat) (d:Nd),ns[i]? = Ya d->24<A i+f->ZcT d.kind=true->Zbp ns f d
 |0,i,d,hd,hf,_=>by have:=D.top i (List.getElem?_eq_some_iff.1 hd).1;omega
 |f+1,i,d,hd,hf,hk=>by
  obtain⟨V,M,v⟩:=R.node i d hd
  have K:∀(m:Nat) (e:Nd),A i<A m->ns[m]? = Ya e->e.kind=7->Zce ns (fun x=>Zbp ns f x) e:=fun m e hm J P=>by
   obtain⟨_,_,v⟩:=R.node m e J;simp[Zo,P]at v;refine Zcr R D J (fun k hk=>hk) fun q g hq C o t=>ZjX R D f q g C (by omega) (by rw[<-t];exact Zca v.2 o)
  have H:∀k,k∈d.kids->ZR (Zs ns k)=true->Zae ns [k] (ZZ ns f):=fun k I E=>
   Zcr R D hd (fun y w=>by rw[List.mem_singleton.1 w];exact I) fun m e hm J o t=>Zhh R D f m e J (by omega) (by rw[<-t];rw[List.mem_singleton.1 o];exact E)
  have G:∀k,k∈d.kids->Zs ns k=7->Zae ns [k] (Zce ns fun x=>Zbp ns f x):=fun k I E=>
   Zcr R D hd (fun y w=>by rw[List.mem_singleton.1 w];exact I) fun m e hm J o t=>K m e (by omega) J (by rw[<-t];rw[List.mem_singleton.1 o];exact E)
  have hc:d.kind=8\/d.kind=9\/d.kind=10\/d.kind=11\/d.kind=13\/d.kind=14\/d.kind=16\/d.kind=17\/d.kind=18\/d.kind=19:=by unfold ZcT at hk;simp at hk;omega
  rw[Zbp];rcases hc with e|e|e|e|e|e|e|e|e|e
  ·simp[Zo,e]at v;obtain⟨k,n,a⟩:=Zeq v.2;exact .inl ⟨.inl e,Zb6 (Zaf v.1).1,k,n,H k (by rw[n];simp) a⟩
  ·simp[Zo,e]at v;obtain⟨k,n,a⟩:=Zeq v.2;exact .inl ⟨.inr e,Zb6 (Zaf v.1).1,k,n,H k (by rw[n];simp) a⟩
  ·simp[Zo,e]at v;obtain⟨j,k,n,a,b⟩:=ZfS v.2;refine .inr (.inl ⟨e,Ze7 (Zaf v.1).1,⟨j,k,n⟩,fun y w=>?_⟩);have F:Zs ns y=7:=by
    rw[n]at w;rcases List.mem_cons.1 w with rfl|w
    ·exact ZbE a
    ·rw[List.mem_singleton.1 w];exact ZbE b
   exact G y w F y (by simp)
  ·simp[Zo,e]at v;refine .inr (.inr (.inl ⟨e,Ze7 (Zaf v.1).1,Zcr R D hd (fun k hk=>hk) fun m g hm C o t=>?_⟩));have N:g.kind=12:=by rw[<-t];exact ZbE (Zca v.2 o)
   obtain⟨_,_,z⟩:=R.node m g C;simp[Zo,N]at z;obtain⟨k,n,a⟩:=Zeq z.2;obtain⟨s,O⟩:=Zb6 (Zaf z.1).1;exact⟨⟨s,[],O⟩,k,n,Zcr R D C (fun y w=>by rw[List.mem_singleton.1 w,n];simp) fun q u hq M o t=>K q u (by omega) M (by rw[<-t];rw[List.mem_singleton.1 o];exact ZbE a)⟩
  ·simp[Zo,e]at v;obtain⟨I,E⟩:=v;obtain⟨p,q,r,hn⟩:=ZhN (Zaf I).2;have S:=ZaY M (x:=p) (by rw[hn];simp);have nq:=ZaY M (x:=q) (by rw[hn];simp);have T:=ZaY M (x:=r) (by rw[hn];simp);unfold Zfa at E;simp at E;obtain⟨⟨⟨_,Q⟩,_⟩,L⟩:=E;have U:p<=4:=by simpa[num,hn]using Q
   refine .inr (.inr (.inr (.inl ⟨e,Ze7 (Zaf I).1,⟨p,q,r,hn,S.1,U,nq,T⟩,?_⟩)));rcases L with L|⟨L,_⟩
   ·obtain⟨k,n,a⟩:=Zeq L;exact⟨[],k,n,(fun y w=>nomatch w),G k (by rw[n];simp) (ZbE a)⟩
   ·obtain⟨j,k,n,a,b⟩:=ZfS L;exact⟨[j],k,n,Zcr R D hd (fun y w=>by rw[List.mem_singleton.1 w,n];simp) fun m g hm C o t=>Ze8 R C (by rw[<-t];rw[List.mem_singleton.1 o];exact ZbE a),G k (by rw[n];simp) (ZbE b)⟩
  ·simp[Zo,e]at v;refine .inr (.inr (.inr (.inr (.inl ⟨e,?_,Zcr R D hd (fun k hk=>hk) fun m g hm C o t=>?_⟩))))
   ·rcases v.1 with h|h
    ·exact .inl (Zb6 (Zaf h).1)
    ·exact .inr (Ze7 (Zaf h).1)
   ·have ha:=Zca v.2 o;rw[t]at ha;unfold ZdE at ha;by_cases B:g.kind=15
    ·obtain⟨_,_,z⟩:=R.node m g C;simp[Zo,B]at z;obtain⟨s,O⟩:=Zb6 (Zaf z.1).1;exact .inl ⟨B,s,[],O⟩
    ·exact .inr ⟨B,Zhh R D f m g C (by omega) (by simpa[B]using ha)⟩
  ·simp[Zo,e]at v;refine .inr (.inr (.inr (.inr (.inr (.inl ⟨e,?_⟩)))));rcases v.2 with h|h
   ·obtain⟨j,k,n,a,b⟩:=ZfS h;exact⟨j,[k],n,by simp,H j (by rw[n];simp) a,G k (by rw[n];simp) (ZbE b)⟩
   ·obtain⟨j,k,l,n,a,b,c⟩:=Zse h;refine⟨j,[k,l],n,by simp,H j (by rw[n];simp) a,fun y w=>?_⟩;have F:Zs ns y=7:=by
     rcases List.mem_cons.1 w with rfl|w
     ·exact ZbE b
     ·rw[List.mem_singleton.1 w];exact ZbE c
    exact G y (by rw[n];exact List.mem_cons_of_mem _ w) F y (by simp)
  ·simp[Zo,e]at v;obtain⟨j,k,n,a,b⟩:=ZfS v.2;exact .inr (.inr (.inr (.inr (.inr (.inr (.inl ⟨e,j,k,n,H j (by rw[n];simp) a,G k (by rw[n];simp) (ZbE b)⟩))))))
  ·simp[Zo,e]at v;obtain⟨k,n,a⟩:=Zeq v.2;exact .inr (.inr (.inr (.inr (.inr (.inr (.inr (.inl ⟨e,k,n,H k (by rw[n];simp) a⟩)))))))
  ·exact .inr (.inr (.inr (.inr (.inr (.inr (.inr (.inr e)))))))
theorem ZoN {ns:List Nd} {F:Nat->Nat} (R:RightP ns) (D:DepP ns F):Zae ns (Zb ns 0).kids (Zfe ns 24):=by
 have E:ns[0]? = Ya (ns[0]'R.some_):=Ym R.some_;have J:=Zcg (k:=0) E;have M:=Zde (k:=0) E;rw[show((0:Nat):Int)=0 from rfl]at J M;obtain⟨_,_,L⟩:=R.node 0 _ E;have z:(ns[0]'R.some_).kind=0:=by rw[<-M];exact R.root
 simp[Zo,z]at L;rw[J];refine Zcr R D E (fun k hk=>hk) fun m d hm hd i f=>?_;obtain⟨_,hu,t⟩:=R.node m d hd;rcases ZiH (Zca L.2 i)with e|e
 ·rw[f]at e;simp[Zo,e]at t;refine .inl ⟨e,Zb6 (Zaf t.1).1,Zcr R D hd (fun k hk=>hk) fun q g hq C i f=>?_⟩;obtain⟨_,u,c⟩:=R.node q g C;rcases ZiH (Zca t.2 i)with A|A
  ·rw[f]at A;simp[Zo,A]at c;obtain⟨⟨j,B⟩,_⟩:=c;obtain⟨v,hv⟩:=Zb6 (Zaf j).2;have:=ZaY u (x:=v) (by rw[hv];simp);exact .inr ⟨A,Zb6 (Zaf j).1,v,hv,this.1,by simpa[num,hv]using B⟩
  ·rw[f]at A;simp[Zo,A]at c;obtain⟨⟨⟨j,B⟩,_⟩,_⟩:=c
   match hg2:g.words with
   |[]=>rw[hg2]at j;simp at j
   |[_]=>rw[hg2]at j;simp at j
   |a::b::r=>exact .inl ⟨A,a,b,r,hg2,by rw[hg2]at B;simp at B;omega,by rw[hg2]at j;simp at j;omega⟩
 ·rw[f]at e;simp[Zo,e]at t;obtain⟨⟨j,B⟩,U⟩:=t;obtain⟨k,w,a⟩:=Zeq U;have G:d.kids≠[]:=fun q=>by rw[q]at w;simp at w
  obtain⟨l,X,o⟩:=ZoS d.kids G;have Q:d.kids.take (d.kids.length-1)=l:=by rw[o];simp
  have P:k=X:=by rw[o]at w;simpa using w.symm
  rw[Q]at B;subst P;refine .inr ⟨e,Zb6 (Zaf j).1,l,k,o,Zcr R D hd (fun y I=>by rw[o];simp[I]) fun q g hq C i f=>?_,Zcr R D hd (fun y I=>by rw[o,List.mem_singleton.1 I];simp) fun q g hq C i f=>?_⟩
  ·have S:g.kind=5:=by rw[<-f];exact ZbE (Zca B i)
   obtain⟨_,u,c⟩:=R.node q g C;simp[Zo,S]at c;rcases c with h|⟨h,hc⟩
   ·exact .inl (Zb6 (Zaf h.1).1)
   ·obtain⟨p,N,r,hn⟩:=ZhN (Zaf h).2;have Y:=ZaY u (x:=p) (by rw[hn];simp);have nq:=ZaY u (x:=N) (by rw[hn];simp);have Z:=ZaY u (x:=r) (by rw[hn];simp);unfold ZcU at hc;simp at hc;obtain⟨⟨⟨V,_⟩,W⟩,_⟩:=hc;refine .inr ⟨Ze7 (Zaf h).1,⟨p,N,r,hn,Y.1,by simpa[num,hn]using V,nq,Z⟩,Zcr R D C (fun k hk=>hk) fun O K H hg2 n s=>Ze8 R hg2 (by rw[<-s];exact ZbE (Zca W n))⟩
  ·have T:g.kind=7:=by rw[<-f,List.mem_singleton.1 i];exact ZbE a
   obtain⟨_,_,c⟩:=R.node q g C;simp[Zo,T]at c;exact Zcr R D C (fun k hk=>hk) fun O K H hg2 n s=>ZjX R D 24 O K hg2 (by omega) (by rw[<-s];exact Zca c.2 n)
mutual
def Zh5 (b:List Nd):Tr->Nat->Prop
 |.mk k ws us _ ks,a=>∃x:Nd,b[a]? = Ya x/\x.kind=k/\x.words=ws/\x.nums=us/\Zga b ks x.kids
def Zga (d:List Nd):List Tr->List Int->Prop
 |[],c=>c=[]
 |t::r,c=>∃(b:Nat) (a:List Int),c=(b:Int)::a/\Zh5 d t b/\Zga d r a
end
theorem ZkJ (ts:List Tr) (a:Nat) (b:List Nd):b.length<=(ZcY ts a b).length:=by rw[Zhq];omega
theorem ZrG (t:Tr) (a:List Nd):a.length<=(ZcV t a).length:=by rw[ZfZ];omega
mutual
theorem ZjB:∀(t:Tr) (a b:List Nd),(∀j,a.length<=j->j<(ZcV t a).length->b[j]? = (ZcV t a)[j]?)->Zh5 b t a.length
 |.mk k ws us p ks,a,b,h=>by
  rw[ZcV]at h;have hx:(a++[(⟨k,ws,us,[],p⟩:Nd)])[a.length]? = Ya ⟨k,ws,us,[],p⟩:=by simp
  obtain⟨i,c,d⟩:=ZiL ks a.length (a++[⟨k,ws,us,[],p⟩]) _ hx;have e:=ZkJ ks a.length (a++[⟨k,ws,us,[],p⟩]);rw[Yj,List.length_singleton]at e;rw[Zh5];refine⟨_,(h a.length (Nat.le_refl _) (by omega)).trans c,rfl,rfl,rfl,?_⟩;dsimp only;rw[List.nil_append];exact d b fun j f g=>h j (by rw[Yj,List.length_singleton]at f;omega) g
theorem ZiL:∀(ts:List Tr) (a:Nat) (b:List Nd) (x:Nd),b[a]? = Ya x->∃cs:List Int,(ZcY ts a b)[a]? = Ya ⟨x.kind,x.words,x.nums,x.kids++cs,x.pos⟩/\∀d:List Nd,(∀j,b.length<=j->j<(ZcY ts a b).length->d[j]? = (ZcY ts a b)[j]?)->Zga d ts cs
 |[],a,b,x,hx=>⟨[],by rw[ZcY,hx,List.append_nil],fun d _=>by rw[Zga]⟩
 |t::r,a,b,x,hx=>by
  have ha:=(List.getElem?_eq_some_iff.1 hx).1;have e1:(ZcV t (ZeW b a (b.length:Int)))[a]? = Ya ⟨x.kind,x.words,x.nums,x.kids++[(b.length:Int)],x.pos⟩:=by rw[Zhp t _ a (by rw[ZdD];exact ha),Zmf hx]
  obtain⟨cs,g,h⟩:=ZiL r a _ _ e1;have i:=ZrG t (ZeW b a (b.length:Int));have hg2:=ZkJ r a (ZcV t (ZeW b a (b.length:Int)));rw[ZdD]at i;refine⟨(b.length:Int)::cs,by rw[ZcY,g];simp,fun d c=>?_⟩;rw[ZcY]at c;rw[Zga];refine⟨b.length,cs,rfl,?_,h d fun j e f=>c j (by omega) f⟩
  have:=ZjB t (ZeW b a (b.length:Int)) d fun j e f=>by
   rw[ZdD]at e;rw[c j e (by omega),ZgQ r a _ j f (by omega)]
  rw[ZdD]at this;exact this
end
theorem Zqx (t:Tr):Zh5 (ZcV t []) t 0:=ZjB t [] _ fun _ _ _=>rfl
theorem ZkI (d:List Nd):∀(ts:List Tr) (cs:List Int),Zga d ts cs->cs.length=ts.length/\∀(q:Nat) (t:Tr) (c:Int),ts[q]? = Ya t->cs[q]? = Ya c->∃b:Nat,c=b/\Zh5 d t b
 |[],cs,h=>by
  rw[Zga]at h;subst h;exact⟨rfl,fun q t c h=>by simp at h⟩
 |t::r,cs,h=>by
  rw[Zga]at h;obtain⟨b,e,rfl,f,g⟩:=h;obtain⟨i,i2⟩:=ZkI d r e g;refine⟨by simp[i],fun q u c a hc=>?_⟩;cases q with
  |zero=>
   injection a with a;injection hc with hc;subst a hc;exact⟨b,rfl,f⟩
  |succ q=>exact i2 q u c a hc
def Zgz (ns d:List Nd):Nat->Int->Int->Prop
 |0,_,_=>False
 |f+1,i,k=>∃(a b:Nat) (x y:Nd),i=a/\k=b/\ns[a]? = Ya x/\d[b]? = Ya y/\x.kind=y.kind/\x.words=y.words/\x.nums=y.nums/\x.kids.length=y.kids.length ∧
  ∀(q:Nat) (c e:Int),x.kids[q]? = Ya c->y.kids[q]? = Ya e->Zgz ns d f c e
theorem Zmy {ns g:List Nd} (R:RightP ns):∀(f a:Nat) (n:Nd) (t:Tr) (b:Nat),ns[a]? = Ya n->Zv ns f n t->Zh5 g t b->Zgz ns g f a b
 |0,_,_,_,_,_,h,_=>h.elim
 |f+1,a,n,.mk k w u p ks,b,hn,h,hl=>by
  rw[Zv]at h;rw[Zh5]at hl;obtain⟨C,D,E,F,G⟩:=h;obtain⟨y,e1,s,v,z,A⟩:=hl;obtain⟨o,I⟩:=ZkI g ks y.kids A;rw[Zgz];refine⟨a,b,n,y,rfl,rfl,hn,e1,by rw[s,C],by rw[v,D],by rw[z,E],by rw[o,F],fun q c e hc i=>?_⟩;have hq:q<ks.length:=by rw[<-o];exact(List.getElem?_eq_some_iff.1 i).1
  have l:ks[q]? = Ya ks[q]:=Ym hq;obtain⟨r,rfl,H⟩:=I q _ e l i;obtain⟨m,d,rfl,_,_,hd,B,_⟩:=ZfX R hn (List.mem_of_getElem? hc);have j:=G q _ _ l hc;rw[B]at j;exact Zmy R f m d _ r hd j H
theorem ZmM {ns:List Nd} {f:Nat}:∀(a:List Tr) (cs:List Int),a.length=cs.length->(∀(i:Nat) (t:Tr) (c:Int),a[i]? = Ya t->cs[i]? = Ya c->szT t<=(Zd1 ns f c).length)->ZaQ a<=(cs.flatMap (Zd1 ns f)).length
 |[],cs,_,_=>by rw[ZaQ];exact Nat.zero_le _
 |t::r,[],h,_=>by simp at h
 |t::r,c::cs,h,g=>by
  have d:=ZmM (ns:=ns) (f:=f) r cs (by simpa using h) fun i t c b hc=>g (i+1) t c b hc;have i2:=g 0 t c rfl rfl;rw[ZaQ,List.flatMap_cons,Yj];omega
theorem ZpP {ns:List Nd} (R:RightP ns):∀(f a:Nat) (n:Nd) (t:Tr),ns[a]? = Ya n->Zv ns (f+1) n t->szT t<=(Zd1 ns f (a:Int)).length
 |0,a,n,.mk k w u p ks,hn,h=>by
  rw[Zv]at h;obtain⟨_,_,_,b,e⟩:=h;cases ks with
  |nil=>rw[szT,ZaQ,Zd1];exact Nat.le_refl _
  |cons t r=>
   cases hc:n.kids with
   |nil=>rw[hc]at b;simp at b
   |cons c o=>exact(e 0 t c rfl (by rw[hc];rfl)).elim
 |f+1,a,n,.mk k w u p ks,hn,h=>by
  rw[Zv]at h;obtain⟨_,_,_,b,e⟩:=h;rw[szT,Zd1,Zcg hn,Yk]
  have:=ZmM (ns:=ns) (f:=f) ks n.kids b fun i t c l hc=>by
   obtain⟨m,d,rfl,_,_,hd,j,_⟩:=ZfX R hn (List.mem_of_getElem? hc);have g:=e i t _ l hc;rw[j]at g;exact ZpP R f m d t hd g
  omega
theorem ZhY:∀(b:List Tr) (a:Int),(∀t∈b,Zci t a=-1)->Zef b a=-1
 |[],a,_=>by rw[Zef]
 |t::r,a,h=>by
  rw[Zef,Yn (by rw[h t List.mem_cons_self];decide)];exact ZhY r a fun u c=>h u (List.mem_cons_of_mem _ c)
theorem Ziu {ns:List Nd} {b:Nat->Nat} (R:RightP ns) (D:DepP ns b):∀(f a:Nat) (n:Nd) (t:Tr),ns[a]? = Ya n->Zv ns f n t->Zci t (b a:Nat)=-1
 |0,_,_,_,_,h=>h.elim
 |f+1,a,n,.mk k w u p ks,hn,h=>by
  rw[Zv]at h;obtain⟨_,_,_,q,r⟩:=h;have:=D.top a (List.getElem?_eq_some_iff.1 hn).1;rw[Zci,Yn (by omega)];refine ZhY ks _ fun t s=>?_;obtain⟨i,j⟩:=List.mem_iff_getElem?.1 s;have g:=(List.getElem?_eq_some_iff.1 j).1;obtain⟨c,hc⟩:∃c,n.kids[i]? = Ya c:=⟨_,Ym (by rw[<-q];exact g)⟩
  obtain⟨m,d,rfl,_,_,hd,o,_⟩:=ZfX R hn (List.mem_of_getElem? hc);have l:=r i t _ j hc;rw[o]at l;have e:=Ziu R D f m d t hd l;rw[D.kid a n hn m (List.mem_of_getElem? hc)]at e;rw[<-e]
  congr 1
end Go.Proofs.YtdkegpkfjgloeaaGreatDoor
