import Derived.RegionTactic
import Derived.Test.YtdkegpkfjgloeaaGreatDoorQAB
import Derived.Test.YtdkegpkfjgloeaaGreatDoorQAI
set_option maxRecDepth 100000
set_option maxHeartbeats 8000000
open Option renaming some → Ya
open Go.Value renaming slice → Yc, int → Yd, pointer → Ye
open Go.IntKind renaming i64 → Yf
open Go.Obj renaming cells → Yg
open Go renaming World → Yh
open Go.RowKit
namespace Go.Proofs.YtdkegpkfjgloeaaGreatDoor
theorem Zp (w:Yh):Below w.heap.size w w.drew:=(Below.refl _ _).drew
theorem Zqi (j w:Yh) (g B f:Nat) (t:Txt) (M:Value) (ns:List Nd) (x:NdV×Nd) (h:PrS j w g t B M) (hx:ZU j x) (S:Ze5 j j) (v:Int) (r:List Int) (hk:x.2.kind=20) (hn:x.2.nums=v::r) (hv:-9223372036854775808<=v/\v<=9223372036854775807) (F:t.length+(ZH ns (f+1) x.2).length+100<=140737488355328) :
  Calls Tryz.prog 88 #[Ye (Ya ⟨g,0,none⟩),ndX x] w fun e w'=>e=.returned (.tuple #[])/\PrS j w' g (t++ZH ns (f+1) x.2) B M/\Fr w w' g:=by
 have hq:=hx;obtain⟨⟨vw,vu,vk⟩,kd,d,a,c,i⟩:=x;obtain⟨U,T,q⟩:=hx;dsimp only at hk hn U T q F⊢;obtain⟨m,p,rfl,J,K,hW,C⟩:=U;obtain⟨s,o,rfl,G,H,O⟩:=T;obtain⟨l,n,rfl,D,E,hK⟩:=q;subst hk;have z:=below_alloc1 w (Yg #[Yd Yf 20,.slice m d.length p,.slice s a.length o,.slice l c.length n,Yd Yf i] 36);have y:Zk _ _ _ _:=Zk.start w #[Yd Yf 20,.slice m d.length p,.slice s a.length o,.slice l c.length n,Yd Yf i] 36;have u:=h.keep z;have P:ZH ns (f+1) ⟨20,d,a,c,i⟩=ZbP v:=by simp only[ZH,num,hn];rfl
 rw[P]at F⊢;obtain⟨X,Y,Z,c3,c4⟩:=Zm (x:=((.slice m d.length p,.slice s a.length o,.slice l c.length n),⟨20,d,a,c,i⟩)) (y);dsimp only at X Y Z c3 c4;generalize I:w.alloc (Yg #[Yd Yf 20,.slice m d.length p,.slice s a.length o,.slice l c.length n,Yd Yf i] 36)=b at *;obtain⟨A,rfl,L⟩:=ints_at (k:=0) (x:=v) O (u.keep (Zp b)).below (by rw[hn];rfl) (by rw[hn];exact Nat.succ_pos _);have u1:b.drew.cell? A=Ya (Yd Yf v):=L;have u2:b.cell? A=Ya (Yd Yf v):=L;have aj:0<a.length:=by rw[hn];exact Nat.succ_pos _
 obtain⟨d0,d1,d2,d3,d4⟩:=Zm (x:=((.slice m d.length p,Yc (Ya A) a.length o,.slice l c.length n),⟨20,d,a,c,i⟩)) (y.keep (Zp b));dsimp only at d0 d1 d2 d3 d4;have W:=zh (ZgV j b.drew g B t M v (u.keep (Zp b)) (S.on (u.keep (Zp b)).below) hv.1 hv.2 (by omega));have V:=zh z;clear u y z hq J K hW C G H O D E hK h hv F P S L hn;go_enter Tryz.func88,Tryz.ntmps88;go_upto_region 3 with fail;refine wp_region_still_tail 7 (by kernel_rfl) (by kernel_rfl) ?_;simp only[List.take_succ_cons,List.take_zero,List.drop_succ_cons,List.drop_zero]
 iterate 7 still_step
 refine wpStill_nil ?_;change wpList _ _ _ _ _ b.drew;go_wp2_with (go_at_call 81;(refine W.out.mono ?_);rintro e w3 ⟨rfl,R,Q⟩;have N:=zh (zi R Q);clear R Q);go_end0;exact⟨rfl,N.out.1,((Fr.of_below g (I▸V.out)).trans (Fr.of_below g (Zp b))).trans N.out.2⟩
theorem Zqj (u w:Yh) (d A f:Nat) (t:Txt) (M:Value) (ns:List Nd) (x:NdV×Nd) (h:PrS u w d t A M) (hx:ZU u x) (s:Txt) (r:List Txt) (hk:x.2.kind=21) (hn:x.2.words=s::r) (E:t.length+(ZH ns (f+1) x.2).length+100<=140737488355328) :
  Calls Tryz.prog 88 #[Ye (Ya ⟨d,0,none⟩),ndX x] w fun e w'=>e=.returned (.tuple #[])/\PrS u w' d (t++ZH ns (f+1) x.2) A M/\Fr w w' d:=by
 have hq:=hx;obtain⟨⟨vw,vu,vk⟩,kd,b,a,c,i⟩:=x;obtain⟨T,S,p⟩:=hx;dsimp only at hk hn T S p E⊢;obtain⟨q,o,rfl,I,J,O,B⟩:=T;obtain⟨l,n,rfl,F,G,hU⟩:=S;obtain⟨j,m,rfl,C,D,hK⟩:=p;subst hk;have y:=below_alloc1 w (Yg #[Yd Yf 21,.slice q b.length o,.slice l a.length n,.slice j c.length m,Yd Yf i] 36);have v:Zk _ _ _ _:=Zk.start w #[Yd Yf 21,.slice q b.length o,.slice l a.length n,.slice j c.length m,Yd Yf i] 36;have K:=h.keep y;have P:ZH ns (f+1) ⟨21,b,a,c,i⟩=s:=by simp only[ZH,word,hn];rfl
 rw[P]at E⊢;obtain⟨W,X,Y,Z,c4⟩:=Zm (x:=((.slice q b.length o,.slice l a.length n,.slice j c.length m),⟨21,b,a,c,i⟩)) (v);dsimp only at W X Y Z c4;generalize H:w.alloc (Yg #[Yd Yf 21,.slice q b.length o,.slice l a.length n,.slice j c.length m,Yd Yf i] 36)=g at *;obtain⟨z,rfl,L⟩:=ZbR (k:=0) (x:=s) O (K.keep (Zp g)).below (by rw[hn];rfl) (by rw[hn];exact Nat.succ_pos _);have u1:g.drew.cell? z=Ya (txt s):=L;have u2:g.cell? z=Ya (txt s):=L;have ai:0<b.length:=by rw[hn];exact Nat.succ_pos _
 obtain⟨d0,d1,d2,d3,d4⟩:=Zm (x:=((Yc (Ya z) b.length o,.slice l a.length n,.slice j c.length m),⟨21,b,a,c,i⟩)) (v.keep (Zp g));dsimp only at d0 d1 d2 d3 d4;have U:=zh (Zas u g.drew d A t M s (K.keep (Zp g)) (by omega));have V:=zh y;clear K v y hq I J O B F G hU C D hK h E P L hn;go_enter Tryz.func88,Tryz.ntmps88;go_upto_region 5 with fail;go_region_with (go_at_call 32;(refine U.out.mono ?_);rintro e w3 ⟨rfl,R,Q⟩;have N:=zh (zi R Q);clear R Q)
 all_goals
  go_wp2_with fail;go_end0;exact⟨rfl,N.out.1,((Fr.of_below d (H▸V.out)).trans (Fr.of_below d (Zp g))).trans N.out.2⟩
theorem ZbZ {ns:List Nd} {k:Nat} {y:Nd} (h:ns[k]? = Ya y):Zb ns k=y:=by unfold Zb;rw[Int.toNat_natCast,h];rfl
theorem ZcM {ns:List Nd} {n:Nd} {i k:Nat} {y:Nd} (a:n.kids[i]? = Ya (k:Int)) (h:ns[k]? = Ya y):Zx ns n i=y:=by
 have:atI n.kids i=k:=by unfold atI;rw[Int.toNat_natCast,a];rfl
 unfold Zx;rw[this];exact ZbZ h
theorem Zqh (i w:Yh) (c A f:Nat) (t:Txt) (o:Value) (ns:List Nd) (x:NdV×Nd) (h:PrS i w c t A o) (Y:Zi i o ns) (hx:ZU i x) (X:ZbM i ns f) (k:Nat) (hk:x.2.kind=23) (H:x.2.kids[0]? = Ya (k:Int)) (j:k<ns.length) (hv:ZZ ns f (Zb ns k)) (D:t.length+(ZH ns (f+1) x.2).length+100<=140737488355328) :
  Calls Tryz.prog 88 #[Ye (Ya ⟨c,0,none⟩),ndX x] w fun e w'=>e=.returned (.tuple #[])/\PrS i w' c (t++ZH ns (f+1) x.2) A o/\Fr w w' c:=by
 have hq:=hx;obtain⟨⟨vw,vu,vk⟩,kd,g,a,d,l⟩:=x;obtain⟨hw,hu,C⟩:=hx;dsimp only at hk H hw hu C D⊢;obtain⟨r,v,rfl,R,S,hW,L⟩:=hw;obtain⟨q,u,rfl,O,P,hU⟩:=hu;obtain⟨p,s,rfl,M,N,hK⟩:=C;subst hk;have K:=below_alloc1 w (Yg #[Yd Yf 23,.slice r g.length v,.slice q a.length u,.slice p d.length s,Yd Yf l] 36);have J:Zk _ _ _ _:=Zk.start w #[Yd Yf 23,.slice r g.length v,.slice q a.length u,.slice p d.length s,Yd Yf l] 36;have T:=h.keep K;obtain⟨z,I⟩:∃z,ns[k]? = Ya z:=⟨_,Ym j⟩
 have he:ZH ns (f+1) ⟨23,g,a,d,l⟩=[45]++opT ns f z 3:=by rw[<-ZcM (n:=⟨23,g,a,d,l⟩) H I];simp only[ZH,opT];rfl
 rw[ZbZ I]at hv;rw[he]at D⊢;simp only[Yj,Yk,Yl]at D;obtain⟨c0,c1,c2,c3,c4⟩:=Zm (x:=((.slice r g.length v,.slice q a.length u,.slice p d.length s),⟨23,g,a,d,l⟩)) (J);dsimp only at c0 c1 c2 c3 c4;generalize Q:w.alloc (Yg #[Yd Yf 23,.slice r g.length v,.slice q a.length u,.slice p d.length s,Yd Yf l] 36)=w1 at *;have AD:=zh (Zas i w1 c A t o [45] T (by simp only[Yk,Yl];omega));have b:=zh (zi K (zi J (zi hq (zi H (zi j (zi I (zi hv (zi X (zi Y (zi D T))))))))));clear T J K hq R S hW L O P hU M N hK h D he H j I hv X Y;go_enter Tryz.func88,Tryz.ntmps88;go_upto_region 8 with(go_at_call 32;(refine AD.out.mono ?_);rintro e w3 ⟨rfl,E,B⟩;have G:=zh (zi E B);clear E B)
 have V:=G.out.2.at_ _ _ _ (ZdZ b.out.2.2.2.2.2.2.2.2.2.2 b.out.2.1) (by decide) b.out.2.1;obtain⟨d0,d1,d2,d3,d4⟩:=Zm (x:=((.slice r g.length v,.slice q a.length u,.slice p d.length s),⟨23,g,a,d,l⟩)) (V);dsimp only at d0 d1 d2 d3 d4;have KI:=zh (Zcf i w3 c A _ o ns _ 0 k ⟨G.out.1,b.out.2.2.2.2.2.2.2.2.1⟩ b.out.2.2.1 b.out.2.2.2.1 b.out.2.2.2.2.1);clear V
 go_wp2_with (first
  |(go_at_call 38;(refine KI.out.mono ?_);rintro e w4 ⟨y,rfl,hy,F,Z⟩;have W:y.2=z:=Option.some.inj (hy.symm.trans b.out.2.2.2.2.2.1);have m:=zh (zi F (zi Z W));clear hy F Z W;have OP:=zh (Zdr i w4 c A f 3 _ o ns y b.out.2.2.2.2.2.2.2.1 (G.out.1.keep m.out.2.1) b.out.2.2.2.2.2.2.2.2.1 m.out.1 (m.out.2.2▸b.out.2.2.2.2.2.2.1) (by rw[m.out.2.2];have:=b.out.2.2.2.2.2.2.2.2.2.1;simp only[Yj,Yk,Yl];omega)))
  |(go_at_call 116;(refine OP.out.mono ?_);rintro e w5 ⟨rfl,E,B⟩;have U:=zh (zi E B);clear E B))
 go_end0;refine⟨rfl,?_,(((Fr.of_below c (Q▸b.out.1)).trans G.out.2).trans (Fr.of_below c m.out.2.1)).trans U.out.2⟩;have:=U.out.1;rw[m.out.2.2]at this;simp only[List.append_assoc]at this⊢;exact this
def Zfk:List Txt:=[Zcd 0,Zcd 1,Zcd 2,Zcd 3,Zcd 4,Zcd 5]
theorem ZhA {a W:Yh} (h:ZaP a 2 Zfk) (b:Below a.heap.size a W) (k:Nat) (hk:k<6):W.cell? ⟨2,k,none⟩=Ya (txt (Zcd k)):=by
 obtain⟨t,c,e⟩:=h.below b;have:k=0\/k=1\/k=2\/k=3\/k=4\/k=5:=by omega
 rcases this with rfl|rfl|rfl|rfl|rfl|rfl<;>simp[World.cell?,e,Zfk]
theorem ZoB (c:Nat) (hc:c=0\/c=1) (m w:Yh) (g A f:Nat) (t:Txt) (u:Value) (ns:List Nd) (x:NdV×Nd) (h:PrS m w g t A u) (hN:Zi m u ns) (hx:ZU m x) (ht:ZaP m 2 Zfk) (hE:ZbM m ns f) (r:List Int) (j k:Nat) (hk:x.2.kind=22) (hn:x.2.nums=(c:Int)::r) (hi:x.2.kids[0]? = Ya (j:Int)) (K:j<ns.length) (hv:ZZ ns f (Zb ns j)) (s:x.2.kids[1]? = Ya (k:Int)) (L:k<ns.length) (M:ZZ ns f (Zb ns k)) (V:t.length+(ZH ns (f+1) x.2).length+100<=140737488355328) :
  Calls Tryz.prog 88 #[Ye (Ya ⟨g,0,none⟩),ndX x] w fun e w'=>e=.returned (.tuple #[])/\PrS m w' g (t++ZH ns (f+1) x.2) A u/\Fr w w' g:=by
 have hq:=hx;obtain⟨⟨vw,vu,vk⟩,kd,d,a,b,l⟩:=x;obtain⟨hw,hu,U⟩:=hx;dsimp only at hk hn hi s hw hu U V⊢;obtain⟨G,J,rfl,aw,ax,hW,al⟩:=hw;obtain⟨N,I,rfl,aq,ar,hU⟩:=hu;obtain⟨F,H,rfl,an,ao,hK⟩:=U;subst hk;have R:=below_alloc1 w (Yg #[Yd Yf 22,Yc G d.length J,Yc N a.length I,Yc F b.length H,Yd Yf l] 36);have B1:Zk _ _ _ _:=Zk.start w #[Yd Yf 22,Yc G d.length J,Yc N a.length I,Yc F b.length H,Yd Yf l] 36;have p1:=h.keep R;obtain⟨z,hz⟩:∃z,ns[j]? = Ya z:=⟨_,Ym K⟩
 obtain⟨y,p⟩:∃y,ns[k]? = Ya y:=⟨_,Ym L⟩
 have hs:ZD ⟨22,d,a,b,l⟩=0:=by unfold ZD num;rw[Yo rfl];dsimp only;rw[hn];rcases hc with rfl|rfl<;>rfl
 have hg:num ⟨22,d,a,b,l⟩ 0=c:=by unfold num;dsimp only;rw[hn];rfl
 have he:ZH ns (f+1) ⟨22,d,a,b,l⟩=opT ns f z 1++Zcd c++opT ns f y 1:=by rw[<-ZcM (n:=⟨22,d,a,b,l⟩) hi hz,<-ZcM (n:=⟨22,d,a,b,l⟩) s p];simp only[ZH,opT,hs,hg];rfl
 rw[ZbZ hz]at hv;rw[ZbZ p]at M;rw[he]at V⊢;simp only[Yj]at V;have W:(Zcd c).length<=4:=by rcases hc with rfl|rfl<;>decide
 have am:c<6:=by omega
 have ce:(0:Int)<=(c:Int):=by omega
 have cf:(c:Int)<6:=by omega
 clear hc;have T:ZhJ ⟨22,d,a,b,l⟩:=fun _=>⟨c,r,hn,by omega,by omega⟩;obtain⟨c0,c1,c2,c3,c4⟩:=Zm (x:=((Yc G d.length J,Yc N a.length I,Yc F b.length H),⟨22,d,a,b,l⟩)) (B1);dsimp only at c0 c1 c2 c3 c4;generalize av:w.alloc (Yg #[Yd Yf 22,Yc G d.length J,Yc N a.length I,Yc F b.length H,Yd Yf l] 36)=w1 at *;have ST:=zh (ZeS m w1 _ hq p1.below T);rw[hs]at ST;have i:=zh (zi R (zi B1 (zi hq (zi hN (zi hE (zi V (zi W p1)))))));have Y:=zh (zi hi (zi K (zi hz hv)));have Z:=zh (zi s (zi L (zi p M)));have P:=zh (zi hU (zi hn ht));clear p1 B1 R hq aw ax hW al aq ar hU an ao hK h V W he hi K hz hv s L p M hE hN hs hg T hn ht;go_enter Tryz.func88,Tryz.ntmps88;go_upto_region 11 with(go_at_call 117;(refine ST.out.mono ?_);rintro e w2 ⟨rfl,B⟩;have HB:=zh B;clear B)
 have K2:=i.out.2.1.keep HB.out;have P2:=zh (i.out.2.2.2.2.2.2.2.keep HB.out);obtain⟨d0,d1,d2,d3,d4⟩:=Zm (x:=((Yc G d.length J,Yc N a.length I,Yc F b.length H),⟨22,d,a,b,l⟩)) (K2);dsimp only at d0 d1 d2 d3 d4;have KI:=zh (Zcf m w2 g A _ u ns _ 0 j ⟨P2.out,i.out.2.2.2.1⟩ i.out.2.2.1 Y.out.1 Y.out.2.1);have Q:=K2;clear K2
 go_upto_region 12 with(first
  |(go_at_call 38;(refine KI.out.mono ?_);rintro e w3 ⟨q,rfl,p,o,B⟩;have S:q.2=z:=Option.some.inj (p.symm.trans Y.out.2.2.1);have v:=zh (zi o (zi B S));clear p o B S;have OP:=zh (Zdr m w3 g A f 1 _ u ns q i.out.2.2.2.2.1 (P2.out.keep v.out.2.1) i.out.2.2.2.1 v.out.1 (v.out.2.2▸Y.out.2.2.2) (by rw[v.out.2.2];have:=i.out.2.2.2.2.2.1;omega)))
  |(go_at_call 116;(refine OP.out.mono ?_);rintro e E ⟨rfl,D,C⟩;have H4:=zh (zi (show PrS m E g (t++opT ns f z 1) A u from v.out.2.2▸D) C);clear D C))
 have K3:=Q.keep v.out.2.1;have K4:=(H4.out.2.at_ _ _ _ (ZdZ (P2.out.keep v.out.2.1) K3) (by decide) K3).keep (Zp E);obtain⟨a0,R,a2,a3,a4⟩:=Zm (x:=((Yc G d.length J,Yc N a.length I,Yc F b.length H),⟨22,d,a,b,l⟩)) (K4);dsimp only at a0 R a2 a3 a4;have P4:=zh (H4.out.1.keep (Zp E));obtain⟨au,rfl,u0⟩:=ints_at (k:=0) (x:=(c:Int)) P.out.1 P4.out.below (by rw[P.out.2.1];rfl) (by rw[P.out.2.1];exact Nat.succ_pos _);have u1:E.drew.cell? au=Ya (Yd Yf c):=u0;have u2:E.cell? au=Ya (Yd Yf c):=u0;have v1:=ZhA P.out.2.2 P4.out.below c am;have v2:E.cell? ⟨2,c,none⟩=Ya (txt (Zcd c)):=v1;have cd:0<a.length:=by rw[P.out.2.1];exact Nat.succ_pos _
 have KS:=zh K4;have AD:=zh (Zas m E.drew g A _ u (Zcd c) P4.out (by have:=i.out.2.2.2.2.2.1;simp only[Yj];omega));clear u0 K3 K4 Q;go_region_with (go_at_call 32;(refine AD.out.mono ?_);rintro e w5 ⟨rfl,D,C⟩;have X:=zh (zi D C);clear D C);have K5:=X.out.2.at_ _ _ _ (ZdZ P4.out KS.out) (by decide) KS.out;obtain⟨b0,b1,b2,b3,b4⟩:=Zm (x:=((Yc G d.length J,Yc (Ya au) a.length I,Yc F b.length H),⟨22,d,a,b,l⟩)) (K5);dsimp only at b0 b1 b2 b3 b4;have KJ:=zh (Zcf m w5 g A _ u ns _ 1 k ⟨X.out.1,i.out.2.2.2.1⟩ i.out.2.2.1 Z.out.1 Z.out.2.1);have wk:IntKind.i64.wrap (0+1)=1:=by decide
 clear K5
 go_wp2_with (first
  |(go_at_call 38;(refine KJ.out.mono ?_);rintro e w6 ⟨q2,rfl,p,o,B⟩;have S:q2.2=y:=Option.some.inj (p.symm.trans Z.out.2.2.1);have O:=zh (zi o (zi B S));clear p o B S;have OQ:=zh (Zdr m w6 g A f 1 _ u ns q2 i.out.2.2.2.2.1 (X.out.1.keep O.out.2.1) i.out.2.2.2.1 O.out.1 (O.out.2.2▸Z.out.2.2.2) (by rw[O.out.2.2];have:=i.out.2.2.2.2.2.1;simp only[Yj];omega)))
  |(go_at_call 116;(refine OQ.out.mono ?_);rintro e w7 ⟨rfl,D,C⟩;have H7:=zh (zi D C);clear D C))
 go_end0;refine⟨rfl,?_,(((((((Fr.of_below g (av▸i.out.1)).trans (Fr.of_below g HB.out)).trans (Fr.of_below g v.out.2.1)).trans H4.out.2).trans (Fr.of_below g (Zp E))).trans X.out.2).trans (Fr.of_below g O.out.2.1)).trans H7.out.2⟩;have:=H7.out.1;rw[O.out.2.2]at this;simp only[List.append_assoc]at this⊢;exact this
theorem ZoC (c:Nat) (hc:c=2\/c=3) (m w:Yh) (g A f:Nat) (t:Txt) (u:Value) (ns:List Nd) (x:NdV×Nd) (h:PrS m w g t A u) (hN:Zi m u ns) (hx:ZU m x) (ht:ZaP m 2 Zfk) (hE:ZbM m ns f) (r:List Int) (j k:Nat) (hk:x.2.kind=22) (hn:x.2.nums=(c:Int)::r) (hi:x.2.kids[0]? = Ya (j:Int)) (K:j<ns.length) (hv:ZZ ns f (Zb ns j)) (s:x.2.kids[1]? = Ya (k:Int)) (L:k<ns.length) (M:ZZ ns f (Zb ns k)) (V:t.length+(ZH ns (f+1) x.2).length+100<=140737488355328) :
  Calls Tryz.prog 88 #[Ye (Ya ⟨g,0,none⟩),ndX x] w fun e w'=>e=.returned (.tuple #[])/\PrS m w' g (t++ZH ns (f+1) x.2) A u/\Fr w w' g:=by
 have hq:=hx;obtain⟨⟨vw,vu,vk⟩,kd,d,a,b,l⟩:=x;obtain⟨hw,hu,U⟩:=hx;dsimp only at hk hn hi s hw hu U V⊢;obtain⟨G,J,rfl,aw,ax,hW,al⟩:=hw;obtain⟨N,I,rfl,aq,ar,hU⟩:=hu;obtain⟨F,H,rfl,an,ao,hK⟩:=U;subst hk;have R:=below_alloc1 w (Yg #[Yd Yf 22,Yc G d.length J,Yc N a.length I,Yc F b.length H,Yd Yf l] 36);have B1:Zk _ _ _ _:=Zk.start w #[Yd Yf 22,Yc G d.length J,Yc N a.length I,Yc F b.length H,Yd Yf l] 36;have p1:=h.keep R;obtain⟨z,hz⟩:∃z,ns[j]? = Ya z:=⟨_,Ym K⟩
 obtain⟨y,p⟩:∃y,ns[k]? = Ya y:=⟨_,Ym L⟩
 have hs:ZD ⟨22,d,a,b,l⟩=1:=by unfold ZD num;rw[Yo rfl];dsimp only;rw[hn];rcases hc with rfl|rfl<;>rfl
 have hg:num ⟨22,d,a,b,l⟩ 0=c:=by unfold num;dsimp only;rw[hn];rfl
 have he:ZH ns (f+1) ⟨22,d,a,b,l⟩=opT ns f z 1++Zcd c++opT ns f y 2:=by rw[<-ZcM (n:=⟨22,d,a,b,l⟩) hi hz,<-ZcM (n:=⟨22,d,a,b,l⟩) s p];simp only[ZH,opT,hs,hg];rfl
 rw[ZbZ hz]at hv;rw[ZbZ p]at M;rw[he]at V⊢;simp only[Yj]at V;have W:(Zcd c).length<=4:=by rcases hc with rfl|rfl<;>decide
 have am:c<6:=by omega
 have ce:(0:Int)<=(c:Int):=by omega
 have cf:(c:Int)<6:=by omega
 clear hc;have T:ZhJ ⟨22,d,a,b,l⟩:=fun _=>⟨c,r,hn,by omega,by omega⟩;obtain⟨c0,c1,c2,c3,c4⟩:=Zm (x:=((Yc G d.length J,Yc N a.length I,Yc F b.length H),⟨22,d,a,b,l⟩)) (B1);dsimp only at c0 c1 c2 c3 c4;generalize av:w.alloc (Yg #[Yd Yf 22,Yc G d.length J,Yc N a.length I,Yc F b.length H,Yd Yf l] 36)=w1 at *;have ST:=zh (ZeS m w1 _ hq p1.below T);rw[hs]at ST;have i:=zh (zi R (zi B1 (zi hq (zi hN (zi hE (zi V (zi W p1)))))));have Y:=zh (zi hi (zi K (zi hz hv)));have Z:=zh (zi s (zi L (zi p M)));have P:=zh (zi hU (zi hn ht));clear p1 B1 R hq aw ax hW al aq ar hU an ao hK h V W he hi K hz hv s L p M hE hN hs hg T hn ht;go_enter Tryz.func88,Tryz.ntmps88;go_upto_region 11 with(go_at_call 117;(refine ST.out.mono ?_);rintro e w2 ⟨rfl,B⟩;have HB:=zh B;clear B)
 have K2:=i.out.2.1.keep HB.out;have P2:=zh (i.out.2.2.2.2.2.2.2.keep HB.out);obtain⟨d0,d1,d2,d3,d4⟩:=Zm (x:=((Yc G d.length J,Yc N a.length I,Yc F b.length H),⟨22,d,a,b,l⟩)) (K2);dsimp only at d0 d1 d2 d3 d4;have KI:=zh (Zcf m w2 g A _ u ns _ 0 j ⟨P2.out,i.out.2.2.2.1⟩ i.out.2.2.1 Y.out.1 Y.out.2.1);have Q:=K2;clear K2
 go_upto_region 12 with(first
  |(go_at_call 38;(refine KI.out.mono ?_);rintro e w3 ⟨q,rfl,p,o,B⟩;have S:q.2=z:=Option.some.inj (p.symm.trans Y.out.2.2.1);have v:=zh (zi o (zi B S));clear p o B S;have OP:=zh (Zdr m w3 g A f 1 _ u ns q i.out.2.2.2.2.1 (P2.out.keep v.out.2.1) i.out.2.2.2.1 v.out.1 (v.out.2.2▸Y.out.2.2.2) (by rw[v.out.2.2];have:=i.out.2.2.2.2.2.1;omega)))
  |(go_at_call 116;(refine OP.out.mono ?_);rintro e E ⟨rfl,D,C⟩;have H4:=zh (zi (show PrS m E g (t++opT ns f z 1) A u from v.out.2.2▸D) C);clear D C))
 have K3:=Q.keep v.out.2.1;have K4:=(H4.out.2.at_ _ _ _ (ZdZ (P2.out.keep v.out.2.1) K3) (by decide) K3).keep (Zp E);obtain⟨a0,R,a2,a3,a4⟩:=Zm (x:=((Yc G d.length J,Yc N a.length I,Yc F b.length H),⟨22,d,a,b,l⟩)) (K4);dsimp only at a0 R a2 a3 a4;have P4:=zh (H4.out.1.keep (Zp E));obtain⟨au,rfl,u0⟩:=ints_at (k:=0) (x:=(c:Int)) P.out.1 P4.out.below (by rw[P.out.2.1];rfl) (by rw[P.out.2.1];exact Nat.succ_pos _);have u1:E.drew.cell? au=Ya (Yd Yf c):=u0;have u2:E.cell? au=Ya (Yd Yf c):=u0;have v1:=ZhA P.out.2.2 P4.out.below c am;have v2:E.cell? ⟨2,c,none⟩=Ya (txt (Zcd c)):=v1;have cd:0<a.length:=by rw[P.out.2.1];exact Nat.succ_pos _
 have KS:=zh K4;have AD:=zh (Zas m E.drew g A _ u (Zcd c) P4.out (by have:=i.out.2.2.2.2.2.1;simp only[Yj];omega));clear u0 K3 K4 Q;go_region_with (go_at_call 32;(refine AD.out.mono ?_);rintro e w5 ⟨rfl,D,C⟩;have X:=zh (zi D C);clear D C);have K5:=X.out.2.at_ _ _ _ (ZdZ P4.out KS.out) (by decide) KS.out;obtain⟨b0,b1,b2,b3,b4⟩:=Zm (x:=((Yc G d.length J,Yc (Ya au) a.length I,Yc F b.length H),⟨22,d,a,b,l⟩)) (K5);dsimp only at b0 b1 b2 b3 b4;have KJ:=zh (Zcf m w5 g A _ u ns _ 1 k ⟨X.out.1,i.out.2.2.2.1⟩ i.out.2.2.1 Z.out.1 Z.out.2.1);have wk:IntKind.i64.wrap (1+1)=2:=by decide
 clear K5
 go_wp2_with (first
  |(go_at_call 38;(refine KJ.out.mono ?_);rintro e w6 ⟨q2,rfl,p,o,B⟩;have S:q2.2=y:=Option.some.inj (p.symm.trans Z.out.2.2.1);have O:=zh (zi o (zi B S));clear p o B S;have OQ:=zh (Zdr m w6 g A f 2 _ u ns q2 i.out.2.2.2.2.1 (X.out.1.keep O.out.2.1) i.out.2.2.2.1 O.out.1 (O.out.2.2▸Z.out.2.2.2) (by rw[O.out.2.2];have:=i.out.2.2.2.2.2.1;simp only[Yj];omega)))
  |(go_at_call 116;(refine OQ.out.mono ?_);rintro e w7 ⟨rfl,D,C⟩;have H7:=zh (zi D C);clear D C))
 go_end0;refine⟨rfl,?_,(((((((Fr.of_below g (av▸i.out.1)).trans (Fr.of_below g HB.out)).trans (Fr.of_below g v.out.2.1)).trans H4.out.2).trans (Fr.of_below g (Zp E))).trans X.out.2).trans (Fr.of_below g O.out.2.1)).trans H7.out.2⟩;have:=H7.out.1;rw[O.out.2.2]at this;simp only[List.append_assoc]at this⊢;exact this
theorem ZoD (c:Nat) (hc:c=4\/c=5) (m w:Yh) (g A f:Nat) (t:Txt) (u:Value) (ns:List Nd) (x:NdV×Nd) (h:PrS m w g t A u) (hN:Zi m u ns) (hx:ZU m x) (ht:ZaP m 2 Zfk) (hE:ZbM m ns f) (r:List Int) (j k:Nat) (hk:x.2.kind=22) (hn:x.2.nums=(c:Int)::r) (hi:x.2.kids[0]? = Ya (j:Int)) (K:j<ns.length) (hv:ZZ ns f (Zb ns j)) (s:x.2.kids[1]? = Ya (k:Int)) (L:k<ns.length) (M:ZZ ns f (Zb ns k)) (V:t.length+(ZH ns (f+1) x.2).length+100<=140737488355328) :
  Calls Tryz.prog 88 #[Ye (Ya ⟨g,0,none⟩),ndX x] w fun e w'=>e=.returned (.tuple #[])/\PrS m w' g (t++ZH ns (f+1) x.2) A u/\Fr w w' g:=by
 have hq:=hx;obtain⟨⟨vw,vu,vk⟩,kd,d,a,b,l⟩:=x;obtain⟨hw,hu,U⟩:=hx;dsimp only at hk hn hi s hw hu U V⊢;obtain⟨G,J,rfl,aw,ax,hW,al⟩:=hw;obtain⟨N,I,rfl,aq,ar,hU⟩:=hu;obtain⟨F,H,rfl,an,ao,hK⟩:=U;subst hk;have R:=below_alloc1 w (Yg #[Yd Yf 22,Yc G d.length J,Yc N a.length I,Yc F b.length H,Yd Yf l] 36);have B1:Zk _ _ _ _:=Zk.start w #[Yd Yf 22,Yc G d.length J,Yc N a.length I,Yc F b.length H,Yd Yf l] 36;have p1:=h.keep R;obtain⟨z,hz⟩:∃z,ns[j]? = Ya z:=⟨_,Ym K⟩
 obtain⟨y,p⟩:∃y,ns[k]? = Ya y:=⟨_,Ym L⟩
 have hs:ZD ⟨22,d,a,b,l⟩=2:=by unfold ZD num;rw[Yo rfl];dsimp only;rw[hn];rcases hc with rfl|rfl<;>rfl
 have hg:num ⟨22,d,a,b,l⟩ 0=c:=by unfold num;dsimp only;rw[hn];rfl
 have he:ZH ns (f+1) ⟨22,d,a,b,l⟩=opT ns f z 2++Zcd c++opT ns f y 3:=by rw[<-ZcM (n:=⟨22,d,a,b,l⟩) hi hz,<-ZcM (n:=⟨22,d,a,b,l⟩) s p];simp only[ZH,opT,hs,hg];rfl
 rw[ZbZ hz]at hv;rw[ZbZ p]at M;rw[he]at V⊢;simp only[Yj]at V;have W:(Zcd c).length<=4:=by rcases hc with rfl|rfl<;>decide
 have am:c<6:=by omega
 have ce:(0:Int)<=(c:Int):=by omega
 have cf:(c:Int)<6:=by omega
 clear hc;have T:ZhJ ⟨22,d,a,b,l⟩:=fun _=>⟨c,r,hn,by omega,by omega⟩;obtain⟨c0,c1,c2,c3,c4⟩:=Zm (x:=((Yc G d.length J,Yc N a.length I,Yc F b.length H),⟨22,d,a,b,l⟩)) (B1);dsimp only at c0 c1 c2 c3 c4;generalize av:w.alloc (Yg #[Yd Yf 22,Yc G d.length J,Yc N a.length I,Yc F b.length H,Yd Yf l] 36)=w1 at *;have ST:=zh (ZeS m w1 _ hq p1.below T);rw[hs]at ST;have i:=zh (zi R (zi B1 (zi hq (zi hN (zi hE (zi V (zi W p1)))))));have Y:=zh (zi hi (zi K (zi hz hv)));have Z:=zh (zi s (zi L (zi p M)));have P:=zh (zi hU (zi hn ht));clear p1 B1 R hq aw ax hW al aq ar hU an ao hK h V W he hi K hz hv s L p M hE hN hs hg T hn ht;go_enter Tryz.func88,Tryz.ntmps88;go_upto_region 11 with(go_at_call 117;(refine ST.out.mono ?_);rintro e w2 ⟨rfl,B⟩;have HB:=zh B;clear B)
 have K2:=i.out.2.1.keep HB.out;have P2:=zh (i.out.2.2.2.2.2.2.2.keep HB.out);obtain⟨d0,d1,d2,d3,d4⟩:=Zm (x:=((Yc G d.length J,Yc N a.length I,Yc F b.length H),⟨22,d,a,b,l⟩)) (K2);dsimp only at d0 d1 d2 d3 d4;have KI:=zh (Zcf m w2 g A _ u ns _ 0 j ⟨P2.out,i.out.2.2.2.1⟩ i.out.2.2.1 Y.out.1 Y.out.2.1);have Q:=K2;clear K2
 go_upto_region 12 with(first
  |(go_at_call 38;(refine KI.out.mono ?_);rintro e w3 ⟨q,rfl,p,o,B⟩;have S:q.2=z:=Option.some.inj (p.symm.trans Y.out.2.2.1);have v:=zh (zi o (zi B S));clear p o B S;have OP:=zh (Zdr m w3 g A f 2 _ u ns q i.out.2.2.2.2.1 (P2.out.keep v.out.2.1) i.out.2.2.2.1 v.out.1 (v.out.2.2▸Y.out.2.2.2) (by rw[v.out.2.2];have:=i.out.2.2.2.2.2.1;omega)))
  |(go_at_call 116;(refine OP.out.mono ?_);rintro e E ⟨rfl,D,C⟩;have H4:=zh (zi (show PrS m E g (t++opT ns f z 2) A u from v.out.2.2▸D) C);clear D C))
 have K3:=Q.keep v.out.2.1;have K4:=(H4.out.2.at_ _ _ _ (ZdZ (P2.out.keep v.out.2.1) K3) (by decide) K3).keep (Zp E);obtain⟨a0,R,a2,a3,a4⟩:=Zm (x:=((Yc G d.length J,Yc N a.length I,Yc F b.length H),⟨22,d,a,b,l⟩)) (K4);dsimp only at a0 R a2 a3 a4;have P4:=zh (H4.out.1.keep (Zp E));obtain⟨au,rfl,u0⟩:=ints_at (k:=0) (x:=(c:Int)) P.out.1 P4.out.below (by rw[P.out.2.1];rfl) (by rw[P.out.2.1];exact Nat.succ_pos _);have u1:E.drew.cell? au=Ya (Yd Yf c):=u0;have u2:E.cell? au=Ya (Yd Yf c):=u0;have v1:=ZhA P.out.2.2 P4.out.below c am;have v2:E.cell? ⟨2,c,none⟩=Ya (txt (Zcd c)):=v1;have cd:0<a.length:=by rw[P.out.2.1];exact Nat.succ_pos _
 have KS:=zh K4;have AD:=zh (Zas m E.drew g A _ u (Zcd c) P4.out (by have:=i.out.2.2.2.2.2.1;simp only[Yj];omega));clear u0 K3 K4 Q;go_region_with (go_at_call 32;(refine AD.out.mono ?_);rintro e w5 ⟨rfl,D,C⟩;have X:=zh (zi D C);clear D C);have K5:=X.out.2.at_ _ _ _ (ZdZ P4.out KS.out) (by decide) KS.out;obtain⟨b0,b1,b2,b3,b4⟩:=Zm (x:=((Yc G d.length J,Yc (Ya au) a.length I,Yc F b.length H),⟨22,d,a,b,l⟩)) (K5);dsimp only at b0 b1 b2 b3 b4;have KJ:=zh (Zcf m w5 g A _ u ns _ 1 k ⟨X.out.1,i.out.2.2.2.1⟩ i.out.2.2.1 Z.out.1 Z.out.2.1);have wk:IntKind.i64.wrap (2+1)=3:=by decide
 clear K5
 go_wp2_with (first
  |(go_at_call 38;(refine KJ.out.mono ?_);rintro e w6 ⟨q2,rfl,p,o,B⟩;have S:q2.2=y:=Option.some.inj (p.symm.trans Z.out.2.2.1);have O:=zh (zi o (zi B S));clear p o B S;have OQ:=zh (Zdr m w6 g A f 3 _ u ns q2 i.out.2.2.2.2.1 (X.out.1.keep O.out.2.1) i.out.2.2.2.1 O.out.1 (O.out.2.2▸Z.out.2.2.2) (by rw[O.out.2.2];have:=i.out.2.2.2.2.2.1;simp only[Yj];omega)))
  |(go_at_call 116;(refine OQ.out.mono ?_);rintro e w7 ⟨rfl,D,C⟩;have H7:=zh (zi D C);clear D C))
 go_end0;refine⟨rfl,?_,(((((((Fr.of_below g (av▸i.out.1)).trans (Fr.of_below g HB.out)).trans (Fr.of_below g v.out.2.1)).trans H4.out.2).trans (Fr.of_below g (Zp E))).trans X.out.2).trans (Fr.of_below g O.out.2.1)).trans H7.out.2⟩;have:=H7.out.1;rw[O.out.2.2]at this;simp only[List.append_assoc]at this⊢;exact this
theorem Zqg (b:Yh) (ns:List Nd) (A:Ze5 b b) (y:ZaP b 2 Zfk):∀f,ZbM b ns f:=by
 intro f
 induction f with
 |zero=>intro w d e t n x h p hx hv _;exact hv.elim
 |succ f u=>
  intro w d e t n x h p hx hv o;obtain⟨z,hv⟩:=hv;rcases hv with⟨hk,v,r,hn,hv⟩|⟨hk,s,r,hn⟩|⟨hk,k,q,a,hv⟩|⟨hk,j,k,q,l,hv,i,a,m⟩
  ·exact Zqi b w d e f t n ns x h hx A v r hk hn hv o
  ·exact Zqj b w d e f t n ns x h hx s r hk hn o
  ·exact Zqh b w d e f t n ns x h p hx u k hk q a hv o
  ·obtain⟨g,r,hn,B,C⟩:=z hk;obtain⟨c,rfl⟩:∃c:Nat,g=c:=⟨g.toNat,by omega⟩
   have:(c=0\/c=1)\/(c=2\/c=3)\/(c=4\/c=5):=by omega
   rcases this with hc|hc|hc
   ·exact ZoB c hc b w d e f t n ns x h p hx y u r j k hk hn q l hv i a m o
   ·exact ZoC c hc b w d e f t n ns x h p hx y u r j k hk hn q l hv i a m o
   ·exact ZoD c hc b w d e f t n ns x h p hx y u r j k hk hn q l hv i a m o
end Go.Proofs.YtdkegpkfjgloeaaGreatDoor
