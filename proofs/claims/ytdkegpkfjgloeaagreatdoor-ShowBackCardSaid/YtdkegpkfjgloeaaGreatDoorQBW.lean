import Derived.Lib.BufferRead
import Derived.Lib.LaidTab
import Derived.Test.YtdkegpkfjgloeaaGreatDoorQAH
import Derived.Test.YtdkegpkfjgloeaaGreatDoorQAI
import Derived.Test.YtdkegpkfjgloeaaGreatDoorQAO
import Derived.Test.YtdkegpkfjgloeaaGreatDoorQBS
import Derived.Test.YtdkegpkfjgloeaaGreatDoorQBT
import Derived.Test.YtdkegpkfjgloeaaGreatDoorQBU
import Derived.Test.YtdkegpkfjgloeaaGreatDoorQBV
set_option maxRecDepth 100000
set_option maxHeartbeats 8000000
open Option renaming some → Ya
open Go.Value renaming slice → Yc, int → Yd, pointer → Ye
open Go.IntKind renaming i64 → Yf
open Go.Obj renaming cells → Yg
open Go renaming World → Yh
open Go.RowKit
namespace Go.Proofs.YtdkegpkfjgloeaaGreatDoor
theorem ZnH {a:Yh} {A:Option Addr} {n b:Nat} {l:List Value} (h:ZO a b 1 A n l) (k:Nat) (hk:k<=n):ZO a b 1 A k (l.take k):=by
 obtain⟨d,f⟩:=h;refine⟨by rw[List.length_take,d];omega,fun j=>?_⟩;obtain⟨c,e,g,hc⟩:=f (by omega);refine⟨c,e,g,fun i v hv=>hc i v ?_⟩;rw[List.getElem?_take]at hv
 split at hv
 ·exact hv
 ·cases hv
theorem Znd (l w:Yh) (q:Nat) (t:Txt) (I:Value) (ns:List Nd) (f:Nat) (x:NdV×Nd) (h:PrS l w q t 0 I) (hN:Zi l I ns) (hx:ZU l x) (hk:x.2.kind=1) (a:Txt) (hn:x.2.words=[a]) (i:Zae ns x.2.kids Zff) (G:t.length+(ZcH ns f x.2).length+10000<=140737488355328) :
  Calls Tryz.prog 15 #[Ye (Ya ⟨q,0,none⟩),ndX x] w fun e w'=>e=.returned (.tuple #[])/\PrS l w' q (t++ZcH ns f x.2) 0 I/\Fr w w' q:=by
 have hq:=hx;obtain⟨⟨vw,vu,vk⟩,kd,d,b,c,s⟩:=x;obtain⟨hw,hu,D⟩:=hx;dsimp only at hk hn i hw hu D G⊢;obtain⟨Aw,A,rfl,Y,Z,U,V⟩:=hw;obtain⟨u,y,rfl,W,X,hU⟩:=hu;obtain⟨m,r,rfl,E,F,hK⟩:=D;subst hk;have he:ZcH ns f ⟨1,d,b,c,s⟩=[112,114,111,116,111,32]++a++ZX 0 (c.map fun k=>Zcv (Zb ns k)):=by unfold ZcH word;dsimp only;rw[Yo rfl,hn];rfl
 rw[he]at G⊢;clear he;simp only[Yj,Yk,Yl]at G;have S:=Nw.start (w:=w) #[Yd Yf 1,Yc Aw d.length A,.slice u b.length y,.slice m c.length r,Yd Yf s] h;generalize av:w.alloc (Yg #[Yd Yf 1,Yc Aw d.length A,.slice u b.length y,.slice m c.length r,Yd Yf s] 36)=w1 at *;obtain⟨o,rfl,_⟩:=ZbR (k:=0) (x:=a) U S.p.below (by rw[hn];rfl) (by rw[hn];exact Nat.succ_pos _);have j:0<d.length:=by rw[hn];exact Nat.succ_pos _
 have n:=zh (zi U hn);have Q:=zh S;have R:=zh (zi hN (zi hq (zi hK (zi F E))));have HL:=zh G;have HO:=zh i;clear S hq Y Z U V W X hU E F hK h hN G hn i;have J:=zh Q.out.drew;obtain⟨L,M,N,O,P⟩:=Zm (x:=((Yc (Ya o) d.length A,.slice u b.length y,.slice m c.length r),⟨1,d,b,c,s⟩)) Q.out.k;dsimp only at L M N O P;have g:=Zw (k:=0) (x:=a) n.out.1 Q.out.p.below (by rw[n.out.2];rfl) j;have z:w1.cell? o=Ya (txt a):=g;obtain⟨d0,d1,d2,d3,d4⟩:=Zm (x:=((Yc (Ya o) d.length A,.slice u b.length y,.slice m c.length r),⟨1,d,b,c,s⟩)) J.out.k;dsimp only at d0 d1 d2 d3 d4;have B:=Zw (k:=0) (x:=a) n.out.1 J.out.p.below (by rw[n.out.2];rfl) j;have T:w1.drew.cell? o=Ya (txt a):=B;have AD:=zh (Zdp l w1.drew q 0 t I [112,114,111,116,111,32] a J.out.p (by have:=HL.out;simp only[Yk,Yl];omega));go_enter Tryz.func15,Tryz.ntmps15;go_upto_region 2 with fail;go_region_with (go_at_call 32;(refine AD.out.mono ?_);rintro e w2 ⟨rfl,H,C⟩;have K:=zh (J.out.next H C);clear H C)
 all_goals
  clear L M N O P g z d0 d1 d2 d3 d4 B T;obtain⟨L,M,N,O,P⟩:=Zm (x:=((Yc (Ya o) d.length A,.slice u b.length y,.slice m c.length r),⟨1,d,b,c,s⟩)) K.out.k;dsimp only at L M N O P;have g:=Zw (k:=0) (x:=a) n.out.1 K.out.p.below (by rw[n.out.2];rfl) j;have z:w2.cell? o=Ya (txt a):=g;have BR:=zh (ZgF _ Zlw l w2 q 0 _ I ns m r c Zff Zcv K.out.p R.out.1 (by omega) R.out.2.2.1 (by have:=R.out.2.2.2;omega) HO.out (Zpb l ns 1) (by have:=HL.out;simp only[Yj,Yk,Yl];omega));go_wp2_with (go_at_call 33;(refine BR.out.mono ?_);rintro e w3 ⟨rfl,H,C⟩;have H3:=zh (K.out.next H C);clear H C);refine bodyPost_ret (v:=.tuple #[]) (results_none (by kernel_rfl) _ _ _) rfl ⟨rfl,?_,H3.out.f⟩;have:=H3.out.p;simp only[List.append_assoc,List.cons_append,List.nil_append]at this⊢;exact this
theorem ZrE (i w:Yh) (v:Nat) (t:Txt) (M:Value) (ns:List Nd) (f:Nat) (x:NdV×Nd) (h:PrS i w v t 0 M) (hN:Zi i M ns) (hx:ZU i x) (aa:ZaP i 0 ZeL) (ab:ZaP i 1 Zch) (ht:Ze5 i i) (S:Nd->Prop)
  (hS:ZcZ 62 i ns 1 S (Zq ns f 1)) (hk:x.2.kind=4) (a:Txt) (hn:x.2.words=[a]) (l:List Int) (k:Nat) (j:x.2.kids=l++[(k:Int)]) (Z:Zae ns l (Zgp ns)) (K:k<ns.length) (L:Zce ns S (Zb ns k)) (Y:t.length+(ZcH ns f x.2).length+10000<=140737488355328) :
  Calls Tryz.prog 15 #[Ye (Ya ⟨v,0,none⟩),ndX x] w fun e w'=>e=.returned (.tuple #[])/\PrS i w' v (t++ZcH ns f x.2) 0 M/\Fr w w' v:=by
 have hq:=hx;obtain⟨⟨vw,vu,vk⟩,kd,m,b,d,D⟩:=x;obtain⟨hw,hu,V⟩:=hx;dsimp only at hk hn j hw hu V Y⊢;obtain⟨Aw,Q,rfl,ax,ay,hW,ar⟩:=hw;obtain⟨N,P,rfl,au,av,hU⟩:=hu;obtain⟨Ak,A,rfl,W,X,hK⟩:=V;subst hk;obtain⟨z,hz⟩:∃z,ns[k]? = Ya z:=⟨_,Ym K⟩
 have o:d.length=l.length+1:=by rw[j];simp
 have c:d[l.length]? = Ya (k:Int):=by rw[j];simp
 have he:ZcH ns f ⟨4,m,b,d,D⟩=[102,110,32]++a++([40]++Zap [44,32] (l.map fun k=>Zct ns (Zb ns k))++[41])++ZX 0 (z.kids.map fun k=>Zq ns f 1 (Zb ns k)):=by unfold ZcH word;dsimp only;rw[Yn (by decide),show d.length-1=l.length by omega,ZcM (n:=⟨4,m,b,d,D⟩) c hz,show d.take l.length=l by rw[j];simp,hn];simp only[List.append_assoc];rfl
 rw[he]at Y⊢;clear he;rw[ZbZ hz]at L;simp only[Yj,Yk,Yl]at Y;obtain⟨E,rfl,_⟩:=ints_at hK h.below c (by omega);have wl:IntKind.i64.wrap ((d.length:Int)-1)=(l.length:Int):=by rw[o];exact(IntWalk.i64_in _ (by have e:maxLen=9223372036854775807:=rfl;omega)).trans (by push_cast;omega)
 have jl:(l.length:Int)<=(d.length:Int):=by omega
 have jc:(l.length:Int)<=(A:Int):=by omega
 have RT:=ZnH hK l.length (by omega);rw[<-List.map_take,show d.take l.length=l by rw[j];simp]at RT;have N1:=Nw.start (w:=w) #[Yd Yf 4,Yc Aw m.length Q,Yc N b.length P,Yc (Ya E) d.length A,Yd Yf D] h;generalize bv:w.alloc (Yg #[Yd Yf 4,Yc Aw m.length Q,Yc N b.length P,Yc (Ya E) d.length A,Yd Yf D] 36)=w1 at *;obtain⟨u,rfl,_⟩:=ZbR (k:=0) (x:=a) hW N1.p.below (by rw[hn];rfl) (by rw[hn];exact Nat.succ_pos _);have r:0<m.length:=by rw[hn];exact Nat.succ_pos _
 have s:=zh (zi hW hn);have H1:=zh N1;have T:=zh (zi hN (zi hq (zi hK (zi X W))));have HL:=zh Y;have R:=zh (zi c (zi K (zi hz (zi L o))));have HO:=zh (zi Z (zi hS RT));have HT:=zh (zi aa (zi ab ht));clear N1 hq ax ay hW ar au av hU W X hK h hN Y hn j c K hz L Z hS RT aa ab ht o;have D1:=zh H1.out.drew;obtain⟨F,G,H,I,J⟩:=Zm (x:=((Yc (Ya u) m.length Q,Yc N b.length P,Yc (Ya E) d.length A),⟨4,m,b,d,D⟩)) H1.out.k;dsimp only at F G H I J;have g:=Zw (k:=0) (x:=a) s.out.1 H1.out.p.below (by rw[s.out.2];rfl) r;have q:w1.cell? u=Ya (txt a):=g;obtain⟨d0,d1,d2,d3,d4⟩:=Zm (x:=((Yc (Ya u) m.length Q,Yc N b.length P,Yc (Ya E) d.length A),⟨4,m,b,d,D⟩)) D1.out.k;dsimp only at d0 d1 d2 d3 d4;have U:=Zw (k:=0) (x:=a) s.out.1 D1.out.p.below (by rw[s.out.2];rfl) r;have ap:w1.drew.cell? u=Ya (txt a):=U;have AD:=zh (Zdp i w1.drew v 0 t M [102,110,32] a D1.out.p (by have:=HL.out;simp only[Yk,Yl];omega));go_enter Tryz.func15,Tryz.ntmps15;go_upto_region 5 with fail;go_region_with (go_at_call 32;(refine AD.out.mono ?_);rintro e w2 ⟨rfl,C,B⟩;have H2:=zh (D1.out.next C B);clear C B)
 all_goals
  clear F G H I J g q d0 d1 d2 d3 d4 U ap;obtain⟨F,G,H,I,J⟩:=Zm (x:=((Yc (Ya u) m.length Q,Yc N b.length P,Yc (Ya E) d.length A),⟨4,m,b,d,D⟩)) H2.out.k;dsimp only at F G H I J;have g:=Zw (k:=0) (x:=a) s.out.1 H2.out.p.below (by rw[s.out.2];rfl) r;have q:w2.cell? u=Ya (txt a):=g;have EN:=zh (ZfV _ Zkt i w2 v 0 _ M ns (Ya E) A l (Zgp ns) (Zct ns) H2.out.p T.out.1 HO.out.2.2 (by have:=T.out.2.2.2;have:=R.out.2.2.2.2;omega) HO.out.1 (Zny i ns 0 HT.out.1 HT.out.2.1 HT.out.2.2) (by have:=HL.out;simp only[Yj,Yk,Yl];omega));go_upto_region 7 with(go_at_call 35;(refine EN.out.mono ?_);rintro e w3 ⟨rfl,C,B⟩;have H3:=zh (H2.out.next C B);clear C B)
  clear F G H I J g q;obtain⟨F,G,H,I,J⟩:=Zm (x:=((Yc (Ya u) m.length Q,Yc N b.length P,Yc (Ya E) d.length A),⟨4,m,b,d,D⟩)) H3.out.k;dsimp only at F G H I J;have g:=Zw (k:=0) (x:=a) s.out.1 H3.out.p.below (by rw[s.out.2];rfl) r;have q:w3.cell? u=Ya (txt a):=g;have KI:=zh (Zcf i w3 v 0 _ M ns _ l.length k ⟨H3.out.p,T.out.1⟩ T.out.2.1 R.out.1 R.out.2.1);have HB:=zh (ZgE i ns 0 S (Zq ns f 1) (by omega) HO.out.2.1)
  go_wp2_with (first
   |(go_at_call 38;(refine KI.out.mono ?_);rintro e w4 ⟨y,rfl,hy,ac,hb⟩;have ey:y.2=z:=Option.some.inj (hy.symm.trans R.out.2.2.1);have O:=zh (zi ac (zi (H3.out.below hb) ey));clear hy ac hb ey;have EX:=zh (HB.out w4 v _ M y O.out.2.1.p T.out.1 O.out.1 (O.out.2.2▸R.out.2.2.2.1) (by rw[O.out.2.2];have:=HL.out;simp only[Yj,Yk,Yl];omega)))
   |(go_at_call 37;(refine EX.out.mono ?_);rintro e w5 ⟨rfl,C,B⟩;have H5:=zh (O.out.2.1.next C B);clear C B))
  go_end0;refine⟨rfl,?_,H5.out.f⟩;have:=H5.out.p;rw[O.out.2.2]at this;simp only[List.append_assoc,List.cons_append,List.nil_append]at this⊢;exact this
theorem Zr1 (j w:Yh) (c b:Nat) (t:Txt) (o:Value) (ns:List Nd) (f:Nat) (x:NdV×Nd) (h:PrS j w c t b o) (hN:Zi j o ns) (hx:ZU j x) (hE:ZbM j ns f) (hk:x.2.kind=18) (k:Nat) (O:x.2.kids[0]? = Ya (k:Int)) (m:k<ns.length) (hv:ZZ ns f (Zb ns k)) (B:t.length+(Zq ns (f+1) b x.2).length+10000<=140737488355328) :
  Calls Tryz.prog 62 #[Ye (Ya ⟨c,0,none⟩),ndX x] w fun e w'=>e=.returned (.tuple #[])/\PrS j w' c (t++Zq ns (f+1) b x.2) b o/\Fr w w' c:=by
 have hq:=hx;obtain⟨⟨vw,vu,vk⟩,kd,l,a,i,r⟩:=x;obtain⟨hw,hu,u⟩:=hx;dsimp only at hk O hw hu u B⊢;obtain⟨F,N,rfl,Z,aa,hW,W⟩:=hw;obtain⟨E,M,rfl,X,Y,hU⟩:=hu;obtain⟨D,L,rfl,v,A,hK⟩:=u;subst hk;obtain⟨z,P⟩:∃z,ns[k]? = Ya z:=⟨_,Ym m⟩
 have he:Zq ns (f+1) b ⟨18,l,a,i,r⟩=[114,101,116,117,114,110,32]++ZH ns f z++[59]:=by have:=ZcM (n:=⟨18,l,a,i,r⟩) O P;simp[Zq,this]
 rw[he]at B⊢;clear he;rw[ZbZ P]at hv;simp only[Yj,Yk,Yl]at B;have N1:=Nw.start (w:=w) #[Yd Yf 18,Yc F l.length N,Yc E a.length M,Yc D i.length L,Yd Yf r] h;generalize aq:w.alloc (Yg #[Yd Yf 18,Yc F l.length N,Yc E a.length M,Yc D i.length L,Yd Yf r] 36)=w1 at *;have R:=zh N1;have V:=zh (zi hN (zi hq (zi hK (zi A v))));have U:=zh B;have s:=zh (zi O (zi m (zi P (zi hv hE))));clear N1 hq Z aa hW W X Y hU v A hK h hN B O m P hv hE;obtain⟨G,H,I,J,K⟩:=Zm (x:=((Yc F l.length N,Yc E a.length M,Yc D i.length L),⟨18,l,a,i,r⟩)) R.out.k;dsimp only at G H I J K;have Q:=zh (Zas j w1 c b t o [114,101,116,117,114,110,32] R.out.p (by have:=U.out;simp only[Yk,Yl];omega));go_enter Tryz.func62,Tryz.ntmps62;go_upto_region 26 with(go_at_call 32;(refine Q.out.mono ?_);rintro e w2 ⟨rfl,g,d⟩;have S:=zh (R.out.next g d);clear g d)
 clear G H I J K;obtain⟨G,H,I,J,K⟩:=Zm (x:=((Yc F l.length N,Yc E a.length M,Yc D i.length L),⟨18,l,a,i,r⟩)) S.out.k;dsimp only at G H I J K;have KI:=zh (Zcf j w2 c b _ o ns _ 0 k ⟨S.out.p,V.out.1⟩ V.out.2.1 s.out.1 s.out.2.1)
 go_upto_region 27 with(first
  |(go_at_call 38;(refine KI.out.mono ?_);rintro e w3 ⟨y,rfl,hy,C,hb⟩;have ey:y.2=z:=Option.some.inj (hy.symm.trans s.out.2.2.1);have q:=zh (zi C (zi (S.out.below hb) ey));clear hy C hb ey;have EX:=zh (s.out.2.2.2.2 w3 c b _ o y q.out.2.1.p V.out.1 q.out.1 (q.out.2.2▸s.out.2.2.2.1) (by rw[q.out.2.2];have:=U.out;simp only[Yj,Yk,Yl];omega)))
  |(go_at_call 88;(refine EX.out.mono ?_);rintro e w4 ⟨rfl,g,d⟩;have T:=zh (q.out.2.1.next g d);clear g d))
 rw[q.out.2.2]at T;have Q:=zh (Zas j w4 c b _ o [59] T.out.p (by have:=U.out;simp only[Yj,Yk,Yl];omega));go_wp2_with (go_at_call 32;(refine Q.out.mono ?_);rintro e w5 ⟨rfl,g,d⟩;have H5:=zh (T.out.next g d);clear g d);go_end0;refine⟨rfl,?_,H5.out.f⟩;have:=H5.out.p;simp only[List.append_assoc,List.cons_append,List.nil_append]at this⊢;exact this
theorem Zr0 (o w:Yh) (i c:Nat) (t:Txt) (u:Value) (ns:List Nd) (f:Nat) (x:NdV×Nd) (h:PrS o w i t c u) (hN:Zi o u ns) (hx:ZU o x) (hE:ZbM o ns f) (S:Nd->Prop) (hB:ZcZ 37 o ns c S (Zc1 ns f c)) (hk:x.2.kind=17) (j k:Nat) (l:x.2.kids=[(j:Int),(k:Int)]) (G:j<ns.length) (hv:ZZ ns f (Zb ns j)) (H:k<ns.length) (I:S (Zb ns k)) (hl:t.length+(Zq ns (f+1) c x.2).length+10000<=140737488355328) :
  Calls Tryz.prog 62 #[Ye (Ya ⟨i,0,none⟩),ndX x] w fun e w'=>e=.returned (.tuple #[])/\PrS o w' i (t++Zq ns (f+1) c x.2) c u/\Fr w w' i:=by
 have hq:=hx;obtain⟨⟨vw,vu,vk⟩,kd,g,a,b,s⟩:=x;obtain⟨hw,hu,X⟩:=hx;dsimp only at hk l hw hu X hl⊢;obtain⟨O,U,rfl,an,ao,hW,ak⟩:=hw;obtain⟨N,T,rfl,al,am,hU⟩:=hu;obtain⟨M,R,rfl,Y,Z,hK⟩:=X;subst hk;obtain⟨y1,m⟩:∃z,ns[j]? = Ya z:=⟨_,Ym G⟩
 obtain⟨z,hz⟩:∃z,ns[k]? = Ya z:=⟨_,Ym H⟩
 have E:b[0]? = Ya (j:Int):=by rw[l];rfl
 have F:b[1]? = Ya (k:Int):=by rw[l];rfl
 have he:Zq ns (f+1) c ⟨17,g,a,b,s⟩=[119,104,105,108,101,32]++ZH ns f y1++Zc1 ns f c z:=by have e1:=ZcM (n:=⟨17,g,a,b,s⟩) E m;have e2:=ZcM (n:=⟨17,g,a,b,s⟩) F hz;simp[Zq,e1,e2]
 rw[he]at hl⊢;clear he;rw[ZbZ m]at hv;rw[ZbZ hz]at I;simp only[Yj,Yk,Yl]at hl;have N1:=Nw.start (w:=w) #[Yd Yf 17,Yc O g.length U,Yc N a.length T,Yc M b.length R,Yd Yf s] h;generalize ba:w.alloc (Yg #[Yd Yf 17,Yc O g.length U,Yc N a.length T,Yc M b.length R,Yd Yf s] 36)=w1 at *;have H1:=zh N1;have L:=zh (zi hN (zi hq (zi hK (zi Z Y))));have HL:=zh hl;have P:=zh (zi E (zi G (zi m (zi hv hE))));have Q:=zh (zi F (zi H (zi hz (zi I hB))));clear N1 hq an ao hW ak al am hU Y Z hK h hN hl E F l G H m hz hv I hB hE;obtain⟨v,A,B,C,D⟩:=Zm (x:=((Yc O g.length U,Yc N a.length T,Yc M b.length R),⟨17,g,a,b,s⟩)) H1.out.k;dsimp only at v A B C D;have AD:=zh (Zas o w1 i c t u [119,104,105,108,101,32] H1.out.p (by have:=HL.out;simp only[Yk,Yl];omega));go_enter Tryz.func62,Tryz.ntmps62;go_upto_region 22 with(go_at_call 32;(refine AD.out.mono ?_);rintro e w2 ⟨rfl,r,q⟩;have H2:=zh (H1.out.next r q);clear r q)
 clear v A B C D;obtain⟨v,A,B,C,D⟩:=Zm (x:=((Yc O g.length U,Yc N a.length T,Yc M b.length R),⟨17,g,a,b,s⟩)) H2.out.k;dsimp only at v A B C D;have KI:=zh (Zcf o w2 i c _ u ns _ 0 j ⟨H2.out.p,L.out.1⟩ L.out.2.1 P.out.1 P.out.2.1)
 go_upto_region 23 with(first
  |(go_at_call 38;(refine KI.out.mono ?_);rintro e w3 ⟨y,rfl,hy,d,W⟩;have V:y.2=y1:=Option.some.inj (hy.symm.trans P.out.2.2.1);have J:=zh (zi d (zi (H2.out.below W) V));clear hy d W V;have EX:=zh (P.out.2.2.2.2 w3 i c _ u y J.out.2.1.p L.out.1 J.out.1 (J.out.2.2▸P.out.2.2.2.1) (by rw[J.out.2.2];have:=HL.out;simp only[Yj,Yk,Yl];omega)))
  |(go_at_call 88;(refine EX.out.mono ?_);rintro e w4 ⟨rfl,r,q⟩;have H4:=zh (J.out.2.1.next r q);clear r q))
 rw[J.out.2.2]at H4;clear KI EX v A B C D;obtain⟨v,A,B,C,D⟩:=Zm (x:=((Yc O g.length U,Yc N a.length T,Yc M b.length R),⟨17,g,a,b,s⟩)) H4.out.k;dsimp only at v A B C D;have KI:=zh (Zcf o w4 i c _ u ns _ 1 k ⟨H4.out.p,L.out.1⟩ L.out.2.1 Q.out.1 Q.out.2.1)
 go_wp2_with (first
  |(go_at_call 38;(refine KI.out.mono ?_);rintro e w5 ⟨y,rfl,hy,d,W⟩;have V:y.2=z:=Option.some.inj (hy.symm.trans Q.out.2.2.1);have K:=zh (zi d (zi (H4.out.below W) V));clear hy d W V;have EX:=zh (Q.out.2.2.2.2 w5 i _ u y K.out.2.1.p L.out.1 K.out.1 (K.out.2.2▸Q.out.2.2.2.1) (by rw[K.out.2.2];have:=HL.out;simp only[Yj,Yk,Yl];omega)))
  |(go_at_call 37;(refine EX.out.mono ?_);rintro e w6 ⟨rfl,r,q⟩;have H6:=zh (K.out.2.1.next r q);clear r q))
 rw[K.out.2.2]at H6;go_end0;refine⟨rfl,?_,H6.out.f⟩;have:=H6.out.p;simp only[List.append_assoc,List.cons_append,List.nil_append]at this⊢;exact this
theorem ZrZ (q w:Yh) (o g:Nat) (t:Txt) (E:Value) (ns:List Nd) (f:Nat) (x:NdV×Nd) (h:PrS q w o t g E) (hN:Zi q E ns) (hx:ZU q x) (hE:ZbM q ns f) (S:Nd->Prop) (hB:ZcZ 37 q ns g S (Zc1 ns f g)) (hk:x.2.kind=16) (j:Nat) (r:List Int) (l:x.2.kids=(j:Int)::r) (hr:r≠[]) (K:j<ns.length) (hv:ZZ ns f (Zb ns j)) (X:Zae ns r S) (W:t.length+(Zq ns (f+1) g x.2).length+10000<=140737488355328) :
  Calls Tryz.prog 62 #[Ye (Ya ⟨o,0,none⟩),ndX x] w fun e w'=>e=.returned (.tuple #[])/\PrS q w' o (t++Zq ns (f+1) g x.2) g E/\Fr w w' o:=by
 have hq:=hx;obtain⟨⟨vw,vu,vk⟩,kd,m,c,d,v⟩:=x;obtain⟨hw,hu,T⟩:=hx;dsimp only at hk l hw hu T W⊢;obtain⟨N,R,rfl,al,am,hW,ag⟩:=hw;obtain⟨M,Q,rfl,ai,aj,hU⟩:=hu;obtain⟨Ak,A,rfl,U,V,hK⟩:=T;subst hk;obtain⟨y1,u⟩:∃z,ns[j]? = Ya z:=⟨_,Ym K⟩
 have s:d[0]? = Ya (j:Int):=by rw[l];rfl
 have ah:1<=r.length:=by cases r with
  |nil=>exact absurd rfl hr
  |cons a b=>simp
 have C:d.length=r.length+1:=by rw[l];simp
 have he:Zq ns (f+1) g ⟨16,m,c,d,v⟩=[105,102,32]++ZH ns f y1++Zap [32,101,108,115,101] (r.map fun k=>Zc1 ns f g (Zb ns k)):=by
  have e1:=ZcM (n:=⟨16,m,c,d,v⟩) s u;have e2:d.drop 1=r:=by rw[l];rfl
  have e3:Zq ns (f+1) g ⟨16,m,c,d,v⟩=[105,102,32]++ZH ns f (Zx ns ⟨16,m,c,d,v⟩ 0)++Zap [32,101,108,115,101] ((d.drop 1).map fun k=>Zc1 ns f g (Zb ns k)):=by simp[Zq]
  rw[e3,e1,e2]
 rw[he]at W⊢;clear he;rw[ZbZ u]at hv;simp only[Yj,Yk,Yl]at W;obtain⟨i,rfl,_⟩:=ints_at hK h.below s (by omega);have RT:=ZiS hK 1 (by omega);rw[<-List.map_drop,show d.drop 1=r by rw[l];rfl,show d.length-1=r.length by omega]at RT;have bj:(if A=1 then Ya i else Ya (⟨i.block,i.off+1,none⟩:Addr))=Ya ⟨i.block,i.off+1,none⟩:=by rw[Yn (by omega)]
 have lz:d.length-1=r.length:=by omega
 have bi:(1:Int)<=(d.length:Int):=by omega
 have N1:=Nw.start (w:=w) #[Yd Yf 16,Yc N m.length R,Yc M c.length Q,Yc (Ya i) d.length A,Yd Yf v] h;generalize bh:w.alloc (Yg #[Yd Yf 16,Yc N m.length R,Yc M c.length Q,Yc (Ya i) d.length A,Yd Yf v] 36)=w1 at *;have H1:=zh N1;have P:=zh (zi hN (zi hq (zi hK (zi V U))));have HL:=zh W;have O:=zh (zi s (zi K (zi u (zi hv hE))));have HJ:=zh (zi X (zi hB (zi C RT)));clear N1 hq al am hW ag ai aj hU U V hK h hN W s l hr ah C K u hv X hB hE RT;obtain⟨F,G,H,I,J⟩:=Zm (x:=((Yc N m.length R,Yc M c.length Q,Yc (Ya i) d.length A),⟨16,m,c,d,v⟩)) H1.out.k;dsimp only at F G H I J;have AD:=zh (Zas q w1 o g t E [105,102,32] H1.out.p (by have:=HL.out;simp only[Yk,Yl];omega));go_enter Tryz.func62,Tryz.ntmps62;go_upto_region 18 with(go_at_call 32;(refine AD.out.mono ?_);rintro e w2 ⟨rfl,D,B⟩;have H2:=zh (H1.out.next D B);clear D B)
 clear F G H I J;obtain⟨F,G,H,I,J⟩:=Zm (x:=((Yc N m.length R,Yc M c.length Q,Yc (Ya i) d.length A),⟨16,m,c,d,v⟩)) H2.out.k;dsimp only at F G H I J;have KI:=zh (Zcf q w2 o g _ E ns _ 0 j ⟨H2.out.p,P.out.1⟩ P.out.2.1 O.out.1 O.out.2.1)
 go_upto_region 19 with(first
  |(go_at_call 38;(refine KI.out.mono ?_);rintro e w3 ⟨y,rfl,hy,Y,hb⟩;have ey:y.2=y1:=Option.some.inj (hy.symm.trans O.out.2.2.1);have L:=zh (zi Y (zi (H2.out.below hb) ey));clear hy Y hb ey;have EX:=zh (O.out.2.2.2.2 w3 o g _ E y L.out.2.1.p P.out.1 L.out.1 (L.out.2.2▸O.out.2.2.2.1) (by rw[L.out.2.2];have:=HL.out;simp only[Yj,Yk,Yl];omega)))
  |(go_at_call 88;(refine EX.out.mono ?_);rintro e w4 ⟨rfl,D,B⟩;have Z:=zh (L.out.2.1.next D B);clear D B))
 rw[L.out.2.2]at Z;clear KI EX F G H I J;obtain⟨F,G,H,I,J⟩:=Zm (x:=((Yc N m.length R,Yc M c.length Q,Yc (Ya i) d.length A),⟨16,m,c,d,v⟩)) Z.out.k;dsimp only at F G H I J;have BR:=zh (show Calls Tryz.prog 84 #[ZaK o,Yc (Ya ⟨i.block,i.off+1,none⟩) r.length (A-1)] w4 (fun e w'=>e=.returned (.tuple #[])/\PrS q w' o (_++Zap [32,101,108,115,101] (r.map fun k=>Zc1 ns f g (Zb ns k))) g E/\Fr w4 w' o)from Zhd q w4 o g _ E ns (Ya (i.add 1)) (A-1) r S (Zc1 ns f g) Z.out.p P.out.1 HJ.out.2.2.2 (by have:=P.out.2.2.2;have:=HJ.out.2.2.1;omega) HJ.out.1 HJ.out.2.1 (by have:=HL.out;simp only[Yj,Yk,Yl];omega));go_wp2_with (go_at_call 84;(refine BR.out.mono ?_);rintro e w5 ⟨rfl,D,B⟩;have H5:=zh (Z.out.next D B);clear D B);go_end0;refine⟨rfl,?_,H5.out.f⟩;have:=H5.out.p;simp only[List.append_assoc,List.cons_append,List.nil_append]at this⊢;exact this
theorem Zr2 (m w:Yh) (c b:Nat) (t:Txt) (q:Value) (ns:List Nd) (f:Nat) (x:NdV×Nd) (h:PrS m w c t b q) (J:Zi m q ns) (hx:ZU m x) (hk:x.2.kind=19) (j:t.length+(Zq ns (f+1) b x.2).length+10000<=140737488355328) :
  Calls Tryz.prog 62 #[Ye (Ya ⟨c,0,none⟩),ndX x] w fun e w'=>e=.returned (.tuple #[])/\PrS m w' c (t++Zq ns (f+1) b x.2) b q/\Fr w w' c:=by
 have hq:=hx;obtain⟨⟨vw,vu,vk⟩,kd,n,a,l,o⟩:=x;obtain⟨O,N,d⟩:=hx;dsimp only at hk O N d j⊢;obtain⟨u,A,rfl,E,F,X,B⟩:=O;obtain⟨s,z,rfl,C,D,W⟩:=N;obtain⟨r,y,rfl,g,i,I⟩:=d;subst hk;have K:Zq ns (f+1) b ⟨19,n,a,l,o⟩=[101,120,105,116,59]:=by simp[Zq]
 rw[K]at j⊢;clear K;simp only[Yk,Yl]at j;have H:=Nw.start (w:=w) #[Yd Yf 19,.slice u n.length A,.slice s a.length z,.slice r l.length y,Yd Yf o] h;generalize Y:w.alloc (Yg #[Yd Yf 19,.slice u n.length A,.slice s a.length z,.slice r l.length y,Yd Yf o] 36)=Z at *;have v:=zh H;have HN:=zh (zi J (zi hq (zi I (zi i g))));have Q:=zh j;clear H hq E F X B C D W g i I h J j;obtain⟨R,S,T,U,V⟩:=Zm (x:=((.slice u n.length A,.slice s a.length z,.slice r l.length y),⟨19,n,a,l,o⟩)) v.out.k;dsimp only at R S T U V;have P:=zh (Zas m Z c b t q [101,120,105,116,59] v.out.p (by have:=Q.out;simp only[Yk,Yl];omega));go_enter Tryz.func62,Tryz.ntmps62;go_wp2_with (go_at_call 32;(refine P.out.mono ?_);rintro e w2 ⟨rfl,M,L⟩;have G:=zh (v.out.next M L);clear M L);go_end0;exact⟨rfl,G.out.p,G.out.f⟩
structure PTabs (w0:Yh):Prop where
 kinds:ZaP w0 0 ZeL
 names:ZaP w0 1 Zch
 signs:ZaP w0 2 Zfk
 ten:Ze5 w0 w0
theorem Zes {ns:List Nd} {k:Int} {P:Nd->Prop} (h:Zae ns [k] P):∃m:Nat,k=m/\m<ns.length/\P (Zb ns (m:Int)):=by obtain⟨a,c,b⟩:=h k (by simp);obtain⟨m,rfl⟩:=Int.eq_ofNat_of_zero_le a;exact⟨m,rfl,by omega,b⟩
theorem ZhD (g:Yh) (ns:List Nd) (T:PTabs g):∀(f d:Nat),d+2*f<3999->ZcZ 62 g ns d (fun n=>Zbp ns f n) (fun n=>Zq ns f d n)
 |0,d,_=>fun w o t v x h u hx c i=>c.elim
 |f+1,d,hd=>by
  intro w o t v x h u hx c i;have z:=Zqg g ns T.ten T.signs f;have A:=ZgE g ns d (fun n=>Zbp ns f n) (fun n=>Zq ns f (d+1) n) (by omega) (ZhD g ns T f (d+1) (by omega));dsimp only at c i⊢;rw[Zbp]at c;rcases c with⟨hk,⟨s,hn⟩,k,e,hv⟩|⟨hk,⟨a,b,hn⟩,_,c⟩|⟨hk,hn,c⟩|⟨hk,⟨a,b,hn⟩,⟨p,q,r,hm,D,F,hq,C⟩,l,k,e,B,c⟩|⟨hk,hn,c⟩|⟨hk,k,r,e,C,hv,c⟩|⟨hk,j,k,e,hv,c⟩|⟨hk,k,e,hv⟩|hk
  ·obtain⟨m,rfl,hm,hv⟩:=Zes hv;rcases hk with hk|hk
   ·exact Zsr g w o d t v ns f x h u hx z hk s [] m hn (by rw[e];rfl) hm hv i
   ·exact Zss g w o d t v ns f x h u hx z hk s [] m hn (by rw[e];rfl) hm hv i
  ·exact ZrV g w o d t v ns f x h u hx _ A hk a b hn c i
  ·exact ZrW g w o d t v ns f x h u hx (by omega) _ (ZgE g ns (d+1) (fun n=>Zbp ns f n) (fun n=>Zq ns f (d+1+1) n) (by omega) (ZhD g ns T f (d+1+1) (by omega))) hk hn c i
  ·obtain⟨m,rfl,y,c⟩:=Zes c;obtain⟨p,rfl⟩:=Int.eq_ofNat_of_zero_le D;exact ZrX g w o d t v ns f x h u hx T.kinds T.names T.ten _ A hk a b hn p q r hm (by omega) hq C l m e B y c i
  ·exact ZrY g w o d t v ns f x h u hx z hk hn c i
  ·obtain⟨m,rfl,hm,hv⟩:=Zes hv;exact ZrZ g w o d t v ns f x h u hx z _ A hk m r e C hm hv c i
  ·obtain⟨m,rfl,hm,hv⟩:=Zes hv;obtain⟨E,rfl,y,c⟩:=Zes c;exact Zr0 g w o d t v ns f x h u hx z _ A hk m E e hm hv y c i
  ·obtain⟨m,rfl,hm,hv⟩:=Zes hv;exact Zr1 g w o d t v ns f x h u hx z hk m (by rw[e];rfl) hm hv i
  ·exact Zr2 g w o d t v ns f x h u hx hk i
theorem ZoO (b:Yh) (ns:List Nd) (T:PTabs b) (f:Nat) (n:f<=1500):ZcZ 15 b ns 0 (Zfe ns f) (ZcH ns f):=by
 intro w e t j x h g hx a i;rcases a with⟨hk,⟨s,hn⟩,a⟩|⟨hk,⟨s,hn⟩,l,k,c,d,a⟩
 ·exact Znd b w e t j ns f x h g hx hk s hn a i
 ·obtain⟨m,rfl,hm,a⟩:=Zes a;exact ZrE b w e t j ns f x h g hx T.kinds T.names T.ten _ (ZhD b ns T f 1 (by omega)) hk s hn l m c d hm a i
theorem Zot {w:Yh} {a:Nat} {t:Txt} {v:Value} (h:w.ownsRow a 5 1 v t.length (u8s t)):(convert 40 9 v).run Tryz.prog w=.ok (txt t) w:=by
 obtain⟨_,⟨rfl,hn⟩|⟨g,b,d,rfl,_,e,_,_,_,c⟩⟩:=h
 ·obtain rfl:t=[]:=List.length_eq_zero_iff.mp hn;exact Lib.run_convert_nil_bytes w _ _ 5 0 Tryz.underlying40 Tryz.underlying5 Tryz.underlying9
 ·refine run_convert_bytes_back w _ _ 5 ⟨g,0,none⟩ b t Tryz.underlying40 Tryz.underlying5 Tryz.underlying9 (Lib.bytes_of_row e ?_);rw[<-Zgx];simpa using c
structure ShoTabs (W:Yh):Prop where
 keys:ZaP W 3 ZI
 p:PTabs W
theorem PTabs.below {w w':Yh} (h:PTabs w) (a:Below w.heap.size w w'):PTabs w':=⟨h.kinds.below a,h.names.below a,h.signs.below a,fun c b=>h.ten c (a.trans (b.mono a.size))⟩
theorem ShoTabs.below {w w':Yh} (h:ShoTabs w) (a:Below w.heap.size w w'):ShoTabs w':=⟨h.keys.below a,h.p.below a⟩
theorem Tryz.gKinds:Tryz.prog.globalNamed "ballcock/show.kinds"=Ya 0:=by kernel_rfl
theorem Tryz.gKindsType:(Tryz.prog.globals[0]?).map (·.type)=Ya 84:=by kernel_rfl
theorem Tryz.gNamesW:Tryz.prog.globalNamed "ballcock/show.namesWords"=Ya 1:=by kernel_rfl
theorem Tryz.gNamesWType:(Tryz.prog.globals[1]?).map (·.type)=Ya 95:=by kernel_rfl
theorem Tryz.gShoSigns:Tryz.prog.globalNamed "ballcock/show.signs"=Ya 2:=by kernel_rfl
theorem Tryz.gShoSignsType:(Tryz.prog.globals[2]?).map (·.type)=Ya 125:=by kernel_rfl
theorem Tryz.gTen:Tryz.prog.globalNamed "internal/strconv.uint64pow10"=Ya 5:=by kernel_rfl
theorem Tryz.gTenType:(Tryz.prog.globals[5]?).map (·.type)=Ya 144:=by kernel_rfl
theorem ZqT {W:Yh} (h:laidMetH Tryz.prog [("math/bits.deBruijn32tab",Rows.laid_math_bits_deBruijn32tab),("math/bits.deBruijn64tab",Rows.laid_math_bits_deBruijn64tab),("internal/strconv.uint64pow10",Rows.laid_internal_strconv_uint64pow10),("ballcock/lex.keywords",Rows.laid_ballcock_lex_keywords),("ballcock/show.signs",Rows.laid_ballcock_show_signs),("ballcock/show.kinds",Rows.laid_ballcock_show_kinds),("ballcock/show.namesWords",Rows.laid_ballcock_show_namesWords)] W):ShoTabs W:=by
 rw[MakeChecks.laidMetH_plain _ _ _ (by kernel_rfl)]at h;have a:=laidMet.tail (laidMet.tail h);have b:=laidMet.tail a;have c:=laidMet.tail b;have d:=laidMet.tail c;have e:=laidMet.tail d
 exact⟨ZeT (zs:=ZI) Tryz.gKeys Tryz.gKeysType Tryz.underlying127 Tryz.underlying9 Tryz.cellsS (by kernel_rfl) b,
  ZeT (zs:=ZeL) Tryz.gKinds Tryz.gKindsType Tryz.underlying84 Tryz.underlying9 Tryz.cellsS (by kernel_rfl) d,
  ZeT (zs:=Zch) (rest:=[]) Tryz.gNamesW Tryz.gNamesWType Tryz.underlying95 Tryz.underlying9 Tryz.cellsS (by kernel_rfl) e,
  ZeT (zs:=Zfk) Tryz.gShoSigns Tryz.gShoSignsType Tryz.underlying125 Tryz.underlying9 Tryz.cellsS (by kernel_rfl) c,
  Lib.tabBelow_of_tabIs (Lib.tabIs_of_head (zs:=Lib.pow10Tab) Tryz.gTen Tryz.gTenType Tryz.underlying144 Tryz.underlying106 (by kernel_rfl) (by kernel_rfl) a)⟩
def ns8:List Nd:=[⟨0,[],[],[1],0⟩,⟨4,[[109,97,105,110]],[],[2],0⟩,⟨7,[],[],[3],0⟩,⟨19,[],[],[],0⟩]
def ZsS:Txt:=[102,110,32,109,97,105,110,40,41,32,123,10,32,32,101,120,105,116,59,10,125,10]
theorem Zrc:Zcc ns8=ZsS:=by decide +kernel
theorem ZqS (w:Yh) (l:List Txt) (ty:TypeId) (h:l.length<=maxLen) (a:∀s∈l,s.length<=maxLen):Zdt (w.alloc (.cells (l.map txt).toArray ty)) (Yc (Ya ⟨w.heap.size,0,none⟩) l.length l.length) l:=
 ⟨_,_,rfl,Nat.le_refl _,h,by simpa using Zhy w (l.map txt) ty,a⟩
end Go.Proofs.YtdkegpkfjgloeaaGreatDoor
