import Derived.Test.YtfbepcelkijgkaaGreatDoorQAN
import Derived.Test.YtfbepcelkijgkaaGreatDoorQBS
set_option maxRecDepth 100000
set_option maxHeartbeats 8000000
open Option renaming some → Ya, none → Yb
open Go.Value renaming slice → Yc, int → Yd, pointer → Ye
open Go.IntKind renaming i64 → Yf
open Go.Obj renaming cells → Yg
open Go renaming World → Yh, Value → Yi
namespace Go.Proofs.YtfbepcelkijgkaaGreatDoor
section
open Go.RowKit
structure Nw (w0 w wi:Yh) (bp b:Nat) (t:Txt) (dp:Nat) (vn:Yi) (cs:Array Yi):Prop where
 p:PrS w0 wi bp t dp vn
 k:Zk wi b 37 cs
 f:Fr w wi bp
theorem Nw.start {d w:Yh} {a b:Nat} {t:Txt} {c:Yi} (cs:Array Yi) (h:PrS d w a t b c):Nw d w (w.alloc (.cells cs 37)) a w.heap.size t b c cs:=
 ⟨h.keep (below_alloc1 w _),Zk.start w cs _,Fr.of_below a (below_alloc1 w _)⟩
theorem Nw.next {d w i w':Yh} {a b j e:Nat} {t t2:Txt} {c:Yi} {cs:Array Yi} (h:Nw d w i a b t j c cs) (l:PrS d w' a t2 e c) (g:Fr i w' a):Nw d w w' a b t2 e c cs:=
 ⟨l,g.at_ _ _ _ (ZdP h.p h.k) (by decide) h.k,h.f.trans g⟩
theorem Nw.below {i w d w':Yh} {a b e:Nat} {t:Txt} {g:Yi} {cs:Array Yi} (h:Nw i w d a b t e g cs) (c:Below d.heap.size d w'):Nw i w w' a b t e g cs:=
 ⟨h.p.keep c,h.k.keep c,h.f.trans (Fr.of_below a c)⟩
theorem Nw.drew {f w a:Yh} {c b d:Nat} {t:Txt} {e:Yi} {cs:Array Yi} (h:Nw f w a c b t d e cs):Nw f w a.drew c b t d e cs:=h.below (Zo a)
theorem Zv {b W:Yh} {a:Addr} {n k:Nat} {l:List Txt} {x:Txt} (d:ZM b b.heap.size 1 (Ya a) n (l.map txt)) (f:Below b.heap.size b W) (hx:l[k]? = Ya x) (h:k<n):W.cell? (a.add k)=Ya (txt x):=by obtain⟨g,e,c⟩:=ZbH d f hx (by omega);injection e with e;subst e;exact c
theorem ZaL {b W:Yh} {a:Addr} {n k:Nat} {l:List Int} {x:Int} (d:ZM b b.heap.size 1 (Ya a) n (l.map (Value.int Yf))) (f:Below b.heap.size b W) (hx:l[k]? = Ya x) (h:k<n):W.cell? (a.add k)=Ya (Yd Yf x):=by obtain⟨g,e,c⟩:=ints_at d f hx (by omega);injection e with e;subst e;exact c
theorem Zi7:Enters 120:=enters_of Tryz.func120 (by kernel_rfl) rfl
theorem Zio:Enters 121:=enters_of Tryz.func121 (by kernel_rfl) rfl
theorem Zkt:Enters 40:=enters_of Tryz.func40 (by kernel_rfl) rfl
theorem Zlo:Enters 38:=enters_of Tryz.func38 (by kernel_rfl) rfl
theorem Zln:Enters 18:=enters_of Tryz.func18 (by kernel_rfl) rfl
end
section
open Go.RowKit
theorem Znh (p w:Yh) (c H:Nat) (t:Txt) (R:Yi) (x:NdV×Nd) (h:PrS p w c t H R) (hx:ZS p x) (L:ZaI p 2 Zb2) (r:List Int) (m:x.2.nums=1::r) (f:0<x.2.words.length) (A:t.length+(Zca x.2).length+100<=140737488355328) :
  Calls Tryz.prog 68 #[Ye (Ya ⟨c,0,Yb⟩),ndX x] w fun e w'=>e=.returned (.tuple #[])/\PrS p w' c (t++Zca x.2) H R/\Fr w w' c:=by
 have hq:=hx;obtain⟨⟨vw,vu,vk⟩,n,b,a,d,o⟩:=x;obtain⟨hw,Z,z⟩:=hx;dsimp only at m f hw Z z A⊢;obtain⟨i,l,rfl,C,P,U,I⟩:=hw;obtain⟨D,y,rfl,M,N,T⟩:=Z;obtain⟨q,v,rfl,J,K,hK⟩:=z;have F:=below_alloc1 w (Yg #[Yd Yf n,.slice i b.length l,Yc D a.length y,.slice q d.length v,Yd Yf o] 37);have E:Zk _ _ _ _:=Zk.start w #[Yd Yf n,.slice i b.length l,Yc D a.length y,.slice q d.length v,Yd Yf o] 37;have p1:=h.keep F;have W:Zca ⟨n,b,a,d,o⟩=Zdd 1++Za5 [124] b:=by unfold Zca num;dsimp only;rw[m];rfl
 rw[W]at A⊢;simp only[Yj]at A;have B:b.length<=140737488355328:=by have:=Zii [124] (by decide) b;omega
 generalize O:w.alloc (Yg #[Yd Yf n,.slice i b.length l,Yc D a.length y,.slice q d.length v,Yd Yf o] 37)=g at *;have j:=zh (p1.keep (Zo g));have JN:=zh (Zh7 p g.drew i l b U f B C j.out.below (by omega));obtain⟨G,rfl,Q⟩:=Zjd (x:=1) T (by rw[m];rfl) (by rw[m];exact Nat.succ_pos _);have u1:g.drew.cell? G=Ya (Yd Yf 1):=Q _ j.out.below;have v1:g.drew.cell? ⟨2,1,Yb⟩=Ya (txt (Zdd 1)):=Zel (k:=1) L j.out.below rfl;have aq:0<a.length:=by rw[m];exact Nat.succ_pos _
 obtain⟨d0,d1,d2,d3,d4⟩:=Zm (x:=((.slice i b.length l,Yc (Ya G) a.length y,.slice q d.length v),⟨n,b,a,d,o⟩)) (E.keep (Zo g));dsimp only at d0 d1 d2 d3 d4;have u:=zh (zi F (zi (E.keep (Zo g)) (zi A (zi Q L))));clear p1 E F hq C P U I M N T J K hK h A W Q m L B f;go_enter Tryz.func68,Tryz.ntmps68;go_upto_region 1 with fail
 go_region_with (first
  |(go_at_call 89;(refine JN.out.mono ?_);rintro e w3 ⟨rfl,V⟩;have s:=zh V;clear V;obtain⟨b0,b1,b2,b3,b4⟩:=Zm (x:=((.slice i b.length l,Yc (Ya G) a.length y,.slice q d.length v),⟨n,b,a,d,o⟩)) (u.out.2.1.keep s.out);dsimp only at b0 b1 b2 b3 b4;have u3:=u.out.2.2.2.1 _ (j.out.keep s.out).below;have v3:w3.cell? ⟨2,1,Yb⟩=Ya (txt (Zdd 1)):=Zel (k:=1) u.out.2.2.2.2 (j.out.keep s.out).below rfl;have AD:=zh (Zc8 p w3 c H t R (Zdd 1) (Za5 [124] b) (j.out.keep s.out) (by have:=u.out.2.2.1;omega)))
  |(go_at_call 36;(refine AD.out.mono ?_);rintro e w4 ⟨rfl,Y,X⟩;have S:=zh (zi Y X);clear Y X))
 all_goals
  go_wp2_with fail;go_end0;exact⟨rfl,S.out.1,(((Fr.of_below c (O▸u.out.1)).trans (Fr.of_below c (Zo g))).trans (Fr.of_below c s.out)).trans S.out.2⟩
end
section
open Go.RowKit
theorem ZgI (b:Yh) (ns:List Nd) (c:Nat) (i:ZaI b 2 Zb2):ZcF 68 b ns c ZeP Zca:=by
 intro w d t j x h m hx f n;obtain⟨a,g,r,e,k,l⟩:=f;have:g=0\/g=1\/g=2:=by omega
 rcases this with rfl|rfl|rfl
 ·exact Zng b w d c t j x h hx i r e a (by omega)
 ·exact Znh b w d c t j x h hx i r e a (by omega)
 ·exact Zni b w d c t j x h hx i r e a (by omega)
def ZeC:List Txt:=[ZaR 0,ZaR 1,ZaR 2,ZaR 3,ZaR 4]
theorem ZoG {a W:Yh} (h:ZaI a 1 ZeC) (b:Below a.heap.size a W) (k:Nat) (hk:k<=4):W.cell? ⟨1,k,Yb⟩=Ya (txt (ZaR k)):=by
 refine Zel h b ?_;have:k=0\/k=1\/k=2\/k=3\/k=4:=by omega
 rcases this with rfl|rfl|rfl|rfl|rfl<;>rfl
theorem Zfx {c W:Yh} {b i h:Nat} {d f:Addr} {e:List Txt} {a:List Int} {r s:Yi} {u:Yi} {t j:Txt} {p:Nat} (hk:Zk W b 37 #[r,Yc (Ya d) e.length i,Yc (Ya f) a.length h,u,s]) (g:Below c.heap.size c W)
  (q:ZM c c.heap.size 1 (Ya d) e.length (e.map txt)) (w:ZM c c.heap.size 1 (Ya f) a.length (a.map (Value.int Yf))) (v:e[0]? = Ya t) (o:e[1]? = Ya j) (n:a[0]? = Ya (p:Int)) (z:ZaI c 1 ZeC) (y:p<=4) :
  (W.cell? ⟨b,1,Yb⟩=Ya (Yc (Ya d) e.length i)/\W.cell? ⟨b,2,Yb⟩=Ya (Yc (Ya f) a.length h)/\W.cell? d=Ya (txt t)/\W.cell? (d.add 1)=Ya (txt j)/\W.cell? ⟨d.block,d.off+1,Yb⟩=Ya (txt j)/\W.cell? f=Ya (Yd Yf (p:Int))/\W.cell? ⟨1,p,Yb⟩=Ya (txt (ZaR p)))/\Zk W b 37 #[r,Yc (Ya d) e.length i,Yc (Ya f) a.length h,u,s]/\Below c.heap.size c W:=by
 have k:=hk.blk.cell 1;have l:=hk.blk.cell 2;simp only[List.getElem?_toArray,List.getElem?_cons_zero,List.getElem?_cons_succ]at k l;have A:=(List.getElem?_eq_some_iff.1 o).1;have m:=Zv q g o A;exact⟨⟨k,l,Zv q g v (by omega),m,m,ZaL w g n (List.getElem?_eq_some_iff.1 n).1,ZoG z g p y⟩,hk,g⟩
def ZbM (ns:List Nd) (l:List Int):Txt:=(l.map fun k=>Zca (Zf ns k)).flatten
theorem ZgB {ns:List Nd} {l:List Int} {i:Nat} {k:Int} (h:l[i]? = Ya k):ZbM ns (l.take (i+1))=ZbM ns (l.take i)++Zca (Zf ns k):=by unfold ZbM;rw[List.take_add_one,h,List.map_append,List.flatten_append];simp
theorem Zh5 {ns:List Nd} {l:List Int} (i:Nat):(ZbM ns (l.take i)).length<=(ZbM ns l).length:=by
 have e:ZbM ns l=ZbM ns (l.take i)++ZbM ns (l.drop i):=by unfold ZbM;rw[<-List.flatten_append,<-List.map_append,List.take_append_drop]
 rw[e,Yj];omega
end
section
open Go.RowKit
theorem ZmQ (z w:Yh) (d D f:Nat) (t:Txt) (P:Yi) (ns:List Nd) (x:NdV×Nd) (h:PrS z w d t D P) (hx:ZS z x) (s:Txt) (r:List Txt) (hk:x.2.kind=15) (i:x.2.words=s::r) (y:t.length+(ZdM ns f x.2).length+100<=140737488355328) :
  Calls Tryz.prog 121 #[Ye (Ya ⟨d,0,Yb⟩),ndX x] w fun e w'=>e=.returned (.tuple #[])/\PrS z w' d (t++ZdM ns f x.2) D P/\Fr w w' d:=by
 have hq:=hx;obtain⟨⟨vw,vu,vk⟩,M,b,a,c,j⟩:=x;obtain⟨W,V,q⟩:=hx;dsimp only at hk i W V q y⊢;obtain⟨u,p,rfl,K,L,R,E⟩:=W;obtain⟨m,o,rfl,H,I,hU⟩:=V;obtain⟨l,n,rfl,F,G,hK⟩:=q;have B:=below_alloc1 w (Yg #[Yd Yf M,.slice u b.length p,.slice m a.length o,.slice l c.length n,Yd Yf j] 37);have A:Zk _ _ _ _:=Zk.start w #[Yd Yf M,.slice u b.length p,.slice m a.length o,.slice l c.length n,Yd Yf j] 37;have N:=h.keep B;have S:ZdM ns f ⟨M,b,a,c,j⟩=[38]++s:=by unfold ZdM word;dsimp only;rw[Yo hk,i];rfl
 rw[S]at y⊢;simp only[Yj,Yk,Yl]at y;clear S;subst hk;obtain⟨Z,c1,c2,c3,c4⟩:=Zm (x:=((.slice u b.length p,.slice m a.length o,.slice l c.length n),⟨15,b,a,c,j⟩)) (A);dsimp only at Z c1 c2 c3 c4;generalize J:w.alloc (Yg #[Yd Yf 15,.slice u b.length p,.slice m a.length o,.slice l c.length n,Yd Yf j] 37)=g at *;obtain⟨C,rfl,O⟩:=ZbH (k:=0) (x:=s) R (N.keep (Zo g)).below (by rw[i];rfl) (by rw[i];exact Nat.succ_pos _);have u1:g.drew.cell? C=Ya (txt s):=O;have u2:g.cell? C=Ya (txt s):=O;have al:0<b.length:=by rw[i];exact Nat.succ_pos _
 obtain⟨d0,d1,d2,d3,d4⟩:=Zm (x:=((Yc (Ya C) b.length p,.slice m a.length o,.slice l c.length n),⟨15,b,a,c,j⟩)) (A.keep (Zo g));dsimp only at d0 d1 d2 d3 d4;have X:=zh (Zc8 z g.drew d D t P [38] s (N.keep (Zo g)) (by simp only[Yk,Yl];omega));have Y:=zh B;clear N A B hq K L R E H I hU F G hK h y O i;go_enter Tryz.func121,Tryz.ntmps121;go_upto_region 2 with fail;go_region_with (go_at_call 36;(refine X.out.mono ?_);rintro e w3 ⟨rfl,U,T⟩;have Q:=zh (zi U T);clear U T)
 all_goals
  go_wp2_with fail;refine bodyPost_ret (v:=.tuple #[]) (results_none (by kernel_rfl) _ _ _) rfl ⟨rfl,Q.out.1,((Fr.of_below d (J▸Y.out)).trans (Fr.of_below d (Zo g))).trans Q.out.2⟩
theorem ZpR (k w:Yh) (d v f:Nat) (t:Txt) (s:Yi) (ns:List Nd) (x:NdV×Nd) (h:PrS k w d t v s) (K:Zi k s ns) (hx:ZS k x) (J:ZbA k ns f) (hk:x.2.kind≠15) (D:ZV ns f x.2) (r:t.length+(ZdM ns f x.2).length+100<=140737488355328) :
  Calls Tryz.prog 121 #[Ye (Ya ⟨d,0,Yb⟩),ndX x] w fun e w'=>e=.returned (.tuple #[])/\PrS k w' d (t++ZdM ns f x.2) v s/\Fr w w' d:=by
 have hq:=hx;obtain⟨⟨vw,vu,vk⟩,g,c,a,b,i⟩:=x;obtain⟨P,O,j⟩:=hx;dsimp only at hk D P O j r⊢;obtain⟨n,q,rfl,F,G,hW,y⟩:=P;obtain⟨m,p,rfl,B,C,Z⟩:=O;obtain⟨l,o,rfl,z,A,Y⟩:=j;have u:=below_alloc1 w (Yg #[Yd Yf g,.slice n c.length q,.slice m a.length p,.slice l b.length o,Yd Yf i] 37);have H:Zk _ _ _ _:=Zk.start w #[Yd Yf g,.slice n c.length q,.slice m a.length p,.slice l b.length o,Yd Yf i] 37;have Q:=h.keep u;have L:ZdM ns f ⟨g,c,a,b,i⟩=ZH ns f ⟨g,c,a,b,i⟩:=by unfold ZdM;rw[Yn hk]
 rw[L]at r⊢;obtain⟨T,U,V,W,X⟩:=Zm (x:=((.slice n c.length q,.slice m a.length p,.slice l b.length o),⟨g,c,a,b,i⟩)) (H);dsimp only at T U V W X;generalize E:w.alloc (Yg #[Yd Yf g,.slice n c.length q,.slice m a.length p,.slice l b.length o,Yd Yf i] 37)=w1 at *;have R:=zh (J w1 d v t s _ Q K hq D r);have S:=zh u;clear Q H u hq F G hW y B C Z z A Y h r L D K J;go_enter Tryz.func121,Tryz.ntmps121;go_wp2_with (go_at_call 23;(refine R.out.mono ?_);rintro e w3 ⟨rfl,N,M⟩;have I:=zh (zi N M);clear N M);go_end0;exact⟨rfl,I.out.1,(Fr.of_below d (E▸S.out)).trans I.out.2⟩
end
section
open Go.RowKit
theorem Zkh (a:Yh) (ns:List Nd) (b f:Nat) (g:ZbA a ns f):ZcF 121 a ns b (Zgo ns f) (ZdM ns f):=by
 intro w d t e x h i hx c l;rcases c with⟨hk,s,r,j⟩|⟨hk,k⟩
 ·exact ZmQ a w d b f t e ns x h hx s r hk j (by omega)
 ·exact ZpR a w d b f t e ns x h i hx g hk k (by omega)
def Zex (ns:List Nd) (f:Nat) (n:Nd):Txt:=[99,97,108,108,32]++(if n.words.length=2 then word n 1++[32,61,32]else [])++word n 0++[40]++Za5 [44,32] (n.kids.map fun k=>ZdM ns f (Zf ns k))++[41,59]
theorem Zoc (l w:Yh) (r D f:Nat) (t:Txt) (H:Yi) (ns:List Nd) (x:NdV×Nd) (h:PrS l w r t D H) (hN:Zi l H ns) (hx:ZS l x) (hE:ZbA l ns f) (a:Txt) (s:x.2.words=[a]) (E:Zax ns x.2.kids (Zgo ns f)) (M:t.length+(Zex ns f x.2).length+10000<=140737488355328) :
  Calls Tryz.prog 94 #[Ye (Ya ⟨r,0,Yb⟩),ndX x] w fun e w'=>e=.returned (.tuple #[])/\PrS l w' r (t++Zex ns f x.2) D H/\Fr w w' r:=by
 have hq:=hx;obtain⟨⟨vw,vu,vk⟩,F,g,b,d,G⟩:=x;obtain⟨hw,hu,Q⟩:=hx;dsimp only at s E hw hu Q M⊢;obtain⟨Aw,K,rfl,af,ag,hW,ac⟩:=hw;obtain⟨I,J,rfl,ad,ae,hU⟩:=hu;obtain⟨u,C,rfl,R,S,hK⟩:=Q;have he:Zex ns f ⟨F,g,b,d,G⟩=[99,97,108,108,32]++[]++a++[40]++Za5 [44,32] (d.map fun k=>ZdM ns f (Zf ns k))++[41,59]:=by unfold Zex word;dsimp only;rw[s];rfl
 rw[he]at M⊢;clear he;generalize hA:(d.map fun k=>ZdM ns f (Zf ns k))=L at M⊢;simp only[Yj,Yk,Yl]at M;have t2:((g.length:Int)==2)=false:=by rw[s];rfl
 have Z:=Nw.start (w:=w) #[Yd Yf F,Yc Aw g.length K,Yc I b.length J,.slice u d.length C,Yd Yf G] h;generalize ba:w.alloc (Yg #[Yd Yf F,Yc Aw g.length K,Yc I b.length J,.slice u d.length C,Yd Yf G] 37)=w1 at *;obtain⟨q,rfl,_⟩:=ZbH (k:=0) (x:=a) hW Z.p.below (by rw[s];rfl) (by rw[s];exact Nat.succ_pos _);have n:0<g.length:=by rw[s];exact Nat.succ_pos _
 have o:=zh (zi hW s);have U:=zh Z;have Y:=zh (zi hN (zi hq (zi hK (zi S R))));have W:=zh M;have O:=zh (zi E (zi hE hA));clear Z hq af ag hW ac ad ae hU R S hK h hN M E hE s hA;obtain⟨v,y,z,A,B⟩:=Zm (x:=((Yc (Ya q) g.length K,Yc I b.length J,.slice u d.length C),⟨F,g,b,d,G⟩)) U.out.k;dsimp only at v y z A B;have c:=Zv (k:=0) (x:=a) o.out.1 U.out.p.below (by rw[o.out.2];rfl) n;have m:w1.cell? q=Ya (txt a):=c;have N:=zh (Zao l w1 r D t H [99,97,108,108,32] U.out.p (by have:=W.out;simp only[Yk,Yl];omega));go_enter Tryz.func94,Tryz.ntmps94;go_upto_region 2 with(go_at_call 36;(refine N.out.mono ?_);rintro e w2 ⟨rfl,j,i⟩;have X:=zh (U.out.next j i);clear j i)
 clear v y z A B c m;obtain⟨v,y,z,A,B⟩:=Zm (x:=((Yc (Ya q) g.length K,Yc I b.length J,.slice u d.length C),⟨F,g,b,d,G⟩)) X.out.k;dsimp only at v y z A B;have c:=Zv (k:=0) (x:=a) o.out.1 X.out.p.below (by rw[o.out.2];rfl) n;have m:w2.cell? q=Ya (txt a):=c;go_upto_region 4 with fail;have T:=zh X.out.drew;obtain⟨d0,d1,d2,d3,d4⟩:=Zm (x:=((Yc (Ya q) g.length K,Yc I b.length J,.slice u d.length C),⟨F,g,b,d,G⟩)) T.out.k;dsimp only at d0 d1 d2 d3 d4;have P:=Zv (k:=0) (x:=a) o.out.1 T.out.p.below (by rw[o.out.2];rfl) n;have aa:w2.drew.cell? q=Ya (txt a):=P;have N:=zh (Zao l w2.drew r D _ H a T.out.p (by have:=W.out;simp only[Yj,Yk,Yl];omega));go_region_with (go_at_call 36;(refine N.out.mono ?_);rintro e w3 ⟨rfl,j,i⟩;have V:=zh (T.out.next j i);clear j i)
 all_goals
  clear v y z A B c m d0 d1 d2 d3 d4 P aa;obtain⟨v,y,z,A,B⟩:=Zm (x:=((Yc (Ya q) g.length K,Yc I b.length J,.slice u d.length C),⟨F,g,b,d,G⟩)) V.out.k;dsimp only at v y z A B;have c:=Zv (k:=0) (x:=a) o.out.1 V.out.p.below (by rw[o.out.2];rfl) n;have m:w3.cell? q=Ya (txt a):=c;have EN:=zh (ZfJ _ Zio l w3 r D _ H ns u C d (Zgo ns f) (ZdM ns f) V.out.p Y.out.1 Y.out.2.2.1 (by have:=Y.out.2.2.2;omega) O.out.1 (Zkh l ns D f O.out.2.1) (by have:=W.out;rw[O.out.2.2];simp only[Yj,Yk,Yl];omega));go_upto_region 6 with(go_at_call 39;(refine EN.out.mono ?_);rintro e w4 ⟨rfl,j,i⟩;have H4:=zh (V.out.next j i);clear j i)
  have N:=zh (Zao l w4 r D _ H [59] H4.out.p (by have:=W.out;rw[O.out.2.2];simp only[Yj,Yk,Yl];omega));go_wp2_with (go_at_call 36;(refine N.out.mono ?_);rintro e w5 ⟨rfl,j,i⟩;have H5:=zh (H4.out.next j i);clear j i);go_end0;refine⟨rfl,?_,H5.out.f⟩;have:=H5.out.p;rw[O.out.2.2]at this;simp only[List.append_assoc,List.cons_append,List.nil_append]at this⊢;exact this
theorem Zod (z w:Yh) (G P f:Nat) (t:Txt) (Q:Yi) (ns:List Nd) (x:NdV×Nd) (h:PrS z w G t P Q) (hN:Zi z Q ns) (hx:ZS z x) (hE:ZbA z ns f) (a b:Txt) (I:x.2.words=[a,b]) (U:Zax ns x.2.kids (Zgo ns f)) (V:t.length+(Zex ns f x.2).length+10000<=140737488355328) :
  Calls Tryz.prog 94 #[Ye (Ya ⟨G,0,Yb⟩),ndX x] w fun e w'=>e=.returned (.tuple #[])/\PrS z w' G (t++Zex ns f x.2) P Q/\Fr w w' G:=by
 have hq:=hx;obtain⟨⟨vw,vu,vk⟩,J,m,c,l,K⟩:=x;obtain⟨hw,hu,ah⟩:=hx;dsimp only at I U hw hu ah V⊢;obtain⟨Aw,O,rfl,ax,ay,hW,ar⟩:=hw;obtain⟨M,N,rfl,au,av,hU⟩:=hu;obtain⟨F,H,rfl,ai,aj,hK⟩:=ah;have he:Zex ns f ⟨J,m,c,l,K⟩=[99,97,108,108,32]++(b++[32,61,32])++a++[40]++Za5 [44,32] (l.map fun k=>ZdM ns f (Zf ns k))++[41,59]:=by unfold Zex word;dsimp only;rw[I];rfl
 rw[he]at V⊢;clear he;generalize hA:(l.map fun k=>ZdM ns f (Zf ns k))=L at V⊢;simp only[Yj,Yk,Yl]at V;have t2:((m.length:Int)==2)=true:=by rw[I];rfl
 have N1:=Nw.start (w:=w) #[Yd Yf J,Yc Aw m.length O,Yc M c.length N,Yc F l.length H,Yd Yf K] h;generalize bj:w.alloc (Yg #[Yd Yf J,Yc Aw m.length O,Yc M c.length N,Yc F l.length H,Yd Yf K] 37)=w1 at *;obtain⟨g,rfl,_⟩:=ZbH (k:=0) (x:=a) hW N1.p.below (by rw[I];rfl) (by rw[I];exact Nat.succ_pos _);have s:0<m.length:=by rw[I];exact Nat.succ_pos _
 have u:1<m.length:=by rw[I];simp only[Yk];omega
 have d:=zh (zi hW I);have Y:=zh N1;have HN:=zh (zi hN (zi hq (zi hK (zi aj ai))));have HL:=zh V;have HO:=zh (zi U (zi hE hA));clear N1 hq ax ay hW ar au av hU ai aj hK h hN V U hE I hA;obtain⟨A,B,C,D,E⟩:=Zm (x:=((Yc (Ya g) m.length O,Yc M c.length N,Yc F l.length H),⟨J,m,c,l,K⟩)) Y.out.k;dsimp only at A B C D E;have i:=Zv (k:=0) (x:=a) d.out.1 Y.out.p.below (by rw[d.out.2];rfl) s;have q:w1.cell? g=Ya (txt a):=i;have j:=Zv (k:=1) (x:=b) d.out.1 Y.out.p.below (by rw[d.out.2];rfl) u;have r:w1.cell? ⟨g.block,g.off+1,Yb⟩=Ya (txt b):=j;have R:=zh (Zao z w1 G P t Q [99,97,108,108,32] Y.out.p (by have:=HL.out;simp only[Yk,Yl];omega));go_enter Tryz.func94,Tryz.ntmps94;go_upto_region 2 with(go_at_call 36;(refine R.out.mono ?_);rintro e w2 ⟨rfl,o,n⟩;have H2:=zh (Y.out.next o n);clear o n)
 clear A B C D E i j q r;obtain⟨A,B,C,D,E⟩:=Zm (x:=((Yc (Ya g) m.length O,Yc M c.length N,Yc F l.length H),⟨J,m,c,l,K⟩)) H2.out.k;dsimp only at A B C D E;have i:=Zv (k:=0) (x:=a) d.out.1 H2.out.p.below (by rw[d.out.2];rfl) s;have q:w2.cell? g=Ya (txt a):=i;have j:=Zv (k:=1) (x:=b) d.out.1 H2.out.p.below (by rw[d.out.2];rfl) u;have r:w2.cell? ⟨g.block,g.off+1,Yb⟩=Ya (txt b):=j;go_upto_region 3 with fail;have W:=zh H2.out.drew;obtain⟨d0,d1,d2,d3,d4⟩:=Zm (x:=((Yc (Ya g) m.length O,Yc M c.length N,Yc F l.length H),⟨J,m,c,l,K⟩)) W.out.k;dsimp only at d0 d1 d2 d3 d4;have v:=Zv (k:=0) (x:=a) d.out.1 W.out.p.below (by rw[d.out.2];rfl) s;have S:w2.drew.cell? g=Ya (txt a):=v;have y:=Zv (k:=1) (x:=b) d.out.1 W.out.p.below (by rw[d.out.2];rfl) u;have T:w2.drew.cell? ⟨g.block,g.off+1,Yb⟩=Ya (txt b):=y;have R:=zh (Zc8 z w2.drew G P _ Q b [32,61,32] W.out.p (by have:=HL.out;simp only[Yj,Yk,Yl];omega));go_region_with (go_at_call 36;(refine R.out.mono ?_);rintro e w3 ⟨rfl,o,n⟩;have H3:=zh (W.out.next o n);clear o n)
 all_goals
  clear A B C D E i j q r d0 d1 d2 d3 d4 v y S T;obtain⟨A,B,C,D,E⟩:=Zm (x:=((Yc (Ya g) m.length O,Yc M c.length N,Yc F l.length H),⟨J,m,c,l,K⟩)) H3.out.k;dsimp only at A B C D E;have i:=Zv (k:=0) (x:=a) d.out.1 H3.out.p.below (by rw[d.out.2];rfl) s;have q:w3.cell? g=Ya (txt a):=i;have j:=Zv (k:=1) (x:=b) d.out.1 H3.out.p.below (by rw[d.out.2];rfl) u;have r:w3.cell? ⟨g.block,g.off+1,Yb⟩=Ya (txt b):=j;go_upto_region 4 with fail;have X:=zh H3.out.drew;obtain⟨d0,d1,d2,d3,d4⟩:=Zm (x:=((Yc (Ya g) m.length O,Yc M c.length N,Yc F l.length H),⟨J,m,c,l,K⟩)) X.out.k;dsimp only at d0 d1 d2 d3 d4;have v:=Zv (k:=0) (x:=a) d.out.1 X.out.p.below (by rw[d.out.2];rfl) s;have S:w3.drew.cell? g=Ya (txt a):=v;have y:=Zv (k:=1) (x:=b) d.out.1 X.out.p.below (by rw[d.out.2];rfl) u;have T:w3.drew.cell? ⟨g.block,g.off+1,Yb⟩=Ya (txt b):=y;have R:=zh (Zao z w3.drew G P _ Q a X.out.p (by have:=HL.out;simp only[Yj,Yk,Yl];omega));go_region_with (go_at_call 36;(refine R.out.mono ?_);rintro e w4 ⟨rfl,o,n⟩;have Z:=zh (X.out.next o n);clear o n)
  all_goals
   clear A B C D E i j q r d0 d1 d2 d3 d4 v y S T;obtain⟨A,B,C,D,E⟩:=Zm (x:=((Yc (Ya g) m.length O,Yc M c.length N,Yc F l.length H),⟨J,m,c,l,K⟩)) Z.out.k;dsimp only at A B C D E;have i:=Zv (k:=0) (x:=a) d.out.1 Z.out.p.below (by rw[d.out.2];rfl) s;have q:w4.cell? g=Ya (txt a):=i;have j:=Zv (k:=1) (x:=b) d.out.1 Z.out.p.below (by rw[d.out.2];rfl) u;have r:w4.cell? ⟨g.block,g.off+1,Yb⟩=Ya (txt b):=j;have EN:=zh (ZfJ _ Zio z w4 G P _ Q ns F H l (Zgo ns f) (ZdM ns f) Z.out.p HN.out.1 HN.out.2.2.1 (by have:=HN.out.2.2.2;omega) HO.out.1 (Zkh z ns P f HO.out.2.1) (by have:=HL.out;rw[HO.out.2.2];simp only[Yj,Yk,Yl];omega));go_upto_region 6 with(go_at_call 39;(refine EN.out.mono ?_);rintro e w5 ⟨rfl,o,n⟩;have H5:=zh (Z.out.next o n);clear o n)
   have R:=zh (Zao z w5 G P _ Q [59] H5.out.p (by have:=HL.out;rw[HO.out.2.2];simp only[Yj,Yk,Yl];omega));go_wp2_with (go_at_call 36;(refine R.out.mono ?_);rintro e w6 ⟨rfl,o,n⟩;have H6:=zh (H5.out.next o n);clear o n);go_end0;refine⟨rfl,?_,H6.out.f⟩;have:=H6.out.p;rw[HO.out.2.2]at this;simp only[List.append_assoc,List.cons_append,List.nil_append]at this⊢;exact this
end
end Go.Proofs.YtfbepcelkijgkaaGreatDoor
