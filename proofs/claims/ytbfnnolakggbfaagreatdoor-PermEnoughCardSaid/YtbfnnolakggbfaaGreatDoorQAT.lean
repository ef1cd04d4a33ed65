import Derived.Deep.DeepFit
import Derived.Deep.CutRange
import Derived.Test.YtbfnnolakggbfaaGreatDoorQAI
import Derived.Test.YtbfnnolakggbfaaGreatDoorQAJ
import Derived.Test.YtbfnnolakggbfaaGreatDoorQAK
import Derived.Test.YtbfnnolakggbfaaGreatDoorQAQ
import Derived.Test.YtbfnnolakggbfaaGreatDoorQAR
import Derived.Test.YtbfnnolakggbfaaGreatDoorQAS
set_option maxRecDepth 100000
set_option maxHeartbeats 8000000
open Option renaming some → Ya, none → Yb
open Go.Value renaming slice → Yc, int → Yd, pointer → Ye
open Go.IntKind renaming i64 → Yf
open Go.Obj renaming cells → Yg
open Go renaming World → Yh, Value → Yi
namespace Go.Proofs.YtbfnnolakggbfaaGreatDoor
section
open Go.RowKit
theorem Zer (w:Yh) (v:Yi) (l:List (Int×Int)) (kn kd i:Int) (h:Za w v l) :
  Calls Tryz.prog 107 #[.agg #[v,Yd Yf kn,Yd Yf kd],Yd Yf i] w fun r w'=>r=.returned (.bool ((atL l i).1 != 0))/\Below w.heap.size w w':=by
 have a:=below_alloc1 w (Yg #[v,Yd Yf kn,Yd Yf kd] 37);have b:=Zbv _ v l kn kd i (h.below a);generalize atL l i=x at *;obtain⟨d,k⟩:=x;dsimp only at *;obtain⟨A,c,rfl,_,_,_⟩:=h;generalize l.length=n at *;have j:∀w:Yh,(Instr.field 23 (.agg #[Yd Yf d,Yd Yf k]) 0).run Tryz.prog w=.ok (Yd Yf d) w:=fun _=>by kernel_rfl
 have f:=Lib.hid b;clear b;go_enter Tryz.func107,Tryz.ntmps107;go_wp2_with (go_at_call 66;go_fit f.out;rintro e m ⟨rfl,g⟩);go_ret;exact⟨rfl,a.trans (g.mono a.size)⟩
end
section
open Go.RowKit
abbrev Bd (x:Int×Int):Prop:=(-9223372036854775808<=x.1/\x.1<=9223372036854775807)/\(-9223372036854775808<=x.2/\x.2<=9223372036854775807)
def ZaO (l m:List (Int×Int)) (kx a:Int×Int):List (Int×Int)×(Int×Int)×Int:=
 if ZM l kx.1 kx.2=true/\ZM m a.1 a.2=true then Za1 Zl l m kx a else([],(0,0),2)
def Zh (l:List (Int×Int)) (kx kb:Int×Int):List (Int×Int)×(Int×Int)×Int:=
 if ZM l kx.1 kx.2=true/\Zaf kb.1 kb.2=true then Za1 (Zt kb) l [] kx (0,1)else([],(0,0),2)
theorem Zg0:Bd (0,0):=by decide
theorem Zkf {h:How} (c:HowOk h) {l m:List (Int×Int)} {kx b:Int×Int} (d:ZC l) (hm:ZC m) (a:OkR kx) (e:OkR b):Zz (Za1 h l m kx b).1/\Bd (Za1 h l m kx b).2.1:=by
 unfold Za1
 split
 ·rename_i g
  exact⟨(ZcY c d hm g.2).trim.wide,(c.ok _ _ a e g.1).wide⟩
 ·exact⟨fun x a=>(by cases a),Zg0⟩
theorem ZpC {l m:List (Int×Int)} {kx h:Int×Int} (i:Zz l) (hm:Zz m) (e:Bd kx) (f:Bd h):Zz (ZaO l m kx h).1/\Bd (ZaO l m kx h).2.1:=by
 unfold ZaO
 split
 ·rename_i g
  obtain⟨_,a,b⟩:=Zaj g.1 i e.1.1 e.1.2 e.2.1 e.2.2;obtain⟨_,c,d⟩:=Zaj g.2 hm f.1.1 f.1.2 f.2.1 f.2.2;exact Zkf Zbi a c b d
 ·exact⟨fun x e=>(by cases e),Zg0⟩
theorem ZaP {l:List (Int×Int)} {kx kb:Int×Int} (e:Zz l) (c:Bd kx) (d:Bd kb):Zz (Zh l kx kb).1/\Bd (Zh l kx kb).2.1:=by
 unfold Zh
 split
 ·rename_i g
  obtain⟨_,a,b⟩:=Zaj g.1 e c.1.1 c.1.2 c.2.1 c.2.2;exact Zkf (Zck (ZfX g.2 d)) a Zf8 b Zak
 ·exact⟨fun x c=>(by cases c),Zg0⟩
theorem ZiL (w:Yh) (i j:Yi) (l m:List (Int×Int)) (kx e:Int×Int) (k:Za w i l) (n:Za w j m) (o:Zz l) (hm:Zz m) (f:Bd kx) (h:Bd e) :
  Calls Tryz.prog 114 #[.agg #[i,Yd Yf kx.1,Yd Yf kx.2],.agg #[j,Yd Yf e.1,Yd Yf e.2]] w (ZaQ w (ZaO l m kx e).1 (ZaO l m kx e).2.1 (ZaO l m kx e).2.2):=by
 unfold ZaO
 split
 ·rename_i g
  obtain⟨p,a,b⟩:=Zaj g.1 o f.1.1 f.1.2 f.2.1 f.2.2;obtain⟨q,c,d⟩:=Zaj g.2 hm h.1.1 h.1.2 h.2.1 h.2.2;exact Zon w i j l m kx e k n a c b d p q
 ·rename_i g
  refine Zoo w i j l m kx.1 kx.2 e.1 e.2 k n o hm f.1.1 f.1.2 f.2.1 f.2.2 h.1.1 h.1.2 h.2.1 h.2.2 ?_;cases a:ZM l kx.1 kx.2
  ·exact .inl rfl
  ·cases b:ZM m e.1 e.2
   ·exact .inr ⟨rfl,rfl⟩
   ·exact absurd ⟨a,b⟩ g
theorem ZcN (w:Yh) (e:Yi) (l:List (Int×Int)) (kx kb:Int×Int) (f:Za w e l) (h:Zz l) (c:Bd kx) (d:Bd kb) :
  Calls Tryz.prog 29 #[.agg #[e,Yd Yf kx.1,Yd Yf kx.2],Zb kb.1 kb.2] w (ZaQ w (Zh l kx kb).1 (Zh l kx kb).2.1 (Zh l kx kb).2.2):=by
 unfold Zh
 split
 ·rename_i g
  obtain⟨p,a,b⟩:=Zaj g.1 h c.1.1 c.1.2 c.2.1 c.2.2;exact Zl8 w e l kx kb f a b (ZfX g.2 d) p
 ·rename_i g
  refine Zl9 w e l kx.1 kx.2 kb.1 kb.2 f h c.1.1 c.1.2 c.2.1 c.2.2 d.1.1 d.1.2 d.2.1 d.2.2 ?_;cases a:ZM l kx.1 kx.2
  ·exact .inl rfl
  ·cases b:Zaf kb.1 kb.2
   ·exact .inr ⟨rfl,rfl⟩
   ·exact absurd ⟨a,b⟩ g
structure Put (h:How) (l m:List (Int×Int)) (kx ky:Int×Int) (L:List (Int×Int)) (k:Int×Int):Prop where
 ok:ZC L
 len:L.length<=8
 own:Zs L=L
 okk:OkR k
 k:(h kx ky).2=0/\k=(h kx ky).1
 at_:∀i:Nat,(h (atL l i) (atL m i)).2=0/\atL L i=(h (atL l i) (atL m i)).1
theorem Zpk {h:How} (p:HowOk h) (n:h (0,1) (0,1)=((0,1),0)) {l m:List (Int×Int)} {kx j:Int×Int} (r:ZC l) (hm:ZC m) (s:OkR kx) (t:OkR j) (o:l.length<=8) (k:m.length<=8) (he:(Za1 h l m kx j).2.2=0) :
  Put h l m kx j (Za1 h l m kx j).1 (Za1 h l m kx j).2.1:=by
 obtain⟨a,b,c,d,e,f⟩:=Zrj p r hm s t o k he;rw[c];refine⟨d.trim,Nat.le_trans (Zhy _) e,Zig _,f,⟨a,rfl⟩,fun i=>?_⟩;rw[Zbo d,ZeS];by_cases g:i<max l.length m.length
 ·rw[Yo g];exact⟨b i g,rfl⟩
 ·rw[Yn g,Zbr (l:=l) (.inr (by omega)),Zbr (l:=m) (.inr (by omega)),n];exact⟨rfl,rfl⟩
theorem Zm1:Zl (0,1) (0,1)=((0,1),0):=Zde Zak
theorem Zly {k:Int×Int} (a:OkR k):ZP (0,1) k=((0,1),0):=ZhL Zak a Zak (by show 0*(1*k.2)=0*k.1*1;grind)
theorem Zdb {l m:List (Int×Int)} {kx f:Int×Int} (j:Zz l) (hm:Zz m) (h:Bd kx) (i:Bd f) (he:(ZaO l m kx f).2.2=0):ZC l/\ZC m/\OkR kx/\OkR f/\l.length<=8/\m.length<=8/\Put Zl l m kx f (ZaO l m kx f).1 (ZaO l m kx f).2.1:=by
 by_cases g:ZM l kx.1 kx.2=true/\ZM m f.1 f.2=true
 ·obtain⟨p,a,b⟩:=Zaj g.1 j h.1.1 h.1.2 h.2.1 h.2.2;obtain⟨q,c,d⟩:=Zaj g.2 hm i.1.1 i.1.2 i.2.1 i.2.2;have e:ZaO l m kx f=Za1 Zl l m kx f:=Yo g;rw[e]at he⊢;exact⟨a,c,b,d,p,q,Zpk Zbi Zm1 a c b d p q he⟩
 ·unfold ZaO at he;rw[Yn g]at he;cases he
theorem Zcm {l:List (Int×Int)} {kx kb:Int×Int} (h:Zz l) (d:Bd kx) (f:Bd kb) (he:(Zh l kx kb).2.2=0):ZC l/\OkR kx/\OkR kb/\l.length<=8/\Put (Zt kb) l [] kx (0,1) (Zh l kx kb).1 (Zh l kx kb).2.1:=by
 by_cases g:ZM l kx.1 kx.2=true/\Zaf kb.1 kb.2=true
 ·obtain⟨p,a,b⟩:=Zaj g.1 h d.1.1 d.1.2 d.2.1 d.2.2;have c:=ZfX g.2 f;have e:Zh l kx kb=Za1 (Zt kb) l [] kx (0,1):=Yo g;rw[e]at he⊢;exact⟨a,b,c,p,Zpk (Zck c) (Zly c) a Zf8 b Zak p (by simp) he⟩
 ·unfold Zh at he;rw[Yn g]at he;cases he
theorem Zr7 (j a2 c1 c2 i a k c f g y1 b h z2 d e:Int) (o:k*(a2*c2)=(j*c2+c1*a2)*c) (p:f*(c*a)=k*i*g) (r:y1*(a2*a)=j*i*b) (s:h*(c2*a)=c1*i*z2)
  (t:d*(b*z2)=(y1*z2+h*b)*e):f*e*(a2*c2*a*c*b*z2)=d*g*(a2*c2*a*c*b*z2):=by
 have l:f*e*(a2*c2*a*c*b*z2)=(f*(c*a))*(a2*c2)*(b*z2)*e:=by grind
 have m:d*g*(a2*c2*a*c*b*z2)=(d*(b*z2))*(a2*c2*a*c)*g:=by grind
 have n:(y1*z2+h*b)*(a2*a*(c2*a))=(y1*(a2*a))*z2*(c2*a)+(h*(c2*a))*b*(a2*a):=by grind
 grind
theorem OkR.same {x w:Int×Int} (b:OkR x) (a:OkR w) {D:Int} (c:0<D) (h:x.1*w.2*D=w.1*x.2*D):x=w:=
 b.ext a (Int.eq_of_mul_eq_mul_right (by omega) h)
theorem Zlf {a c b s x y z w:Int×Int} (e:OkR a) (hc:OkR c) (d:OkR b) (p:(Zl a c).2=0) (A:s=(Zl a c).1) (r:(ZP s b).2=0) (C:x=(ZP s b).1) (t:(ZP a b).2=0) (D:y=(ZP a b).1) (u:(ZP c b).2=0) (E:z=(ZP c b).1)
  (v:(Zl y z).2=0) (B:w=(Zl y z).1):x=w:=by
 obtain⟨f,i⟩:=Zjo e hc p;rw[<-A]at f i;obtain⟨o,j⟩:=ZhK f d r;rw[<-C]at o j;obtain⟨g,k⟩:=ZhK e d t;rw[<-D]at g k;obtain⟨h,l⟩:=ZhK hc d u;rw[<-E]at h l;obtain⟨n,m⟩:=Zjo g h v;rw[<-B]at n m;exact o.same n (Int.mul_pos (Int.mul_pos (Int.mul_pos (Int.mul_pos (Int.mul_pos e.den hc.den) d.den) f.den) g.den) h.den) (Zr7 _ _ _ _ _ _ _ _ _ _ _ _ _ _ _ _ i j k l m)
theorem Zsm {l m:List (Int×Int)} {kx a kb:Int×Int} (h:Zz l) (hm:Zz m) (j:Bd kx) (n:Bd a) (d:Bd kb) (s:(ZaO l m kx a).2.2=0) (t:(Zh (ZaO l m kx a).1 (ZaO l m kx a).2.1 kb).2.2=0) (u:(Zh l kx kb).2.2=0) (v:(Zh m a kb).2.2=0)
  (w:(ZaO (Zh l kx kb).1 (Zh m a kb).1 (Zh l kx kb).2.1 (Zh m a kb).2.1).2.2=0) :
  let X:=Zh (ZaO l m kx a).1 (ZaO l m kx a).2.1 kb
  let W:=ZaO (Zh l kx kb).1 (Zh m a kb).1 (Zh l kx kb).2.1 (Zh m a kb).2.1
  X.1=W.1/\X.2.1=W.2.1/\ZM X.1 X.2.1.1 X.2.1.2=true/\ZM W.1 W.2.1.1 W.2.1.2=true:=by
 intro X W;obtain⟨A,z⟩:=ZpC h hm j n;obtain⟨C,B⟩:=ZaP h j d;obtain⟨E,D⟩:=ZaP hm n d;obtain⟨p,r,x,y,F,G,e⟩:=Zdb h hm j n s;obtain⟨_,_,o,_,b⟩:=Zcm A z d t;obtain⟨_,_,_,_,f⟩:=Zcm h j d u;obtain⟨_,_,_,_,g⟩:=Zcm hm n d v;obtain⟨_,_,_,_,_,_,c⟩:=Zdb C E B D w;refine⟨?_,Zlf x y o e.k.1 e.k.2 b.k.1 b.k.2 f.k.1 f.k.2 g.k.1 g.k.2 c.k.1 c.k.2,Zav b.len b.ok b.okk,Zav c.len c.ok c.okk⟩;rw[<-b.own,<-c.own];exact ZgF b.ok c.ok fun i=>Zlf (p.at i) (r.at i) o (e.at_ i).1 (e.at_ i).2 (b.at_ i).1 (b.at_ i).2 (f.at_ i).1 (f.at_ i).2 (g.at_ i).1 (g.at_ i).2 (c.at_ i).1 (c.at_ i).2
end
section
open Go.RowKit
def Zb9 (x:Int×Int):Int×Int:=(if x.1<0 then -x.2 else x.2,(x.1.natAbs:Int))
theorem ZhB {n:Int} {d:Nat} (v:Valid n d) (h:n≠0):Valid (if n<0 then -(d:Int)else d) n.natAbs:=by
 have e:(if n<0 then -(d:Int)else d).natAbs=d:=by split<;>simp
 exact⟨by omega,v.n_le,by rw[e];exact v.d_le,by rw[e,Nat.gcd_comm];exact v.low⟩
theorem ZeN {x:Int×Int} (h:OkR x) (a:x.1≠0):OkR (Zb9 x):=by obtain⟨d,e,v⟩:=h;refine⟨x.1.natAbs,rfl,?_⟩;unfold Zb9;rw[e];exact ZhB v a
theorem ZrW {n:Int} {d:Nat} (_:Valid n d) (_:n≠0):(if n<0 then -(d:Int)else d)*((1:Nat):Int)*n=1*(d:Int)*(n.natAbs:Int):=by
 by_cases g:n<0
 ·rw[Yo g,show((n.natAbs:Nat):Int)=-n by omega];simp[Int.neg_mul,Int.mul_neg]
 ·rw[Yn g,show((n.natAbs:Nat):Int)=n by omega];simp
theorem Znc (w:Yh) (x:Int×Int) (h:OkR x) (a:x.1≠0) :
  Calls Tryz.prog 145 #[Zb 1 1,Zb x.1 x.2] w fun r w'=>r=.returned (.tuple #[Zb (Zb9 x).1 (Zb9 x).2,Yd Yf 0])/\Below w.heap.size w w':=by
 obtain⟨d,e,v⟩:=h;have:=ZrR (n:=1) (d:=1) ⟨by decide,by decide,by decide,by decide⟩ v a (ZhB v a) (ZrW v a) w;unfold Zb9;rw[e];exact this
theorem Zms (w:Yh) (r:Yi) (l:List (Int×Int)) (kx:Int×Int) (i:Int) (p:Za w r l) (I:Zz l) (J:Bd kx) (hq:OkR (atL l i)) (u:(atL l i).1≠0) :
  Calls Tryz.prog 108 #[.agg #[r,Yd Yf kx.1,Yd Yf kx.2],Yd Yf i] w (ZaQ w (Zh l kx (Zb9 (atL l i))).1 (Zh l kx (Zb9 (atL l i))).2.1 (Zh l kx (Zb9 (atL l i))).2.2):=by
 have N:=fun(g:Yh) (h:Below w.heap.size w g)=>Zbv g r l kx.1 kx.2 i (p.below h);have R:=fun(g:Yh)=>Znc g (atL l i) hq u;have O:=fun(g:Yh) (h:Below w.heap.size w g)=>ZcN g r l kx (Zb9 (atL l i)) (p.below h) I J (ZeN hq u).wide;generalize Zh l kx (Zb9 (atL l i))=P at *;generalize Zb9 (atL l i)=y at *;generalize atL l i=x at *;obtain⟨L,⟨K,M⟩,e⟩:=P;obtain⟨x1,x2⟩:=x;obtain⟨C,D⟩:=y;obtain⟨T,S⟩:=kx;dsimp only at *;obtain⟨A,c,rfl⟩:=Zc p;generalize l.length=n at *;have U:=Lib.hid N;have W:=Lib.hid R;have V:=Lib.hid O;clear N R O p I J hq u;have a:=below_alloc2 w (Yg #[Yc A n c,Yd Yf T,Yd Yf S] 37) (Yg #[Yc Yb 0 0,Yd Yf 0,Yd Yf 0] 37);obtain⟨F,E⟩:=Zfv w (Yc A n c) (Yd Yf T) (Yd Yf S) (Yc Yb 0 0) (Yd Yf 0) (Yd Yf 0) 37;go_enter Tryz.func108,Tryz.ntmps108
 go_upto_region 2 with(first
  |(go_at_call 66;go_fit (U.out _ a);rintro e w1 ⟨rfl,b⟩;have F:=F.keep b;have E:=E.keep b;have s:=a.trans (b.mono a.size))
  |(go_at_call 145;go_fit (W.out _);rintro e B ⟨rfl,b⟩;have F:=F.keep b;have E:=E.keep b;have t:=s.trans (b.mono s.size)))
 have a2:=below_alloc1 B (Yg #[Yd Yf C,Yd Yf D] 23);have Q:=RatAt.start B C D 23;have F:=F.keep a2;have E:=E.keep a2;have o:=t.trans (a2.mono t.size);have k0:=F.k0;have k1:=F.k1;have k2:=F.k2;have q0:=Q.k0;have q1:=Q.k1;clear a2 b t s a F Q;generalize B.alloc (Yg #[Yd Yf C,Yd Yf D] 23)=w3 at *;go_wp2_with (go_at_call 29;go_fit (V.out _ o);rintro e5 w4 ⟨v4,rfl,f,m,k⟩;obtain⟨G,H,rfl⟩:=Zc f;have j:=Lib.hid (And.intro f k);clear f k;have d:=E.lt;have E:=E.keep m;have X:=o.trans (m.mono o.size);obtain⟨Y,Z,e2,g0,g1,g2,_⟩:=id E);obtain⟨c0,c1,c2⟩:=Zag (x:=Yc G L.length H) (y:=Yd Yf K) (z:=Yd Yf M) Y Z e2;refine bodyPost_ret (v:=.tuple #[.agg #[Yc G L.length H,Yd Yf K,Yd Yf M],Yd Yf e]) (by simp[results,Tryz.results108,go_sem,c0,c1,c2]) rfl ⟨_,rfl,?_,?_,j.out.2.mono o.size⟩
 ·exact((j.out.1.setCell j.out.2 d _).setCell j.out.2 d _).setCell j.out.2 d _
 ·exact((X.setCell (by show w.heap.size<=w.heap.size+1;omega) _).setCell (by show w.heap.size<=w.heap.size+1;omega) _).setCell (by show w.heap.size<=w.heap.size+1;omega) _
end
section
open Go.RowKit
theorem Zoe (w:Yh) (v:Yi) (l:List (Int×Int)) (kn kd:Int) (h:Za w v l) (d:Zz l) (b:Bd (kn,kd)) :
  Calls Tryz.prog 103 #[.agg #[v,Yd Yf kn,Yd Yf kd]] w fun r w'=>r=.returned (.bool (!ZM l kn kd))/\Below w.heap.size w w':=by
 have a:=below_alloc1 w (Yg #[v,Yd Yf kn,Yd Yf kd] 37);have f:=ZbP _ v l kn kd (h.below a) d b.1.1 b.1.2 b.2.1 b.2.2;generalize ZM l kn kd=R at *;obtain⟨A,c,rfl⟩:=Zc h;generalize l.length=n at *;have g:=Lib.hid f;clear f h d b;go_enter Tryz.func103,Tryz.ntmps103;go_wp2_with (go_at_call 44;go_fit g.out;rintro e j ⟨rfl,i⟩);go_ret;exact⟨rfl,a.trans (i.mono a.size)⟩
theorem Zog (w:Yh) (v:Yi) (l:List (Int×Int)) (kn kd:Int) (h:Za w v l) :
  Calls Tryz.prog 112 #[.agg #[v,Yd Yf kn,Yd Yf kd]] w fun r w'=>r=.returned (.bool (kn != 0))/\Below w.heap.size w w':=by
 obtain⟨A,c,rfl⟩:=Zc h;have a:=below_alloc1 w (Yg #[Yc A l.length c,Yd Yf kn,Yd Yf kd] 37);generalize l.length=n at *;clear h;go_enter Tryz.func112,Tryz.ntmps112;go_wp2_with fail;go_ret;exact⟨rfl,a⟩
theorem Zof (w:Yh) (v:Yi) (l:List (Int×Int)) (kn kd i:Int) (b:Nat) (h:Za w v l) (d:w.cell? ⟨b,0,Yb⟩=Ya (Yd Yf i)) :
  Calls Tryz.prog 106 #[.agg #[v,Yd Yf kn,Yd Yf kd],Ye (Ya ⟨b,0,Yb⟩)] w fun r w'=>r=.returned (.bool ((atL l i).1 != 0))/\Below w.heap.size w w':=by
 have a:=below_alloc1 w (Yg #[v,Yd Yf kn,Yd Yf kd] 37);have f:=Zer _ v l kn kd i (h.below a);have k:=(a.cell (World.block_lt_of_cell? _ _ d)).trans d;generalize((atL l i).1 != 0)=R at *;obtain⟨A,c,rfl⟩:=Zc h;generalize l.length=n at *;have g:=Lib.hid f;clear f h d;go_enter Tryz.func106,Tryz.ntmps106;go_wp2_with (go_at_call 107;go_fit g.out;rintro e m ⟨rfl,j⟩);go_ret;exact⟨rfl,a.trans (j.mono a.size)⟩
end
section
open Go.RowKit
def Zv (x:Int×Int):Int×Int:=(-x.1,x.2)
theorem ZbF {x:Int×Int} (h:OkR x):OkR (Zv x):=by obtain⟨d,e,v⟩:=h;exact⟨d,e,v.pos,v.d_le,by unfold Zv;rw[Int.natAbs_neg];exact v.n_le,by unfold Zv;rw[Int.natAbs_neg];exact v.low⟩
def Zaq (l:List (Int×Int)) (kx:Int×Int) (p:List (Int×Int)) (a:Int×Int) (i:Int):List (Int×Int)×(Int×Int)×Int:=
 if(atL l i).1=0 then(l,kx,0)
 else if(Zh p a (Zv (atL l i))).2.2=0 then ZaO l (Zh p a (Zv (atL l i))).1 kx (Zh p a (Zv (atL l i))).2.1 else([],(0,0),(Zh p a (Zv (atL l i))).2.2)
def Zil (w:Yh) (a:Yi) (l:List (Int×Int)) (k:Int×Int) (E:Int) (e:Ending) (w':Yh):Prop:=
 ∃v,e=.returned (.tuple #[.agg #[v,Yd Yf k.1,Yd Yf k.2],Yd Yf E])/\Za w' v l/\Below w.heap.size w w'/\(v=a\/Zp w.heap.size v)
theorem Znx {w c:Yh} {l:List (Int×Int)} {v:Yi} {b:Nat} {x y z:Yi} (h:Za w v l) (e:Below w.heap.size w c) (a:w.heap.size<=b) :
  Za (((c.setCell ⟨b,0,Yb⟩ x).setCell ⟨b,1,Yb⟩ y).setCell ⟨b,2,Yb⟩ z) v l/\Below w.heap.size w (((c.setCell ⟨b,0,Yb⟩ x).setCell ⟨b,1,Yb⟩ y).setCell ⟨b,2,Yb⟩ z):=by
 have d:=((e.setCell (p:=⟨b,0,Yb⟩) a x).setCell (p:=⟨b,1,Yb⟩) a y).setCell (p:=⟨b,2,Yb⟩) a z;exact⟨h.below d,d⟩
theorem ZoO (w:Yh) (j:Yi) (l:List (Int×Int)) (kx:Int×Int) (i:Int) (b:Nat) (G:Yi) (g:Za w j l) (o:w.cell? ⟨b,0,Yb⟩=Ya (Yd Yf i)) (p:(atL l i).1=0) :
  Calls Tryz.prog 146 #[.agg #[j,Yd Yf kx.1,Yd Yf kx.2],Ye (Ya ⟨b,0,Yb⟩),G] w (Zil w j l kx 0):=by
 have k:=fun(r:Yh) (h:Below w.heap.size w r)=>Zer r j l kx.1 kx.2 i (g.below h);have d:((atL l i).1 != 0)=false:=by rw[p];rfl
 rw[d]at k;obtain⟨f,e⟩:=kx;dsimp only at *;obtain⟨A,c,rfl⟩:=Zc g;have t:=Lib.hid g;generalize l.length=n at *;have s:=Lib.hid k;clear k p d g;have a:=below_alloc2 w (Yg #[Yc A n c,Yd Yf f,Yd Yf e] 37) (Yg #[Yc Yb 0 0,Yd Yf 0,Yd Yf 0] 37);obtain⟨F,E⟩:=Zfv w (Yc A n c) (Yd Yf f) (Yd Yf e) (Yc Yb 0 0) (Yd Yf 0) (Yd Yf 0) 37;have J:=(a.cell (World.block_lt_of_cell? _ _ o)).trans o;go_enter Tryz.func146,Tryz.ntmps146;go_wp2_with (go_at_call 107;go_fit (s.out _ a);rintro K O ⟨rfl,m⟩;have F:=F.keep m;have E:=E.keep m;have u:=a.trans (m.mono a.size);have k0:=F.k0;have k1:=F.k1;have k2:=F.k2;obtain⟨B,C,D,L,M,N,_⟩:=id E);obtain⟨c0,c1,c2⟩:=Zag (x:=Yc A n c) (y:=Yd Yf f) (z:=Yd Yf e) B C D;obtain⟨H,I⟩:=Znx (b:=w.heap.size+1) (x:=Yc A n c) (y:=Yd Yf f) (z:=Yd Yf e) t.out u (by omega);exact bodyPost_ret (v:=.tuple #[.agg #[Yc A n c,Yd Yf f,Yd Yf e],Yd Yf 0]) (by simp[results,Tryz.results146,go_sem,c0,c1,c2]) rfl ⟨_,rfl,H,I,.inl rfl⟩
theorem ZoR (w:Yh) (K:Yi) (l:List (Int×Int)) (kx:Int×Int) (i:Int) (b Y:Nat) (vp:Yi) (p:List (Int×Int)) (a:Int×Int) (V:Za w K l) (hl:Zz l) (hx:Bd kx) (hi:w.cell? ⟨b,0,Yb⟩=Ya (Yd Yf i))
  (hp:Za w vp p) (D:Zz p) (C:Bd a) (r:w.cell? ⟨Y,0,Yb⟩=Ya vp) (s:w.cell? ⟨Y,1,Yb⟩=Ya (Yd Yf a.1)) (t:w.cell? ⟨Y,2,Yb⟩=Ya (Yd Yf a.2)) (hq:OkR (atL l i)) (hz:(atL l i).1≠0) :
  Calls Tryz.prog 146 #[.agg #[K,Yd Yf kx.1,Yd Yf kx.2],Ye (Ya ⟨b,0,Yb⟩),Ye (Ya ⟨Y,0,Yb⟩)] w (Zil w K (Zaq l kx p a i).1 (Zaq l kx p a i).2.1 (Zaq l kx p a i).2.2):=by
 have ca:=fun(f:Yh) (h:Below w.heap.size w f)=>Zer f K l kx.1 kx.2 i (V.below h);have W:((atL l i).1 != 0)=true:=by simpa using hz
 rw[W]at ca;have ta:=fun(f:Yh) (h:Below w.heap.size w f)=>Zbv f K l kx.1 kx.2 i (V.below h);have ts:=fun(f:Yh) (h:Below w.heap.size w f)=>ZcN f vp p a (Zv (atL l i)) (hp.below h) D C (ZbF hq).wide;have J:=ZaP (l:=p) (kx:=a) (kb:=Zv (atL l i)) D C (ZbF hq).wide;have td:=fun(f:Yh) (h:Below w.heap.size w f) (v':Yi) (h':Za f v' (Zh p a (Zv (atL l i))).1)=>ZiL f K v' l (Zh p a (Zv (atL l i))).1 kx (Zh p a (Zv (atL l i))).2.1 (V.below h) h' hl J.1 hx J.2;have hT:Zaq l kx p a i=if(Zh p a (Zv (atL l i))).2.2=0 then ZaO l (Zh p a (Zv (atL l i))).1 kx (Zh p a (Zv (atL l i))).2.1 else([],(0,0),(Zh p a (Zv (atL l i))).2.2):=Yn hz;generalize Zaq l kx p a i=Z at *;have wn:IntKind.i64.wrap (-(atL l i).1)=-(atL l i).1:=IntWalk.i64_in _ (by have:=hq.wide;obtain⟨d,_,v⟩:=hq;have:=v.n_le;omega);unfold Zv at *;clear hz W hq J;generalize Zh p a (-(atL l i).1,(atL l i).2)=P at *;generalize ZaO l P.1 kx P.2.1=U at *;generalize atL l i=x at *;obtain⟨L,⟨p1,p2⟩,er⟩:=P;obtain⟨M,⟨u1,u2⟩,eu⟩:=U;obtain⟨x1,x2⟩:=x;obtain⟨xn,xd⟩:=kx;obtain⟨yn,yd⟩:=a;dsimp only at *;obtain⟨A,c,rfl⟩:=Zc V;obtain⟨B,d,rfl⟩:=Zc hp;generalize l.length=n at *;generalize p.length=m at *;have CA:=Lib.hid ca;have TA:=Lib.hid ta;have TS:=Lib.hid ts;have TD:=Lib.hid td;have X:=Lib.hid hT;have o:=Lib.hid (fun(f:Yh) (h:Below w.heap.size w f)=>And.intro ((h.cell (World.block_lt_of_cell? _ _ hi)).trans hi) (And.intro ((h.cell (World.block_lt_of_cell? _ _ r)).trans r) (And.intro ((h.cell (World.block_lt_of_cell? _ _ s)).trans s) ((h.cell (World.block_lt_of_cell? _ _ t)).trans t))));clear hT ca ta ts td V hl hx hi hp D C r s t;have k:=below_alloc2 w (Yg #[Yc A n c,Yd Yf xn,Yd Yf xd] 37) (Yg #[Yc Yb 0 0,Yd Yf 0,Yd Yf 0] 37);obtain⟨F,E⟩:=Zfv w (Yc A n c) (Yd Yf xn) (Yd Yf xd) (Yc Yb 0 0) (Yd Yf 0) (Yd Yf 0) 37;have d0:=(o.out _ k).1;go_enter Tryz.func146,Tryz.ntmps146;go_upto_region 3 with(go_at_call 107;go_fit (CA.out _ k);rintro e5 w1 ⟨rfl,e⟩;have F:=F.keep e;have E:=E.keep e;have N:=k.trans (e.mono k.size);have k0:=F.k0;have k1:=F.k1;have k2:=F.k2;have d0:=(o.out _ N).1;clear e)
 go_upto_region 4 with(go_at_call 66;go_fit (TA.out _ N);rintro e5 w2 ⟨rfl,e⟩;have F:=F.keep e;have E:=E.keep e;have b2:=N.trans (e.mono N.size);clear e)
 have a2:=below_alloc1 w2 (Yg #[Yd Yf x1,Yd Yf x2] 23);have Q:=RatAt.start w2 x1 x2 23;have F:=F.keep a2;have E:=E.keep a2;have O:=b2.trans (a2.mono b2.size);have q0:=Q.k0;have q1:=Q.k1;obtain⟨_,o0,o1,o2⟩:=o.out _ O;clear a2 b2 N k Q k0 k1 k2 d0;generalize w2.alloc (Yg #[Yd Yf x1,Yd Yf x2] 23)=w3 at *;go_upto_region 5 with(go_at_call 29;go_fit (TS.out _ O);rintro e5 w4 ⟨v4,rfl,H,e,_⟩;obtain⟨A4,c4,rfl⟩:=Zc H;have HV:=Lib.hid H;clear H;have F:=F.keep e;have E:=E.keep e;have b4:=O.trans (e.mono O.size);clear e)
 have a4:=below_alloc1 w4 (Yg #[Yc A4 L.length c4,Yd Yf p1,Yd Yf p2] 37);have G:=FracBox.start w4 (Yc A4 L.length c4) (Yd Yf p1) (Yd Yf p2) 37;have F:=F.keep a4;have E:=E.keep a4;have HV:=Lib.hid (HV.out.below a4);have R:=b4.trans (a4.mono b4.size);have k0:=F.k0;have k1:=F.k1;have k2:=F.k2;have j0:=G.k0;have j1:=G.k1;have j2:=G.k2;clear a4 b4 O q0 q1 o0 o1 o2 wn G;generalize w4.alloc (Yg #[Yc A4 L.length c4,Yd Yf p1,Yd Yf p2] 37)=w5 at *;by_cases g:er=0
 ·have g':(er != 0)=false:=by simpa using g
  have T0:=TD.out _ R _ HV.out;have T:=X.out;rw[Yo g]at T;subst T;clear g X;have TT:=Lib.hid T0;clear T0;go_wp2_with (go_at_call 114;go_fit TT.out;rintro e6 w6 ⟨v6,rfl,I,e,S⟩;obtain⟨A6,c6,rfl⟩:=Zc I;have j:=Lib.hid (And.intro I S);clear I S;have u:=E.lt;have E:=E.keep e;have b6:=R.trans (e.mono R.size);obtain⟨e0,e1,e2,g0,g1,g2,_⟩:=id E);obtain⟨c0,c1,c2⟩:=Zag (x:=Yc A6 M.length c6) (y:=Yd Yf u1) (z:=Yd Yf u2) e0 e1 e2;refine bodyPost_ret (v:=.tuple #[.agg #[Yc A6 M.length c6,Yd Yf u1,Yd Yf u2],Yd Yf eu]) (by simp[results,Tryz.results146,go_sem,c0,c1,c2]) rfl ⟨_,rfl,?_,?_,.inr (j.out.2.mono R.size)⟩
  ·exact((j.out.1.setCell j.out.2 u _).setCell j.out.2 u _).setCell j.out.2 u _
  ·exact((b6.setCell (by show w.heap.size<=w.heap.size+1;omega) _).setCell (by show w.heap.size<=w.heap.size+1;omega) _).setCell (by show w.heap.size<=w.heap.size+1;omega) _
 ·have T:=X.out;rw[Yn g]at T;subst T;clear X;have g':(er != 0)=true:=by simpa using g
  obtain⟨e0,e1,e2,g0,g1,g2,_⟩:=id E;clear g;go_wp2_with fail;obtain⟨c0,c1,c2⟩:=Zag (x:=Yc Yb 0 0) (y:=Yd Yf 0) (z:=Yd Yf 0) e0 e1 e2;refine bodyPost_ret (v:=.tuple #[.agg #[Yc Yb 0 0,Yd Yf 0,Yd Yf 0],Yd Yf er]) (by simp[results,Tryz.results146,go_sem,c0,c1,c2]) rfl ⟨_,rfl,Za.nil _,?_,.inr (Zp.none_ _ _ _)⟩;exact((R.setCell (by show w.heap.size<=w.heap.size+1;omega) _).setCell (by show w.heap.size<=w.heap.size+1;omega) _).setCell (by show w.heap.size<=w.heap.size+1;omega) _
end
section
open Go.RowKit
def q (x:Int×Int):Rat:=(x.1:Rat) / (x.2:Rat)
theorem OkR.ne {x:Int×Int} (h:OkR x):(x.2:Rat)≠0:=by
 have:=h.den
 exact_mod_cast (by omega:x.2≠0)
theorem OkR.inj {x y:Int×Int} (c:OkR x) (d:OkR y) (h:q x=q y):x=y:=by
 unfold q at h;have a:=c.ne;have b:=d.ne;have:(x.1:Rat)*y.2=y.1*x.2:=by grind
 exact c.ext d (by exact_mod_cast this)
theorem Zse {x y z:Int×Int} (d:OkR x) (e:OkR y) (f:OkR z) (h:z.1*(x.2*y.2)=(x.1*y.2+y.1*x.2)*z.2):q z=q x+q y:=by
 unfold q;have a:=d.ne;have b:=e.ne;have c:=f.ne;have:(z.1:Rat)*(x.2*y.2)=(x.1*y.2+y.1*x.2)*z.2:=by exact_mod_cast h
 grind
theorem Zsf {x y z:Int×Int} (d:OkR x) (e:OkR y) (f:OkR z) (h:z.1*(x.2*y.2)=x.1*y.1*z.2):q z=q x*q y:=by
 unfold q;have a:=d.ne;have b:=e.ne;have c:=f.ne;have:(z.1:Rat)*(x.2*y.2)=x.1*y.1*z.2:=by exact_mod_cast h
 grind
theorem Zoz {x y:Int×Int} (c:OkR x) (d:OkR y) (h:(Zl x y).2=0):OkR (Zl x y).1/\q (Zl x y).1=q x+q y:=by obtain⟨a,b⟩:=Zjo c d h;exact⟨a,Zse c d a b⟩
theorem Zlz {x y:Int×Int} (c:OkR x) (d:OkR y) (h:(ZP x y).2=0):OkR (ZP x y).1/\q (ZP x y).1=q x*q y:=by obtain⟨a,b⟩:=ZhK c d h;exact⟨a,Zsf c d a b⟩
def ZaK (l m:List (Int×Int)) (kx:Int×Int):Nat->Option (Int×Int)
 |0=>Ya kx
 |k+1=>(ZaK l m kx k).bind fun s=>if(ZP (atL l k) (atL m k)).2=0/\(Zl s (ZP (atL l k) (atL m k)).1).2=0 then Ya (Zl s (ZP (atL l k) (atL m k)).1).1 else Yb
theorem Zda {l m:List (Int×Int)} {kx:Int×Int} (c:ZC l) (hm:ZC m) (d:OkR kx):∀(k:Nat) (s:Int×Int),ZaK l m kx k=Ya s->OkR s
 |0,s,h=>by
  obtain rfl:kx=s:=by simpa[ZaK]using h
  exact d
 |k+1,s,h=>by
  rw[ZaK,Option.bind_eq_some_iff]at h;obtain⟨a,e,b⟩:=h
  split at b
  ·rename_i g
   obtain rfl:_=s:=Option.some.inj b;exact Zbi.ok _ _ (Zda c hm d k a e) (Zb6.ok _ _ (c.at k) (hm.at k) g.1) g.2
  ·cases b
theorem Zkv {l m:List (Int×Int)} {kx:Int×Int} (a:ZC l) (hm:ZC m) (b:OkR kx):∀d:Nat,ZaK l m kx (min l.length m.length+d)=ZaK l m kx (min l.length m.length)
 |0=>rfl
 |d+1=>by
  rw[<-Nat.add_assoc,ZaK,Zkv a hm b d];cases e:ZaK l m kx (min l.length m.length)with
  |none=>rfl
  |some s=>
   have f:=Zda a hm b _ _ e;have c:ZP (atL l ((min l.length m.length+d:Nat):Int)) (atL m ((min l.length m.length+d:Nat):Int))=((0,1),0):=by
    rcases Nat.le_total l.length m.length with g|g
    ·rw[Zbr (l:=l) (.inr (by omega))];exact Zly (hm.at _)
    ·rw[Zbr (l:=m) (.inr (by omega))];exact ZhL (a.at _) Zak Zak (by show 0*(_*1)=_*0*1;grind)
   show(if _ then _ else _)=_;rw[c,Zde f];rfl
theorem Zrs {l m:List (Int×Int)} {kx:Int×Int} (a:ZC l) (hm:ZC m) (b:OkR kx) (k:Nat) (h:min l.length m.length<=k):ZaK l m kx k=ZaK l m kx (min l.length m.length):=by have:=Zkv a hm b (k-min l.length m.length);rwa[show min l.length m.length+(k-min l.length m.length)=k by omega]at this
def Zaa (l m:List (Int×Int)) (kx:Int×Int):(Int×Int)×Int:=
 if ZM l kx.1 kx.2=true/\Za6 (m.take 8)=true then
  match ZaK l m kx (min l.length m.length)with
  |some s=>(s,0)
  |none=>((0,0),3)
 else((0,0),2)
theorem Zk8 {m:List (Int×Int)} {n:Nat} {k:Nat} (h:k<n):atL (m.take n) k=atL m k:=by unfold atL;rw[Yo (by omega),Yo (by omega),Int.toNat_natCast,List.getElem?_take,Yo h]
theorem Zht (l m:List (Int×Int)) (kx:Int×Int):∀k:Nat,k<=8->ZaK l (m.take 8) kx k=ZaK l m kx k
 |0,_=>rfl
 |k+1,h=>by rw[ZaK,ZaK,Zht l m kx k (by omega),Zk8 (by omega)]
theorem ZeP {l m:List (Int×Int)} {kx:Int×Int} (f:Zz l) (d:Bd kx) (hm:Zz m) (h:(Zaa l m kx).2=0) :
  ZC l/\OkR kx/\ZC (m.take 8)/\l.length<=8/\ZaK l (m.take 8) kx 8=Ya (Zaa l m kx).1:=by
 by_cases g:ZM l kx.1 kx.2=true/\Za6 (m.take 8)=true
 ·obtain⟨p,a,b⟩:=Zaj g.1 f d.1.1 d.1.2 d.2.1 d.2.2;have c:ZC (m.take 8):=Zf9 g.2 fun x d=>hm x (List.mem_of_mem_take d);refine⟨a,b,c,p,?_⟩;have e:min l.length (m.take 8).length=min l.length m.length:=by rw[List.length_take];omega
  rw[Zrs a c b 8 (by omega),e,Zht l m kx _ (by omega)];unfold Zaa at h⊢;rw[Yo g]at h⊢;cases q:ZaK l m kx (min l.length m.length)with
  |none=>rw[q]at h;cases h
  |some s=>rfl
 ·unfold Zaa at h;rw[Yn g]at h;cases h
end
section
open Go.RowKit
theorem Zkg (op:Int) (w:Yh) (P Q:Yi) (l m:List (Int×Int)) (k j p o:Int) (C:Za w P l) (D:Za w Q m) (L:Zz l) (i:Zz m) (R:-9223372036854775808<=k) (S:k<=9223372036854775807) (T:-9223372036854775808<=j) (U:j<=9223372036854775807)
  (y1:-9223372036854775808<=p) (V:p<=9223372036854775807) (W:-9223372036854775808<=o) (X:o<=9223372036854775807) (g:ZM l k j=false\/(ZM l k j=true/\ZM m p o=false)) :
  Calls Tryz.prog 33 #[Yd Yf op,.agg #[P,Yd Yf k,Yd Yf j],.agg #[Q,Yd Yf p,Yd Yf o]] w (ZaQ w [] (0,0) 2):=by
 have n:=fun(u:Yh) (h:Below w.heap.size w u)=>ZaN u P l k j (C.below h) L R S T U;have H:=fun(u:Yh) (h:Below w.heap.size w u)=>ZaN u Q m p o (D.below h) i y1 V W X;obtain⟨A,c,rfl⟩:=Zc C;obtain⟨B,d,rfl⟩:=Zc D;obtain⟨F,G,E,a⟩:=ZaD w (Yc A l.length c) (Yd Yf k) (Yd Yf j) (Yc B m.length d) (Yd Yf p) (Yd Yf o) (Yc Yb 0 0) (Yd Yf 0) (Yd Yf 0) 37;rcases g with g|⟨g,t⟩
 ·rw[g]at n;have RA:=Lib.hid n;clear n H C D L i R S T U y1 V W X g;generalize l.length=ll at *;generalize m.length=lm at *;go_enter Tryz.func33,Tryz.ntmps33;go_wp2_with (go_at_call 51;go_fit (RA.out _ a);rintro e Y ⟨rfl,f⟩;have E:=E.keep f;have r:=Lib.hid (a.trans (f.mono a.size));have I:=E.k0;have J:=E.k1;have K:=E.k2;have l0:=E.l0;have l1:=E.l1;have l2:=E.l2);obtain⟨c0,c1,c2⟩:=Zag (x:=Yc Yb 0 0) (y:=Yd Yf 0) (z:=Yd Yf 0) I J K;obtain⟨M,N,O⟩:=Zcg (w:=w) (b:=w.heap.size+1+1) (kn:=0) (kd:=0) (Za.nil Y) r.out (Zp.none_ _ _ _) (by omega) rfl;exact bodyPost_ret (v:=.tuple #[.agg #[Yc Yb 0 0,Yd Yf 0,Yd Yf 0],Yd Yf 2]) (by simp[results,Tryz.results33,go_sem,c0,c1,c2]) rfl ⟨_,rfl,M,N,O⟩
 ·rw[g]at n;rw[t]at H;have RA:=Lib.hid n;have Z:=Lib.hid H;clear n H C D L i R S T U y1 V W X g t;generalize l.length=ll at *;generalize m.length=lm at *;go_enter Tryz.func33,Tryz.ntmps33
  go_wp2_with (go_at_call 51;(first
    |go_fit (RA.out _ a);rintro e Y ⟨rfl,f⟩;have G:=G.keep f;have E:=E.keep f;have r:=a.trans (f.mono a.size);have m0:=G.k0;have m1:=G.k1;have m2:=G.k2
    |go_fit (Z.out _ r);rintro e w2 ⟨rfl,s⟩;have E:=E.keep s;have b2:=Lib.hid (r.trans (s.mono r.size));have I:=E.k0;have J:=E.k1;have K:=E.k2;have l0:=E.l0;have l1:=E.l1;have l2:=E.l2))
  obtain⟨c0,c1,c2⟩:=Zag (x:=Yc Yb 0 0) (y:=Yd Yf 0) (z:=Yd Yf 0) I J K;obtain⟨M,N,O⟩:=Zcg (w:=w) (b:=w.heap.size+1+1) (kn:=0) (kd:=0) (Za.nil w2) b2.out (Zp.none_ _ _ _) (by omega) rfl;exact bodyPost_ret (v:=.tuple #[.agg #[Yc Yb 0 0,Yd Yf 0,Yd Yf 0],Yd Yf 2]) (by simp[results,Tryz.results33,go_sem,c0,c1,c2]) rfl ⟨_,rfl,M,N,O⟩
theorem Zmf {a b:Bool} (g:¬(a=true/\b=true)):a=false\/(a=true/\b=false):=by
 cases a
 ·exact .inl rfl
 ·cases b
  ·exact .inr ⟨rfl,rfl⟩
  ·exact absurd ⟨rfl,rfl⟩ g
theorem ZmJ (kn kd:Int):ZM [] kn kd=Zaf kn kd:=by unfold ZM Za6;simp
theorem Zh5 (w:Yh) (j k:Yi) (l m:List (Int×Int)) (kx f:Int×Int) (n:Za w j l) (o:Za w k m) (r:Zz l) (hm:Zz m) (h:Bd kx) (i:Bd f) :
  Calls Tryz.prog 33 #[Yd Yf 0,.agg #[j,Yd Yf kx.1,Yd Yf kx.2],.agg #[k,Yd Yf f.1,Yd Yf f.2]] w (ZaQ w (ZaO l m kx f).1 (ZaO l m kx f).2.1 (ZaO l m kx f).2.2):=by
 unfold ZaO
 split
 ·rename_i g
  obtain⟨p,a,b⟩:=Zaj g.1 r h.1.1 h.1.2 h.2.1 h.2.2;obtain⟨q,c,d⟩:=Zaj g.2 hm i.1.1 i.1.2 i.2.1 i.2.2;unfold Za1
  split
  ·rename_i e
   exact ZnZ w j k l m kx f n o a c b d p q e.1 e.2
  ·rename_i e
   exact ZnY w j k l m kx f n o a c b d p q e
 ·rename_i g
  exact Zkg 0 w j k l m kx.1 kx.2 f.1 f.2 n o r hm h.1.1 h.1.2 h.2.1 h.2.2 i.1.1 i.1.2 i.2.1 i.2.2 (Zmf g)
theorem Zdk (w:Yh) (h:Yi) (l:List (Int×Int)) (kx kb:Int×Int) (i:Za w h l) (j:Zz l) (d:Bd kx) (f:Bd kb) :
  Calls Tryz.prog 33 #[Yd Yf 2,.agg #[h,Yd Yf kx.1,Yd Yf kx.2],.agg #[Yc Yb 0 0,Yd Yf kb.1,Yd Yf kb.2]] w (ZaQ w (Zh l kx kb).1 (Zh l kx kb).2.1 (Zh l kx kb).2.2):=by
 unfold Zh
 split
 ·rename_i g
  obtain⟨p,a,b⟩:=Zaj g.1 j d.1.1 d.1.2 d.2.1 d.2.2;have c:=ZfX g.2 f;unfold Za1;have k:max l.length ([]:List (Int×Int)).length=l.length:=by simp
  rw[k]
  split
  ·rename_i e
   exact ZlN w h l kx kb i a b c p e.1 e.2
  ·rename_i e
   exact ZlM w h l kx kb i a b c p e
 ·rename_i g
  rw[<-ZmJ]at g;exact Zkg 2 w h (Yc Yb 0 0) l [] kx.1 kx.2 kb.1 kb.2 i (Za.nil w) j (fun x d=>by cases d) d.1.1 d.1.2 d.2.1 d.2.2 f.1.1 f.1.2 f.2.1 f.2.2 (Zmf g)
end
section
open Go.RowKit
theorem Zc6 {l m:List (Int×Int)} {kx:Int×Int} {k:Nat} (h:ZaK l m kx k=Yb):∀n:Nat,k<=n->ZaK l m kx n=Yb
 |0,hn=>by
  obtain rfl:k=0:=by omega
  exact h
 |n+1,hn=>by
  rcases Nat.lt_or_ge n k with g|g
  ·obtain rfl:k=n+1:=by omega
   exact h
  ·rw[ZaK,Zc6 h n g];rfl
theorem ZiK {l m:List (Int×Int)} {kx:Int×Int} (c:ZC l) (hm:Za6 (m.take 8)=true) (d:Zz m) (a:OkR kx) (k:Nat) (s:Int×Int) (b:k<=8) (h:ZaK l m kx k=Ya s):OkR s:=by rw[<-Zht l m kx k b]at h;exact Zda c (Zf9 hm fun x a=>d x (List.mem_of_mem_take a)) a k s h
theorem Zhr {l m:List (Int×Int)} {kx s:Int×Int} {k:Nat} (h:ZaK l m kx k=Ya s) (a:(ZP (atL l k) (atL m k)).2=0) (b:(Zl s (ZP (atL l k) (atL m k)).1).2=0):ZaK l m kx (k+1)=Ya (Zl s (ZP (atL l k) (atL m k)).1).1:=by rw[ZaK,h];show(if _ then _ else _)=_;rw[Yo ⟨a,b⟩]
theorem Zhs {l m:List (Int×Int)} {kx s:Int×Int} {k:Nat} (h:ZaK l m kx k=Ya s) (e:¬((ZP (atL l k) (atL m k)).2=0/\(Zl s (ZP (atL l k) (atL m k)).1).2=0)):ZaK l m kx (k+1)=Yb:=by rw[ZaK,h];show(if _ then _ else _)=_;rw[Yn e]
structure BoxV (w wr:Yh) (s:Yi) (xn xd:Int):Prop where
 F:FracBox wr w.heap.size s (Yd Yf xn) (Yd Yf xd)
 E:RatAt wr (w.heap.size+1) 0 0
 e0:wr.frozen? ⟨w.heap.size+1,0,Yb⟩=false
 e1:wr.frozen? ⟨w.heap.size+1,1,Yb⟩=false
 below:Below w.heap.size w wr
theorem BoxV.keep {w wr b:Yh} {s:Yi} {d c:Int} (h:BoxV w wr s d c) (a:Below wr.heap.size wr b):BoxV w b s d c:=
 ⟨h.F.keep a,h.E.keep a,Zo a h.E.lt h.e0,Zo a h.E.lt h.e1,h.below.trans (a.mono h.below.size)⟩
structure ValS (w wr:Yh) (b:Nat) (s:Yi) (xn xd:Int) (sn sd:Int):Prop where
 F:FracBox wr w.heap.size s (Yd Yf xn) (Yd Yf xd)
 E:RatAt wr (w.heap.size+1) 0 0
 e0:wr.frozen? ⟨w.heap.size+1,0,Yb⟩=false
 e1:wr.frozen? ⟨w.heap.size+1,1,Yb⟩=false
 S:RatAt wr b sn sd
 s0:wr.frozen? ⟨b,0,Yb⟩=false
 s1:wr.frozen? ⟨b,1,Yb⟩=false
 lt:w.heap.size+1<b
 below:Below w.heap.size w wr
section
variable {w wr w2:Yh} {b:Nat} {s:Yi} {xn xd sn sd:Int}
theorem ValS.keep (h:ValS w wr b s xn xd sn sd) (a:Below wr.heap.size wr w2):ValS w w2 b s xn xd sn sd:=
 ⟨h.F.keep a,h.E.keep a,Zo a h.E.lt h.e0,Zo a h.E.lt h.e1,h.S.keep a,Zo a h.S.lt h.s0,Zo a h.S.lt h.s1,h.lt,h.below.trans (a.mono h.below.size)⟩
theorem ValS.store (h:ValS w wr b s xn xd sn sd) (p q:Int):ValS w ((wr.setCell ⟨b,0,Yb⟩ (Yd Yf p)).setCell ⟨b,1,Yb⟩ (Yd Yf q)) b s xn xd p q:=by have c:=h.lt;have a:Below b wr ((wr.setCell ⟨b,0,Yb⟩ (Yd Yf p)).setCell ⟨b,1,Yb⟩ (Yd Yf q)):=((Below.refl b wr).setCell (p:=⟨b,0,Yb⟩) (Nat.le_refl b) _).setCell (p:=⟨b,1,Yb⟩) (Nat.le_refl b) _;obtain⟨c0,c1⟩:=ZaF (x:=Yd Yf p) (y:=Yd Yf q) h.S.k0 h.S.k1;exact⟨h.F.keepB a (by omega),h.E.keepB a (by omega),(a.frozen (p:=⟨w.heap.size+1,0,Yb⟩) c).trans h.e0,(a.frozen (p:=⟨w.heap.size+1,1,Yb⟩) c).trans h.e1,⟨c0,c1,by rw[World.size_setCell,World.size_setCell];exact h.S.lt⟩,by rw[World.frozen?_setCell,World.frozen?_setCell];exact h.s0,by rw[World.frozen?_setCell,World.frozen?_setCell];exact h.s1,c,h.below.trans (a.mono (by omega))⟩
theorem ZeQ {A:Prop} (h:A/\ValS w wr b s xn xd sn sd):ValS w wr b s xn xd sn sd:=h.2
theorem ZaS {p g o f:Addr} {i j y1 l:Yi} {A:Prop} (e:Below wr.heap.size wr w2)
  (h:(A/\(wr.cell? p=Ya i/\wr.cell? g=Ya j)/\(wr.cell? o=Ya y1/\wr.cell? f=Ya l))/\ValS w wr b s xn xd sn sd) :
  (w2.cell? ⟨w.heap.size,0,Yb⟩=Ya s/\(w2.cell? p=Ya i/\w2.cell? g=Ya j)/\(w2.cell? o=Ya y1/\w2.cell? f=Ya l))/\ValS w w2 b s xn xd sn sd:=by
 obtain⟨⟨_,⟨a,b⟩,⟨c,d⟩⟩,H⟩:=h;have k:∀{p:Addr} {u:Yi},wr.cell? p=Ya u->w2.cell? p=Ya u:=fun hc=>(e.cell (World.block_lt_of_cell? _ _ hc)).trans hc;exact⟨⟨(H.keep e).F.k0,⟨k a,k b⟩,⟨k c,k d⟩⟩,H.keep e⟩
end
def ZgY (w:Yh) (b:Nat) (s:Yi) (i h f d p q e:Int) (g v9:Yi) (a:Yh):Prop:=
 ∃c,g=Ye (Ya ⟨c,0,Yb⟩)/\v9=Yd Yf e/\RatAt a c p q/\ValS w a b s i h f d
theorem ZhC {w f wr:Yh} {b c:Nat} {s:Yi} {i g d a p q e:Int} (h:ValS w f b s i g d a) (hc:HoleC f wr c) :
  ZgY w b s i g d a p q e (Ye (Ya ⟨c,0,Yb⟩)) (Yd Yf e) ((wr.setCell ⟨c,0,Yb⟩ (Yd Yf p)).setCell ⟨c,1,Yb⟩ (Yd Yf q)):=
 ⟨_,rfl,rfl,(hc.fill p q).2,h.keep (hc.fill p q).1⟩
theorem ZgI {w a:Yh} {b:Nat} {s:Yi} {g f d c p q e:Int} (h:ValS w a b s g f d c) (ty:TypeId) :
  ZgY w b s g f d c p q e (Ye (Ya ⟨a.heap.size,0,Yb⟩)) (Yd Yf e) (a.alloc (Yg #[Yd Yf p,Yd Yf q] ty)):=
 ⟨_,rfl,rfl,RatAt.start a p q ty,h.keep (below_alloc1 _ _)⟩
theorem Zea {w a:Yh} {b:Nat} {s:Yi} {f e d c:Int} {A:Prop} {ty:TypeId} (_:A/\ValS w (a.alloc (Yg #[Yd Yf 0,Yd Yf 0] ty)) b s f e d c):HoleC a (a.alloc (Yg #[Yd Yf 0,Yd Yf 0] ty)) a.heap.size:=HoleC.start a ty
theorem Zdy {w a:Yh} {b:Nat} {s:Yi} {f e d c:Int} {A:Prop} {ty:TypeId} (_:A/\ValS w (a.alloc (Yg #[Yd Yf 0,Yd Yf 0] ty)).drew b s f e d c):HoleC a.drew (a.alloc (Yg #[Yd Yf 0,Yd Yf 0] ty)).drew a.heap.size:=HoleC.start a.drew ty
theorem Zc7 (w:Yh) (x y z:Yi) (ty a:TypeId):FracBox ((w.alloc (Yg #[x,y,z] ty)).alloc (Yg #[Yd Yf 0,Yd Yf 0] a)) w.heap.size x y z/\RatAt ((w.alloc (Yg #[x,y,z] ty)).alloc (Yg #[Yd Yf 0,Yd Yf 0] a)) (w.heap.size+1) 0 0 ∧
  (((w.alloc (Yg #[x,y,z] ty)).alloc (Yg #[Yd Yf 0,Yd Yf 0] a)).frozen? ⟨w.heap.size+1,0,Yb⟩=false/\((w.alloc (Yg #[x,y,z] ty)).alloc (Yg #[Yd Yf 0,Yd Yf 0] a)).frozen? ⟨w.heap.size+1,1,Yb⟩=false) ∧
  Below w.heap.size w ((w.alloc (Yg #[x,y,z] ty)).alloc (Yg #[Yd Yf 0,Yd Yf 0] a)):=by
 have h:=RatAt.start (w.alloc (Yg #[x,y,z] ty)) 0 0 a;rw[World.size_alloc]at h;exact⟨(FracBox.start w x y z ty).keep (below_alloc1 _ _),h,⟨by go_simp,by go_simp⟩,below_alloc2 _ _ _⟩
theorem Zl7 (m:List (Int×Int)):m.take (min m.length 8)=m.take 8:=by
 rcases Nat.le_total m.length 8 with h|h
 ·rw[Nat.min_eq_left h,List.take_of_length_le (Nat.le_refl _),List.take_of_length_le h]
 ·rw[Nat.min_eq_right h]
theorem Zf3 {l m:List (Int×Int)} {kx:Int×Int} (h:¬(ZM l kx.1 kx.2=true/\Za6 (m.take 8)=true)):Zaa l m kx=((0,0),2):=Yn h
theorem Zmb {l m:List (Int×Int)} {kx s:Int×Int} (h:ZM l kx.1 kx.2=true/\Za6 (m.take 8)=true) (e:ZaK l m kx (min l.length m.length)=Ya s):Zaa l m kx=(s,0):=by unfold Zaa;rw[Yo h,e]
theorem ZkD {l m:List (Int×Int)} {kx:Int×Int} (h:ZM l kx.1 kx.2=true/\Za6 (m.take 8)=true) (e:ZaK l m kx (min l.length m.length)=Yb):Zaa l m kx=((0,0),3):=by unfold Zaa;rw[Yo h,e]
theorem ZgC {m:List (Int×Int)} (h:Za6 (m.take 8)=true) (hm:Zz m) {k:Nat} (a:k<8):OkR (atL m k):=by rw[<-Zk8 a];exact(Zf9 h fun x b=>hm x (List.mem_of_mem_take b)).at k
end
end Go.Proofs.YtbfnnolakggbfaaGreatDoor
