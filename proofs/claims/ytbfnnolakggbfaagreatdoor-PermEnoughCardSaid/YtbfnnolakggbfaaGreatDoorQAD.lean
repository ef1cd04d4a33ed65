import Derived.Deep.DeepFit
import Derived.Test.YtbfnnolakggbfaaGreatDoorQAC
set_option maxRecDepth 100000
set_option maxHeartbeats 8000000
open Option renaming some → Ya, none → Yb
open Go.Value renaming int → Yd
open Go renaming World → Yh, Value → Yi
open Go.RowKit
namespace Go.Proofs.YtbfnnolakggbfaaGreatDoor
theorem Zd6 (d:Nat) (w:Yh) (h:d<=9223372036854775807) :
  Calls Tryz.prog 56 #[Yd .i64 d] w fun e w'=>e=.returned (.int .u64 d)/\w=w':=
 (Zd5 d w (by omega) (by omega)).mono fun _ _ ⟨he,a⟩=>⟨by rw[he,Int.natAbs_natCast],a⟩
theorem Zd {a c:Yh} (d:Below a.heap.size a c) {b o:Nat} (h:b<a.heap.size) {v:Yi} (hc:a.cell? ⟨b,o,Yb⟩=Ya v):c.cell? ⟨b,o,Yb⟩=Ya v:=(d.cell (p:=⟨b,o,Yb⟩) h).trans hc
theorem Zo {a c:Yh} (d:Below a.heap.size a c) {b o:Nat} (h:b<a.heap.size) {v:Bool} (hc:a.frozen? ⟨b,o,Yb⟩=v):c.frozen? ⟨b,o,Yb⟩=v:=(d.frozen (p:=⟨b,o,Yb⟩) h).trans hc
def Zf (w:Yh) (a:Addr):Yi:=(w.cell? a).getD undef
theorem ZH {w:Yh} {a:Addr} {v:Yi} (h:w.cell? a=Ya v):w.cell? a=Ya (Zf w a):=by unfold Zf;rw[h];rfl
theorem Zao {a:Yh} {p q:Addr} {x v:Yi} (h:a.cell? q=Ya v):(a.setCell p x).cell? q=Ya (Zf (a.setCell p x) q):=by obtain⟨c,b⟩:=cell?_setCell_some (p:=p) (x:=x) h;exact ZH b
theorem Zqf {w i j:Yh} {n d m e:Yi} (l:Below i.heap.size i j)
  (h:(i.cell? ⟨w.heap.size,0,Yb⟩=Ya n/\i.cell? ⟨w.heap.size,1,Yb⟩=Ya d/\i.cell? ⟨w.heap.size+1,0,Yb⟩=Ya m/\i.cell? ⟨w.heap.size+1,1,Yb⟩=Ya e)/\w.heap.size+2<i.heap.size/\Below w.heap.size w i/\(i.cell? ⟨w.heap.size+1+1,0,Yb⟩=Ya (Zf i ⟨w.heap.size+1+1,0,Yb⟩)/\i.cell? ⟨w.heap.size+1+1,1,Yb⟩=Ya (Zf i ⟨w.heap.size+1+1,1,Yb⟩)/\i.cell? ⟨w.heap.size+1+1,2,Yb⟩=Ya (Zf i ⟨w.heap.size+1+1,2,Yb⟩))/\(i.frozen? ⟨w.heap.size+1+1,0,Yb⟩=false/\i.frozen? ⟨w.heap.size+1+1,1,Yb⟩=false/\i.frozen? ⟨w.heap.size+1+1,2,Yb⟩=false)) :
  (j.cell? ⟨w.heap.size,0,Yb⟩=Ya n/\j.cell? ⟨w.heap.size,1,Yb⟩=Ya d/\j.cell? ⟨w.heap.size+1,0,Yb⟩=Ya m/\j.cell? ⟨w.heap.size+1,1,Yb⟩=Ya e)/\w.heap.size+2<j.heap.size/\Below w.heap.size w j/\(j.cell? ⟨w.heap.size+1+1,0,Yb⟩=Ya (Zf j ⟨w.heap.size+1+1,0,Yb⟩)/\j.cell? ⟨w.heap.size+1+1,1,Yb⟩=Ya (Zf j ⟨w.heap.size+1+1,1,Yb⟩)/\j.cell? ⟨w.heap.size+1+1,2,Yb⟩=Ya (Zf j ⟨w.heap.size+1+1,2,Yb⟩))/\(j.frozen? ⟨w.heap.size+1+1,0,Yb⟩=false/\j.frozen? ⟨w.heap.size+1+1,1,Yb⟩=false/\j.frozen? ⟨w.heap.size+1+1,2,Yb⟩=false):=by
 obtain⟨⟨a,b,c,f⟩,g,k,⟨i0,i1,i2⟩,j0,j1,j2⟩:=h;have s:=l.size;have q:∀o,j.cell? ⟨w.heap.size+1+1,o,Yb⟩=i.cell? ⟨w.heap.size+1+1,o,Yb⟩:=fun o=>l.cell (p:=⟨w.heap.size+1+1,o,Yb⟩) (by simp;omega);have r:∀o,j.frozen? ⟨w.heap.size+1+1,o,Yb⟩=i.frozen? ⟨w.heap.size+1+1,o,Yb⟩:=fun o=>l.frozen (p:=⟨w.heap.size+1+1,o,Yb⟩) (by simp;omega);exact⟨⟨Zd l (by omega) a,Zd l (by omega) b,Zd l (by omega) c,Zd l (by omega) f⟩,by omega,k.trans (l.mono (by omega)),⟨ZH ((q _).trans i0),ZH ((q _).trans i1),ZH ((q _).trans i2)⟩,by rw[r];exact j0,by rw[r];exact j1,by rw[r];exact j2⟩
theorem Ziu {w i:Yh} {n d m e:Yi} {o:Nat} {x:Yi}
  (h:(i.cell? ⟨w.heap.size,0,Yb⟩=Ya n/\i.cell? ⟨w.heap.size,1,Yb⟩=Ya d/\i.cell? ⟨w.heap.size+1,0,Yb⟩=Ya m/\i.cell? ⟨w.heap.size+1,1,Yb⟩=Ya e)/\w.heap.size+2<i.heap.size/\Below w.heap.size w i/\(i.cell? ⟨w.heap.size+1+1,0,Yb⟩=Ya (Zf i ⟨w.heap.size+1+1,0,Yb⟩)/\i.cell? ⟨w.heap.size+1+1,1,Yb⟩=Ya (Zf i ⟨w.heap.size+1+1,1,Yb⟩)/\i.cell? ⟨w.heap.size+1+1,2,Yb⟩=Ya (Zf i ⟨w.heap.size+1+1,2,Yb⟩))/\(i.frozen? ⟨w.heap.size+1+1,0,Yb⟩=false/\i.frozen? ⟨w.heap.size+1+1,1,Yb⟩=false/\i.frozen? ⟨w.heap.size+1+1,2,Yb⟩=false)) :
  ((i.setCell ⟨w.heap.size+1+1,o,Yb⟩ x).cell? ⟨w.heap.size,0,Yb⟩=Ya n/\(i.setCell ⟨w.heap.size+1+1,o,Yb⟩ x).cell? ⟨w.heap.size,1,Yb⟩=Ya d/\(i.setCell ⟨w.heap.size+1+1,o,Yb⟩ x).cell? ⟨w.heap.size+1,0,Yb⟩=Ya m/\(i.setCell ⟨w.heap.size+1+1,o,Yb⟩ x).cell? ⟨w.heap.size+1,1,Yb⟩=Ya e)/\w.heap.size+2<(i.setCell ⟨w.heap.size+1+1,o,Yb⟩ x).heap.size/\Below w.heap.size w (i.setCell ⟨w.heap.size+1+1,o,Yb⟩ x)/\((i.setCell ⟨w.heap.size+1+1,o,Yb⟩ x).cell? ⟨w.heap.size+1+1,0,Yb⟩=Ya (Zf (i.setCell ⟨w.heap.size+1+1,o,Yb⟩ x) ⟨w.heap.size+1+1,0,Yb⟩)/\(i.setCell ⟨w.heap.size+1+1,o,Yb⟩ x).cell? ⟨w.heap.size+1+1,1,Yb⟩=Ya (Zf (i.setCell ⟨w.heap.size+1+1,o,Yb⟩ x) ⟨w.heap.size+1+1,1,Yb⟩)/\(i.setCell ⟨w.heap.size+1+1,o,Yb⟩ x).cell? ⟨w.heap.size+1+1,2,Yb⟩=Ya (Zf (i.setCell ⟨w.heap.size+1+1,o,Yb⟩ x) ⟨w.heap.size+1+1,2,Yb⟩))/\((i.setCell ⟨w.heap.size+1+1,o,Yb⟩ x).frozen? ⟨w.heap.size+1+1,0,Yb⟩=false/\(i.setCell ⟨w.heap.size+1+1,o,Yb⟩ x).frozen? ⟨w.heap.size+1+1,1,Yb⟩=false/\(i.setCell ⟨w.heap.size+1+1,o,Yb⟩ x).frozen? ⟨w.heap.size+1+1,2,Yb⟩=false):=by
 obtain⟨⟨a,b,c,f⟩,g,k,⟨i0,i1,i2⟩,j0,j1,j2⟩:=h;have q:∀j l,j<w.heap.size+1+1->(i.setCell ⟨w.heap.size+1+1,o,Yb⟩ x).cell? ⟨j,l,Yb⟩=i.cell? ⟨j,l,Yb⟩:=fun j l p=>World.cell?_setCell_far _ _ _ _ (by simp;omega);exact⟨⟨by rw[q _ _ (by omega)];exact a,by rw[q _ _ (by omega)];exact b,by rw[q _ _ (by omega)];exact c,by rw[q _ _ (by omega)];exact f⟩,by rw[World.size_setCell];exact g,k.setCell (by simp;omega) _,⟨Zao i0,Zao i1,Zao i2⟩,by rw[World.frozen?_setCell];exact j0,by rw[World.frozen?_setCell];exact j1,by rw[World.frozen?_setCell];exact j2⟩
theorem ZbA {a:Yh} {b o:Nat} {x v:Yi} (h:(a.setCell ⟨b,o,Yb⟩ x).cell? ⟨b,o,Yb⟩=Ya v):v=x:=by
 cases hc:a.cell? ⟨b,o,Yb⟩with
 |some u=>
  rw[World.cell?_setCell_same _ _ _ hc]at h;exact(Option.some.inj h).symm
 |none=>
  exfalso;unfold World.cell? at hc h;simp only[World.setCell,Array.getElem?_modify,↓reduceIte]at h;cases hb:a.heap[b]? with
  |none=>simp[hb]at h
  |some c=>
   cases c<;>simp_all
theorem ZfZ {a:Yh} {b o p:Nat} {x y:Yi} (c:o≠p):((a.setCell ⟨b,o,Yb⟩ x).setCell ⟨b,p,Yb⟩ y).cell? ⟨b,o,Yb⟩=(a.setCell ⟨b,o,Yb⟩ x).cell? ⟨b,o,Yb⟩:=
 World.cell?_setCell_other _ _ _ _ (by simp only[ne_eq,Addr.mk.injEq,not_and];intro _ h;exact absurd h.symm c)
theorem Zeo {a:Yh} {b:Nat} {x y z e f g:Yi}
  (c:(((a.setCell ⟨b,0,Yb⟩ x).setCell ⟨b,1,Yb⟩ y).setCell ⟨b,2,Yb⟩ z).cell? ⟨b,0,Yb⟩=Ya e)
  (d:(((a.setCell ⟨b,0,Yb⟩ x).setCell ⟨b,1,Yb⟩ y).setCell ⟨b,2,Yb⟩ z).cell? ⟨b,1,Yb⟩=Ya f)
  (h:(((a.setCell ⟨b,0,Yb⟩ x).setCell ⟨b,1,Yb⟩ y).setCell ⟨b,2,Yb⟩ z).cell? ⟨b,2,Yb⟩=Ya g):e=x/\f=y/\g=z:=by
 refine⟨?_,?_,ZbA h⟩
 ·rw[World.cell?_setCell_other _ _ _ _ (show(⟨b,2,Yb⟩:Addr)≠⟨b,0,Yb⟩by simp),ZfZ (by decide)]at c;exact ZbA c
 ·rw[ZfZ (by decide)]at d;exact ZbA d
theorem Zpo {w e:Yh} {x y z:Yi} {A B F:Prop} {f:Yh}
  (d:f=((e.setCell ⟨w.heap.size+1+1,0,Yb⟩ x).setCell ⟨w.heap.size+1+1,1,Yb⟩ y).setCell ⟨w.heap.size+1+1,2,Yb⟩ z)
  (h:A/\B/\Below w.heap.size w f/\(f.cell? ⟨w.heap.size+1+1,0,Yb⟩=Ya (Zf f ⟨w.heap.size+1+1,0,Yb⟩)/\f.cell? ⟨w.heap.size+1+1,1,Yb⟩=Ya (Zf f ⟨w.heap.size+1+1,1,Yb⟩)/\f.cell? ⟨w.heap.size+1+1,2,Yb⟩=Ya (Zf f ⟨w.heap.size+1+1,2,Yb⟩))/\F) :
  f.cell? ⟨w.heap.size+1+1,0,Yb⟩=Ya x/\f.cell? ⟨w.heap.size+1+1,1,Yb⟩=Ya y/\f.cell? ⟨w.heap.size+1+1,2,Yb⟩=Ya z/\Below w.heap.size w f:=by
 obtain⟨_,_,k,⟨i0,i1,i2⟩,_⟩:=h;subst d;obtain⟨a,b,c⟩:=Zeo i0 i1 i2;exact⟨i0.trans (congrArg Ya a),i1.trans (congrArg Ya b),i2.trans (congrArg Ya c),k⟩
theorem ZiP (n m:Int) (d e g:Nat) (w:Yh) (B:-9223372036854775807<=n) (f:n<=9223372036854775807) (A:-9223372036854775807<=m) (c:m<=9223372036854775807)
  (z:d<=9223372036854775807) (he:e<=9223372036854775807) (L:0<g) (N:g<18446744073709551616) :
  Calls Tryz.prog 60 #[Zb n d,Zb m e,.int .u64 g] w fun r w'=>r=.returned (ZbJ (ZbI (decide (n<0)) (n.natAbs*(e / g)) (decide (m<0)) (m.natAbs*(d / g))) (Zba (decide (n<0)) (n.natAbs*(e / g)) (decide (m<0)) (m.natAbs*(d / g))))/\Below w.heap.size w w':=by
 have I:e / g<=9223372036854775807:=Nat.le_trans (Nat.div_le_self _ _) he;have J:d / g<=9223372036854775807:=Nat.le_trans (Nat.div_le_self _ _) z;have R:=Zbj e g (by omega);have S:=Zbj d g (by omega);have P:n.natAbs*(e / g)<=9223372036854775807*9223372036854775807:=Nat.mul_le_mul (by omega) I;have Q:m.natAbs*(d / g)<=9223372036854775807*9223372036854775807:=Nat.mul_le_mul (by omega) J;have a:n.natAbs*(e / g)+m.natAbs*(d / g)<340282366920938463463374607431768211456:=by omega
 have T:=fun w=>Zd6 d w z;have U:=fun w=>Zd6 e w he;have E:=fun w=>ZkA n (e / g) w (by omega) f (by omega);have t2:=fun w=>ZkA m (d / g) w (by omega) c (by omega);have b:=fun w=>Zqx (decide (n<0)) (decide (m<0)) (n.natAbs*(e / g)) (m.natAbs*(d / g)) w a;have M:¬g=0:=by omega
 have O:(0:Int)<(g:Int):=by omega
 clear a P Q B f A c z he L;obtain⟨x,G⟩:∃x,x=e / g:=⟨_,rfl⟩
 obtain⟨y,H⟩:∃y,y=d / g:=⟨_,rfl⟩
 rw[<-G]at I R E b⊢;rw[<-H]at J S t2 b⊢;clear G H;obtain⟨t,l⟩:∃t,t=decide (n<0):=⟨_,rfl⟩
 obtain⟨u,o⟩:∃u,u=decide (m<0):=⟨_,rfl⟩
 obtain⟨p,h⟩:∃p,p=n.natAbs*x:=⟨_,rfl⟩
 obtain⟨s,i⟩:∃s,s=m.natAbs*y:=⟨_,rfl⟩
 rw[<-l,<-h]at E b⊢;rw[<-o,<-i]at t2 b⊢;clear l o h i;obtain⟨D,k⟩:∃D,D=ZbI t p u s:=⟨_,rfl⟩
 obtain⟨C,j⟩:∃C,C=Zba t p u s:=⟨_,rfl⟩
 rw[<-k,<-j]at b⊢;clear k j;go_enter Tryz.func60,Tryz.ntmps60;go_wp2_with fail
 go_region_held3 (fun w'=>(w'.cell? ⟨w.heap.size,0,Yb⟩=Ya (Yd .i64 n)/\w'.cell? ⟨w.heap.size,1,Yb⟩=Ya (Yd .i64 d)/\w'.cell? ⟨w.heap.size+1,0,Yb⟩=Ya (Yd .i64 m)/\w'.cell? ⟨w.heap.size+1,1,Yb⟩=Ya (Yd .i64 e)) ∧
   w.heap.size+2<w'.heap.size/\Below w.heap.size w w'/\(w'.cell? ⟨w.heap.size+1+1,0,Yb⟩=Ya (Zf w' ⟨w.heap.size+1+1,0,Yb⟩)/\w'.cell? ⟨w.heap.size+1+1,1,Yb⟩=Ya (Zf w' ⟨w.heap.size+1+1,1,Yb⟩)/\w'.cell? ⟨w.heap.size+1+1,2,Yb⟩=Ya (Zf w' ⟨w.heap.size+1+1,2,Yb⟩))/\(w'.frozen? ⟨w.heap.size+1+1,0,Yb⟩=false/\w'.frozen? ⟨w.heap.size+1+1,1,Yb⟩=false/\w'.frozen? ⟨w.heap.size+1+1,2,Yb⟩=false))
  (first
   |with_reducible assumption
   |with_reducible exact Zqf (by with_reducible assumption) (by with_reducible assumption)
   |with_reducible exact Ziu (Ziu (Ziu (by with_reducible assumption)))
   |exact⟨⟨by go_simp,by go_simp,by go_simp,by go_simp⟩,by simp,(((Below.refl _ _).alloc (Nat.le_refl _) _).alloc (by simp) _|>.alloc (by simp;omega) _).drew,⟨ZH (v:=.bool false) (by go_simp),ZH (v:=.int .u64 0) (by go_simp),ZH (v:=.int .u64 0) (by go_simp)⟩,by go_simp,by go_simp,by go_simp⟩)
  (first
   |(go_at_call 56;first|(go_fit (T _);rintro e w' ⟨rfl,rfl⟩)|(go_fit (U _);rintro e w' ⟨rfl,rfl⟩))
   |(go_at_call 95;first|(go_fit (E _);rintro e w' ⟨rfl,F⟩)|(go_fit (t2 _);rintro e w' ⟨rfl,F⟩))
   |(go_at_call 96;go_fit (b _);rintro e w' ⟨rfl,F⟩))
 go_wp2_with fail;obtain⟨c0,c1,c2,K⟩:=Zpo rfl (by with_reducible assumption);exact bodyPost_ret (v:=ZbJ D C) (by simp[results,Tryz.results60,go_sem,c0,c1,c2]) rfl ⟨rfl,K⟩
theorem Zae {P:Program} {f:FuncId} {args:Array Yi} {w:Yh} {n:Nat} {v:Yi}
  (h:Calls P f args (w.drewN n) fun e w'=>e=.returned v/\w.drewN n=w'):Calls P f args (w.drewN n) fun e a=>e=.returned v/\∃m,a=w.drewN m:=
 h.mono fun _ _ ⟨he,hm⟩=>⟨he,n,hm.symm⟩
theorem Zgs {P:Program} {f:FuncId} {args:Array Yi} {w:Yh} {a n:Nat} {v:Yi}
  (h:Calls P f args (w.drewN (a+n)) (ZiM (w.drewN (a+n)) v)):Calls P f args (w.drewN (a+n)) fun e b=>e=.returned v/\∃m,b=w.drewN (a+m):=
 h.mono fun _ _ ⟨he,m,hm⟩=>⟨he,n+m,by rw[hm,World.drewN_drewN,Nat.add_assoc]⟩
theorem ZI {P:Program} {f:FuncId} {args:Array Yi} {w:Yh} {a n:Nat} {v:Yi}
  (h:Calls P f args (w.drewN (a+n)) fun e w'=>e=.returned v/\w.drewN (a+n)=w'):Calls P f args (w.drewN (a+n)) fun e b=>e=.returned v/\∃m,b=w.drewN (a+m):=
 h.mono fun _ _ ⟨he,hm⟩=>⟨he,n,hm.symm⟩
def Zaf (n d:Int):Bool:=decide (0<d/\n≠-9223372036854775808/\Nat.gcd n.natAbs d.natAbs=1)
theorem Zdv (n d:Int) (w:Yh) (c:-9223372036854775808<=n) (f:n<=9223372036854775807) (h:-9223372036854775808<=d) (i:d<=9223372036854775807) :
  Calls Tryz.prog 34 #[Zb n d] w fun e w'=>e=.returned (.bool (Zaf n d))/\Below w.heap.size w w':=by
 unfold Zaf;by_cases a:0<d
 ·by_cases b:n=-9223372036854775808
  ·rw[decide_eq_false (by omega)];have d1:decide (0<d)=true:=decide_eq_true a;have d2:(n != -9223372036854775808)=false:=by simp[b]
   clear c f h i a b;go_enter Tryz.func34,Tryz.ntmps34;go_wp2_with fail;go_quiet (fail);go_wp2_with fail;go_ret;exact⟨rfl,below_drewN ((Below.refl _ _).alloc (Nat.le_refl _) _) _⟩
  ·have k:=fun w=>Zd5 n w c f;have l:=fun w=>Zd5 d w h i;have g:=fun w=>Zdi n.natAbs d.natAbs w (by omega) (by omega);have d1:decide (0<d)=true:=decide_eq_true a;have d2:(n != -9223372036854775808)=true:=by simpa using b
   have e:decide (0<d/\n≠-9223372036854775808/\Nat.gcd n.natAbs d.natAbs=1)=((((Nat.gcd n.natAbs d.natAbs:Nat)):Int)==1):=by rw[Bool.eq_iff_iff];simp[a,b];omega
   rw[e];clear c f h i a b e;obtain⟨G,j⟩:∃G,G=Nat.gcd n.natAbs d.natAbs:=⟨_,rfl⟩
   rw[<-j]at g⊢;clear j;go_enter Tryz.func34,Tryz.ntmps34;go_wp2_with fail
   go_quiet ((first
    |(go_at_call 56;first|(with_reducible exact Zae (k _))|(with_reducible exact Zae (l _)))
    |(go_at_call 55;with_reducible exact Calls.quiet_of (g _))))
   go_wp2_with fail;go_ret;exact⟨rfl,below_drewN ((Below.refl _ _).alloc (Nat.le_refl _) _) _⟩
 ·rw[decide_eq_false (by omega)];have d1:decide (0<d)=false:=decide_eq_false a;clear c f h i a;go_enter Tryz.func34,Tryz.ntmps34;go_wp2_with fail;go_quiet (fail);go_wp2_with fail;go_ret;exact⟨rfl,below_drewN ((Below.refl _ _).alloc (Nat.le_refl _) _) _⟩
theorem ZdA (w:Yh) (a b c:Obj) (n:Nat):Below w.heap.size w ((((w.alloc a).alloc b).alloc c).drewN n):=
 below_drewN (((Below.refl _ _).alloc (Nat.le_refl _) _).alloc (by simp) _|>.alloc (by simp;omega) _) _
theorem Zci {w a:Yh} (h:Below w.heap.size w a) {o p:Nat} {x y:Yi}:Below w.heap.size w ((a.setCell ⟨w.heap.size+1+1,o,Yb⟩ x).setCell ⟨w.heap.size+1+1,p,Yb⟩ y):=
 (h.setCell (by simp;omega) _).setCell (by simp;omega) _
theorem ZjL {N:Nat} (h:up N=0):N<18446744073709551616/\lw N=N:=by unfold up at h;unfold lw;omega
theorem Zma {N:Nat} (h:¬up N=0):¬N<=9223372036854775807:=by unfold up at h;omega
theorem ZmA (n m:Int) (d e:Nat) (w:Yh) (X:-9223372036854775807<=n) (E:n<=9223372036854775807) (W:-9223372036854775807<=m) (C:m<=9223372036854775807)
  (A:0<d) (Q:d<=9223372036854775807) (B:0<e) (he:e<=9223372036854775807) (g h:Nat) (R:g=Nat.gcd n.natAbs e) (T:h=Nat.gcd m.natAbs d) (N D:Nat)
  (Z:N=n.natAbs / g*(m.natAbs / h)) (Y:D=d / h*(e / g)) :
  Calls Tryz.prog 41 #[Zb n d,Zb m e] w fun r w'=>r=.returned (.tuple #[Zb (ZbH (!(decide (n<0)==decide (m<0))) N D) (Zb0 N D),Yd .i64 (ZbS N D)])/\Below w.heap.size w w':=by
 have S:0<g:=by rw[R];exact Nat.gcd_pos_of_pos_right _ B
 have V:0<h:=by rw[T];exact Nat.gcd_pos_of_pos_right _ A
 have j:=fun w=>Zd5 n w (by omega) E;have k:=fun w=>Zd5 m w (by omega) C;have l:=fun w=>Zd6 d w Q;have o:=fun w=>Zd6 e w he;have K:=fun w=>Zdi n.natAbs e w (by omega) (by omega);have L:=fun w=>Zdi m.natAbs d w (by omega) (by omega);rw[<-R]at K;rw[<-T]at L;have q1:=Zbj n.natAbs g (by omega);have q2:=Zbj m.natAbs h (by omega);have q3:=Zbj d h (by omega);have q4:=Zbj e g (by omega);have l1:n.natAbs / g<=9223372036854775807:=Nat.le_trans (Nat.div_le_self _ _) (by omega);have l2:m.natAbs / h<=9223372036854775807:=Nat.le_trans (Nat.div_le_self _ _) (by omega);have l3:d / h<=9223372036854775807:=Nat.le_trans (Nat.div_le_self _ _) Q;have l4:e / g<=9223372036854775807:=Nat.le_trans (Nat.div_le_self _ _) he;have c:=fun w=>Zi3 (n.natAbs / g) (m.natAbs / h) w (by omega) (by omega);have f:=fun w=>Zi3 (d / h) (e / g) w (by omega) (by omega);rw[<-Z]at c;rw[<-Y]at f;have i:=fun w=>Zm9 (!(decide (n<0)==decide (m<0))) (lw N) (lw D) w (Zfi N) (Zfi D);obtain⟨x1,F⟩:∃x1,x1=n.natAbs / g:=⟨_,rfl⟩
 obtain⟨x2,G⟩:∃x2,x2=m.natAbs / h:=⟨_,rfl⟩
 obtain⟨x3,H⟩:∃x3,x3=d / h:=⟨_,rfl⟩
 obtain⟨x4,I⟩:∃x4,x4=e / g:=⟨_,rfl⟩
 rw[<-F]at q1 c;rw[<-G]at q2 c;rw[<-H]at q3 f;rw[<-I]at q4 f;have ag:¬g=0:=by omega
 have ai:¬h=0:=by omega
 have ah:(0:Int)<(g:Int):=by omega
 have aj:(0:Int)<(h:Int):=by omega
 clear l1 l2 l3 l4 F G H I Z Y R T S V X E W C Q he A B;by_cases a:up N=0
 ·by_cases b:up D=0
  ·obtain⟨_,a2⟩:=ZjL a;obtain⟨_,J⟩:=ZjL b;rw[a2]at i c;rw[J]at i f;rw[a]at c;rw[b]at f;obtain⟨M,u⟩:∃M,M=ZbH (!(decide (n<0)==decide (m<0))) N D:=⟨_,rfl⟩
   obtain⟨O,x⟩:∃O,O=Zb0 N D:=⟨_,rfl⟩
   obtain⟨P,y⟩:∃P,P=ZbS N D:=⟨_,rfl⟩
   rw[<-u,<-x,<-y]at i⊢;clear a b a2 J u x y;simp only[Int.natCast_zero]at c f;go_enter Tryz.func41,Tryz.ntmps41;go_wp2_with fail
   go_quiet ((first
    |(go_at_call 56;first|(with_reducible exact Zae (j _))|(with_reducible exact Zae (o _)))
    |(go_at_call 55;with_reducible exact Calls.quiet_of (K _))))
   go_wp2_with fail
   go_quiet ((first
    |(go_at_call 56;first|(with_reducible exact ZI (k _))|(with_reducible exact ZI (l _)))
    |(go_at_call 55;with_reducible exact Zgs (L _))))
   go_wp2_with fail
   go_quiet ((first
    |(go_at_call 56;first|(with_reducible exact ZI (j _))|(with_reducible exact ZI (k _)))
    |(go_at_call 61;with_reducible exact ZI (c _))))
   go_wp2_with fail
   go_quiet ((first
    |(go_at_call 56;first|(with_reducible exact ZI (l _))|(with_reducible exact ZI (o _)))
    |(go_at_call 61;with_reducible exact ZI (f _))))
   go_wp2_with (go_at_call 62;go_fit (i _);rintro e w1 ⟨rfl,hb⟩;obtain⟨hc,hf⟩:=Zr4 hb);exact bodyPost_ret (v:=.tuple #[Zb M O,Yd .i64 P]) (by simp[results,Tryz.results41,go_sem,hc]) rfl ⟨rfl,Zci ((ZdA _ _ _ _ _).trans (hb.mono (by simp;omega)))⟩
  ·have nb:=Zma b;have p:ZbS N D=3:=by unfold ZbS;rw[if_neg (by omega)]
   have s:Zb0 N D=0:=by unfold Zb0;rw[if_neg (by omega)]
   have t:ZbH (!(decide (n<0)==decide (m<0))) N D=0:=by unfold ZbH;rw[if_neg (by omega)]
   rw[p,s,t];rw[a]at c;simp only[Int.natCast_zero]at c;obtain⟨U,z⟩:∃U,U=up D:=⟨_,rfl⟩
   rw[<-z]at f b;have J:((U:Int)==0)=false:=by simp;omega
   have b3:((U:Int) != 0)=true:=by simp;omega
   clear i a b nb p s t z;go_enter Tryz.func41,Tryz.ntmps41;go_wp2_with fail
   go_quiet ((first
    |(go_at_call 56;first|(with_reducible exact Zae (j _))|(with_reducible exact Zae (o _)))
    |(go_at_call 55;with_reducible exact Calls.quiet_of (K _))))
   go_wp2_with fail
   go_quiet ((first
    |(go_at_call 56;first|(with_reducible exact ZI (k _))|(with_reducible exact ZI (l _)))
    |(go_at_call 55;with_reducible exact Zgs (L _))))
   go_wp2_with fail
   go_quiet ((first
    |(go_at_call 56;first|(with_reducible exact ZI (j _))|(with_reducible exact ZI (k _)))
    |(go_at_call 61;with_reducible exact ZI (c _))))
   go_wp2_with fail
   go_quiet ((first
    |(go_at_call 56;first|(with_reducible exact ZI (l _))|(with_reducible exact ZI (o _)))
    |(go_at_call 61;with_reducible exact ZI (f _))))
   go_wp2_with fail;exact bodyPost_ret (v:=.tuple #[Zb 0 0,Yd .i64 3]) (by simp[results,Tryz.results41,go_sem]) rfl ⟨rfl,Zci (ZdA _ _ _ _ _)⟩
 ·have na:=Zma a;have p:ZbS N D=3:=by unfold ZbS;rw[if_neg (by omega)]
  have s:Zb0 N D=0:=by unfold Zb0;rw[if_neg (by omega)]
  have t:ZbH (!(decide (n<0)==decide (m<0))) N D=0:=by unfold ZbH;rw[if_neg (by omega)]
  rw[p,s,t];obtain⟨U,z⟩:∃U,U=up N:=⟨_,rfl⟩
  rw[<-z]at c a;have J:((U:Int)==0)=false:=by simp;omega
  have b3:((U:Int) != 0)=true:=by simp;omega
  clear i a na p s t z;go_enter Tryz.func41,Tryz.ntmps41;go_wp2_with fail
  go_quiet ((first
   |(go_at_call 56;first|(with_reducible exact Zae (j _))|(with_reducible exact Zae (o _)))
   |(go_at_call 55;with_reducible exact Calls.quiet_of (K _))))
  go_wp2_with fail
  go_quiet ((first
   |(go_at_call 56;first|(with_reducible exact ZI (k _))|(with_reducible exact ZI (l _)))
   |(go_at_call 55;with_reducible exact Zgs (L _))))
  go_wp2_with fail
  go_quiet ((first
   |(go_at_call 56;first|(with_reducible exact ZI (j _))|(with_reducible exact ZI (k _)))
   |(go_at_call 61;with_reducible exact ZI (c _))))
  go_wp2_with fail
  go_quiet ((first
   |(go_at_call 56;first|(with_reducible exact ZI (l _))|(with_reducible exact ZI (o _)))
   |(go_at_call 61;with_reducible exact ZI (f _))))
  go_wp2_with fail;exact bodyPost_ret (v:=.tuple #[Zb 0 0,Yd .i64 3]) (by simp[results,Tryz.results41,go_sem]) rfl ⟨rfl,Zci (ZdA _ _ _ _ _)⟩
end Go.Proofs.YtbfnnolakggbfaaGreatDoor
