import Derived.Deep.DeepFit
import Derived.Test.YtbfnnolakggbfaaGreatDoorQAD
set_option maxRecDepth 100000
set_option maxHeartbeats 8000000
open Option renaming some → Ya, none → Yb
open Go.Value renaming int → Yd
open Go.IntKind renaming i64 → Yf
open Go.Obj renaming cells → Yg
open Go renaming World → Yh
open Go.RowKit
namespace Go.Proofs.YtbfnnolakggbfaaGreatDoor
structure Boxes (w w1:Yh) (n d m e:Int):Prop where
 c0:w1.cell? ⟨w.heap.size,0,Yb⟩=Ya (Yd Yf n)
 c1:w1.cell? ⟨w.heap.size,1,Yb⟩=Ya (Yd Yf d)
 c2:w1.cell? ⟨w.heap.size+1,0,Yb⟩=Ya (Yd Yf m)
 c3:w1.cell? ⟨w.heap.size+1,1,Yb⟩=Ya (Yd Yf e)
 i0:w1.cell? ⟨w.heap.size+1+1,0,Yb⟩=Ya (Yd Yf 0)
 i1:w1.cell? ⟨w.heap.size+1+1,1,Yb⟩=Ya (Yd Yf 0)
 j0:w1.frozen? ⟨w.heap.size+1+1,0,Yb⟩=false
 j1:w1.frozen? ⟨w.heap.size+1+1,1,Yb⟩=false
 size:w.heap.size+2<w1.heap.size
 below:Below w.heap.size w w1
theorem Boxes.start (w:Yh) (n d m e:Int) (k:Nat) (ty:TypeId):Boxes w ((((w.alloc (Yg #[Yd Yf n,Yd Yf d] ty)).alloc (Yg #[Yd Yf m,Yd Yf e] ty)).alloc (Yg #[Yd Yf 0,Yd Yf 0] ty)).drewN k) n d m e where
 c0:=by go_simp
 c1:=by go_simp
 c2:=by go_simp
 c3:=by go_simp
 i0:=by go_simp
 i1:=by go_simp
 j0:=by go_simp
 j1:=by go_simp
 size:=by simp
 below:=ZdA _ _ _ _ _
theorem Boxes.keep {w b c:Yh} {n d m e:Int} (h:Boxes w b n d m e) (a:Below b.heap.size b c):Boxes w c n d m e:=
 have s:=h.size;have z:=a.size
 {c0:=Zd a (by omega) h.c0,c1:=Zd a (by omega) h.c1,c2:=Zd a (by omega) h.c2,c3:=Zd a (by omega) h.c3
  i0:=Zd a (by omega) h.i0,i1:=Zd a (by omega) h.i1,j0:=Zo a (by omega) h.j0,j1:=Zo a (by omega) h.j1
  size:=by omega,below:=h.below.trans (a.mono (by omega)) }
theorem below_alloc1 (w:Yh) (a:Obj):Below w.heap.size w (w.alloc a):=(Below.refl _ _).alloc (Nat.le_refl _) _
structure WideAt (w1:Yh) (b:Nat) (s:Bool) (m:Nat):Prop where
 k0:w1.cell? ⟨b,0,Yb⟩=Ya (.bool s)
 k1:w1.cell? ⟨b,1,Yb⟩=Ya (.int .u64 (up m:Nat))
 k2:w1.cell? ⟨b,2,Yb⟩=Ya (.int .u64 (lw m:Nat))
 lt:b<w1.heap.size
theorem WideAt.start (w:Yh) (s:Bool) (m:Nat) (ty:TypeId):WideAt (w.alloc (Yg #[.bool s,.int .u64 (up m:Nat),.int .u64 (lw m:Nat)] ty)) w.heap.size s m where
 k0:=by go_simp
 k1:=by go_simp
 k2:=by go_simp
 lt:=by simp
theorem WideAt.keep {c d:Yh} {b m:Nat} {s:Bool} (h:WideAt c b s m) (a:Below c.heap.size c d):WideAt d b s m:=
 have z:=a.size;have l:=h.lt
 {k0:=Zd a l h.k0,k1:=Zd a l h.k1,k2:=Zd a l h.k2,lt:=by omega }
theorem Zrt (n m:Int) (d e:Nat) (w:Yh) (V:-9223372036854775807<=n) (W:n<=9223372036854775807) (R:-9223372036854775807<=m) (S:m<=9223372036854775807)
  (M:0<d) (L:d<=9223372036854775807) (O:0<e) (he:e<=9223372036854775807) (g h T N D:Nat) (s:Bool) (hg:g=Nat.gcd d e)
  (hs:s=ZbI (decide (n<0)) (n.natAbs*(e / g)) (decide (m<0)) (m.natAbs*(d / g))) (hT:T=Zba (decide (n<0)) (n.natAbs*(e / g)) (decide (m<0)) (m.natAbs*(d / g)))
  (K:T<340282366920938463463374607431768211456) (hh:h=Nat.gcd g (T % g)) (hN:N=T / h) (hD:D=d / g*(e / h)) :
  Calls Tryz.prog 42 #[Zb n d,Zb m e] w fun r w'=>r=.returned (.tuple #[Zb (ZbH s N D) (Zb0 N D),Yd Yf (ZbS N D)])/\Below w.heap.size w w':=by
 have k:0<g:=by rw[hg];exact Nat.gcd_pos_of_pos_right _ O
 have Q:0<h:=by rw[hh];exact Nat.gcd_pos_of_pos_left _ k
 have P:g<=9223372036854775807:=by rw[hg];exact Nat.le_trans (Nat.gcd_le_left _ M) L
 have an:h<=9223372036854775807:=by rw[hh];exact Nat.le_trans (Nat.gcd_le_left _ k) P
 have y:=fun w=>Zd6 d w L;have z:=fun w=>Zd6 e w he;have g1:=fun w=>Zdi d e w (by omega) (by omega);rw[<-hg]at g1;have ac:=fun w=>ZiP n m d e g w V W R S L he k (by omega);rw[<-hs,<-hT]at ac;have re:=fun w=>ZqA s T g w K k (by omega);have rl:T % g<18446744073709551616:=by have:=Nat.mod_lt T k;omega
 have G:=fun w=>Zdi g (T % g) w (by omega) rl;rw[<-hh]at G;have Z:=fun w=>Zqt s T h w Q (by omega);obtain⟨q,hq⟩:∃q,q=ZnW T h:=⟨_,rfl⟩
 obtain⟨ok,j⟩:∃ok,ok=ZkU T h:=⟨_,rfl⟩
 rw[<-hq,<-j]at Z;unfold ZnW at hq;unfold ZkU at j;rw[<-hN]at hq j;have q3:=Zbj d g (by omega);have q4:=Zbj e h (by omega);have l3:d / g<=9223372036854775807:=Nat.le_trans (Nat.div_le_self _ _) L;have l4:e / h<=9223372036854775807:=Nat.le_trans (Nat.div_le_self _ _) he;have l:=fun w=>Zi3 (d / g) (e / h) w (by omega) (by omega);rw[<-hD]at l;obtain⟨r,hr⟩:∃r,r=T % g:=⟨_,rfl⟩
 obtain⟨x3,X⟩:∃x3,x3=d / g:=⟨_,rfl⟩
 obtain⟨x4,Y⟩:∃x4,x4=e / h:=⟨_,rfl⟩
 rw[<-hr]at re G;rw[<-X]at q3 l;rw[<-Y]at q4 l;have ba:¬g=0:=by omega
 have bc:¬h=0:=by omega
 have bb:(0:Int)<(g:Int):=by omega
 have bd:(0:Int)<(h:Int):=by omega
 clear l3 l4 X Y hN hD hg hs hT K rl hr hh k Q P an V W R S L he M O;by_cases a:N<18446744073709551616
 ·rw[if_pos a]at hq;rw[decide_eq_true a]at j;by_cases b:up D=0
  ·obtain⟨_,b2⟩:=ZjL b;have fo:=fun w=>Zm9 s N (lw D) w a (Zfi D);rw[b2]at fo l;rw[b]at l;subst hq j;obtain⟨F1,H⟩:∃F1,F1=ZbH s q D:=⟨_,rfl⟩
   obtain⟨F2,I⟩:∃F2,F2=Zb0 q D:=⟨_,rfl⟩
   obtain⟨F3,J⟩:∃F3,F3=ZbS q D:=⟨_,rfl⟩
   rw[<-H,<-I,<-J]at fo⊢;clear a b b2 H I J;simp only[Int.natCast_zero]at l;go_enter Tryz.func42,Tryz.ntmps42;go_wp2_with fail
   go_quiet ((first
    |(go_at_call 56;first|(with_reducible exact Zae (y _))|(with_reducible exact Zae (z _)))
    |(go_at_call 55;with_reducible exact Calls.quiet_of (g1 _))))
   go_upto_region 3 with(go_at_call 60;go_fit (ac _);rintro e w1 ⟨rfl,c⟩)
   have o:=Lib.hid ((Boxes.start w n d m e _ 23).keep c);clear c
   go_upto_region 4 with(first
    |(go_at_call 63;go_fit (re _);rintro e w2 ⟨rfl,c⟩)
    |(go_at_call 55;go_fit (G _);rintro e w' ⟨rfl,nd,rfl⟩))
   have p:=Lib.hid ((o.out.keep (below_alloc1 _ _)).keep c);have i:=(WideAt.start w1 s T 91).keep c;have v0:=i.k0;have v1:=i.k1;have v2:=i.k2;have u:=Lib.hid i;clear c i o;go_upto_region 5 with(go_at_call 64;go_fit (Z _);rintro e w3 ⟨rfl,c⟩)
   have f:=Lib.hid (p.out.keep ((below_drewN (Below.refl _ _) _).trans c));have t:=u.out.keep ((below_drewN (Below.refl _ _) _).trans c);clear v0 v1 v2 c p u;have v0:=t.k0;have E:=f.out.c1;have F:=f.out.c3;clear t
   go_quiet ((first
    |(go_at_call 56;first|(with_reducible exact Zae (y _))|(with_reducible exact Zae (z _)))
    |(go_at_call 61;with_reducible exact Zae (l _))))
   go_wp2_with (go_at_call 62;go_fit (fo _);rintro e w4 ⟨rfl,c⟩;have x:=f.out.keep ((below_drewN (Below.refl _ _) _).trans c);have i0:=x.i0;have i1:=x.i1;have j0:=x.j0;have j1:=x.j1;have HB:=Lib.hid x.below;clear x f v0 E F c);exact bodyPost_ret (v:=.tuple #[Zb F1 F2,Yd Yf F3]) (by simp[results,Tryz.results42,go_sem,i0,i1]) rfl ⟨rfl,Zci HB.out⟩
  ·have nb:=Zma b;have A:ZbS N D=3:=by unfold ZbS;rw[if_neg (by omega)]
   have B:Zb0 N D=0:=by unfold Zb0;rw[if_neg (by omega)]
   have C:ZbH s N D=0:=by unfold ZbH;rw[if_neg (by omega)]
   rw[A,B,C];subst hq j;obtain⟨U,hU⟩:∃U,U=up D:=⟨_,rfl⟩
   rw[<-hU]at l b;have b2:((U:Int)==0)=false:=by simp;omega
   have b3:((U:Int) != 0)=true:=by simp;omega
   clear a b nb A B C hU;go_enter Tryz.func42,Tryz.ntmps42;go_wp2_with fail
   go_quiet ((first
    |(go_at_call 56;first|(with_reducible exact Zae (y _))|(with_reducible exact Zae (z _)))
    |(go_at_call 55;with_reducible exact Calls.quiet_of (g1 _))))
   go_upto_region 3 with(go_at_call 60;go_fit (ac _);rintro e w1 ⟨rfl,c⟩)
   have o:=Lib.hid ((Boxes.start w n d m e _ 23).keep c);clear c
   go_upto_region 4 with(first
    |(go_at_call 63;go_fit (re _);rintro e w2 ⟨rfl,c⟩)
    |(go_at_call 55;go_fit (G _);rintro e w' ⟨rfl,nd,rfl⟩))
   have p:=Lib.hid ((o.out.keep (below_alloc1 _ _)).keep c);have i:=(WideAt.start w1 s T 91).keep c;have v0:=i.k0;have v1:=i.k1;have v2:=i.k2;have u:=Lib.hid i;clear c i o;go_upto_region 5 with(go_at_call 64;go_fit (Z _);rintro e w3 ⟨rfl,c⟩)
   have f:=Lib.hid (p.out.keep ((below_drewN (Below.refl _ _) _).trans c));have t:=u.out.keep ((below_drewN (Below.refl _ _) _).trans c);clear v0 v1 v2 c p u;have v0:=t.k0;have E:=f.out.c1;have F:=f.out.c3;clear t
   go_quiet ((first
    |(go_at_call 56;first|(with_reducible exact Zae (y _))|(with_reducible exact Zae (z _)))
    |(go_at_call 61;with_reducible exact Zae (l _))))
   have i0:=f.out.i0;have i1:=f.out.i1;have j0:=f.out.j0;have j1:=f.out.j1;clear v0 E F;go_wp2_with fail;exact bodyPost_ret (v:=.tuple #[Zb 0 0,Yd Yf 3]) (by simp[results,Tryz.results42,go_sem,i0,i1]) rfl ⟨rfl,Zci (below_drewN f.out.below _)⟩
 ·have A:ZbS N D=3:=by unfold ZbS;rw[if_neg (by omega)]
  have B:Zb0 N D=0:=by unfold Zb0;rw[if_neg (by omega)]
  have C:ZbH s N D=0:=by unfold ZbH;rw[if_neg (by omega)]
  rw[A,B,C];rw[if_neg a]at hq;rw[decide_eq_false a]at j;subst hq j;clear a A B C;simp only[Int.natCast_zero]at Z;go_enter Tryz.func42,Tryz.ntmps42;go_wp2_with fail
  go_quiet ((first
   |(go_at_call 56;first|(with_reducible exact Zae (y _))|(with_reducible exact Zae (z _)))
   |(go_at_call 55;with_reducible exact Calls.quiet_of (g1 _))))
  go_upto_region 3 with(go_at_call 60;go_fit (ac _);rintro e w1 ⟨rfl,c⟩)
  have o:=Lib.hid ((Boxes.start w n d m e _ 23).keep c);clear c
  go_upto_region 4 with(first
   |(go_at_call 63;go_fit (re _);rintro e w2 ⟨rfl,c⟩)
   |(go_at_call 55;go_fit (G _);rintro e w' ⟨rfl,nd,rfl⟩))
  have p:=Lib.hid ((o.out.keep (below_alloc1 _ _)).keep c);have i:=(WideAt.start w1 s T 91).keep c;have v0:=i.k0;have v1:=i.k1;have v2:=i.k2;have u:=Lib.hid i;clear c i o;go_upto_region 5 with(go_at_call 64;go_fit (Z _);rintro e w3 ⟨rfl,c⟩)
  have f:=Lib.hid (p.out.keep ((below_drewN (Below.refl _ _) _).trans c));have t:=u.out.keep ((below_drewN (Below.refl _ _) _).trans c);clear v0 v1 v2 c p u;have v0:=t.k0;have E:=f.out.c1;have F:=f.out.c3;clear t
  go_quiet ((first
   |(go_at_call 56;first|(with_reducible exact Zae (y _))|(with_reducible exact Zae (z _)))
   |(go_at_call 61;with_reducible exact Zae (l _))))
  have i0:=f.out.i0;have i1:=f.out.i1;have j0:=f.out.j0;have j1:=f.out.j1;clear v0 E F;go_wp2_with fail;exact bodyPost_ret (v:=.tuple #[Zb 0 0,Yd Yf 3]) (by simp[results,Tryz.results42,go_sem,i0,i1]) rfl ⟨rfl,Zci (below_drewN f.out.below _)⟩
structure Valid (n:Int) (d:Nat):Prop where
 pos:0<d
 d_le:d<=9223372036854775807
 n_le:n.natAbs<=9223372036854775807
 low:Nat.gcd n.natAbs d=1
def ZcI (P:Int) (Q:Nat):Int:=ZbH (decide (P<0)) (P.natAbs / Nat.gcd P.natAbs Q) (Q / Nat.gcd P.natAbs Q)
def ZcR (P:Int) (Q:Nat):Int:=Zb0 (P.natAbs / Nat.gcd P.natAbs Q) (Q / Nat.gcd P.natAbs Q)
def ZcH (P:Int) (Q:Nat):Int:=ZbS (P.natAbs / Nat.gcd P.natAbs Q) (Q / Nat.gcd P.natAbs Q)
theorem ZfS (P:Int):P=(if decide (P<0)=true then -(P.natAbs:Int)else(P.natAbs:Int)):=by
 by_cases h:P<0
 ·simp[h];omega
 ·simp[h];omega
theorem Valid.unique {n m:Int} {d e:Nat} (h:Valid n d) (k:Valid m e) (he:n*(e:Int)=m*(d:Int)):n=m/\d=e:=by
 have a:n.natAbs*e=m.natAbs*d:=by have:=congrArg Int.natAbs he;simpa[Int.natAbs_mul]using this
 have d1:d ∣ e:=by
  have:d ∣ n.natAbs*e:=⟨m.natAbs,by rw[a,Nat.mul_comm]⟩
  exact(Nat.Coprime.dvd_of_dvd_mul_left (Nat.Coprime.symm h.low) this)
 have d2:e ∣ d:=by
  have:e ∣ m.natAbs*d:=⟨n.natAbs,by rw[<-a,Nat.mul_comm]⟩
  exact(Nat.Coprime.dvd_of_dvd_mul_left (Nat.Coprime.symm k.low) this)
 have b:d=e:=Nat.dvd_antisymm d1 d2;subst b;have c:=h.pos;exact⟨Int.eq_of_mul_eq_mul_right (by omega) he,rfl⟩
theorem lowest (P:Int) (Q:Nat) (a:0<Q):Nat.gcd (P.natAbs / Nat.gcd P.natAbs Q) (Q / Nat.gcd P.natAbs Q)=1/\0<Q / Nat.gcd P.natAbs Q:=by have b:0<Nat.gcd P.natAbs Q:=Nat.gcd_pos_of_pos_right _ a;exact⟨Nat.coprime_div_gcd_div_gcd b,Nat.div_pos (Nat.le_of_dvd a (Nat.gcd_dvd_right _ _)) b⟩
theorem Znk {p q x y:Nat} (hq:0<q) (k:0<y) (i:Nat.gcd x y=1) (h:x*q=p*y):p / Nat.gcd p q=x/\q / Nat.gcd p q=y:=by
 have e:=Nat.div_mul_cancel (Nat.gcd_dvd_left p q);have f:=Nat.div_mul_cancel (Nat.gcd_dvd_right p q);have d:0<Nat.gcd p q:=Nat.gcd_pos_of_pos_right _ hq;have l1:Nat.gcd (p / Nat.gcd p q) (q / Nat.gcd p q)=1:=Nat.coprime_div_gcd_div_gcd d;revert l1 e f d;generalize p / Nat.gcd p q=a;generalize q / Nat.gcd p q=b;generalize Nat.gcd p q=g;intro e f d l1;have c:x*b=a*y:=by
  rw[<-e,<-f]at h;have:x*b*g=a*y*g:=by rw[Nat.mul_assoc,h,Nat.mul_right_comm]
  exact Nat.eq_of_mul_eq_mul_right d this
 have d1:y ∣ b:=Nat.Coprime.dvd_of_dvd_mul_left (Nat.Coprime.symm i) ⟨a,by rw[c,Nat.mul_comm]⟩;have d2:b ∣ y:=Nat.Coprime.dvd_of_dvd_mul_left (Nat.Coprime.symm l1) ⟨x,by rw[<-c,Nat.mul_comm]⟩;have j:b=y:=Nat.dvd_antisymm d2 d1;subst j;exact⟨(Nat.eq_of_mul_eq_mul_right k c).symm,rfl⟩
theorem Zpn {P:Int} {Q:Nat} (f:0<Q) (h:ZcH P Q=0):∃d:Nat,ZcR P Q=d/\Valid (ZcI P Q) d/\ZcI P Q*(Q:Int)=P*(d:Int):=by
 obtain⟨l1,l2⟩:=lowest P Q f;have b:=Nat.div_mul_cancel (Nat.gcd_dvd_left P.natAbs Q);have e:=Nat.div_mul_cancel (Nat.gcd_dvd_right P.natAbs Q);unfold ZcH ZbS at h;unfold ZcI ZcR ZbH Zb0;generalize P.natAbs / Nat.gcd P.natAbs Q=x at *;generalize Q / Nat.gcd P.natAbs Q=y at *;generalize Nat.gcd P.natAbs Q=g at *;by_cases c:x<=9223372036854775807/\y<=9223372036854775807
 ·rw[if_pos c,if_pos c];refine⟨y,rfl,⟨l2,c.2,?_,?_⟩,?_⟩
  ·split<;>omega
  ·have:(if decide (P<0)=true then -(x:Int)else(x:Int)).natAbs=x:=by split<;>omega
   rw[this];exact l1
  ·have a:=ZfS P;rw[<-b,<-e]at *;by_cases s:P<0
   ·simp only[s,decide_true,if_true]at a⊢;rw[a];push_cast;rw[Int.neg_mul,Int.neg_mul,Int.mul_assoc,Int.mul_comm (y:Int)]
   ·simp only[s,decide_false,Bool.false_eq_true,if_false]at a⊢;rw[a];push_cast;rw[Int.mul_assoc,Int.mul_comm (y:Int)]
 ·rw[if_neg c]at h;exact absurd h (by decide)
theorem Zhm {P n:Int} {Q d:Nat} (i:0<Q) (v:Valid n d) (h:n*(Q:Int)=P*(d:Int)):ZcH P Q=0/\ZcI P Q=n/\ZcR P Q=d:=by
 have k:=v.pos;have j:n.natAbs*Q=P.natAbs*d:=by have:=congrArg Int.natAbs h;simpa[Int.natAbs_mul]using this
 have b:decide (P<0)=decide (n<0):=by
  have f:(0:Int)<(Q:Int):=by omega
  have e:(0:Int)<(d:Int):=by omega
  by_cases s:P<0
  ·have:P*(d:Int)<0:=Int.mul_neg_of_neg_of_pos s e;rw[<-h]at this;have:n<0:=by
    rcases Int.lt_or_le n 0 with g|g
    ·exact g
    ·have:=Int.mul_nonneg g (Int.le_of_lt f);omega
   simp[s,this]
  ·have:0<=P*(d:Int):=Int.mul_nonneg (by omega) (Int.le_of_lt e);rw[<-h]at this;have:¬n<0:=by intro g;have:=Int.mul_neg_of_neg_of_pos g f;omega
   simp[s,this]
 have a:=Znk i k v.low j;unfold ZcH ZcI ZcR ZbS ZbH Zb0;have c:n.natAbs<=9223372036854775807/\d<=9223372036854775807:=⟨v.n_le,v.d_le⟩
 rw[a.1,a.2,b];simp only[if_pos c];exact⟨trivial,(ZfS n).symm,trivial⟩
theorem Zr0 {P:Int} {Q:Nat} (h:ZcH P Q≠0):ZcH P Q=3/\ZcI P Q=0/\ZcR P Q=0:=by
 unfold ZcH ZbS at h;unfold ZcH ZcI ZcR ZbS ZbH Zb0;by_cases c:P.natAbs / Nat.gcd P.natAbs Q<=9223372036854775807/\Q / Nat.gcd P.natAbs Q<=9223372036854775807
 ·rw[if_pos c]at h;exact absurd rfl h
 ·rw[if_neg c,if_neg c,if_neg c];exact⟨rfl,rfl,rfl⟩
theorem Zna {P:Int} {Q x y:Nat} {s:Bool} (hq:0<Q) (e:0<y) (a:Nat.gcd x y=1) (h:x*Q=P.natAbs*y) (c:P≠0->s=decide (P<0)) :
  ZbH s x y=ZcI P Q/\Zb0 x y=ZcR P Q/\ZbS x y=ZcH P Q:=by
 obtain⟨k1,k2⟩:=Znk hq e a h;unfold ZcI ZcR ZcH;rw[k1,k2];refine⟨?_,rfl,rfl⟩;by_cases b:P=0
 ·have d:x=0:=by
   rw[b,Int.natAbs_zero,Nat.zero_mul]at h;rcases Nat.mul_eq_zero.1 h with h|h<;>omega
  subst d;unfold ZbH;simp
 ·rw[c b]
theorem Zb5 {a b c d:Nat} (h:Nat.gcd a b=1) (hc:c ∣ a) (e:d ∣ b):Nat.gcd c d=1:=
 Nat.Coprime.coprime_dvd_left hc (Nat.Coprime.symm (Nat.Coprime.coprime_dvd_left e (Nat.Coprime.symm h)))
theorem ZmB {n m:Int} {d e g h N D:Nat} (v:Valid n d) (u:Valid m e) (l:g=Nat.gcd n.natAbs e) (o:h=Nat.gcd m.natAbs d)
  (x:N=n.natAbs / g*(m.natAbs / h)) (w:D=d / h*(e / g)) :
  ZbH (!(decide (n<0)==decide (m<0))) N D=ZcI (n*m) (d*e)/\Zb0 N D=ZcR (n*m) (d*e)/\ZbS N D=ZcH (n*m) (d*e):=by
 have z:0<g:=by rw[l];exact Nat.gcd_pos_of_pos_right _ u.pos
 have A:0<h:=by rw[o];exact Nat.gcd_pos_of_pos_right _ v.pos
 have r:n.natAbs / g*g=n.natAbs:=Nat.div_mul_cancel (by rw[l];exact Nat.gcd_dvd_left _ _);have j:e / g*g=e:=Nat.div_mul_cancel (by rw[l];exact Nat.gcd_dvd_right _ _);have p:m.natAbs / h*h=m.natAbs:=Nat.div_mul_cancel (by rw[o];exact Nat.gcd_dvd_left _ _);have d1:d / h*h=d:=Nat.div_mul_cancel (by rw[o];exact Nat.gcd_dvd_right _ _);have c1:Nat.gcd (n.natAbs / g) (e / g)=1:=by rw[l];exact Nat.coprime_div_gcd_div_gcd (by rw[<-l];exact z)
 have c2:Nat.gcd (m.natAbs / h) (d / h)=1:=by rw[o];exact Nat.coprime_div_gcd_div_gcd (by rw[<-o];exact A)
 have c3:Nat.gcd (n.natAbs / g) (d / h)=1:=Zb5 v.low ⟨g,r.symm⟩ ⟨h,d1.symm⟩;have y:Nat.gcd (m.natAbs / h) (e / g)=1:=Zb5 u.low ⟨h,p.symm⟩ ⟨g,j.symm⟩;have E:=v.pos;have F:=u.pos;have B:0<D:=by
  rw[w];refine Nat.mul_pos ?_ ?_
  ·rcases Nat.eq_zero_or_pos (d / h)with k|k
   ·rw[k]at d1;omega
   ·exact k
  ·rcases Nat.eq_zero_or_pos (e / g)with k|k
   ·rw[k]at j;omega
   ·exact k
 refine Zna (Nat.mul_pos v.pos u.pos) B ?_ ?_ ?_
 ·rw[x,w];exact Nat.Coprime.mul_left (Nat.Coprime.mul_right c3 c1) (Nat.Coprime.mul_right c2 y)
 ·rw[x,w,Int.natAbs_mul];revert r j p d1;generalize n.natAbs / g=a;generalize m.natAbs / h=b;generalize d / h=c;generalize e / g=f;intro r j p d1;rw[<-r,<-j,<-p,<-d1]
  ac_rfl
 ·intro i;have a0:n≠0:=by intro k;rw[k]at i;simp at i
  have C:m≠0:=by intro k;rw[k]at i;simp at i
  by_cases s:n<0<;>by_cases t:m<0
  ·have:=Int.mul_pos_of_neg_of_neg s t;simp[s,t];omega
  ·have:=Int.mul_neg_of_neg_of_pos s (show 0<m by omega);simp[s,t,this]
  ·have:=Int.mul_neg_of_pos_of_neg (show 0<n by omega) t;simp[s,t,this]
  ·have:=Int.mul_pos (show 0<n by omega) (show 0<m by omega);simp[s,t];omega
theorem Zeb (n m:Int) (x y:Nat) :
  Zba (decide (n<0)) (n.natAbs*x) (decide (m<0)) (m.natAbs*y)=(n*x+m*y).natAbs ∧
  (n*x+m*y≠0->ZbI (decide (n<0)) (n.natAbs*x) (decide (m<0)) (m.natAbs*y)=decide (n*x+m*y<0)):=by
 have a:n*(x:Int)=if n<0 then -((n.natAbs*x:Nat):Int)else((n.natAbs*x:Nat):Int):=by
  split
  ·have:n=-(n.natAbs:Int):=by omega
   push_cast;rw[<-Int.neg_mul,<-this]
  ·have:n=(n.natAbs:Int):=by omega
   push_cast;rw[<-this]
 have b:m*(y:Int)=if m<0 then -((m.natAbs*y:Nat):Int)else((m.natAbs*y:Nat):Int):=by
  split
  ·have:m=-(m.natAbs:Int):=by omega
   push_cast;rw[<-Int.neg_mul,<-this]
  ·have:m=(m.natAbs:Int):=by omega
   push_cast;rw[<-this]
 rw[a,b];generalize n.natAbs*x=p;generalize m.natAbs*y=q;unfold Zba ZbI;by_cases s:n<0<;>by_cases t:m<0<;>simp only[s,t,decide_true,decide_false,if_true,if_false,Bool.false_eq_true,Bool.true_eq_false]
 ·exact⟨by omega,fun h=>by simp;omega⟩
 ·split<;>exact⟨by omega,fun h=>by simp;omega⟩
 ·split<;>exact⟨by omega,fun h=>by simp;omega⟩
 ·exact⟨by omega,fun h=>by simp;omega⟩
theorem Zru {n m:Int} {d e g h T N D:Nat} {s:Bool} (v:Valid n d) (u:Valid m e) (p:g=Nat.gcd d e)
  (W:s=ZbI (decide (n<0)) (n.natAbs*(e / g)) (decide (m<0)) (m.natAbs*(d / g))) (V:T=Zba (decide (n<0)) (n.natAbs*(e / g)) (decide (m<0)) (m.natAbs*(d / g)))
  (H:h=Nat.gcd g (T % g)) (U:N=T / h) (S:D=d / g*(e / h)) :
  ZbH s N D=ZcI (n*e+m*d) (d*e)/\Zb0 N D=ZcR (n*e+m*d) (d*e)/\ZbS N D=ZcH (n*e+m*d) (d*e):=by
 have O:=v.pos;have E:=u.pos;have G:0<g:=by rw[p];exact Nat.gcd_pos_of_pos_right _ E
 have I:0<h:=by rw[H];exact Nat.gcd_pos_of_pos_left _ G
 have f:h=Nat.gcd T g:=by rw[H,Nat.gcd_comm g,<-Nat.gcd_rec,Nat.gcd_comm]
 have d1:d / g*g=d:=Nat.div_mul_cancel (by rw[p];exact Nat.gcd_dvd_left _ _);have i:e / g*g=e:=Nat.div_mul_cancel (by rw[p];exact Nat.gcd_dvd_right _ _);have c1:Nat.gcd (d / g) (e / g)=1:=by rw[p];exact Nat.coprime_div_gcd_div_gcd (by rw[<-p];exact G)
 have k1:g / h*h=g:=Nat.div_mul_cancel (by rw[f];exact Nat.gcd_dvd_right _ _);have k2:T / h*h=T:=Nat.div_mul_cancel (by rw[f];exact Nat.gcd_dvd_left _ _);have c2:Nat.gcd (T / h) (g / h)=1:=by rw[f];exact Nat.coprime_div_gcd_div_gcd (by rw[<-f];exact I)
 have P:e / h=e / g*(g / h):=by
  have:e / g*(g / h)*h=e:=by rw[Nat.mul_assoc,k1,i]
  rw[<-this,Nat.mul_div_cancel _ I,this]
 obtain⟨o,t2⟩:=Zeb n m (e / g) (d / g);rw[<-V]at o;rw[<-W]at t2;have c3:Nat.gcd n.natAbs (d / g)=1:=Zb5 v.low (Nat.dvd_refl _) ⟨g,d1.symm⟩;have t:Nat.gcd m.natAbs (e / g)=1:=Zb5 u.low (Nat.dvd_refl _) ⟨g,i.symm⟩;have r:n*(e:Int)+m*(d:Int)=(n*((e / g:Nat):Int)+m*((d / g:Nat):Int))*(g:Int):=by
  conv=>lhs;rw[<-i,<-d1]
  push_cast
  rw[Int.add_mul,Int.mul_assoc,Int.mul_assoc]
 rw[S,P];revert d1 i c1 k1 k2 c2 o t2 c3 t r;generalize d / g=a;generalize e / g=b;generalize g / h=c;generalize X:T / h=x;intro d1 i c1 k1 k2 c2 o t2 c3 t r;have Q:Nat.gcd T a=1:=by
  have w:(((Nat.gcd T a:Nat)):Int) ∣ n*(b:Int):=by
   have B:(((Nat.gcd T a:Nat)):Int) ∣ n*(b:Int)+m*(a:Int):=by rw[<-Int.natAbs_dvd_natAbs,<-o,Int.natAbs_natCast];exact Nat.gcd_dvd_left _ _
   have C:(((Nat.gcd T a:Nat)):Int) ∣ m*(a:Int):=Int.dvd_mul_of_dvd_right (Int.natCast_dvd_natCast.2 (Nat.gcd_dvd_right _ _));exact(Int.dvd_add_left C).1 B
  have y:Nat.gcd T a ∣ n.natAbs*b:=by have:=Int.natAbs_dvd_natAbs.2 w;rwa[Int.natAbs_natCast,Int.natAbs_mul,Int.natAbs_natCast]at this
  have A:Nat.gcd (n.natAbs*b) a=1:=Nat.Coprime.mul_left c3 (Nat.Coprime.symm c1);have:=Nat.dvd_gcd y (Nat.gcd_dvd_right T a);rw[A]at this;exact Nat.dvd_one.1 this
 have R:Nat.gcd T b=1:=by
  have w:(((Nat.gcd T b:Nat)):Int) ∣ m*(a:Int):=by
   have B:(((Nat.gcd T b:Nat)):Int) ∣ n*(b:Int)+m*(a:Int):=by rw[<-Int.natAbs_dvd_natAbs,<-o,Int.natAbs_natCast];exact Nat.gcd_dvd_left _ _
   have C:(((Nat.gcd T b:Nat)):Int) ∣ n*(b:Int):=Int.dvd_mul_of_dvd_right (Int.natCast_dvd_natCast.2 (Nat.gcd_dvd_right _ _));exact(Int.dvd_add_right C).1 B
  have y:Nat.gcd T b ∣ m.natAbs*a:=by have:=Int.natAbs_dvd_natAbs.2 w;rwa[Int.natAbs_natCast,Int.natAbs_mul,Int.natAbs_natCast]at this
  have A:Nat.gcd (m.natAbs*a) b=1:=Nat.Coprime.mul_left t c1;have:=Nat.dvd_gcd y (Nat.gcd_dvd_right T b);rw[A]at this;exact Nat.dvd_one.1 this
 have J:x ∣ T:=⟨h,k2.symm⟩
 have K:0<a:=by
  rcases Nat.eq_zero_or_pos a with k|k
  ·rw[k]at d1;omega
  ·exact k
 have L:0<b:=by
  rcases Nat.eq_zero_or_pos b with k|k
  ·rw[k]at i;omega
  ·exact k
 have M:0<c:=by
  rcases Nat.eq_zero_or_pos c with k|k
  ·rw[k]at k1;omega
  ·exact k
 rw[U,X];refine Zna (Nat.mul_pos O E) (Nat.mul_pos K (Nat.mul_pos L M)) ?_ ?_ ?_
 ·exact Nat.Coprime.mul_right (Zb5 Q J (Nat.dvd_refl _)) (Nat.Coprime.mul_right (Zb5 R J (Nat.dvd_refl _)) c2)
 ·rw[r,Int.natAbs_mul,<-o,Int.natAbs_natCast];rw[<-k2,<-d1,<-i,<-k1]
  ac_rfl
 ·intro j;rw[r]at j⊢;have F:(0:Int)<(g:Int):=by omega
  have Y:n*(b:Int)+m*(a:Int)≠0:=by intro k;rw[k,Int.zero_mul]at j;exact j rfl
  rw[t2 Y];generalize n*(b:Int)+m*(a:Int)=z at *;by_cases l:z<0
  ·have:=Int.mul_neg_of_neg_of_pos l F;simp[l,this]
  ·have:=Int.mul_nonneg (show 0<=z by omega) (Int.le_of_lt F);simp[l];omega
theorem Valid.right {n:Int} {d:Nat} (v:Valid n d):Zaf n d=true:=by have:=v.pos;have:=v.n_le;exact decide_eq_true ⟨by omega,by omega,by rw[Int.natAbs_natCast];exact v.low⟩
theorem ZgH {n d:Int} (h:Zaf n d=true) (e:-9223372036854775808<=n) (f:n<=9223372036854775807) (g:d<=9223372036854775807):∃k:Nat,d=k/\Valid n k:=by obtain⟨a,b,c⟩:=of_decide_eq_true h;exact⟨d.toNat,by omega,⟨by omega,by omega,by omega,by rw[<-c];congr 1;omega⟩⟩
theorem ZbU {n:Int} {d:Nat} (v:Valid n d) (w:Yh):Calls Tryz.prog 34 #[Zb n d] w fun e w'=>e=.returned (.bool true)/\Below w.heap.size w w':=by have:=v.pos;have:=v.n_le;have:=v.d_le;have:=Zdv n d w (by omega) (by omega) (by omega) (by omega);rwa[v.right]at this
abbrev Zcx (P:Int) (Q:Nat):Value:=.tuple #[Zb (ZcI P Q) (ZcR P Q),Yd Yf (ZcH P Q)]
theorem Zkx {n m:Int} {d e:Nat} (v:Valid n d) (u:Valid m e) (w:Yh) :
  Calls Tryz.prog 42 #[Zb n d,Zb m e] w fun r w'=>r=.returned (Zcx (n*e+m*d) (d*e))/\Below w.heap.size w w':=by
 have k:=v.pos;have j:=v.n_le;have h:=v.d_le;have up:=u.pos;have i:=u.n_le;have g:=u.d_le;obtain⟨a,b,c⟩:=Zru v u rfl rfl rfl rfl rfl rfl;have f:Zba (decide (n<0)) (n.natAbs*(e / Nat.gcd d e)) (decide (m<0)) (m.natAbs*(d / Nat.gcd d e))<340282366920938463463374607431768211456:=by
  have l:e / Nat.gcd d e<=9223372036854775807:=Nat.le_trans (Nat.div_le_self _ _) g;have o:d / Nat.gcd d e<=9223372036854775807:=Nat.le_trans (Nat.div_le_self _ _) h;have p:n.natAbs*(e / Nat.gcd d e)<=9223372036854775807*9223372036854775807:=Nat.mul_le_mul j l;have s:m.natAbs*(d / Nat.gcd d e)<=9223372036854775807*9223372036854775807:=Nat.mul_le_mul i o;unfold Zba
  split
  ·omega
  ·split<;>omega
 have:=Zrt n m d e w (by omega) (by omega) (by omega) (by omega) k h up g _ _ _ _ _ _ rfl rfl rfl f rfl rfl rfl;rwa[a,b,c]at this
theorem ZgO {n m:Int} {d e:Nat} (v:Valid n d) (u:Valid m e) (w:Yh) :
  Calls Tryz.prog 41 #[Zb n d,Zb m e] w fun r w'=>r=.returned (Zcx (n*m) (d*e))/\Below w.heap.size w w':=by
 have h:=v.pos;have j:=v.n_le;have g:=v.d_le;have up:=u.pos;have i:=u.n_le;have f:=u.d_le;obtain⟨a,b,c⟩:=ZmB v u rfl rfl rfl rfl;have:=ZmA n m d e w (by omega) (by omega) (by omega) (by omega) h g up f _ _ rfl rfl _ _ rfl rfl;rwa[a,b,c]at this
theorem ZjN {n m:Int} {d e:Nat} (v:Valid n d) (u:Valid m e) (w:Yh) :
  Calls Tryz.prog 147 #[Zb n d,Zb m e] w fun r w'=>r=.returned (Zcx (n*e+m*d) (d*e))/\Below w.heap.size w w':=by
 have i:=fun w=>ZbU v w;have j:=fun w=>ZbU u w;have b:=fun w=>Zkx v u w;unfold Zcx at b⊢;generalize ZcI (n*e+m*d) (d*e)=c at *;generalize ZcR (n*e+m*d) (d*e)=f at *;generalize ZcH (n*e+m*d) (d*e)=g at *;clear v u;go_enter Tryz.func147,Tryz.ntmps147;go_upto_region 1 with fail;have B:=Boxes.start w n d m e 0 23
 go_wp2_with (first
  |(go_at_call 34;(first|with_reducible refine(i _).mono ?_|with_reducible refine(j _).mono ?_);rintro e k ⟨rfl,a⟩;have B:=B.keep a;have c0:=B.c0;have c1:=B.c1;have c2:=B.c2;have c3:=B.c3)
  |(go_at_call 42;go_fit (b _);rintro e k ⟨rfl,a⟩;have B:=B.keep a;have i0:=B.i0;have i1:=B.i1;have j0:=B.j0;have j1:=B.j1;have h:=Lib.hid B.below))
 exact bodyPost_ret (v:=.tuple #[Zb c f,Yd Yf g]) (by simp[results,Tryz.results147,go_sem,i0,i1]) rfl ⟨rfl,Zci h.out⟩
theorem below_alloc2 (w:Yh) (a b:Obj):Below w.heap.size w ((w.alloc a).alloc b):=((Below.refl _ _).alloc (Nat.le_refl _) _).alloc (by simp) _
theorem Zn (w:Yh):Below w.heap.size w w.drew:=(Below.refl _ _).drew
theorem ZgM (n d:Int) (w:Yh) (a:-9223372036854775807<=n) (b:n<=9223372036854775807) :
  Calls Tryz.prog 43 #[Zb n d] w fun e w'=>e=.returned (Zb (-n) d)/\Below w.heap.size w w':=
 (Zfz n d w a b).mono fun _ _ ⟨he,c⟩=>⟨he,by rw[c];exact below_alloc2 _ _ _⟩
theorem Zhi {n m:Int} {d e:Nat} (v:Valid n d) (u:Valid m e) (w:Yh) :
  Calls Tryz.prog 26 #[Zb n d,Zb m e] w fun r w'=>r=.returned (Zcx (n*m) (d*e))/\Below w.heap.size w w':=by
 have i:=fun w=>ZbU v w;have j:=fun w=>ZbU u w;have b:=fun w=>ZgO v u w;unfold Zcx at b⊢;generalize ZcI (n*m) (d*e)=c at *;generalize ZcR (n*m) (d*e)=f at *;generalize ZcH (n*m) (d*e)=g at *;clear v u;go_enter Tryz.func26,Tryz.ntmps26;go_upto_region 1 with fail;have B:=Boxes.start w n d m e 0 23
 go_wp2_with (first
  |(go_at_call 34;(first|with_reducible refine(i _).mono ?_|with_reducible refine(j _).mono ?_);rintro e k ⟨rfl,a⟩;have B:=B.keep a;have c0:=B.c0;have c1:=B.c1;have c2:=B.c2;have c3:=B.c3)
  |(go_at_call 41;go_fit (b _);rintro e k ⟨rfl,a⟩;have B:=B.keep a;have i0:=B.i0;have i1:=B.i1;have j0:=B.j0;have j1:=B.j1;have h:=Lib.hid B.below))
 exact bodyPost_ret (v:=.tuple #[Zb c f,Yd Yf g]) (by simp[results,Tryz.results26,go_sem,i0,i1]) rfl ⟨rfl,Zci h.out⟩
structure RatAt (w1:Yh) (b:Nat) (n d:Int):Prop where
 k0:w1.cell? ⟨b,0,Yb⟩=Ya (Yd Yf n)
 k1:w1.cell? ⟨b,1,Yb⟩=Ya (Yd Yf d)
 lt:b<w1.heap.size
theorem RatAt.start (w:Yh) (n d:Int) (ty:TypeId):RatAt (w.alloc (Yg #[Yd Yf n,Yd Yf d] ty)) w.heap.size n d where
 k0:=by go_simp
 k1:=by go_simp
 lt:=by simp
theorem RatAt.keep {c e:Yh} {b:Nat} {n d:Int} (h:RatAt c b n d) (a:Below c.heap.size c e):RatAt e b n d:=
 have z:=a.size;have l:=h.lt
 {k0:=Zd a l h.k0,k1:=Zd a l h.k1,lt:=by omega }
theorem half:Valid 1 2:=⟨by decide,by decide,by decide,by decide⟩
theorem ZkX:Valid 1 3:=⟨by decide,by decide,by decide,by decide⟩
theorem big:Valid 4611686018427387904 1:=⟨by decide,by decide,by decide,by decide⟩
theorem two:Valid 2 1:=⟨by decide,by decide,by decide,by decide⟩
theorem Zcy {w i j:Yh} {n d m e:Value} (l:Below i.heap.size i j)
  (h:(i.cell? ⟨w.heap.size,0,Yb⟩=Ya n/\i.cell? ⟨w.heap.size,1,Yb⟩=Ya d/\i.cell? ⟨w.heap.size+1,0,Yb⟩=Ya m/\i.cell? ⟨w.heap.size+1,1,Yb⟩=Ya e)/\w.heap.size+1<i.heap.size/\Below w.heap.size w i) :
  (j.cell? ⟨w.heap.size,0,Yb⟩=Ya n/\j.cell? ⟨w.heap.size,1,Yb⟩=Ya d/\j.cell? ⟨w.heap.size+1,0,Yb⟩=Ya m/\j.cell? ⟨w.heap.size+1,1,Yb⟩=Ya e)/\w.heap.size+1<j.heap.size/\Below w.heap.size w j:=by
 obtain⟨⟨a,b,c,f⟩,g,k⟩:=h;have o:=l.size;exact⟨⟨Zd l (by omega) a,Zd l (by omega) b,Zd l (by omega) c,Zd l (by omega) f⟩,by omega,k.trans (l.mono (by omega))⟩
theorem Zjd (w:Yh) (n d m e:Int) (ty:TypeId) :
  (((w.alloc (Yg #[Yd Yf n,Yd Yf d] ty)).alloc (Yg #[Yd Yf m,Yd Yf e] ty)).cell? ⟨w.heap.size,0,Yb⟩=Ya (Yd Yf n)/\((w.alloc (Yg #[Yd Yf n,Yd Yf d] ty)).alloc (Yg #[Yd Yf m,Yd Yf e] ty)).cell? ⟨w.heap.size,1,Yb⟩=Ya (Yd Yf d)/\((w.alloc (Yg #[Yd Yf n,Yd Yf d] ty)).alloc (Yg #[Yd Yf m,Yd Yf e] ty)).cell? ⟨w.heap.size+1,0,Yb⟩=Ya (Yd Yf m)/\((w.alloc (Yg #[Yd Yf n,Yd Yf d] ty)).alloc (Yg #[Yd Yf m,Yd Yf e] ty)).cell? ⟨w.heap.size+1,1,Yb⟩=Ya (Yd Yf e))/\w.heap.size+1<((w.alloc (Yg #[Yd Yf n,Yd Yf d] ty)).alloc (Yg #[Yd Yf m,Yd Yf e] ty)).heap.size/\Below w.heap.size w ((w.alloc (Yg #[Yd Yf n,Yd Yf d] ty)).alloc (Yg #[Yd Yf m,Yd Yf e] ty)):=
 ⟨⟨by go_simp,by go_simp,by go_simp,by go_simp⟩,by simp,below_alloc2 _ _ _⟩
theorem ZkG {w a:Yh} {A B:Prop} (h:A/\B/\Below w.heap.size w a):Below w.heap.size w a:=h.2.2
theorem ZnD (s:Bool) (T:Nat) (w:Yh):(Instr.field 91 (ZbJ s T) 0).run Tryz.prog w=.ok (.bool s) w:=by kernel_rfl
def ZbY (n m:Int) (d e:Nat):Int:=if n*e<m*d then -1 else if n*e=m*d then 0 else 1
theorem ZpZ {n m:Int} {d e:Nat} (v:Valid n d) (u:Valid m e) (h:¬(n=m/\d=e)) :
  ZbI (decide (n<0)) (n.natAbs*(e / 1)) (decide (-m<0)) ((-m).natAbs*(d / 1))=decide (n*e<m*d)/\n*(e:Int)≠m*(d:Int):=by
 have a:n*(e:Int)≠m*(d:Int):=fun k=>h (v.unique u k);refine⟨?_,a⟩;have:=(Zeb n (-m) (e / 1) (d / 1)).2;rw[Nat.div_one,Nat.div_one]at *;rw[this (by rw[Int.neg_mul];omega)]
 congr 1
 rw[Int.neg_mul];apply propext;omega
theorem Zep {n m:Int} {d e:Nat} (v:Valid n d) (u:Valid m e) (w:Yh) :
  Calls Tryz.prog 40 #[Zb n d,Zb m e] w fun r w'=>r=.returned (Yd Yf (ZbY n m d e))/\Below w.heap.size w w':=by
 by_cases h:n=m/\d=e
 ·obtain⟨rfl,rfl⟩:=h;have hc:ZbY n n d d=0:=by unfold ZbY;simp
  rw[hc];clear hc v u;go_enter Tryz.func40,Tryz.ntmps40;go_wp2_with fail;go_ret;exact⟨rfl,below_alloc2 _ _ _⟩
 ·have p:=fun w=>ZbU v w;have t:=fun w=>ZbU u w;have x:=u.n_le;have i:=u.d_le;have y:=v.n_le;have j:=v.d_le;have o:=fun w=>ZgM m e w (by omega) (by omega);have a:=fun w=>ZiP n (-m) d e 1 w (by omega) (by omega) (by omega) (by omega) j i (by omega) (by omega);obtain⟨g,f⟩:=ZpZ v u h;rw[g]at a;simp only[Int.natCast_one]at a;generalize Zba (decide (n<0)) (n.natAbs*(e / 1)) (decide (-m<0)) ((-m).natAbs*(d / 1))=T at *;have hc:ZbY n m d e=if decide (n*(e:Int)<m*(d:Int))=true then -1 else 1:=by
   unfold ZbY;by_cases l:n*(e:Int)<m*(d:Int)
   ·simp[l]
   ·simp[l,f]
  rw[hc];generalize decide (n*(e:Int)<m*(d:Int))=s at *;have b:(n==m)=false\/(n==m)=true/\((d:Int)==(e:Int))=false:=by
   by_cases k:n=m
   ·right;exact⟨by simpa using k,by simp;intro l;exact h ⟨k,by omega⟩⟩
   ·left;simpa using k
  have z:=fun w'=>ZnD s T w';clear v u x i y j hc f h g;have B:=Zjd w n d m e 23;rcases b with b|⟨b,A⟩
  all_goals
   cases s
   all_goals
    simp only[Bool.false_eq_true,if_false,if_true];go_enter Tryz.func40,Tryz.ntmps40;go_upto_region 3 with(go_at_call 34;(first|with_reducible refine(p _).mono ?_|with_reducible refine(t _).mono ?_);rintro e C ⟨rfl,c⟩;have B:=Zcy c B;obtain⟨⟨c0,c1,c2,c3⟩,_⟩:=id B)
    go_region_held3 (fun w'=>(w'.cell? ⟨w.heap.size,0,Yb⟩=Ya (Yd Yf n)/\w'.cell? ⟨w.heap.size,1,Yb⟩=Ya (Yd Yf d)/\w'.cell? ⟨w.heap.size+1,0,Yb⟩=Ya (Yd Yf m)/\w'.cell? ⟨w.heap.size+1,1,Yb⟩=Ya (Yd Yf e))/\w.heap.size+1<w'.heap.size/\Below w.heap.size w w')
     (first
      |with_reducible assumption
      |with_reducible exact Zcy (by with_reducible assumption) (by with_reducible assumption)
      |exact Zcy (Zn _) B)
     (first
      |(go_at_call 43;go_fit (o _);rintro e w' ⟨rfl,c⟩)
      |(go_at_call 60;go_fit (a _);rintro e w' ⟨rfl,c⟩))
    go_wp2_with fail;go_ret;exact⟨rfl,ZkG (by with_reducible assumption)⟩
end Go.Proofs.YtbfnnolakggbfaaGreatDoor
