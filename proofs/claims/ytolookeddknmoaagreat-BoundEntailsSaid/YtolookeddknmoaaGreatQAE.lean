import Derived.Test.YtolookeddknmoaaGreatQAD
set_option maxRecDepth 100000
set_option maxHeartbeats 8000000
namespace Go.Proofs.YtolookeddknmoaaGreat
section
open Go.RowKit
structure Boxes (w w1:World) (n d m e:Int):Prop where
 c0:w1.cell? ⟨w.heap.size,0,none⟩=some (.int .i64 n)
 c1:w1.cell? ⟨w.heap.size,1,none⟩=some (.int .i64 d)
 c2:w1.cell? ⟨w.heap.size+1,0,none⟩=some (.int .i64 m)
 c3:w1.cell? ⟨w.heap.size+1,1,none⟩=some (.int .i64 e)
 i0:w1.cell? ⟨w.heap.size+1+1,0,none⟩=some (.int .i64 0)
 i1:w1.cell? ⟨w.heap.size+1+1,1,none⟩=some (.int .i64 0)
 j0:w1.frozen? ⟨w.heap.size+1+1,0,none⟩=false
 j1:w1.frozen? ⟨w.heap.size+1+1,1,none⟩=false
 size:w.heap.size+2<w1.heap.size
 below:Below w.heap.size w w1
theorem Boxes.start (w:World) (n d m e:Int) (k:Nat) (ty:TypeId):Boxes w ((((w.alloc (.cells #[.int .i64 n,.int .i64 d] ty)).alloc (.cells #[.int .i64 m,.int .i64 e] ty)).alloc (.cells #[.int .i64 0,.int .i64 0] ty)).drewN k) n d m e where
 c0:=by go_simp
 c1:=by go_simp
 c2:=by go_simp
 c3:=by go_simp
 i0:=by go_simp
 i1:=by go_simp
 j0:=by go_simp
 j1:=by go_simp
 size:=by simp
 below:=Zdv _ _ _ _ _
theorem Boxes.keep {w w1 w2:World} {n d m e:Int} (h:Boxes w w1 n d m e) (hb:Below w1.heap.size w1 w2):Boxes w w2 n d m e:=
 have s:=h.size
 have z:=hb.size
 {c0:=Zf hb (by omega) h.c0,c1:=Zf hb (by omega) h.c1,c2:=Zf hb (by omega) h.c2,c3:=Zf hb (by omega) h.c3
  i0:=Zf hb (by omega) h.i0,i1:=Zf hb (by omega) h.i1,j0:=Zu hb (by omega) h.j0,j1:=Zu hb (by omega) h.j1
  size:=by omega,below:=h.below.trans (hb.mono (by omega)) }
theorem Za (w:World) (a:Obj):Below w.heap.size w (w.alloc a):=(Below.refl _ _).alloc (Nat.le_refl _) _
structure WideAt (w1:World) (b:Nat) (s:Bool) (m:Nat):Prop where
 k0:w1.cell? ⟨b,0,none⟩=some (.bool s)
 k1:w1.cell? ⟨b,1,none⟩=some (.int .u64 (up m:Nat))
 k2:w1.cell? ⟨b,2,none⟩=some (.int .u64 (lw m:Nat))
 lt:b<w1.heap.size
theorem WideAt.start (w:World) (s:Bool) (m:Nat) (ty:TypeId):WideAt (w.alloc (.cells #[.bool s,.int .u64 (up m:Nat),.int .u64 (lw m:Nat)] ty)) w.heap.size s m where
 k0:=by go_simp
 k1:=by go_simp
 k2:=by go_simp
 lt:=by simp
theorem WideAt.keep {w1 w2:World} {b m:Nat} {s:Bool} (h:WideAt w1 b s m) (hb:Below w1.heap.size w1 w2):WideAt w2 b s m:=
 have z:=hb.size
 have l:=h.lt
 {k0:=Zf hb l h.k0,k1:=Zf hb l h.k1,k2:=Zf hb l h.k2,lt:=by omega }
theorem Zqz (n m:Int) (d e:Nat) (w:World) (hn1:-9223372036854775807<=n) (hn2:n<=9223372036854775807) (hm1:-9223372036854775807<=m) (hm2:m<=9223372036854775807)
  (hd0:0<d) (hd:d<=9223372036854775807) (he0:0<e) (he:e<=9223372036854775807) (g h T N D:Nat) (s:Bool) (hg:g=Nat.gcd d e)
  (hs:s=ZbH (decide (n<0)) (n.natAbs*(e / g)) (decide (m<0)) (m.natAbs*(d / g))) (hT:T=Zbh (decide (n<0)) (n.natAbs*(e / g)) (decide (m<0)) (m.natAbs*(d / g)))
  (hT2:T<340282366920938463463374607431768211456) (hh:h=Nat.gcd g (T % g)) (hN:N=T / h) (hD:D=d / g*(e / h)) :
  Calls Tryz.prog 92 #[Ze n d,Ze m e] w fun r w'=>r=.returned (.tuple #[Ze (ZbG s N D) (ZbU N D),.int .i64 (ZbP N D)])/\Below w.heap.size w w':=by
 have hgp:0<g:=by rw [hg];exact Nat.gcd_pos_of_pos_right _ he0
 have hhp:0<h:=by rw [hh];exact Nat.gcd_pos_of_pos_left _ hgp
 have hgl:g<=9223372036854775807:=by rw [hg];exact Nat.le_trans (Nat.gcd_le_left _ hd0) hd
 have hhl:h<=9223372036854775807:=by rw [hh];exact Nat.le_trans (Nat.gcd_le_left _ hgp) hgl
 have s3:=fun w=>ZdY d w hd
 have s4:=fun w=>ZdY e w he
 have g1:=fun w=>Zdd d e w (by omega) (by omega)
 rw [<- hg] at g1
 have ac:=fun w=>ZiA n m d e g w hn1 hn2 hm1 hm2 hd he hgp (by omega)
 rw [<- hs,<- hT] at ac
 have re:=fun w=>ZpM s T g w hT2 hgp (by omega)
 have rl:T % g<18446744073709551616:=by have:=Nat.mod_lt T hgp;omega
 have g2:=fun w=>Zdd g (T % g) w (by omega) rl
 rw [<- hh] at g2
 have ov:=fun w=>ZpI s T h w hhp (by omega)
 obtain ⟨q,hq⟩:∃ q,q=Znk T h:=⟨_,rfl⟩
 obtain ⟨ok,hok⟩:∃ ok,ok=Zks T h:=⟨_,rfl⟩
 rw [<- hq,<- hok] at ov
 unfold Znk at hq
 unfold Zks at hok
 rw [<- hN] at hq hok
 have q3:=Zbo d g (by omega)
 have q4:=Zbo e h (by omega)
 have l3:d / g<=9223372036854775807:=Nat.le_trans (Nat.div_le_self _ _) hd
 have l4:e / h<=9223372036854775807:=Nat.le_trans (Nat.div_le_self _ _) he
 have m2:=fun w=>ZiM (d / g) (e / h) w (by omega) (by omega)
 rw [<- hD] at m2
 obtain ⟨r,hr⟩:∃ r,r=T % g:=⟨_,rfl⟩
 obtain ⟨x3,hx3⟩:∃ x3,x3=d / g:=⟨_,rfl⟩
 obtain ⟨x4,hx4⟩:∃ x4,x4=e / h:=⟨_,rfl⟩
 rw [<- hr] at re g2
 rw [<- hx3] at q3 m2
 rw [<- hx4] at q4 m2
 have hg0:¬ g=0:=by omega
 have hh0:¬ h=0:=by omega
 have hgi:(0:Int)<(g:Int):=by omega
 have hhi:(0:Int)<(h:Int):=by omega
 clear l3 l4 hx3 hx4 hN hD hg hs hT hT2 rl hr hh hgp hhp hgl hhl hn1 hn2 hm1 hm2 hd he hd0 he0
 by_cases a:N<18446744073709551616
 ·rw [if_pos a] at hq
  rw [decide_eq_true a] at hok
  by_cases b:up D=0
  ·obtain ⟨_,b2⟩:=Zjp b
   have fo:=fun w=>Zmz s N (lw D) w a (Ze3 D)
   rw [b2] at fo m2
   rw [b] at m2
   subst hq hok
   obtain ⟨F1,hF1⟩:∃ F1,F1=ZbG s q D:=⟨_,rfl⟩
   obtain ⟨F2,hF2⟩:∃ F2,F2=ZbU q D:=⟨_,rfl⟩
   obtain ⟨F3,hF3⟩:∃ F3,F3=ZbP q D:=⟨_,rfl⟩
   rw [<- hF1,<- hF2,<- hF3] at fo ⊢
   clear a b b2 hF1 hF2 hF3
   simp only [Int.natCast_zero] at m2
   go_enter Tryz.func92,Tryz.ntmps92
   go_wp2_with fail
   go_quiet ((first
    | (go_at_call 74;first | (with_reducible exact Zai (s3 _)) | (with_reducible exact Zai (s4 _)))
    | (go_at_call 73;with_reducible exact Calls.quiet_of (g1 _))))
   go_upto_region 3 with (go_at_call 113;(with_reducible refine (ac _).mono ?_);rintro e w1 ⟨rfl,hb⟩)
   have B1:=Lib.hid ((Boxes.start w n d m e _ 25).keep hb)
   clear hb
   go_upto_region 4 with (first
    | (go_at_call 114;(with_reducible refine (re _).mono ?_);rintro e w2 ⟨rfl,hb⟩)
    | (go_at_call 73;(with_reducible refine (g2 _).mono ?_);rintro e w' ⟨rfl,nd,rfl⟩))
   have B2:=Lib.hid ((B1.out.keep (Za _ _)).keep hb)
   have V2:=(WideAt.start w1 s T 150).keep hb
   have v0:=V2.k0
   have v1:=V2.k1
   have v2:=V2.k2
   have W2:=Lib.hid V2
   clear hb V2 B1
   go_upto_region 5 with (go_at_call 115;(with_reducible refine (ov _).mono ?_);rintro e w3 ⟨rfl,hb⟩)
   have B3:=Lib.hid (B2.out.keep ((below_drewN (Below.refl _ _) _).trans hb))
   have V3:=W2.out.keep ((below_drewN (Below.refl _ _) _).trans hb)
   clear v0 v1 v2 hb B2 W2
   have v0:=V3.k0
   have b0:=B3.out.c1
   have b1:=B3.out.c3
   clear V3
   go_quiet ((first
    | (go_at_call 74;first | (with_reducible exact Zai (s3 _)) | (with_reducible exact Zai (s4 _)))
    | (go_at_call 100;with_reducible exact Zai (m2 _))))
   go_wp2_with (go_at_call 101;(with_reducible refine (fo _).mono ?_);rintro e w4 ⟨rfl,hb⟩;have B4:=B3.out.keep ((below_drewN (Below.refl _ _) _).trans hb);have i0:=B4.i0;have i1:=B4.i1;have j0:=B4.j0;have j1:=B4.j1;have HB:=Lib.hid B4.below;clear B4 B3 v0 b0 b1 hb)
   exact bodyPost_ret (v:=.tuple #[Ze F1 F2,.int .i64 F3]) (by simp [results,Tryz.results92,go_sem,i0,i1]) rfl ⟨rfl,Zci HB.out⟩
  ·have nb:=ZlC b
   have E1:ZbP N D=3:=by unfold ZbP;rw [if_neg (by omega)]
   have E2:ZbU N D=0:=by unfold ZbU;rw [if_neg (by omega)]
   have E3:ZbG s N D=0:=by unfold ZbG;rw [if_neg (by omega)]
   rw [E1,E2,E3]
   subst hq hok
   obtain ⟨U,hU⟩:∃ U,U=up D:=⟨_,rfl⟩
   rw [<- hU] at m2 b
   have b2:((U:Int)==0)=false:=by simp;omega
   have b3:((U:Int) != 0)=true:=by simp;omega
   clear a b nb E1 E2 E3 hU
   go_enter Tryz.func92,Tryz.ntmps92
   go_wp2_with fail
   go_quiet ((first
    | (go_at_call 74;first | (with_reducible exact Zai (s3 _)) | (with_reducible exact Zai (s4 _)))
    | (go_at_call 73;with_reducible exact Calls.quiet_of (g1 _))))
   go_upto_region 3 with (go_at_call 113;(with_reducible refine (ac _).mono ?_);rintro e w1 ⟨rfl,hb⟩)
   have B1:=Lib.hid ((Boxes.start w n d m e _ 25).keep hb)
   clear hb
   go_upto_region 4 with (first
    | (go_at_call 114;(with_reducible refine (re _).mono ?_);rintro e w2 ⟨rfl,hb⟩)
    | (go_at_call 73;(with_reducible refine (g2 _).mono ?_);rintro e w' ⟨rfl,nd,rfl⟩))
   have B2:=Lib.hid ((B1.out.keep (Za _ _)).keep hb)
   have V2:=(WideAt.start w1 s T 150).keep hb
   have v0:=V2.k0
   have v1:=V2.k1
   have v2:=V2.k2
   have W2:=Lib.hid V2
   clear hb V2 B1
   go_upto_region 5 with (go_at_call 115;(with_reducible refine (ov _).mono ?_);rintro e w3 ⟨rfl,hb⟩)
   have B3:=Lib.hid (B2.out.keep ((below_drewN (Below.refl _ _) _).trans hb))
   have V3:=W2.out.keep ((below_drewN (Below.refl _ _) _).trans hb)
   clear v0 v1 v2 hb B2 W2
   have v0:=V3.k0
   have b0:=B3.out.c1
   have b1:=B3.out.c3
   clear V3
   go_quiet ((first
    | (go_at_call 74;first | (with_reducible exact Zai (s3 _)) | (with_reducible exact Zai (s4 _)))
    | (go_at_call 100;with_reducible exact Zai (m2 _))))
   have i0:=B3.out.i0
   have i1:=B3.out.i1
   have j0:=B3.out.j0
   have j1:=B3.out.j1
   clear v0 b0 b1
   go_wp2_with fail
   exact bodyPost_ret (v:=.tuple #[Ze 0 0,.int .i64 3]) (by simp [results,Tryz.results92,go_sem,i0,i1]) rfl ⟨rfl,Zci (below_drewN B3.out.below _)⟩
 ·have E1:ZbP N D=3:=by unfold ZbP;rw [if_neg (by omega)]
  have E2:ZbU N D=0:=by unfold ZbU;rw [if_neg (by omega)]
  have E3:ZbG s N D=0:=by unfold ZbG;rw [if_neg (by omega)]
  rw [E1,E2,E3]
  rw [if_neg a] at hq
  rw [decide_eq_false a] at hok
  subst hq hok
  clear a E1 E2 E3
  simp only [Int.natCast_zero] at ov
  go_enter Tryz.func92,Tryz.ntmps92
  go_wp2_with fail
  go_quiet ((first
   | (go_at_call 74;first | (with_reducible exact Zai (s3 _)) | (with_reducible exact Zai (s4 _)))
   | (go_at_call 73;with_reducible exact Calls.quiet_of (g1 _))))
  go_upto_region 3 with (go_at_call 113;(with_reducible refine (ac _).mono ?_);rintro e w1 ⟨rfl,hb⟩)
  have B1:=Lib.hid ((Boxes.start w n d m e _ 25).keep hb)
  clear hb
  go_upto_region 4 with (first
   | (go_at_call 114;(with_reducible refine (re _).mono ?_);rintro e w2 ⟨rfl,hb⟩)
   | (go_at_call 73;(with_reducible refine (g2 _).mono ?_);rintro e w' ⟨rfl,nd,rfl⟩))
  have B2:=Lib.hid ((B1.out.keep (Za _ _)).keep hb)
  have V2:=(WideAt.start w1 s T 150).keep hb
  have v0:=V2.k0
  have v1:=V2.k1
  have v2:=V2.k2
  have W2:=Lib.hid V2
  clear hb V2 B1
  go_upto_region 5 with (go_at_call 115;(with_reducible refine (ov _).mono ?_);rintro e w3 ⟨rfl,hb⟩)
  have B3:=Lib.hid (B2.out.keep ((below_drewN (Below.refl _ _) _).trans hb))
  have V3:=W2.out.keep ((below_drewN (Below.refl _ _) _).trans hb)
  clear v0 v1 v2 hb B2 W2
  have v0:=V3.k0
  have b0:=B3.out.c1
  have b1:=B3.out.c3
  clear V3
  go_quiet ((first
   | (go_at_call 74;first | (with_reducible exact Zai (s3 _)) | (with_reducible exact Zai (s4 _)))
   | (go_at_call 100;with_reducible exact Zai (m2 _))))
  have i0:=B3.out.i0
  have i1:=B3.out.i1
  have j0:=B3.out.j0
  have j1:=B3.out.j1
  clear v0 b0 b1
  go_wp2_with fail
  exact bodyPost_ret (v:=.tuple #[Ze 0 0,.int .i64 3]) (by simp [results,Tryz.results92,go_sem,i0,i1]) rfl ⟨rfl,Zci (below_drewN B3.out.below _)⟩
end
section
structure Valid (n:Int) (d:Nat):Prop where
 pos:0<d
 d_le:d<=9223372036854775807
 n_le:n.natAbs<=9223372036854775807
 low:Nat.gcd n.natAbs d=1
def ZcK (P:Int) (Q:Nat):Int:=ZbG (decide (P<0)) (P.natAbs / Nat.gcd P.natAbs Q) (Q / Nat.gcd P.natAbs Q)
def ZcP (P:Int) (Q:Nat):Int:=ZbU (P.natAbs / Nat.gcd P.natAbs Q) (Q / Nat.gcd P.natAbs Q)
def ZcJ (P:Int) (Q:Nat):Int:=ZbP (P.natAbs / Nat.gcd P.natAbs Q) (Q / Nat.gcd P.natAbs Q)
theorem ZfD (P:Int):P=(if decide (P<0)=true then -(P.natAbs:Int) else (P.natAbs:Int)):=by
 by_cases h:P<0
 ·simp [h];omega
 ·simp [h];omega
theorem Valid.unique {n m:Int} {d e:Nat} (h:Valid n d) (k:Valid m e) (he:n*(e:Int)=m*(d:Int)):n=m/\d=e:=by
 have ha:n.natAbs*e=m.natAbs*d:=by
  have:=congrArg Int.natAbs he
  simpa [Int.natAbs_mul] using this
 have d1:d ∣ e:=by
  have:d ∣ n.natAbs*e:=⟨m.natAbs,by rw [ha,Nat.mul_comm]⟩
  exact (Nat.Coprime.dvd_of_dvd_mul_left (Nat.Coprime.symm h.low) this)
 have d2:e ∣ d:=by
  have:e ∣ m.natAbs*d:=⟨n.natAbs,by rw [<- ha,Nat.mul_comm]⟩
  exact (Nat.Coprime.dvd_of_dvd_mul_left (Nat.Coprime.symm k.low) this)
 have de:d=e:=Nat.dvd_antisymm d1 d2
 subst de
 have hp:=h.pos
 exact ⟨Int.eq_of_mul_eq_mul_right (by omega) he,rfl⟩
theorem Zq4 (P:Int) (Q:Nat) (hQ:0<Q):Nat.gcd (P.natAbs / Nat.gcd P.natAbs Q) (Q / Nat.gcd P.natAbs Q)=1/\0<Q / Nat.gcd P.natAbs Q:=by
 have hg:0<Nat.gcd P.natAbs Q:=Nat.gcd_pos_of_pos_right _ hQ
 exact ⟨Nat.coprime_div_gcd_div_gcd hg,Nat.div_pos (Nat.le_of_dvd hQ (Nat.gcd_dvd_right _ _)) hg⟩
theorem ZmM {p q x y:Nat} (hq:0<q) (hy:0<y) (hxy:Nat.gcd x y=1) (h:x*q=p*y):p / Nat.gcd p q=x/\q / Nat.gcd p q=y:=by
 have g1:=Nat.div_mul_cancel (Nat.gcd_dvd_left p q)
 have g2:=Nat.div_mul_cancel (Nat.gcd_dvd_right p q)
 have hg:0<Nat.gcd p q:=Nat.gcd_pos_of_pos_right _ hq
 have l1:Nat.gcd (p / Nat.gcd p q) (q / Nat.gcd p q)=1:=Nat.coprime_div_gcd_div_gcd hg
 revert l1 g1 g2 hg
 generalize p / Nat.gcd p q=a
 generalize q / Nat.gcd p q=b
 generalize Nat.gcd p q=g
 intro g1 g2 hg l1
 have c:x*b=a*y:=by
  rw [<- g1,<- g2] at h
  have:x*b*g=a*y*g:=by rw [Nat.mul_assoc,h,Nat.mul_right_comm]
  exact Nat.eq_of_mul_eq_mul_right hg this
 have d1:y ∣ b:=Nat.Coprime.dvd_of_dvd_mul_left (Nat.Coprime.symm hxy) ⟨a,by rw [c,Nat.mul_comm]⟩
 have d2:b ∣ y:=Nat.Coprime.dvd_of_dvd_mul_left (Nat.Coprime.symm l1) ⟨x,by rw [<- c,Nat.mul_comm]⟩
 have de:b=y:=Nat.dvd_antisymm d2 d1
 subst de
 exact ⟨(Nat.eq_of_mul_eq_mul_right hy c).symm,rfl⟩
theorem ZoA {P:Int} {Q:Nat} (hQ:0<Q) (h:ZcJ P Q=0):∃ d:Nat,ZcP P Q=d/\Valid (ZcK P Q) d/\ZcK P Q*(Q:Int)=P*(d:Int):=by
 obtain ⟨l1,l2⟩:=Zq4 P Q hQ
 have g1:=Nat.div_mul_cancel (Nat.gcd_dvd_left P.natAbs Q)
 have g2:=Nat.div_mul_cancel (Nat.gcd_dvd_right P.natAbs Q)
 unfold ZcJ ZbP at h
 unfold ZcK ZcP ZbG ZbU
 generalize P.natAbs / Nat.gcd P.natAbs Q=x at *
 generalize Q / Nat.gcd P.natAbs Q=y at *
 generalize Nat.gcd P.natAbs Q=g at *
 by_cases c:x<=9223372036854775807/\y<=9223372036854775807
 ·rw [if_pos c,if_pos c]
  refine ⟨y,rfl,⟨l2,c.2,?_,?_⟩,?_⟩
  ·split<;>omega
  ·have:(if decide (P<0)=true then -(x:Int) else (x:Int)).natAbs=x:=by split<;>omega
   rw [this];exact l1
  ·have hP:=ZfD P
   rw [<- g1,<- g2] at *
   by_cases s:P<0
   ·simp only [s,decide_true,if_true] at hP ⊢
    rw [hP];push_cast;rw [Int.neg_mul,Int.neg_mul,Int.mul_assoc,Int.mul_comm (y:Int)]
   ·simp only [s,decide_false,Bool.false_eq_true,if_false] at hP ⊢
    rw [hP];push_cast;rw [Int.mul_assoc,Int.mul_comm (y:Int)]
 ·rw [if_neg c] at h
  exact absurd h (by decide)
theorem Zli {P n:Int} {Q d:Nat} (hQ:0<Q) (v:Valid n d) (h:n*(Q:Int)=P*(d:Int)):ZcJ P Q=0/\ZcK P Q=n/\ZcP P Q=d:=by
 have hd:=v.pos
 have ha:n.natAbs*Q=P.natAbs*d:=by
  have:=congrArg Int.natAbs h
  simpa [Int.natAbs_mul] using this
 have hsg:decide (P<0)=decide (n<0):=by
  have q0:(0:Int)<(Q:Int):=by omega
  have d0:(0:Int)<(d:Int):=by omega
  by_cases s:P<0
  ·have:P*(d:Int)<0:=Int.mul_neg_of_neg_of_pos s d0
   rw [<- h] at this
   have:n<0:=by
    rcases Int.lt_or_le n 0 with g | g
    ·exact g
    ·have:=Int.mul_nonneg g (Int.le_of_lt q0);omega
   simp [s,this]
  ·have:0<=P*(d:Int):=Int.mul_nonneg (by omega) (Int.le_of_lt d0)
   rw [<- h] at this
   have:¬ n<0:=by
    intro g
    have:=Int.mul_neg_of_neg_of_pos g q0
    omega
   simp [s,this]
 have key:=ZmM hQ hd v.low ha
 unfold ZcJ ZcK ZcP ZbP ZbG ZbU
 have c:n.natAbs<=9223372036854775807/\d<=9223372036854775807:=⟨v.n_le,v.d_le⟩
 rw [key.1,key.2,hsg]
 simp only [if_pos c]
 exact ⟨trivial,(ZfD n).symm,trivial⟩
theorem Zq8 {P:Int} {Q:Nat} (h:ZcJ P Q≠0):ZcJ P Q=3/\ZcK P Q=0/\ZcP P Q=0:=by
 unfold ZcJ ZbP at h
 unfold ZcJ ZcK ZcP ZbP ZbG ZbU
 by_cases c:P.natAbs / Nat.gcd P.natAbs Q<=9223372036854775807/\Q / Nat.gcd P.natAbs Q<=9223372036854775807
 ·rw [if_pos c] at h;exact absurd rfl h
 ·rw [if_neg c,if_neg c,if_neg c];exact ⟨rfl,rfl,rfl⟩
theorem ZmA {P:Int} {Q x y:Nat} {s:Bool} (hq:0<Q) (hy:0<y) (hxy:Nat.gcd x y=1) (h:x*Q=P.natAbs*y) (hs:P≠0->s=decide (P<0)) :
  ZbG s x y=ZcK P Q/\ZbU x y=ZcP P Q/\ZbP x y=ZcJ P Q:=by
 obtain ⟨k1,k2⟩:=ZmM hq hy hxy h
 unfold ZcK ZcP ZcJ
 rw [k1,k2]
 refine ⟨?_,rfl,rfl⟩
 by_cases hp:P=0
 ·have hx:x=0:=by
   rw [hp,Int.natAbs_zero,Nat.zero_mul] at h
   rcases Nat.mul_eq_zero.1 h with h | h<;>omega
  subst hx
  unfold ZbG
  simp
 ·rw [hs hp]
theorem Zb2 {a b c d:Nat} (h:Nat.gcd a b=1) (hc:c ∣ a) (hd:d ∣ b):Nat.gcd c d=1:=
 Nat.Coprime.coprime_dvd_left hc (Nat.Coprime.symm (Nat.Coprime.coprime_dvd_left hd (Nat.Coprime.symm h)))
theorem Zl5 {n m:Int} {d e g h N D:Nat} (v:Valid n d) (u:Valid m e) (hg:g=Nat.gcd n.natAbs e) (hh:h=Nat.gcd m.natAbs d)
  (hN:N=n.natAbs / g*(m.natAbs / h)) (hD:D=d / h*(e / g)) :
  ZbG (!(decide (n<0)==decide (m<0))) N D=ZcK (n*m) (d*e)/\ZbU N D=ZcP (n*m) (d*e)/\ZbP N D=ZcJ (n*m) (d*e):=by
 have gp:0<g:=by rw [hg];exact Nat.gcd_pos_of_pos_right _ u.pos
 have hp:0<h:=by rw [hh];exact Nat.gcd_pos_of_pos_right _ v.pos
 have n1:n.natAbs / g*g=n.natAbs:=Nat.div_mul_cancel (by rw [hg];exact Nat.gcd_dvd_left _ _)
 have e1:e / g*g=e:=Nat.div_mul_cancel (by rw [hg];exact Nat.gcd_dvd_right _ _)
 have m1:m.natAbs / h*h=m.natAbs:=Nat.div_mul_cancel (by rw [hh];exact Nat.gcd_dvd_left _ _)
 have d1:d / h*h=d:=Nat.div_mul_cancel (by rw [hh];exact Nat.gcd_dvd_right _ _)
 have c1:Nat.gcd (n.natAbs / g) (e / g)=1:=by rw [hg];exact Nat.coprime_div_gcd_div_gcd (by rw [<- hg];exact gp)
 have c2:Nat.gcd (m.natAbs / h) (d / h)=1:=by rw [hh];exact Nat.coprime_div_gcd_div_gcd (by rw [<- hh];exact hp)
 have c3:Nat.gcd (n.natAbs / g) (d / h)=1:=Zb2 v.low ⟨g,n1.symm⟩ ⟨h,d1.symm⟩
 have c4:Nat.gcd (m.natAbs / h) (e / g)=1:=Zb2 u.low ⟨h,m1.symm⟩ ⟨g,e1.symm⟩
 have dp:=v.pos
 have ep:=u.pos
 have hy:0<D:=by
  rw [hD]
  refine Nat.mul_pos ?_ ?_
  ·rcases Nat.eq_zero_or_pos (d / h) with k | k
   ·rw [k] at d1;omega
   ·exact k
  ·rcases Nat.eq_zero_or_pos (e / g) with k | k
   ·rw [k] at e1;omega
   ·exact k
 refine ZmA (Nat.mul_pos v.pos u.pos) hy ?_ ?_ ?_
 ·rw [hN,hD]
  exact Nat.Coprime.mul_left (Nat.Coprime.mul_right c3 c1) (Nat.Coprime.mul_right c2 c4)
 ·rw [hN,hD,Int.natAbs_mul]
  revert n1 e1 m1 d1
  generalize n.natAbs / g=a
  generalize m.natAbs / h=b
  generalize d / h=c
  generalize e / g=f
  intro n1 e1 m1 d1
  rw [<- n1,<- e1,<- m1,<- d1]
  ac_rfl
 ·intro hne
  have a0:n≠0:=by intro k;rw [k] at hne;simp at hne
  have b0:m≠0:=by intro k;rw [k] at hne;simp at hne
  by_cases s:n<0<;>by_cases t:m<0
  ·have:=Int.mul_pos_of_neg_of_neg s t
   simp [s,t];omega
  ·have:=Int.mul_neg_of_neg_of_pos s (show 0<m by omega)
   simp [s,t,this]
  ·have:=Int.mul_neg_of_pos_of_neg (show 0<n by omega) t
   simp [s,t,this]
  ·have:=Int.mul_pos (show 0<n by omega) (show 0<m by omega)
   simp [s,t];omega
theorem Zd6 (n m:Int) (x y:Nat) :
  Zbh (decide (n<0)) (n.natAbs*x) (decide (m<0)) (m.natAbs*y)=(n*x+m*y).natAbs ∧
  (n*x+m*y≠0->ZbH (decide (n<0)) (n.natAbs*x) (decide (m<0)) (m.natAbs*y)=decide (n*x+m*y<0)):=by
 have a:n*(x:Int)=if n<0 then -((n.natAbs*x:Nat):Int) else ((n.natAbs*x:Nat):Int):=by
  split
  ·have:n=-(n.natAbs:Int):=by omega
   push_cast;rw [<- Int.neg_mul,<- this]
  ·have:n=(n.natAbs:Int):=by omega
   push_cast;rw [<- this]
 have b:m*(y:Int)=if m<0 then -((m.natAbs*y:Nat):Int) else ((m.natAbs*y:Nat):Int):=by
  split
  ·have:m=-(m.natAbs:Int):=by omega
   push_cast;rw [<- Int.neg_mul,<- this]
  ·have:m=(m.natAbs:Int):=by omega
   push_cast;rw [<- this]
 rw [a,b]
 generalize n.natAbs*x=p
 generalize m.natAbs*y=q
 unfold Zbh ZbH
 by_cases s:n<0<;>by_cases t:m<0<;>simp only [s,t,decide_true,decide_false,if_true,if_false,Bool.false_eq_true,Bool.true_eq_false]
 ·exact ⟨by omega,fun h=>by simp;omega⟩
 ·split<;>exact ⟨by omega,fun h=>by simp;omega⟩
 ·split<;>exact ⟨by omega,fun h=>by simp;omega⟩
 ·exact ⟨by omega,fun h=>by simp;omega⟩
theorem ZqA {n m:Int} {d e g h T N D:Nat} {s:Bool} (v:Valid n d) (u:Valid m e) (hg:g=Nat.gcd d e)
  (hs:s=ZbH (decide (n<0)) (n.natAbs*(e / g)) (decide (m<0)) (m.natAbs*(d / g))) (hT:T=Zbh (decide (n<0)) (n.natAbs*(e / g)) (decide (m<0)) (m.natAbs*(d / g)))
  (hh:h=Nat.gcd g (T % g)) (hN:N=T / h) (hD:D=d / g*(e / h)) :
  ZbG s N D=ZcK (n*e+m*d) (d*e)/\ZbU N D=ZcP (n*e+m*d) (d*e)/\ZbP N D=ZcJ (n*e+m*d) (d*e):=by
 have dp:=v.pos
 have ep:=u.pos
 have gp:0<g:=by rw [hg];exact Nat.gcd_pos_of_pos_right _ ep
 have hp:0<h:=by rw [hh];exact Nat.gcd_pos_of_pos_left _ gp
 have hh2:h=Nat.gcd T g:=by rw [hh,Nat.gcd_comm g,<- Nat.gcd_rec,Nat.gcd_comm]
 have d1:d / g*g=d:=Nat.div_mul_cancel (by rw [hg];exact Nat.gcd_dvd_left _ _)
 have e1:e / g*g=e:=Nat.div_mul_cancel (by rw [hg];exact Nat.gcd_dvd_right _ _)
 have c1:Nat.gcd (d / g) (e / g)=1:=by rw [hg];exact Nat.coprime_div_gcd_div_gcd (by rw [<- hg];exact gp)
 have k1:g / h*h=g:=Nat.div_mul_cancel (by rw [hh2];exact Nat.gcd_dvd_right _ _)
 have k2:T / h*h=T:=Nat.div_mul_cancel (by rw [hh2];exact Nat.gcd_dvd_left _ _)
 have c2:Nat.gcd (T / h) (g / h)=1:=by rw [hh2];exact Nat.coprime_div_gcd_div_gcd (by rw [<- hh2];exact hp)
 have e2:e / h=e / g*(g / h):=by
  have:e / g*(g / h)*h=e:=by rw [Nat.mul_assoc,k1,e1]
  rw [<- this,Nat.mul_div_cancel _ hp,this]
 obtain ⟨t1,t2⟩:=Zd6 n m (e / g) (d / g)
 rw [<- hT] at t1
 rw [<- hs] at t2
 have c3:Nat.gcd n.natAbs (d / g)=1:=Zb2 v.low (Nat.dvd_refl _) ⟨g,d1.symm⟩
 have c4:Nat.gcd m.natAbs (e / g)=1:=Zb2 u.low (Nat.dvd_refl _) ⟨g,e1.symm⟩
 have eP:n*(e:Int)+m*(d:Int)=(n*((e / g:Nat):Int)+m*((d / g:Nat):Int))*(g:Int):=by
  conv=>lhs;rw [<- e1,<- d1]
  push_cast
  rw [Int.add_mul,Int.mul_assoc,Int.mul_assoc]
 rw [hD,e2]
 revert d1 e1 c1 k1 k2 c2 t1 t2 c3 c4 eP
 generalize d / g=a
 generalize e / g=b
 generalize g / h=c
 generalize hx:T / h=x
 intro d1 e1 c1 k1 k2 c2 t1 t2 c3 c4 eP
 have f1:Nat.gcd T a=1:=by
  have q1:(((Nat.gcd T a:Nat)):Int) ∣ n*(b:Int):=by
   have r1:(((Nat.gcd T a:Nat)):Int) ∣ n*(b:Int)+m*(a:Int):=by
    rw [<- Int.natAbs_dvd_natAbs,<- t1,Int.natAbs_natCast];exact Nat.gcd_dvd_left _ _
   have r2:(((Nat.gcd T a:Nat)):Int) ∣ m*(a:Int):=Int.dvd_mul_of_dvd_right (Int.natCast_dvd_natCast.2 (Nat.gcd_dvd_right _ _))
   exact (Int.dvd_add_left r2).1 r1
  have q2:Nat.gcd T a ∣ n.natAbs*b:=by
   have:=Int.natAbs_dvd_natAbs.2 q1
   rwa [Int.natAbs_natCast,Int.natAbs_mul,Int.natAbs_natCast] at this
  have q3:Nat.gcd (n.natAbs*b) a=1:=Nat.Coprime.mul_left c3 (Nat.Coprime.symm c1)
  have:=Nat.dvd_gcd q2 (Nat.gcd_dvd_right T a)
  rw [q3] at this
  exact Nat.dvd_one.1 this
 have f2:Nat.gcd T b=1:=by
  have q1:(((Nat.gcd T b:Nat)):Int) ∣ m*(a:Int):=by
   have r1:(((Nat.gcd T b:Nat)):Int) ∣ n*(b:Int)+m*(a:Int):=by
    rw [<- Int.natAbs_dvd_natAbs,<- t1,Int.natAbs_natCast];exact Nat.gcd_dvd_left _ _
   have r2:(((Nat.gcd T b:Nat)):Int) ∣ n*(b:Int):=Int.dvd_mul_of_dvd_right (Int.natCast_dvd_natCast.2 (Nat.gcd_dvd_right _ _))
   exact (Int.dvd_add_right r2).1 r1
  have q2:Nat.gcd T b ∣ m.natAbs*a:=by
   have:=Int.natAbs_dvd_natAbs.2 q1
   rwa [Int.natAbs_natCast,Int.natAbs_mul,Int.natAbs_natCast] at this
  have q3:Nat.gcd (m.natAbs*a) b=1:=Nat.Coprime.mul_left c4 c1
  have:=Nat.dvd_gcd q2 (Nat.gcd_dvd_right T b)
  rw [q3] at this
  exact Nat.dvd_one.1 this
 have xT:x ∣ T:=⟨h,k2.symm⟩
 have ap:0<a:=by
  rcases Nat.eq_zero_or_pos a with k | k
  ·rw [k] at d1;omega
  ·exact k
 have bp:0<b:=by
  rcases Nat.eq_zero_or_pos b with k | k
  ·rw [k] at e1;omega
  ·exact k
 have cp:0<c:=by
  rcases Nat.eq_zero_or_pos c with k | k
  ·rw [k] at k1;omega
  ·exact k
 rw [hN,hx]
 refine ZmA (Nat.mul_pos dp ep) (Nat.mul_pos ap (Nat.mul_pos bp cp)) ?_ ?_ ?_
 ·exact Nat.Coprime.mul_right (Zb2 f1 xT (Nat.dvd_refl _)) (Nat.Coprime.mul_right (Zb2 f2 xT (Nat.dvd_refl _)) c2)
 ·rw [eP,Int.natAbs_mul,<- t1,Int.natAbs_natCast]
  rw [<- k2,<- d1,<- e1,<- k1]
  ac_rfl
 ·intro hne
  rw [eP] at hne ⊢
  have g0:(0:Int)<(g:Int):=by omega
  have hz:n*(b:Int)+m*(a:Int)≠0:=by intro k;rw [k,Int.zero_mul] at hne;exact hne rfl
  rw [t2 hz]
  generalize n*(b:Int)+m*(a:Int)=z at *
  by_cases l:z<0
  ·have:=Int.mul_neg_of_neg_of_pos l g0
   simp [l,this]
  ·have:=Int.mul_nonneg (show 0<=z by omega) (Int.le_of_lt g0)
   simp [l];omega
end
section
open Go.RowKit
theorem Valid.right {n:Int} {d:Nat} (v:Valid n d):Zas n d=true:=by
 have:=v.pos;have:=v.n_le
 exact decide_eq_true ⟨by omega,by omega,by rw [Int.natAbs_natCast];exact v.low⟩
theorem ZpY {n d:Int} (h:Zas n d=true) (h1:-9223372036854775808<=n) (h2:n<=9223372036854775807) (h4:d<=9223372036854775807):∃ k:Nat,d=k/\Valid n k:=by
 obtain ⟨a,b,c⟩:=of_decide_eq_true h
 exact ⟨d.toNat,by omega,⟨by omega,by omega,by omega,by rw [<- c];congr 1;omega⟩⟩
theorem Zb1 {n:Int} {d:Nat} (v:Valid n d) (w:World):Calls Tryz.prog 34 #[Ze n d] w fun e w'=>e=.returned (.bool true)/\Below w.heap.size w w':=by
 have:=v.pos;have:=v.n_le;have:=v.d_le
 have:=Zef n d w (by omega) (by omega) (by omega) (by omega)
 rwa [v.right] at this
abbrev ZcQ (P:Int) (Q:Nat):Value:=.tuple #[Ze (ZcK P Q) (ZcP P Q),.int .i64 (ZcJ P Q)]
theorem Zj6 {n m:Int} {d e:Nat} (v:Valid n d) (u:Valid m e) (w:World) :
  Calls Tryz.prog 92 #[Ze n d,Ze m e] w fun r w'=>r=.returned (ZcQ (n*e+m*d) (d*e))/\Below w.heap.size w w':=by
 have vp:=v.pos;have vn:=v.n_le;have vd:=v.d_le
 have up:=u.pos;have un:=u.n_le;have ud:=u.d_le
 obtain ⟨a,b,c⟩:=ZqA v u rfl rfl rfl rfl rfl rfl
 have hT2:Zbh (decide (n<0)) (n.natAbs*(e / Nat.gcd d e)) (decide (m<0)) (m.natAbs*(d / Nat.gcd d e))<340282366920938463463374607431768211456:=by
  have x1:e / Nat.gcd d e<=9223372036854775807:=Nat.le_trans (Nat.div_le_self _ _) ud
  have y1:d / Nat.gcd d e<=9223372036854775807:=Nat.le_trans (Nat.div_le_self _ _) vd
  have p1:n.natAbs*(e / Nat.gcd d e)<=9223372036854775807*9223372036854775807:=Nat.mul_le_mul vn x1
  have p2:m.natAbs*(d / Nat.gcd d e)<=9223372036854775807*9223372036854775807:=Nat.mul_le_mul un y1
  unfold Zbh
  split
  ·omega
  ·split<;>omega
 have:=Zqz n m d e w (by omega) (by omega) (by omega) (by omega) vp vd up ud _ _ _ _ _ _ rfl rfl rfl hT2 rfl rfl rfl
 rwa [a,b,c] at this
theorem ZgC {n m:Int} {d e:Nat} (v:Valid n d) (u:Valid m e) (w:World) :
  Calls Tryz.prog 76 #[Ze n d,Ze m e] w fun r w'=>r=.returned (ZcQ (n*m) (d*e))/\Below w.heap.size w w':=by
 have vp:=v.pos;have vn:=v.n_le;have vd:=v.d_le
 have up:=u.pos;have un:=u.n_le;have ud:=u.d_le
 obtain ⟨a,b,c⟩:=Zl5 v u rfl rfl rfl rfl
 have:=Zl4 n m d e w (by omega) (by omega) (by omega) (by omega) vp vd up ud _ _ rfl rfl _ _ rfl rfl
 rwa [a,b,c] at this
theorem Zjr {n m:Int} {d e:Nat} (v:Valid n d) (u:Valid m e) (w:World) :
  Calls Tryz.prog 66 #[Ze n d,Ze m e] w fun r w'=>r=.returned (ZcQ (n*e+m*d) (d*e))/\Below w.heap.size w w':=by
 have ra:=fun w=>Zb1 v w
 have rb:=fun w=>Zb1 u w
 have su:=fun w=>Zj6 v u w
 unfold ZcQ at su ⊢
 generalize ZcK (n*e+m*d) (d*e)=F1 at *
 generalize ZcP (n*e+m*d) (d*e)=F2 at *
 generalize ZcJ (n*e+m*d) (d*e)=F3 at *
 clear v u
 go_enter Tryz.func66,Tryz.ntmps66
 go_upto_region 1 with fail
 have B:=Boxes.start w n d m e 0 25
 go_wp2_with (first
  | (go_at_call 34;(first | with_reducible refine (ra _).mono ?_ | with_reducible refine (rb _).mono ?_);rintro e w1 ⟨rfl,hb⟩;have B:=B.keep hb;have c0:=B.c0;have c1:=B.c1;have c2:=B.c2;have c3:=B.c3)
  | (go_at_call 92;(with_reducible refine (su _).mono ?_);rintro e w1 ⟨rfl,hb⟩;have B:=B.keep hb;have i0:=B.i0;have i1:=B.i1;have j0:=B.j0;have j1:=B.j1;have HB:=Lib.hid B.below))
 exact bodyPost_ret (v:=.tuple #[Ze F1 F2,.int .i64 F3]) (by simp [results,Tryz.results66,go_sem,i0,i1]) rfl ⟨rfl,Zci HB.out⟩
theorem ZI (w:World) (a b:Obj):Below w.heap.size w ((w.alloc a).alloc b):=((Below.refl _ _).alloc (Nat.le_refl _) _).alloc (by simp) _
theorem Zq (w:World):Below w.heap.size w w.drew:=(Below.refl _ _).drew
theorem ZgB (n d:Int) (w:World) (h1:-9223372036854775807<=n) (h2:n<=9223372036854775807) :
  Calls Tryz.prog 110 #[Ze n d] w fun e w'=>e=.returned (Ze (-n) d)/\Below w.heap.size w w':=
 (Zfi n d w h1 h2).mono fun _ _ ⟨he,hw⟩=>⟨he,by rw [hw];exact ZI _ _ _⟩
theorem ZjO {n m:Int} {d e:Nat} (v:Valid n d) (u:Valid m e) (w:World) :
  Calls Tryz.prog 38 #[Ze n d,Ze m e] w fun r w'=>r=.returned (ZcQ (n*m) (d*e))/\Below w.heap.size w w':=by
 have ra:=fun w=>Zb1 v w
 have rb:=fun w=>Zb1 u w
 have su:=fun w=>ZgC v u w
 unfold ZcQ at su ⊢
 generalize ZcK (n*m) (d*e)=F1 at *
 generalize ZcP (n*m) (d*e)=F2 at *
 generalize ZcJ (n*m) (d*e)=F3 at *
 clear v u
 go_enter Tryz.func38,Tryz.ntmps38
 go_upto_region 1 with fail
 have B:=Boxes.start w n d m e 0 25
 go_wp2_with (first
  | (go_at_call 34;(first | with_reducible refine (ra _).mono ?_ | with_reducible refine (rb _).mono ?_);rintro e w1 ⟨rfl,hb⟩;have B:=B.keep hb;have c0:=B.c0;have c1:=B.c1;have c2:=B.c2;have c3:=B.c3)
  | (go_at_call 76;(with_reducible refine (su _).mono ?_);rintro e w1 ⟨rfl,hb⟩;have B:=B.keep hb;have i0:=B.i0;have i1:=B.i1;have j0:=B.j0;have j1:=B.j1;have HB:=Lib.hid B.below))
 exact bodyPost_ret (v:=.tuple #[Ze F1 F2,.int .i64 F3]) (by simp [results,Tryz.results38,go_sem,i0,i1]) rfl ⟨rfl,Zci HB.out⟩
structure RatAt (w1:World) (b:Nat) (n d:Int):Prop where
 k0:w1.cell? ⟨b,0,none⟩=some (.int .i64 n)
 k1:w1.cell? ⟨b,1,none⟩=some (.int .i64 d)
 lt:b<w1.heap.size
theorem RatAt.start (w:World) (n d:Int) (ty:TypeId):RatAt (w.alloc (.cells #[.int .i64 n,.int .i64 d] ty)) w.heap.size n d where
 k0:=by go_simp
 k1:=by go_simp
 lt:=by simp
theorem RatAt.keep {w1 w2:World} {b:Nat} {n d:Int} (h:RatAt w1 b n d) (hb:Below w1.heap.size w1 w2):RatAt w2 b n d:=
 have z:=hb.size
 have l:=h.lt
 {k0:=Zf hb l h.k0,k1:=Zf hb l h.k1,lt:=by omega }
theorem Zpo:Valid 1 2:=⟨by decide,by decide,by decide,by decide⟩
theorem big:Valid 4611686018427387904 1:=⟨by decide,by decide,by decide,by decide⟩
theorem two:Valid 2 1:=⟨by decide,by decide,by decide,by decide⟩
end
section
open Go.RowKit
theorem ZcA {w w1 w2:World} {n d m e:Value} (hb:Below w1.heap.size w1 w2)
  (h:(w1.cell? ⟨w.heap.size,0,none⟩=some n/\w1.cell? ⟨w.heap.size,1,none⟩=some d/\w1.cell? ⟨w.heap.size+1,0,none⟩=some m/\w1.cell? ⟨w.heap.size+1,1,none⟩=some e)/\w.heap.size+1<w1.heap.size/\Below w.heap.size w w1) :
  (w2.cell? ⟨w.heap.size,0,none⟩=some n/\w2.cell? ⟨w.heap.size,1,none⟩=some d/\w2.cell? ⟨w.heap.size+1,0,none⟩=some m/\w2.cell? ⟨w.heap.size+1,1,none⟩=some e)/\w.heap.size+1<w2.heap.size/\Below w.heap.size w w2:=by
 obtain ⟨⟨a,b,c,f⟩,g,k⟩:=h
 have hs:=hb.size
 exact ⟨⟨Zf hb (by omega) a,Zf hb (by omega) b,Zf hb (by omega) c,Zf hb (by omega) f⟩,by omega,k.trans (hb.mono (by omega))⟩
theorem ZiV (w:World) (n d m e:Int) (ty:TypeId) :
  (((w.alloc (.cells #[.int .i64 n,.int .i64 d] ty)).alloc (.cells #[.int .i64 m,.int .i64 e] ty)).cell? ⟨w.heap.size,0,none⟩=some (.int .i64 n)/\((w.alloc (.cells #[.int .i64 n,.int .i64 d] ty)).alloc (.cells #[.int .i64 m,.int .i64 e] ty)).cell? ⟨w.heap.size,1,none⟩=some (.int .i64 d)/\((w.alloc (.cells #[.int .i64 n,.int .i64 d] ty)).alloc (.cells #[.int .i64 m,.int .i64 e] ty)).cell? ⟨w.heap.size+1,0,none⟩=some (.int .i64 m)/\((w.alloc (.cells #[.int .i64 n,.int .i64 d] ty)).alloc (.cells #[.int .i64 m,.int .i64 e] ty)).cell? ⟨w.heap.size+1,1,none⟩=some (.int .i64 e))/\w.heap.size+1<((w.alloc (.cells #[.int .i64 n,.int .i64 d] ty)).alloc (.cells #[.int .i64 m,.int .i64 e] ty)).heap.size/\Below w.heap.size w ((w.alloc (.cells #[.int .i64 n,.int .i64 d] ty)).alloc (.cells #[.int .i64 m,.int .i64 e] ty)):=
 ⟨⟨by go_simp,by go_simp,by go_simp,by go_simp⟩,by simp,ZI _ _ _⟩
theorem Zkd {w w1:World} {A B:Prop} (h:A/\B/\Below w.heap.size w w1):Below w.heap.size w w1:=h.2.2
theorem Zm4 (s:Bool) (T:Nat) (w:World):(Instr.field 150 (ZbI s T) 0).run Tryz.prog w=.ok (.bool s) w:=by kernel_rfl
def Zco (n m:Int) (d e:Nat):Int:=if n*e<m*d then -1 else if n*e=m*d then 0 else 1
theorem Zpe {n m:Int} {d e:Nat} (v:Valid n d) (u:Valid m e) (h:¬ (n=m/\d=e)) :
  ZbH (decide (n<0)) (n.natAbs*(e / 1)) (decide (-m<0)) ((-m).natAbs*(d / 1))=decide (n*e<m*d)/\n*(e:Int)≠m*(d:Int):=by
 have hne:n*(e:Int)≠m*(d:Int):=fun k=>h (v.unique u k)
 refine ⟨?_,hne⟩
 have:=(Zd6 n (-m) (e / 1) (d / 1)).2
 rw [Nat.div_one,Nat.div_one] at *
 rw [this (by rw [Int.neg_mul];omega)]
 congr 1
 rw [Int.neg_mul]
 apply propext
 omega
theorem Zkg {n m:Int} {d e:Nat} (v:Valid n d) (u:Valid m e) (w:World) :
  Calls Tryz.prog 109 #[Ze n d,Ze m e] w fun r w'=>r=.returned (.int .i64 (Zco n m d e))/\Below w.heap.size w w':=by
 by_cases h:n=m/\d=e
 ·obtain ⟨rfl,rfl⟩:=h
  have hc:Zco n n d d=0:=by unfold Zco;simp
  rw [hc]
  clear hc v u
  go_enter Tryz.func109,Tryz.ntmps109
  go_wp2_with fail
  go_ret
  exact ⟨rfl,ZI _ _ _⟩
 ·have ra:=fun w=>Zb1 v w
  have rb:=fun w=>Zb1 u w
  have un:=u.n_le;have ud:=u.d_le;have vn:=v.n_le;have vd:=v.d_le
  have ne:=fun w=>ZgB m e w (by omega) (by omega)
  have ac:=fun w=>ZiA n (-m) d e 1 w (by omega) (by omega) (by omega) (by omega) vd ud (by omega) (by omega)
  obtain ⟨sg,hn⟩:=Zpe v u h
  rw [sg] at ac
  simp only [Int.natCast_one] at ac
  generalize Zbh (decide (n<0)) (n.natAbs*(e / 1)) (decide (-m<0)) ((-m).natAbs*(d / 1))=T at *
  have hc:Zco n m d e=if decide (n*(e:Int)<m*(d:Int))=true then -1 else 1:=by
   unfold Zco
   by_cases l:n*(e:Int)<m*(d:Int)
   ·simp [l]
   ·simp [l,hn]
  rw [hc]
  generalize decide (n*(e:Int)<m*(d:Int))=s at *
  have h2:(n==m)=false\/(n==m)=true/\((d:Int)==(e:Int))=false:=by
   by_cases k:n=m
   ·right;exact ⟨by simpa using k,by simp;intro l;exact h ⟨k,by omega⟩⟩
   ·left;simpa using k
  have fw:=fun w'=>Zm4 s T w'
  clear v u un ud vn vd hc hn h sg
  have B:=ZiV w n d m e 25
  rcases h2 with h2 | ⟨h2,h3⟩
  all_goals
   cases s
   all_goals
    simp only [Bool.false_eq_true,if_false,if_true]
    go_enter Tryz.func109,Tryz.ntmps109
    go_upto_region 3 with (go_at_call 34;(first | with_reducible refine (ra _).mono ?_ | with_reducible refine (rb _).mono ?_);rintro e w1 ⟨rfl,hb⟩;have B:=ZcA hb B;obtain ⟨⟨c0,c1,c2,c3⟩,_⟩:=id B)
    go_region_held3 (fun w'=>(w'.cell? ⟨w.heap.size,0,none⟩=some (.int .i64 n)/\w'.cell? ⟨w.heap.size,1,none⟩=some (.int .i64 d)/\w'.cell? ⟨w.heap.size+1,0,none⟩=some (.int .i64 m)/\w'.cell? ⟨w.heap.size+1,1,none⟩=some (.int .i64 e))/\w.heap.size+1<w'.heap.size/\Below w.heap.size w w')
     (first
      | with_reducible assumption
      | with_reducible exact ZcA (by with_reducible assumption) (by with_reducible assumption)
      | exact ZcA (Zq _) B)
     (first
      | (go_at_call 110;(with_reducible refine (ne _).mono ?_);rintro e w' ⟨rfl,hb⟩)
      | (go_at_call 113;(with_reducible refine (ac _).mono ?_);rintro e w' ⟨rfl,hb⟩))
    go_wp2_with fail
    go_ret
    exact ⟨rfl,Zkd (by with_reducible assumption)⟩
end
end Go.Proofs.YtolookeddknmoaaGreat
