import Derived.Test.YtolookeddknmoaaGreatQAG
set_option maxRecDepth 100000
set_option maxHeartbeats 8000000
namespace Go.Proofs.YtolookeddknmoaaGreat
section
open Go.RowKit
structure BoxF (w w1:World) (x y z:Value):Prop where
 c0:w1.cell? ⟨w.heap.size,0,none⟩=some x
 c1:w1.cell? ⟨w.heap.size,1,none⟩=some y
 c2:w1.cell? ⟨w.heap.size,2,none⟩=some z
 i0:w1.cell? ⟨w.heap.size+1,0,none⟩=some (.int .i64 0)
 i1:w1.cell? ⟨w.heap.size+1,1,none⟩=some (.int .i64 0)
 j0:w1.frozen? ⟨w.heap.size+1,0,none⟩=false
 j1:w1.frozen? ⟨w.heap.size+1,1,none⟩=false
 size:w.heap.size+1<w1.heap.size
 below:Below w.heap.size w w1
theorem BoxF.start (w:World) (A:Option Addr) (n c:Nat) (B:Option Addr) (m d:Nat) (s:Bool) (ty ty':TypeId):BoxF w ((w.alloc (.cells #[.slice A n c,.slice B m d,.bool s] ty)).alloc (.cells #[.int .i64 0,.int .i64 0] ty')) (.slice A n c) (.slice B m d) (.bool s) where
 c0:=by go_simp
 c1:=by go_simp
 c2:=by go_simp
 i0:=by go_simp
 i1:=by go_simp
 j0:=by go_simp
 j1:=by go_simp
 size:=by simp
 below:=ZI _ _ _
theorem BoxF.keep {w w1 w2:World} {x y z:Value} (h:BoxF w w1 x y z) (hb:Below w1.heap.size w1 w2):BoxF w w2 x y z:=
 have s:=h.size
 have t:=hb.size
 {c0:=Zf hb (by omega) h.c0,c1:=Zf hb (by omega) h.c1,c2:=Zf hb (by omega) h.c2
  i0:=Zf hb (by omega) h.i0,i1:=Zf hb (by omega) h.i1,j0:=Zu hb (by omega) h.j0,j1:=Zu hb (by omega) h.j1
  size:=by omega,below:=h.below.trans (hb.mono (by omega)) }
theorem Zs.any (v:Value):Zs 0 v:=fun _ _=>Nat.zero_le _
def toV (N D:Nat) (m:Bool):Value:=.tuple #[Ze (ZbG m (N / Nat.gcd N D) (D / Nat.gcd N D)) (ZbU (N / Nat.gcd N D) (D / Nat.gcd N D)),.int .i64 (ZbP (N / Nat.gcd N D) (D / Nat.gcd N D))]
theorem Zi0 (w:World) (B:Nat) (v:Value) (N D:Nat) (m:Bool) (h:ZcS w B v N D m) (hN:(Zc N).length<=298) (hD:(Zc D).length<=298) (hD0:0<D) :
  Calls Tryz.prog 70 #[v] w fun e w'=>e=.returned (toV N D m)/\Below w.heap.size w w':=by
 obtain ⟨vn,vd,rfl,hn,hd,_,_⟩:=h
 have hn':=hn
 have hd':=hd
 obtain ⟨A,c,rfl,_,_,_⟩:=hn'
 obtain ⟨E,d,rfl,_,_,_⟩:=hd'
 have BX:=BoxF.start w A (Zc N).length c E (Zc D).length d m 103 25
 have hg0:0<Nat.gcd N D:=Nat.gcd_pos_of_pos_right _ hD0
 have hgl:(Zc (Nat.gcd N D)).length<=298:=Nat.le_trans (ZgY (Nat.le_of_dvd hD0 (Nat.gcd_dvd_right N D))) hD
 have hal:(Zc (N / Nat.gcd N D)).length<=298:=Nat.le_trans (ZgY (Nat.div_le_self _ _)) hN
 have hbl:(Zc (D / Nat.gcd N D)).length<=298:=Nat.le_trans (ZgY (Nat.div_le_self _ _)) hD
 have cm:=fun (w1:World) (hb:Below w.heap.size w w1)=>ZiC w1 _ _ N D (hn.below hb) (hd.below hb) hN hD 0 (Nat.zero_le _) (Zs.any _) (Zs.any _)
 have d1:=fun (w1:World) (g:Value) (hb:Below w.heap.size w w1) (hg:Zk w1 g (Zc (Nat.gcd N D)))=>Zjc w1 _ _ N (Nat.gcd N D) (hn.below hb) hg hN hgl hg0
 have d2:=fun (w1:World) (g:Value) (hb:Below w.heap.size w w1) (hg:Zk w1 g (Zc (Nat.gcd N D)))=>Zjc w1 _ _ D (Nat.gcd N D) (hd.below hb) hg hD hgl hg0
 have v1:=fun (w1:World) (g:Value) (hg:Zk w1 g (Zc (N / Nat.gcd N D)))=>Zkc w1 g _ hg hal
 have v2:=fun (w1:World) (g:Value) (hg:Zk w1 g (Zc (D / Nat.gcd N D)))=>Zkc w1 g _ hg hbl
 unfold toV
 generalize N / Nat.gcd N D=P at *
 generalize D / Nat.gcd N D=Q at *
 clear hn hd hN hD hD0 hg0 hgl hal hbl
 by_cases hP:P<9223372036854775808
 ·by_cases hQ:Q<9223372036854775808
  ·have e1:Zfo P=.tuple #[.int .i64 P,.bool true]:=if_pos hP
   have e2:Zfo Q=.tuple #[.int .i64 Q,.bool true]:=if_pos hQ
   have hPQ:P<=9223372036854775807/\Q<=9223372036854775807:=⟨by omega,by omega⟩
   have f1:ZbG m P Q=(if m then -(P:Int) else P):=if_pos hPQ
   have f2:ZbU P Q=Q:=if_pos hPQ
   have f3:ZbP P Q=0:=if_pos hPQ
   rw [e1] at v1
   rw [e2] at v2
   rw [f1,f2,f3]
   clear hPQ f1 f2 f3 e1 e2
   cases m
   ·go_enter Tryz.func70,Tryz.ntmps70
    go_upto_region 1 with fail
    have k1:=cm _ BX.below
    obtain ⟨c0,c1,c2,i0,i1,j0,j1,_,_⟩:=id BX
    go_wp2_with (first
     | (go_at_call 67;(with_reducible refine k1.mono ?_);rintro e w1 ⟨g,rfl,hg,hb,_⟩;have BX:=BX.keep hb;clear hb;obtain ⟨c0,c1,c2,i0,i1,j0,j1,_,_⟩:=id BX;have k2:=d1 w1 g BX.below hg)
     | (go_at_call 93;(with_reducible refine k2.mono ?_);rintro e w2 ⟨q1,r1,rfl,hq1,hr1,hb,_⟩;have BX:=BX.keep hb;have hg:=hg.below hb;clear k2;obtain ⟨c0,c1,c2,i0,i1,j0,j1,_,_⟩:=id BX;have k3:=d2 w2 g BX.below hg)
     | (go_at_call 93;(with_reducible refine k3.mono ?_);rintro e w3 ⟨q2,r2,rfl,hq2,hr2,hb,_⟩;have BX:=BX.keep hb;have hq1:=hq1.below hb;clear k3;obtain ⟨c0,c1,c2,i0,i1,j0,j1,_,_⟩:=id BX;have k4:=v1 w3 q1 hq1;have k5:=v2 w3 q2 hq2)
     | (go_at_call 96;(with_reducible refine k4.mono ?_);rintro e w4 ⟨rfl,rfl⟩)
     | (go_at_call 96;(with_reducible refine k5.mono ?_);rintro e w4 ⟨rfl,rfl⟩))
    exact bodyPost_ret (v:=.tuple #[Ze (P:Int) (Q:Int),.int .i64 0]) (by simp [results,Tryz.results70,go_sem,i0,i1]) rfl ⟨rfl,(BX.below.setCell (by show w.heap.size<=w.heap.size+1;omega) _).setCell (by show w.heap.size<=w.heap.size+1;omega) _⟩
   ·go_enter Tryz.func70,Tryz.ntmps70
    go_upto_region 1 with fail
    have k1:=cm _ BX.below
    obtain ⟨c0,c1,c2,i0,i1,j0,j1,_,_⟩:=id BX
    go_wp2_with (first
     | (go_at_call 67;(with_reducible refine k1.mono ?_);rintro e w1 ⟨g,rfl,hg,hb,_⟩;have BX:=BX.keep hb;clear hb;obtain ⟨c0,c1,c2,i0,i1,j0,j1,_,_⟩:=id BX;have k2:=d1 w1 g BX.below hg)
     | (go_at_call 93;(with_reducible refine k2.mono ?_);rintro e w2 ⟨q1,r1,rfl,hq1,hr1,hb,_⟩;have BX:=BX.keep hb;have hg:=hg.below hb;clear k2;obtain ⟨c0,c1,c2,i0,i1,j0,j1,_,_⟩:=id BX;have k3:=d2 w2 g BX.below hg)
     | (go_at_call 93;(with_reducible refine k3.mono ?_);rintro e w3 ⟨q2,r2,rfl,hq2,hr2,hb,_⟩;have BX:=BX.keep hb;have hq1:=hq1.below hb;clear k3;obtain ⟨c0,c1,c2,i0,i1,j0,j1,_,_⟩:=id BX;have k4:=v1 w3 q1 hq1;have k5:=v2 w3 q2 hq2)
     | (go_at_call 96;(with_reducible refine k4.mono ?_);rintro e w4 ⟨rfl,rfl⟩)
     | (go_at_call 96;(with_reducible refine k5.mono ?_);rintro e w4 ⟨rfl,rfl⟩))
    exact bodyPost_ret (v:=.tuple #[Ze (-(P:Int)) (Q:Int),.int .i64 0]) (by simp [results,Tryz.results70,go_sem,i0,i1]) rfl ⟨rfl,(BX.below.setCell (by show w.heap.size<=w.heap.size+1;omega) _).setCell (by show w.heap.size<=w.heap.size+1;omega) _⟩
  ·have e1:Zfo P=.tuple #[.int .i64 P,.bool true]:=if_pos hP
   have e2:Zfo Q=.tuple #[.int .i64 0,.bool false]:=if_neg hQ
   have hPQ:¬ (P<=9223372036854775807/\Q<=9223372036854775807):=by omega
   have f1:ZbG m P Q=0:=if_neg hPQ
   have f2:ZbU P Q=0:=if_neg hPQ
   have f3:ZbP P Q=3:=if_neg hPQ
   rw [e1] at v1
   rw [e2] at v2
   rw [f1,f2,f3]
   clear hPQ f1 f2 f3 e1 e2
   go_enter Tryz.func70,Tryz.ntmps70
   go_upto_region 1 with fail
   have k1:=cm _ BX.below
   obtain ⟨c0,c1,c2,i0,i1,j0,j1,_,_⟩:=id BX
   go_wp2_with (first
    | (go_at_call 67;(with_reducible refine k1.mono ?_);rintro e w1 ⟨g,rfl,hg,hb,_⟩;have BX:=BX.keep hb;clear hb;obtain ⟨c0,c1,c2,i0,i1,j0,j1,_,_⟩:=id BX;have k2:=d1 w1 g BX.below hg)
    | (go_at_call 93;(with_reducible refine k2.mono ?_);rintro e w2 ⟨q1,r1,rfl,hq1,hr1,hb,_⟩;have BX:=BX.keep hb;have hg:=hg.below hb;clear k2;obtain ⟨c0,c1,c2,i0,i1,j0,j1,_,_⟩:=id BX;have k3:=d2 w2 g BX.below hg)
    | (go_at_call 93;(with_reducible refine k3.mono ?_);rintro e w3 ⟨q2,r2,rfl,hq2,hr2,hb,_⟩;have BX:=BX.keep hb;have hq1:=hq1.below hb;clear k3;obtain ⟨c0,c1,c2,i0,i1,j0,j1,_,_⟩:=id BX;have k4:=v1 w3 q1 hq1;have k5:=v2 w3 q2 hq2)
    | (go_at_call 96;(with_reducible refine k4.mono ?_);rintro e w4 ⟨rfl,rfl⟩)
    | (go_at_call 96;(with_reducible refine k5.mono ?_);rintro e w4 ⟨rfl,rfl⟩))
   exact bodyPost_ret (v:=.tuple #[Ze 0 0,.int .i64 3]) (by simp [results,Tryz.results70,go_sem,i0,i1]) rfl ⟨rfl,(BX.below.setCell (by show w.heap.size<=w.heap.size+1;omega) _).setCell (by show w.heap.size<=w.heap.size+1;omega) _⟩
 ·have e1:Zfo P=.tuple #[.int .i64 0,.bool false]:=if_neg hP
  obtain ⟨nq,bq,e2⟩:∃ (n:Int) (b:Bool),Zfo Q=.tuple #[.int .i64 n,.bool b]:=by
   unfold Zfo
   split
   ·exact ⟨_,_,rfl⟩
   ·exact ⟨_,_,rfl⟩
  have hPQ:¬ (P<=9223372036854775807/\Q<=9223372036854775807):=by omega
  have f1:ZbG m P Q=0:=if_neg hPQ
  have f2:ZbU P Q=0:=if_neg hPQ
  have f3:ZbP P Q=3:=if_neg hPQ
  rw [e1] at v1
  rw [e2] at v2
  rw [f1,f2,f3]
  clear hPQ f1 f2 f3 e1 e2
  go_enter Tryz.func70,Tryz.ntmps70
  go_upto_region 1 with fail
  have k1:=cm _ BX.below
  obtain ⟨c0,c1,c2,i0,i1,j0,j1,_,_⟩:=id BX
  go_wp2_with (first
   | (go_at_call 67;(with_reducible refine k1.mono ?_);rintro e w1 ⟨g,rfl,hg,hb,_⟩;have BX:=BX.keep hb;clear hb;obtain ⟨c0,c1,c2,i0,i1,j0,j1,_,_⟩:=id BX;have k2:=d1 w1 g BX.below hg)
   | (go_at_call 93;(with_reducible refine k2.mono ?_);rintro e w2 ⟨q1,r1,rfl,hq1,hr1,hb,_⟩;have BX:=BX.keep hb;have hg:=hg.below hb;clear k2;obtain ⟨c0,c1,c2,i0,i1,j0,j1,_,_⟩:=id BX;have k3:=d2 w2 g BX.below hg)
   | (go_at_call 93;(with_reducible refine k3.mono ?_);rintro e w3 ⟨q2,r2,rfl,hq2,hr2,hb,_⟩;have BX:=BX.keep hb;have hq1:=hq1.below hb;clear k3;obtain ⟨c0,c1,c2,i0,i1,j0,j1,_,_⟩:=id BX;have k4:=v1 w3 q1 hq1;have k5:=v2 w3 q2 hq2)
   | (go_at_call 96;(with_reducible refine k4.mono ?_);rintro e w4 ⟨rfl,rfl⟩)
   | (go_at_call 96;(with_reducible refine k5.mono ?_);rintro e w4 ⟨rfl,rfl⟩))
  exact bodyPost_ret (v:=.tuple #[Ze 0 0,.int .i64 3]) (by simp [results,Tryz.results70,go_sem,i0,i1]) rfl ⟨rfl,(BX.below.setCell (by show w.heap.size<=w.heap.size+1;omega) _).setCell (by show w.heap.size<=w.heap.size+1;omega) _⟩
end
section
open Go.RowKit
theorem Zpt {w w1 w2:World} {x0 x1 x2 y0 y1 y2 z0 z1 z2:Value} (hb:Below w1.heap.size w1 w2)
  (h:(w1.cell? ⟨w.heap.size,0,none⟩=some x0/\w1.cell? ⟨w.heap.size,1,none⟩=some x1/\w1.cell? ⟨w.heap.size,2,none⟩=some x2/\w1.cell? ⟨w.heap.size+1,0,none⟩=some y0/\w1.cell? ⟨w.heap.size+1,1,none⟩=some y1/\w1.cell? ⟨w.heap.size+1,2,none⟩=some y2/\w1.cell? ⟨w.heap.size+1+1,0,none⟩=some z0/\w1.cell? ⟨w.heap.size+1+1,1,none⟩=some z1/\w1.cell? ⟨w.heap.size+1+1,2,none⟩=some z2)/\w.heap.size+2<w1.heap.size/\Below w.heap.size w w1/\(w1.frozen? ⟨w.heap.size+1+1,0,none⟩=false/\w1.frozen? ⟨w.heap.size+1+1,1,none⟩=false/\w1.frozen? ⟨w.heap.size+1+1,2,none⟩=false)) :
  (w2.cell? ⟨w.heap.size,0,none⟩=some x0/\w2.cell? ⟨w.heap.size,1,none⟩=some x1/\w2.cell? ⟨w.heap.size,2,none⟩=some x2/\w2.cell? ⟨w.heap.size+1,0,none⟩=some y0/\w2.cell? ⟨w.heap.size+1,1,none⟩=some y1/\w2.cell? ⟨w.heap.size+1,2,none⟩=some y2/\w2.cell? ⟨w.heap.size+1+1,0,none⟩=some z0/\w2.cell? ⟨w.heap.size+1+1,1,none⟩=some z1/\w2.cell? ⟨w.heap.size+1+1,2,none⟩=some z2)/\w.heap.size+2<w2.heap.size/\Below w.heap.size w w2/\(w2.frozen? ⟨w.heap.size+1+1,0,none⟩=false/\w2.frozen? ⟨w.heap.size+1+1,1,none⟩=false/\w2.frozen? ⟨w.heap.size+1+1,2,none⟩=false):=by
 obtain ⟨⟨a0,a1,a2,a3,a4,a5,a6,a7,a8⟩,g,k,⟨m0,m1,m2⟩⟩:=h
 have hs:=hb.size
 exact ⟨⟨Zf hb (by omega) a0,Zf hb (by omega) a1,Zf hb (by omega) a2,Zf hb (by omega) a3,Zf hb (by omega) a4,Zf hb (by omega) a5,Zf hb (by omega) a6,Zf hb (by omega) a7,Zf hb (by omega) a8⟩,by omega,k.trans (hb.mono k.size),⟨Zu hb (by omega) m0,Zu hb (by omega) m1,Zu hb (by omega) m2⟩⟩
structure BoxS (w w1:World) (x0 x1 x2 y0 y1 y2 z0 z1 z2:Value):Prop where
 c0:w1.cell? ⟨w.heap.size,0,none⟩=some x0
 c1:w1.cell? ⟨w.heap.size,1,none⟩=some x1
 c2:w1.cell? ⟨w.heap.size,2,none⟩=some x2
 d0:w1.cell? ⟨w.heap.size+1,0,none⟩=some y0
 d1:w1.cell? ⟨w.heap.size+1,1,none⟩=some y1
 d2:w1.cell? ⟨w.heap.size+1,2,none⟩=some y2
 i0:w1.cell? ⟨w.heap.size+1+1,0,none⟩=some z0
 i1:w1.cell? ⟨w.heap.size+1+1,1,none⟩=some z1
 i2:w1.cell? ⟨w.heap.size+1+1,2,none⟩=some z2
 j0:w1.frozen? ⟨w.heap.size+1+1,0,none⟩=false
 j1:w1.frozen? ⟨w.heap.size+1+1,1,none⟩=false
 j2:w1.frozen? ⟨w.heap.size+1+1,2,none⟩=false
 size:w.heap.size+2<w1.heap.size
 below:Below w.heap.size w w1
theorem BoxS.keep {w w1 w2:World} {x0 x1 x2 y0 y1 y2 z0 z1 z2:Value} (h:BoxS w w1 x0 x1 x2 y0 y1 y2 z0 z1 z2) (hb:Below w1.heap.size w1 w2):BoxS w w2 x0 x1 x2 y0 y1 y2 z0 z1 z2:=
 have s:=h.size
 have t:=hb.size
 {c0:=Zf hb (by omega) h.c0,c1:=Zf hb (by omega) h.c1,c2:=Zf hb (by omega) h.c2
  d0:=Zf hb (by omega) h.d0,d1:=Zf hb (by omega) h.d1,d2:=Zf hb (by omega) h.d2
  i0:=Zf hb (by omega) h.i0,i1:=Zf hb (by omega) h.i1,i2:=Zf hb (by omega) h.i2
  j0:=Zu hb (by omega) h.j0,j1:=Zu hb (by omega) h.j1,j2:=Zu hb (by omega) h.j2
  size:=by omega,below:=h.below.trans (hb.mono (by omega)) }
structure FracBox (w1:World) (b:Nat) (x y z:Value):Prop where
 k0:w1.cell? ⟨b,0,none⟩=some x
 k1:w1.cell? ⟨b,1,none⟩=some y
 k2:w1.cell? ⟨b,2,none⟩=some z
 l0:w1.frozen? ⟨b,0,none⟩=false
 l1:w1.frozen? ⟨b,1,none⟩=false
 l2:w1.frozen? ⟨b,2,none⟩=false
 lt:b<w1.heap.size
theorem FracBox.keep {w1 w2:World} {b:Nat} {x y z:Value} (h:FracBox w1 b x y z) (hb:Below w1.heap.size w1 w2):FracBox w2 b x y z:=
 have t:=hb.size
 have l:=h.lt
 {k0:=Zf hb l h.k0,k1:=Zf hb l h.k1,k2:=Zf hb l h.k2,l0:=Zu hb l h.l0,l1:=Zu hb l h.l1,l2:=Zu hb l h.l2,lt:=by omega }
theorem FracBox.start (w:World) (x y z:Value) (ty:TypeId):FracBox (w.alloc (.cells #[x,y,z] ty)) w.heap.size x y z where
 k0:=by go_simp
 k1:=by go_simp
 k2:=by go_simp
 l0:=by go_simp
 l1:=by go_simp
 l2:=by go_simp
 lt:=by simp
theorem Zmv {w w1:World} {x0 x1 x2 y0 y1 y2 z0 z1 z2:Value} (h:(w1.cell? ⟨w.heap.size,0,none⟩=some x0/\w1.cell? ⟨w.heap.size,1,none⟩=some x1/\w1.cell? ⟨w.heap.size,2,none⟩=some x2/\w1.cell? ⟨w.heap.size+1,0,none⟩=some y0/\w1.cell? ⟨w.heap.size+1,1,none⟩=some y1/\w1.cell? ⟨w.heap.size+1,2,none⟩=some y2/\w1.cell? ⟨w.heap.size+1+1,0,none⟩=some z0/\w1.cell? ⟨w.heap.size+1+1,1,none⟩=some z1/\w1.cell? ⟨w.heap.size+1+1,2,none⟩=some z2)/\w.heap.size+2<w1.heap.size/\Below w.heap.size w w1/\(w1.frozen? ⟨w.heap.size+1+1,0,none⟩=false/\w1.frozen? ⟨w.heap.size+1+1,1,none⟩=false/\w1.frozen? ⟨w.heap.size+1+1,2,none⟩=false)):BoxS w w1 x0 x1 x2 y0 y1 y2 z0 z1 z2:=by
 obtain ⟨⟨a0,a1,a2,a3,a4,a5,a6,a7,a8⟩,g,k,m0,m1,m2⟩:=h
 exact ⟨a0,a1,a2,a3,a4,a5,a6,a7,a8,m0,m1,m2,g,k⟩
theorem Zj5 {w w1:World} {A B C:Prop} (h:A/\B/\Below w.heap.size w w1/\C):Below w.heap.size w w1:=h.2.2.1
theorem Zhj {w wc wd we:World} {b T Z:Nat} {v d:Value} {S:Bool} (hzk:∀ w',Below b wc w'->Zk w' d (Zc Z)) (hfz:Zs (w.heap.size+3) d) (hb2:Below b wc wd) (hbe:Below wd.heap.size wd we)
  (hv:Zk we v (Zc T)) (fv:Zs wd.heap.size v) (hlt:b<wd.heap.size) (hsz:w.heap.size+2<b) (hbl:Below w.heap.size w we) (x y:Value) :
  Zi2 w T Z S (.returned (.agg #[v,d,.bool S])) (((((we.setCell ⟨b,0,none⟩ x).setCell ⟨b,2,none⟩ y).setCell ⟨w.heap.size+1+1,0,none⟩ v).setCell ⟨w.heap.size+1+1,1,none⟩ d).setCell ⟨w.heap.size+1+1,2,none⟩ (.bool S)):=by
 have f2:=fv.mono (B':=b+1) (by omega)
 refine ⟨_,rfl,⟨v,d,rfl,?_,?_,f2.mono (by omega),hfz.mono (by omega)⟩,?_⟩
 ·exact ((((hv.setCell f2 (Nat.lt_succ_self _) _).setCell f2 (Nat.lt_succ_self _) _).setCell f2 (by show w.heap.size+1+1<_;omega) _).setCell f2 (by show w.heap.size+1+1<_;omega) _).setCell f2 (by show w.heap.size+1+1<_;omega) _
 ·have h0:=hzk _ (((hb2.trans (hbe.mono (by omega))).setCell (p:=⟨b,0,none⟩) (Nat.le_refl _) x).setCell (p:=⟨b,2,none⟩) (Nat.le_refl _) y)
  exact ((h0.setCell hfz (by show w.heap.size+1+1<_;omega) _).setCell hfz (by show w.heap.size+1+1<_;omega) _).setCell hfz (by show w.heap.size+1+1<_;omega) _
 ·exact ((((hbl.setCell (by show w.heap.size<=b;omega) _).setCell (by show w.heap.size<=b;omega) _).setCell (by show w.heap.size<=w.heap.size+1+1;omega) _).setCell (by show w.heap.size<=w.heap.size+1+1;omega) _).setCell (by show w.heap.size<=w.heap.size+1+1;omega) _
theorem Zip (w:World) (Ba Bb:Nat) (va vb:Value) (N D M E:Nat) (s t:Bool) (ha:ZcS w Ba va N D s) (hb:ZcS w Bb vb M E t)
  (hN:(Zc N).length<=70) (hD:(Zc D).length<=70) (hM:(Zc M).length<=70) (hE:(Zc E).length<=70) :
  Calls Tryz.prog 71 #[va,vb] w (Zi2 w (Zbh s (N*E) t (M*D)) (D*E) (ZbH s (N*E) t (M*D))):=by
 obtain ⟨v1,v2,rfl,h1,h2,_,_⟩:=ha
 obtain ⟨v3,v4,rfl,h3,h4,_,_⟩:=hb
 have m1:=fun (w1:World) (hb:Below w.heap.size w w1)=>ZdS w1 _ _ N E (h1.below hb) (h4.below hb) (by omega)
 have m2:=fun (w1:World) (hb:Below w.heap.size w w1)=>ZdS w1 _ _ M D (h3.below hb) (h2.below hb) (by omega)
 have m3:=fun (w1:World) (hb:Below w.heap.size w w1)=>ZdS w1 _ _ D E (h2.below hb) (h4.below hb) (by omega)
 have l1:=(Ze4 (a:=N) (lb:=Zc E) (k:=0) rfl 140 (by omega)).2
 have l2:=(Ze4 (a:=M) (lb:=Zc D) (k:=0) rfl 140 (by omega)).2
 have l3:=(Ze4 (a:=D) (lb:=Zc E) (k:=0) rfl 140 (by omega)).2
 rw [List.drop_zero,Zae] at l1 l2 l3
 obtain ⟨A1,e1,rfl,_,_,_⟩:=h1
 obtain ⟨A2,e2,rfl,_,_,_⟩:=h2
 obtain ⟨A3,e3,rfl,_,_,_⟩:=h3
 obtain ⟨A4,e4,rfl,_,_,_⟩:=h4
 obtain ⟨T,hT⟩:∃ T,T=Zbh s (N*E) t (M*D):=⟨_,rfl⟩
 obtain ⟨S,hS⟩:∃ S,S=ZbH s (N*E) t (M*D):=⟨_,rfl⟩
 rw [<- hT,<- hS]
 unfold Zbh at hT
 unfold ZbH at hS
 generalize N*E=X at *
 generalize M*D=Y at *
 generalize D*E=Z at *
 have hl:=Lib.hid (And.intro l1 (And.intro l2 l3))
 have HT:=Lib.hid (And.intro hT hS)
 clear l1 l2 l3 hN hD hM hE hT hS
 go_enter Tryz.func71,Tryz.ntmps71
 go_upto_region 1 with fail
 go_region_held3 (fun w'=>(w'.cell? ⟨w.heap.size,0,none⟩=some (.slice A1 (Zc N).length e1)/\w'.cell? ⟨w.heap.size,1,none⟩=some (.slice A2 (Zc D).length e2)/\w'.cell? ⟨w.heap.size,2,none⟩=some (.bool s)/\w'.cell? ⟨w.heap.size+1,0,none⟩=some (.slice A3 (Zc M).length e3)/\w'.cell? ⟨w.heap.size+1,1,none⟩=some (.slice A4 (Zc E).length e4)/\w'.cell? ⟨w.heap.size+1,2,none⟩=some (.bool t)/\w'.cell? ⟨w.heap.size+1+1,0,none⟩=some (.slice none 0 0)/\w'.cell? ⟨w.heap.size+1+1,1,none⟩=some (.slice none 0 0)/\w'.cell? ⟨w.heap.size+1+1,2,none⟩=some (.bool false))/\w.heap.size+2<w'.heap.size/\Below w.heap.size w w'/\(w'.frozen? ⟨w.heap.size+1+1,0,none⟩=false/\w'.frozen? ⟨w.heap.size+1+1,1,none⟩=false/\w'.frozen? ⟨w.heap.size+1+1,2,none⟩=false))
  (first
   | with_reducible assumption
   | with_reducible exact Zpt (by with_reducible assumption) (by with_reducible assumption)
   | exact ⟨⟨by go_simp,by go_simp,by go_simp,by go_simp,by go_simp,by go_simp,by go_simp,by go_simp,by go_simp⟩,by simp,(((Below.refl _ _).alloc (Nat.le_refl _) _).alloc (by simp) _ |>.alloc (by simp;omega) _).drew,⟨by go_simp,by go_simp,by go_simp⟩⟩)
  (first
   | (go_at_call 72;(with_reducible refine (m1 _ (Zj5 (by with_reducible assumption))).mono ?_);rintro e wa ⟨x,rfl,hx,hba,fx⟩)
   | (go_at_call 72;(with_reducible refine (m2 _ (Zj5 (by with_reducible assumption))).mono ?_);rintro e wb ⟨y,rfl,hy,hbb,fy⟩))
 have BX:=Zmv (by with_reducible assumption)
 have hx:=hx.below hbb
 have k3:=m3 wb BX.below
 obtain ⟨c0,c1,c2,d0,d1,d2,_,_,_,_,_,_,_,_⟩:=id BX
 go_upto_region 3 with (first
  | (go_at_call 72;(with_reducible refine k3.mono ?_);rintro e wc ⟨z,rfl,hz,hbc,fz⟩;have hzz:=hz;obtain ⟨A5,e5,rfl,_⟩:=hzz))
 have BX:=(BX.keep hbc).keep (Za wc (.cells #[.slice none 0 0,.slice A5 (Zc Z).length e5,.bool false] 103))
 have FB:=FracBox.start wc (.slice none 0 0) (.slice A5 (Zc Z).length e5) (.bool false) 103
 have hb2:=Za wc (.cells #[.slice none 0 0,.slice A5 (Zc Z).length e5,.bool false] 103)
 have hzk:=fun (w':World) (h:Below wc.heap.size wc w')=>hz.below h
 have hx:=(hx.below hbc).below hb2
 have hy:=(hy.below hbc).below hb2
 clear hz
 have hbb:=BX.below
 generalize wc.alloc (.cells #[.slice none 0 0,.slice A5 (Zc Z).length e5,.bool false] 103)=wd at *
 have hsz0:w.heap.size+2<wb.heap.size:=(Zmv (by with_reducible assumption)).size
 have hsz:w.heap.size+2<wc.heap.size:=by have:=hbc.size;omega
 have hfz:=fz.mono (B':=w.heap.size+3) (by omega)
 clear fz hsz0
 generalize wc.heap.size=b at *
 have n0:¬ w.heap.size=b:=by omega
 have n1:¬ w.heap.size+1=b:=by omega
 have n2:¬ w.heap.size+1+1=b:=by omega
 obtain ⟨c0,c1,c2,d0,d1,d2,i0,i1,i2,j0,j1,j2,_,_⟩:=id BX
 have HZ:=Lib.hid (And.intro hsz hfz)
 have HB:=Lib.hid FB.lt
 clear hsz hfz
 by_cases hst:s=t
 ·have hss:(s==t)=true:=by simpa using hst
  have ad:=Zi7 wd x y X Y hx hy (by have:=hl.out;omega) (by have:=hl.out;omega)
  have hTS:T=X+Y/\S=s:=by
   obtain ⟨a1,a2⟩:=HT.out
   rw [if_pos hst] at a1 a2
   exact ⟨a1,a2⟩
  obtain ⟨rfl,rfl⟩:=hTS
  clear hst
  go_wp2_with (first
   | (go_at_call 94;(with_reducible refine ad.mono ?_);rintro e we ⟨v,rfl,hv,hbe,fv⟩;have hvv:=hv;obtain ⟨A6,e6,rfl,_⟩:=hvv;have BX:=BX.keep hbe;have FB:=FB.keep hbe;obtain ⟨c0,c1,c2,d0,d1,d2,i0,i1,i2,j0,j1,j2,_,_⟩:=id BX;obtain ⟨k0,k1,k2,l0,l1,l2,_⟩:=id FB))
  exact bodyPost_ret (v:=.agg #[.slice A6 (Zc (X+Y)).length e6,.slice A5 (Zc Z).length e5,.bool S]) (by simp [results,Tryz.results71,go_sem,i0,i1,i2]) rfl (Zhj hzk HZ.out.2 hb2 hbe hv fv HB.out HZ.out.1 BX.below _ _)
 ·have hss:(s==t)=false:=by simpa using hst
  by_cases hlt:X<Y
  ·have hdl:decide (X<Y)=true:=decide_eq_true hlt
   have ls:=Zim wd x y X Y hx hy
   rw [hdl] at ls
   have sb:=fun (q:Nat)=>Zjo (wd.drewN q) y x Y X (hy.drewN q) (hx.drewN q) (by have:=hl.out;omega) (by have:=hl.out;omega) (by omega)
   have hTS:T=Y-X/\S=t:=by
    obtain ⟨a1,a2⟩:=HT.out
    rw [if_neg hst,if_pos hlt] at a1 a2
    exact ⟨a1,a2⟩
   obtain ⟨rfl,rfl⟩:=hTS
   clear hst hlt hdl
   go_wp2_with (first
    | (go_at_call 97;(with_reducible refine ls.mono ?_);rintro e we ⟨rfl,q,rfl⟩;have sq:=sb q)
    | (go_at_call 98;(with_reducible refine sq.mono ?_);rintro e we ⟨v,rfl,hv,hbe,fv⟩;have hbe:Below wd.heap.size wd we:=⟨hbe.os,hbe.tape,hbe.output,hbe.size,hbe.block⟩;have hvv:=hv;obtain ⟨A6,e6,rfl,_⟩:=hvv;have BX:=BX.keep hbe;have FB:=FB.keep hbe;obtain ⟨c0,c1,c2,d0,d1,d2,i0,i1,i2,j0,j1,j2,_,_⟩:=id BX;obtain ⟨k0,k1,k2,l0,l1,l2,_⟩:=id FB))
   exact bodyPost_ret (v:=.agg #[.slice A6 (Zc (Y-X)).length e6,.slice A5 (Zc Z).length e5,.bool S]) (by simp [results,Tryz.results71,go_sem,i0,i1,i2]) rfl (Zhj hzk HZ.out.2 hb2 hbe hv fv HB.out HZ.out.1 BX.below _ _)
  ·have hdl:decide (X<Y)=false:=decide_eq_false hlt
   have ls:=Zim wd x y X Y hx hy
   rw [hdl] at ls
   have sb:=fun (q:Nat)=>Zjo (wd.drewN q) x y X Y (hx.drewN q) (hy.drewN q) (by have:=hl.out;omega) (by have:=hl.out;omega) (by omega)
   have hTS:T=X-Y/\S=s:=by
    obtain ⟨a1,a2⟩:=HT.out
    rw [if_neg hst,if_neg hlt] at a1 a2
    exact ⟨a1,a2⟩
   obtain ⟨rfl,rfl⟩:=hTS
   clear hst hlt hdl
   go_wp2_with (first
    | (go_at_call 97;(with_reducible refine ls.mono ?_);rintro e we ⟨rfl,q,rfl⟩;have sq:=sb q)
    | (go_at_call 98;(with_reducible refine sq.mono ?_);rintro e we ⟨v,rfl,hv,hbe,fv⟩;have hbe:Below wd.heap.size wd we:=⟨hbe.os,hbe.tape,hbe.output,hbe.size,hbe.block⟩;have hvv:=hv;obtain ⟨A6,e6,rfl,_⟩:=hvv;have BX:=BX.keep hbe;have FB:=FB.keep hbe;obtain ⟨c0,c1,c2,d0,d1,d2,i0,i1,i2,j0,j1,j2,_,_⟩:=id BX;obtain ⟨k0,k1,k2,l0,l1,l2,_⟩:=id FB))
   exact bodyPost_ret (v:=.agg #[.slice A6 (Zc (X-Y)).length e6,.slice A5 (Zc Z).length e5,.bool S]) (by simp [results,Tryz.results71,go_sem,i0,i1,i2]) rfl (Zhj hzk HZ.out.2 hb2 hbe hv fv HB.out HZ.out.1 BX.below _ _)
end
end Go.Proofs.YtolookeddknmoaaGreat
