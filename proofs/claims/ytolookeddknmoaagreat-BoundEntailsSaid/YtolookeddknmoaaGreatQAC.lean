import Derived.Shelf.Spec.BitsCarry
import Derived.Deep.RegionHeld3
import Derived.Deep.RegionWith
import Derived.Test.YtolookeddknmoaaGreatQAB
set_option maxRecDepth 100000
set_option maxHeartbeats 8000000
namespace Go.Proofs.YtolookeddknmoaaGreat
section
open Go.RowKit
def up (m:Nat):Nat:=m / 18446744073709551616
def lw (m:Nat):Nat:=m % 18446744073709551616
theorem Ze3 (m:Nat):lw m<18446744073709551616:=Nat.mod_lt _ (by decide)
theorem Zrp {m:Nat} (h:m<340282366920938463463374607431768211456):up m<18446744073709551616:=by unfold up;omega
theorem Zi1 (m:Nat):up m*18446744073709551616+lw m=m:=by unfold up lw;omega
abbrev ZbI (s:Bool) (m:Nat):Value:=.agg #[.bool s,.int .u64 (up m:Nat),.int .u64 (lw m:Nat)]
theorem ZiM (x y:Nat) (w:World) (hx:x<18446744073709551616) (hy:y<18446744073709551616) :
  Calls Tryz.prog 100 #[.int .u64 x,.int .u64 y] w fun e w'=>e=.returned (.tuple #[.int .u64 (up (x*y):Nat),.int .u64 (lw (x*y):Nat)])/\w=w':=
 (Tryz.bits_Mul64 x y hx hy w).mono fun _ _ ⟨he,hw⟩=>⟨he,hw.symm⟩
theorem Zj9 (n:Int) (b:Nat) (w:World) (h1:-9223372036854775808<=n) (h2:n<=9223372036854775807) (h3:b<18446744073709551616) :
  Calls Tryz.prog 119 #[.int .i64 n,.int .u64 b] w fun e w'=>e=.returned (ZbI (decide (n<0)) (n.natAbs*b))/\Below w.heap.size w w':=by
 have c1:=fun w=>ZdX n w h1 h2
 have c2:=fun w=>ZiM n.natAbs b w (by omega) h3
 clear h1 h2 h3
 go_enter Tryz.func119,Tryz.ntmps119
 go_wp2_with (first
  | (go_at_call 74;refine (c1 _).mono ?_;rintro e w' ⟨rfl,rfl⟩)
  | (go_at_call 100;refine (c2 _).mono ?_;rintro e w' ⟨rfl,rfl⟩))
 exact bodyPost_ret (v:=ZbI (decide (n<0)) (n.natAbs*b)) (by simp [results,Tryz.results119,go_sem]) rfl ⟨rfl,(Below.refl _ _).alloc (Nat.le_refl _) _⟩
def ZiK (m k:Nat):Bool:=decide (m<k)
theorem Zmg (s t:Bool) (m k:Nat) (w:World) :
  Calls Tryz.prog 125 #[ZbI s m,ZbI t k] w fun e w'=>e=.returned (.bool (ZiK m k)) ∧
   w'=(w.alloc (.cells #[.bool s,.int .u64 (up m:Nat),.int .u64 (lw m:Nat)] 150)).alloc (.cells #[.bool t,.int .u64 (up k:Nat),.int .u64 (lw k:Nat)] 150):=by
 have m1:=Zi1 m
 have k1:=Zi1 k
 have m2:=Ze3 m
 have k2:=Ze3 k
 obtain ⟨a,ha⟩:∃ a,a=up m:=⟨_,rfl⟩
 obtain ⟨b,hb⟩:∃ b,b=lw m:=⟨_,rfl⟩
 obtain ⟨c,hc⟩:∃ c,c=up k:=⟨_,rfl⟩
 obtain ⟨d,hd⟩:∃ d,d=lw k:=⟨_,rfl⟩
 unfold ZbI
 rw [<- ha,<- hb] at m1 ⊢
 rw [<- hc,<- hd] at k1 ⊢
 rw [<- hb] at m2
 rw [<- hd] at k2
 clear ha hb hc hd
 obtain ⟨r,hr⟩:∃ r,r=ZiK m k:=⟨_,rfl⟩
 rw [<- hr]
 unfold ZiK at hr
 by_cases h1:a<c
 ·have d1:decide (a<c)=true:=decide_eq_true h1
  obtain rfl:r=true:=by rw [hr];exact decide_eq_true (by omega)
  clear hr m1 k1 m2 k2 h1
  go_enter Tryz.func125,Tryz.ntmps125
  go_wp2
  go_ret
  exact ⟨rfl,rfl⟩
 ·have d1:decide (a<c)=false:=decide_eq_false h1
  by_cases h2:a=c
  ·obtain rfl:r=decide (b<d):=by rw [hr];congr 1;apply propext;omega
   subst h2
   clear hr m1 k1 m2 k2 h1
   go_enter Tryz.func125,Tryz.ntmps125
   go_wp2
   go_ret
   exact ⟨rfl,rfl⟩
  ·obtain rfl:r=false:=by rw [hr];exact decide_eq_false (by omega)
   have d2:((a:Int)==(c:Int))=false:=by simp;omega
   have d3:(a==c)=false:=by simp;omega
   clear hr m1 k1 m2 k2 h1
   go_enter Tryz.func125,Tryz.ntmps125
   go_wp2
   go_ret
   exact ⟨rfl,rfl⟩
theorem Zjq (x y c:Nat) (hc:c<=1) (w:World) :
  (callFunc 124 #[.int .u64 x,.int .u64 y,.int .u64 c]).run Tryz.prog w =
   .ok (.value (.tuple #[.int .u64 (((x+y+c) % 18446744073709551616:Nat):Int),.int .u64 (((x+y+c) / 18446744073709551616:Nat):Int)])) w:=by
 rw [run_callFunc_extern Tryz.func124 (by kernel_rfl) (by kernel_rfl) (by kernel_rfl) (e:=add64Entry) (by kernel_rfl),run_add64 x y c (by omega) (by omega) (by omega) (by omega)]
 simp only [Result.andThen]
 congr 5<;>omega
theorem Ze9 (x y b:Nat) (hb:b<=1) (w:World) :
  (callFunc 126 #[.int .u64 x,.int .u64 y,.int .u64 b]).run Tryz.prog w =
   .ok (.value (.tuple #[.int .u64 (((x+18446744073709551616-y-b) % 18446744073709551616:Nat):Int),.int .u64 ((if x<y+b then 1 else 0:Nat):Int)])) w:=by
 rw [run_callFunc_extern Tryz.func126 (by kernel_rfl) (by kernel_rfl) (by kernel_rfl) (e:=sub64Entry) (by kernel_rfl),run_sub64 x y b hb]
 rfl
def ZbH (s:Bool) (m:Nat) (t:Bool) (k:Nat):Bool:=if s=t then s else if m<k then t else s
def Zbh (s:Bool) (m:Nat) (t:Bool) (k:Nat):Nat:=if s=t then m+k else if m<k then k-m else m-k
theorem ZoR {m k:Nat} (h:m+k<340282366920938463463374607431768211456) :
  (lw m+lw k+0) % 18446744073709551616=lw (m+k)/\(up m+up k+(lw m+lw k+0) / 18446744073709551616) % 18446744073709551616=up (m+k)/\(lw m+lw k+0) / 18446744073709551616<=1:=by
 unfold lw up;omega
theorem Zj3 {m k:Nat} (h:k<=m) (hm:m<340282366920938463463374607431768211456) :
  (lw m+18446744073709551616-lw k-0) % 18446744073709551616=lw (m-k)/\(up m+18446744073709551616-up k-(if lw m<lw k+0 then 1 else 0)) % 18446744073709551616=up (m-k)/\(if lw m<lw k+0 then 1 else 0)<=1:=by
 unfold lw up;split<;>omega
theorem Zov (s:Bool) (m k:Nat) (w:World) (h:m+k<340282366920938463463374607431768211456) :
  Calls Tryz.prog 120 #[ZbI s m,ZbI s k] w fun e w'=>e=.returned (ZbI s (m+k))/\Below w.heap.size w w':=by
 obtain ⟨e1,e2,e3⟩:=ZoR h
 have a1:=fun w=>Zjq (lw m) (lw k) 0 (by omega) w
 have a2:=fun w=>Zjq (up m) (up k) _ e3 w
 rw [e1] at a1
 rw [e2] at a2
 obtain ⟨c,hc⟩:∃ c,c=(lw m+lw k+0) / 18446744073709551616:=⟨_,rfl⟩
 rw [<- hc] at a1 a2
 obtain ⟨d,hd⟩:∃ d,d=(up m+up k+c) / 18446744073709551616:=⟨_,rfl⟩
 rw [<- hd] at a2
 simp only [Int.natCast_zero] at a1
 clear hc hd e1 e2 e3 h
 obtain ⟨x,hx⟩:∃ x,x=lw (m+k):=⟨_,rfl⟩
 obtain ⟨y,hy⟩:∃ y,y=up (m+k):=⟨_,rfl⟩
 unfold ZbI
 rw [<- hx] at a1 ⊢
 rw [<- hy] at a2 ⊢
 clear hx hy
 cases s
 all_goals
  go_enter Tryz.func120,Tryz.ntmps120
  go_wp2_with fail
  exact bodyPost_ret (v:=.agg #[.bool _,.int .u64 y,.int .u64 x]) (by simp [results,Tryz.results120,go_sem]) rfl ⟨rfl,(((Below.refl _ _).alloc (Nat.le_refl _) _).alloc (by simp) _).alloc (by simp;omega) _⟩
theorem ZnX (w:World) (a b c d e:Obj):Below w.heap.size w (((((w.alloc a).alloc b).alloc c).alloc d).alloc e):=
 (((((Below.refl _ _).alloc (Nat.le_refl _) _).alloc (by simp) _).alloc (by simp;omega) _).alloc (by simp;omega) _).alloc (by simp;omega) _
theorem Zrc {W w1:World} (hb:Below W.heap.size W w1):(∀ b o,b<W.heap.size->w1.cell? ⟨b,o,none⟩=W.cell? ⟨b,o,none⟩)/\(∀ b o,b<W.heap.size->w1.frozen? ⟨b,o,none⟩=W.frozen? ⟨b,o,none⟩):=
 ⟨fun b o h=>hb.cell (p:=⟨b,o,none⟩) h,fun b o h=>hb.frozen (p:=⟨b,o,none⟩) h⟩
theorem Zou (s:Bool) (m k:Nat) (w:World) (hm:m<340282366920938463463374607431768211456) (hk:k<340282366920938463463374607431768211456) :
  Calls Tryz.prog 120 #[ZbI s m,ZbI (!s) k] w fun e w'=>e=.returned (ZbI (if m<k then !s else s) (if m<k then k-m else m-k))/\Below w.heap.size w w':=by
 have cs:=fun w=>Zmg s (!s) m k w
 obtain ⟨r,hr⟩:∃ r,r=ZiK m k:=⟨_,rfl⟩
 rw [<- hr] at cs
 unfold ZiK at hr
 by_cases h:m<k
 ·obtain rfl:r=true:=by rw [hr];exact decide_eq_true h
  rw [if_pos h,if_pos h]
  clear hr
  obtain ⟨e1,e2,e3⟩:=Zj3 (Nat.le_of_lt h) hk
  have a1:=fun w=>Ze9 (lw k) (lw m) 0 (by omega) w
  have a2:=fun w=>Ze9 (up k) (up m) _ e3 w
  rw [e1] at a1
  rw [e2] at a2
  obtain ⟨c,hc⟩:∃ c,c=(if lw k<lw m+0 then 1 else 0):=⟨_,rfl⟩
  rw [<- hc] at a1 a2
  obtain ⟨d,hd⟩:∃ d,d=(if up k<up m+c then 1 else 0):=⟨_,rfl⟩
  rw [<- hd] at a2
  simp only [Int.natCast_zero] at a1
  clear hc hd e1 e2 e3 hm hk h
  obtain ⟨x,hx⟩:∃ x,x=lw (k-m):=⟨_,rfl⟩
  obtain ⟨y,hy⟩:∃ y,y=up (k-m):=⟨_,rfl⟩
  unfold ZbI at cs ⊢
  rw [<- hx] at a1 ⊢
  rw [<- hy] at a2 ⊢
  clear hx hy
  cases s
  all_goals
   simp only [Bool.not_false,Bool.not_true] at cs ⊢
   go_enter Tryz.func120,Tryz.ntmps120
   go_wp2_with (go_at_call 125;refine (cs _).mono ?_;rintro e w1 ⟨rfl,rfl⟩)
   exact bodyPost_ret (v:=.agg #[.bool _,.int .u64 y,.int .u64 x]) (by simp [results,Tryz.results120,go_sem]) rfl ⟨rfl,ZnX _ _ _ _ _ _⟩
 ·obtain rfl:r=false:=by rw [hr];exact decide_eq_false h
  rw [if_neg h,if_neg h]
  clear hr
  obtain ⟨e1,e2,e3⟩:=Zj3 (Nat.le_of_not_lt h) hm
  have a1:=fun w=>Ze9 (lw m) (lw k) 0 (by omega) w
  have a2:=fun w=>Ze9 (up m) (up k) _ e3 w
  rw [e1] at a1
  rw [e2] at a2
  obtain ⟨c,hc⟩:∃ c,c=(if lw m<lw k+0 then 1 else 0):=⟨_,rfl⟩
  rw [<- hc] at a1 a2
  obtain ⟨d,hd⟩:∃ d,d=(if up m<up k+c then 1 else 0):=⟨_,rfl⟩
  rw [<- hd] at a2
  simp only [Int.natCast_zero] at a1
  clear hc hd e1 e2 e3 hm hk h
  obtain ⟨x,hx⟩:∃ x,x=lw (m-k):=⟨_,rfl⟩
  obtain ⟨y,hy⟩:∃ y,y=up (m-k):=⟨_,rfl⟩
  unfold ZbI at cs ⊢
  rw [<- hx] at a1 ⊢
  rw [<- hy] at a2 ⊢
  clear hx hy
  cases s
  all_goals
   simp only [Bool.not_false,Bool.not_true] at cs ⊢
   go_enter Tryz.func120,Tryz.ntmps120
   go_wp2_with (go_at_call 125;refine (cs _).mono ?_;rintro e w1 ⟨rfl,rfl⟩)
   exact bodyPost_ret (v:=.agg #[.bool _,.int .u64 y,.int .u64 x]) (by simp [results,Tryz.results120,go_sem]) rfl ⟨rfl,ZnX _ _ _ _ _ _⟩
theorem ZpK (s t:Bool) (m k:Nat) (w:World) (h:m+k<340282366920938463463374607431768211456) :
  Calls Tryz.prog 120 #[ZbI s m,ZbI t k] w fun e w'=>e=.returned (ZbI (ZbH s m t k) (Zbh s m t k))/\Below w.heap.size w w':=by
 unfold ZbH Zbh
 by_cases hst:s=t
 ·subst hst
  rw [if_pos rfl,if_pos rfl]
  exact Zov s m k w h
 ·obtain rfl:t=!s:=by cases s<;>cases t<;>simp_all
  rw [if_neg hst,if_neg hst]
  exact Zou s m k w (by omega) (by omega)
theorem ZpM (s:Bool) (m d:Nat) (w:World) (hm:m<340282366920938463463374607431768211456) (h0:0<d) (hd:d<18446744073709551616) :
  Calls Tryz.prog 114 #[ZbI s m,.int .u64 d] w fun e w'=>e=.returned (.int .u64 (m % d:Nat))/\Below w.heap.size w w':=by
 have c:=fun w=>Zrn (up m) (lw m) d w (Zrp hm) h0 (Ze3 m) hd
 rw [Zi1] at c
 obtain ⟨r,hr⟩:∃ r,r=m % d:=⟨_,rfl⟩
 rw [<- hr] at c ⊢
 clear hr hm h0 hd
 go_enter Tryz.func114,Tryz.ntmps114
 go_wp2_with (go_at_call 121;refine (c _).mono ?_;rintro e w1 ⟨rfl,n,rfl⟩)
 go_ret
 exact ⟨rfl,below_drewN ((Below.refl _ _).alloc (Nat.le_refl _) _) _⟩
def Zks (m d:Nat):Bool:=decide (m / d<18446744073709551616)
def Znk (m d:Nat):Nat:=if m / d<18446744073709551616 then m / d else 0
theorem ZpI (s:Bool) (m d:Nat) (w:World) (h0:0<d) (hd:d<18446744073709551616) :
  Calls Tryz.prog 115 #[ZbI s m,.int .u64 d] w fun e w'=>e=.returned (.tuple #[.int .u64 (Znk m d:Nat),.bool (Zks m d)])/\Below w.heap.size w w':=by
 have hu:=Zi1 m
 have hl:=Ze3 m
 unfold Znk Zks
 by_cases h:d<=up m
 ·have hh:¬ m / d<18446744073709551616:=by
   rw [Nat.div_lt_iff_lt_mul h0]
   have:=Nat.mul_le_mul_left 18446744073709551616 h
   omega
  rw [if_neg hh,decide_eq_false hh]
  have d1:decide (d<=up m)=true:=decide_eq_true h
  clear hh h0 hd hu hl h
  go_enter Tryz.func115,Tryz.ntmps115
  go_wp2
  go_ret2
  exact ⟨rfl,(Below.refl _ _).alloc (Nat.le_refl _) _⟩
 ·have hh:m / d<18446744073709551616:=by
   rw [Nat.div_lt_iff_lt_mul h0]
   have:=Nat.mul_le_mul_left 18446744073709551616 (show up m+1<=d by omega)
   omega
  rw [if_pos hh,decide_eq_true hh]
  have d1:decide (d<=up m)=false:=decide_eq_false h
  have c:=fun w=>Zp0 (up m) (lw m) d w (by omega) (Ze3 m) hd
  rw [Zi1] at c
  obtain ⟨q,hq⟩:∃ q,q=m / d:=⟨_,rfl⟩
  obtain ⟨r,hr⟩:∃ r,r=m % d:=⟨_,rfl⟩
  rw [<- hq,<- hr] at c
  rw [<- hq]
  clear hh h0 hd hu hl h hq hr
  go_enter Tryz.func115,Tryz.ntmps115
  go_wp2_with (go_at_call 122;refine (c _).mono ?_;rintro e w1 ⟨rfl,n,rfl⟩)
  go_ret2
  exact ⟨rfl,below_drewN ((Below.refl _ _).alloc (Nat.le_refl _) _) _⟩
end
end Go.Proofs.YtolookeddknmoaaGreat
