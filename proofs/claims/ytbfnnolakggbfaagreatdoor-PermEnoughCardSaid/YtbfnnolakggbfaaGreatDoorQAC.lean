import Derived.Shelf.Spec.BitsCarry
import Derived.Deep.RegionHeld3
import Derived.Deep.RegionWith
import Derived.Test.YtbfnnolakggbfaaGreatDoorQAB
set_option maxRecDepth 100000
set_option maxHeartbeats 8000000
open Go.Value renaming int → Yd
open Go renaming World → Yh
open Go.RowKit
namespace Go.Proofs.YtbfnnolakggbfaaGreatDoor
def up (m:Nat):Nat:=m / 18446744073709551616
def lw (m:Nat):Nat:=m % 18446744073709551616
theorem Zfi (m:Nat):lw m<18446744073709551616:=Nat.mod_lt _ (by decide)
theorem Zsj {m:Nat} (h:m<340282366920938463463374607431768211456):up m<18446744073709551616:=by unfold up;omega
theorem Zjj (m:Nat):up m*18446744073709551616+lw m=m:=by unfold up lw;omega
abbrev ZbJ (s:Bool) (m:Nat):Value:=.agg #[.bool s,.int .u64 (up m:Nat),.int .u64 (lw m:Nat)]
theorem Zi3 (x y:Nat) (w:Yh) (b:x<18446744073709551616) (c:y<18446744073709551616) :
  Calls Tryz.prog 61 #[.int .u64 x,.int .u64 y] w fun e w'=>e=.returned (.tuple #[.int .u64 (up (x*y):Nat),.int .u64 (lw (x*y):Nat)])/\w=w':=
 (Tryz.bits_Mul64 x y b c w).mono fun _ _ ⟨he,a⟩=>⟨he,a.symm⟩
theorem ZkA (n:Int) (b:Nat) (w:Yh) (a:-9223372036854775808<=n) (c:n<=9223372036854775807) (d:b<18446744073709551616) :
  Calls Tryz.prog 95 #[Yd .i64 n,.int .u64 b] w fun e w'=>e=.returned (ZbJ (decide (n<0)) (n.natAbs*b))/\Below w.heap.size w w':=by
 have c1:=fun w=>Zd5 n w a c;have c2:=fun w=>Zi3 n.natAbs b w (by omega) d;clear a c d;go_enter Tryz.func95,Tryz.ntmps95
 go_wp2_with (first
  |(go_at_call 56;refine(c1 _).mono ?_;rintro e w' ⟨rfl,rfl⟩)
  |(go_at_call 61;refine(c2 _).mono ?_;rintro e w' ⟨rfl,rfl⟩))
 exact bodyPost_ret (v:=ZbJ (decide (n<0)) (n.natAbs*b)) (by simp[results,Tryz.results95,go_sem]) rfl ⟨rfl,(Below.refl _ _).alloc (Nat.le_refl _) _⟩
def Zi1 (m k:Nat):Bool:=decide (m<k)
theorem ZmO (s t:Bool) (m k:Nat) (w:Yh) :
  Calls Tryz.prog 141 #[ZbJ s m,ZbJ t k] w fun e w'=>e=.returned (.bool (Zi1 m k)) ∧
   w'=(w.alloc (.cells #[.bool s,.int .u64 (up m:Nat),.int .u64 (lw m:Nat)] 91)).alloc (.cells #[.bool t,.int .u64 (up k:Nat),.int .u64 (lw k:Nat)] 91):=by
 have h:=Zjj m;have k1:=Zjj k;have i:=Zfi m;have k2:=Zfi k;obtain⟨a,n⟩:∃a,a=up m:=⟨_,rfl⟩
 obtain⟨b,j⟩:∃b,b=lw m:=⟨_,rfl⟩
 obtain⟨c,hc⟩:∃c,c=up k:=⟨_,rfl⟩
 obtain⟨d,l⟩:∃d,d=lw k:=⟨_,rfl⟩
 unfold ZbJ;rw[<-n,<-j]at h⊢;rw[<-hc,<-l]at k1⊢;rw[<-j]at i;rw[<-l]at k2;clear n j hc l;obtain⟨r,f⟩:∃r,r=Zi1 m k:=⟨_,rfl⟩
 rw[<-f];unfold Zi1 at f;by_cases g:a<c
 ·have d1:decide (a<c)=true:=decide_eq_true g;obtain rfl:r=true:=by rw[f];exact decide_eq_true (by omega)
  clear f h k1 i k2 g;go_enter Tryz.func141,Tryz.ntmps141;go_wp2;go_ret;exact⟨rfl,rfl⟩
 ·have d1:decide (a<c)=false:=decide_eq_false g;by_cases o:a=c
  ·obtain rfl:r=decide (b<d):=by rw[f];congr 1;apply propext;omega
   subst o;clear f h k1 i k2 g;go_enter Tryz.func141,Tryz.ntmps141;go_wp2;go_ret;exact⟨rfl,rfl⟩
  ·obtain rfl:r=false:=by rw[f];exact decide_eq_false (by omega)
   have d2:((a:Int)==(c:Int))=false:=by simp;omega
   have p:(a==c)=false:=by simp;omega
   clear f h k1 i k2 g;go_enter Tryz.func141,Tryz.ntmps141;go_wp2;go_ret;exact⟨rfl,rfl⟩
theorem ZjM (x y c:Nat) (hc:c<=1) (w:Yh) :
  (callFunc 140 #[.int .u64 x,.int .u64 y,.int .u64 c]).run Tryz.prog w =
   .ok (.value (.tuple #[.int .u64 (((x+y+c) % 18446744073709551616:Nat):Int),.int .u64 (((x+y+c) / 18446744073709551616:Nat):Int)])) w:=by
 rw[run_callFunc_extern Tryz.func140 (by kernel_rfl) (by kernel_rfl) (by kernel_rfl) (e:=add64Entry) (by kernel_rfl),run_add64 x y c (by omega) (by omega) (by omega) (by omega)];simp only[Result.andThen]
 congr 5<;>omega
theorem Zft (x y b:Nat) (a:b<=1) (w:Yh) :
  (callFunc 142 #[.int .u64 x,.int .u64 y,.int .u64 b]).run Tryz.prog w =
   .ok (.value (.tuple #[.int .u64 (((x+18446744073709551616-y-b) % 18446744073709551616:Nat):Int),.int .u64 ((if x<y+b then 1 else 0:Nat):Int)])) w:=by
 rw[run_callFunc_extern Tryz.func142 (by kernel_rfl) (by kernel_rfl) (by kernel_rfl) (e:=sub64Entry) (by kernel_rfl),run_sub64 x y b a];rfl
def ZbI (s:Bool) (m:Nat) (t:Bool) (k:Nat):Bool:=if s=t then s else if m<k then t else s
def Zba (s:Bool) (m:Nat) (t:Bool) (k:Nat):Nat:=if s=t then m+k else if m<k then k-m else m-k
theorem ZpD {m k:Nat} (h:m+k<340282366920938463463374607431768211456) :
  (lw m+lw k+0) % 18446744073709551616=lw (m+k)/\(up m+up k+(lw m+lw k+0) / 18446744073709551616) % 18446744073709551616=up (m+k)/\(lw m+lw k+0) / 18446744073709551616<=1:=by
 unfold lw up;omega
theorem Zku {m k:Nat} (h:k<=m) (hm:m<340282366920938463463374607431768211456) :
  (lw m+18446744073709551616-lw k-0) % 18446744073709551616=lw (m-k)/\(up m+18446744073709551616-up k-(if lw m<lw k+0 then 1 else 0)) % 18446744073709551616=up (m-k)/\(if lw m<lw k+0 then 1 else 0)<=1:=by
 unfold lw up;split<;>omega
theorem Zph (s:Bool) (m k:Nat) (w:Yh) (h:m+k<340282366920938463463374607431768211456) :
  Calls Tryz.prog 96 #[ZbJ s m,ZbJ s k] w fun e w'=>e=.returned (ZbJ s (m+k))/\Below w.heap.size w w':=by
 obtain⟨b,f,g⟩:=ZpD h;have a:=fun w=>ZjM (lw m) (lw k) 0 (by omega) w;have a2:=fun w=>ZjM (up m) (up k) _ g w;rw[b]at a;rw[f]at a2;obtain⟨c,hc⟩:∃c,c=(lw m+lw k+0) / 18446744073709551616:=⟨_,rfl⟩
 rw[<-hc]at a a2;obtain⟨d,i⟩:∃d,d=(up m+up k+c) / 18446744073709551616:=⟨_,rfl⟩
 rw[<-i]at a2;simp only[Int.natCast_zero]at a;clear hc i b f g h;obtain⟨x,j⟩:∃x,x=lw (m+k):=⟨_,rfl⟩
 obtain⟨y,l⟩:∃y,y=up (m+k):=⟨_,rfl⟩
 unfold ZbJ;rw[<-j]at a⊢;rw[<-l]at a2⊢;clear j l;cases s
 all_goals
  go_enter Tryz.func96,Tryz.ntmps96;go_wp2_with fail;exact bodyPost_ret (v:=.agg #[.bool _,.int .u64 y,.int .u64 x]) (by simp[results,Tryz.results96,go_sem]) rfl ⟨rfl,(((Below.refl _ _).alloc (Nat.le_refl _) _).alloc (by simp) _).alloc (by simp;omega) _⟩
theorem ZoE (w:Yh) (a b c d e:Obj):Below w.heap.size w (((((w.alloc a).alloc b).alloc c).alloc d).alloc e):=
 (((((Below.refl _ _).alloc (Nat.le_refl _) _).alloc (by simp) _).alloc (by simp;omega) _).alloc (by simp;omega) _).alloc (by simp;omega) _
theorem Zr4 {W a:Yh} (c:Below W.heap.size W a):(∀b o,b<W.heap.size->a.cell? ⟨b,o,none⟩=W.cell? ⟨b,o,none⟩)/\(∀b o,b<W.heap.size->a.frozen? ⟨b,o,none⟩=W.frozen? ⟨b,o,none⟩):=
 ⟨fun b o h=>c.cell (p:=⟨b,o,none⟩) h,fun b o h=>c.frozen (p:=⟨b,o,none⟩) h⟩
theorem Zpg (s:Bool) (m k:Nat) (w:Yh) (hm:m<340282366920938463463374607431768211456) (p:k<340282366920938463463374607431768211456) :
  Calls Tryz.prog 96 #[ZbJ s m,ZbJ (!s) k] w fun e w'=>e=.returned (ZbJ (if m<k then !s else s) (if m<k then k-m else m-k))/\Below w.heap.size w w':=by
 have b:=fun w=>ZmO s (!s) m k w;obtain⟨r,f⟩:∃r,r=Zi1 m k:=⟨_,rfl⟩
 rw[<-f]at b;unfold Zi1 at f;by_cases h:m<k
 ·obtain rfl:r=true:=by rw[f];exact decide_eq_true h
  rw[if_pos h,if_pos h];clear f;obtain⟨g,i,j⟩:=Zku (Nat.le_of_lt h) p;have a:=fun w=>Zft (lw k) (lw m) 0 (by omega) w;have a2:=fun w=>Zft (up k) (up m) _ j w;rw[g]at a;rw[i]at a2;obtain⟨c,hc⟩:∃c,c=(if lw k<lw m+0 then 1 else 0):=⟨_,rfl⟩
  rw[<-hc]at a a2;obtain⟨d,l⟩:∃d,d=(if up k<up m+c then 1 else 0):=⟨_,rfl⟩
  rw[<-l]at a2;simp only[Int.natCast_zero]at a;clear hc l g i j hm p h;obtain⟨x,n⟩:∃x,x=lw (k-m):=⟨_,rfl⟩
  obtain⟨y,o⟩:∃y,y=up (k-m):=⟨_,rfl⟩
  unfold ZbJ at b⊢;rw[<-n]at a⊢;rw[<-o]at a2⊢;clear n o;cases s
  all_goals
   simp only[Bool.not_false,Bool.not_true]at b⊢;go_enter Tryz.func96,Tryz.ntmps96;go_wp2_with (go_at_call 141;refine(b _).mono ?_;rintro e t ⟨rfl,rfl⟩);exact bodyPost_ret (v:=.agg #[.bool _,.int .u64 y,.int .u64 x]) (by simp[results,Tryz.results96,go_sem]) rfl ⟨rfl,ZoE _ _ _ _ _ _⟩
 ·obtain rfl:r=false:=by rw[f];exact decide_eq_false h
  rw[if_neg h,if_neg h];clear f;obtain⟨g,i,j⟩:=Zku (Nat.le_of_not_lt h) hm;have a:=fun w=>Zft (lw m) (lw k) 0 (by omega) w;have a2:=fun w=>Zft (up m) (up k) _ j w;rw[g]at a;rw[i]at a2;obtain⟨c,hc⟩:∃c,c=(if lw m<lw k+0 then 1 else 0):=⟨_,rfl⟩
  rw[<-hc]at a a2;obtain⟨d,l⟩:∃d,d=(if up m<up k+c then 1 else 0):=⟨_,rfl⟩
  rw[<-l]at a2;simp only[Int.natCast_zero]at a;clear hc l g i j hm p h;obtain⟨x,n⟩:∃x,x=lw (m-k):=⟨_,rfl⟩
  obtain⟨y,o⟩:∃y,y=up (m-k):=⟨_,rfl⟩
  unfold ZbJ at b⊢;rw[<-n]at a⊢;rw[<-o]at a2⊢;clear n o;cases s
  all_goals
   simp only[Bool.not_false,Bool.not_true]at b⊢;go_enter Tryz.func96,Tryz.ntmps96;go_wp2_with (go_at_call 141;refine(b _).mono ?_;rintro e t ⟨rfl,rfl⟩);exact bodyPost_ret (v:=.agg #[.bool _,.int .u64 y,.int .u64 x]) (by simp[results,Tryz.results96,go_sem]) rfl ⟨rfl,ZoE _ _ _ _ _ _⟩
theorem Zqx (s t:Bool) (m k:Nat) (w:Yh) (h:m+k<340282366920938463463374607431768211456) :
  Calls Tryz.prog 96 #[ZbJ s m,ZbJ t k] w fun e w'=>e=.returned (ZbJ (ZbI s m t k) (Zba s m t k))/\Below w.heap.size w w':=by
 unfold ZbI Zba;by_cases a:s=t
 ·subst a;rw[if_pos rfl,if_pos rfl];exact Zph s m k w h
 ·obtain rfl:t=!s:=by cases s<;>cases t<;>simp_all
  rw[if_neg a,if_neg a];exact Zpg s m k w (by omega) (by omega)
theorem ZqA (s:Bool) (m d:Nat) (w:Yh) (hm:m<340282366920938463463374607431768211456) (a:0<d) (b:d<18446744073709551616) :
  Calls Tryz.prog 63 #[ZbJ s m,.int .u64 d] w fun e w'=>e=.returned (.int .u64 (m % d:Nat))/\Below w.heap.size w w':=by
 have c:=fun w=>Zsh (up m) (lw m) d w (Zsj hm) a (Zfi m) b;rw[Zjj]at c;obtain⟨r,f⟩:∃r,r=m % d:=⟨_,rfl⟩
 rw[<-f]at c⊢;clear f hm a b;go_enter Tryz.func63,Tryz.ntmps63;go_wp2_with (go_at_call 97;refine(c _).mono ?_;rintro e g ⟨rfl,n,rfl⟩);go_ret;exact⟨rfl,below_drewN ((Below.refl _ _).alloc (Nat.le_refl _) _) _⟩
def ZkU (m d:Nat):Bool:=decide (m / d<18446744073709551616)
def ZnW (m d:Nat):Nat:=if m / d<18446744073709551616 then m / d else 0
theorem Zqt (s:Bool) (m d:Nat) (w:Yh) (b:0<d) (f:d<18446744073709551616) :
  Calls Tryz.prog 64 #[ZbJ s m,.int .u64 d] w fun e w'=>e=.returned (.tuple #[.int .u64 (ZnW m d:Nat),.bool (ZkU m d)])/\Below w.heap.size w w':=by
 have hu:=Zjj m;have g:=Zfi m;unfold ZnW ZkU;by_cases h:d<=up m
 ·have a:¬m / d<18446744073709551616:=by rw[Nat.div_lt_iff_lt_mul b];have:=Nat.mul_le_mul_left 18446744073709551616 h;omega
  rw[if_neg a,decide_eq_false a];have d1:decide (d<=up m)=true:=decide_eq_true h;clear a b f hu g h;go_enter Tryz.func64,Tryz.ntmps64;go_wp2;go_ret2;exact⟨rfl,(Below.refl _ _).alloc (Nat.le_refl _) _⟩
 ·have a:m / d<18446744073709551616:=by rw[Nat.div_lt_iff_lt_mul b];have:=Nat.mul_le_mul_left 18446744073709551616 (show up m+1<=d by omega);omega
  rw[if_pos a,decide_eq_true a];have d1:decide (d<=up m)=false:=decide_eq_false h;have c:=fun w=>ZqS (up m) (lw m) d w (by omega) (Zfi m) f;rw[Zjj]at c;obtain⟨q,hq⟩:∃q,q=m / d:=⟨_,rfl⟩
  obtain⟨r,i⟩:∃r,r=m % d:=⟨_,rfl⟩
  rw[<-hq,<-i]at c;rw[<-hq];clear a b f hu g h hq i;go_enter Tryz.func64,Tryz.ntmps64;go_wp2_with (go_at_call 98;refine(c _).mono ?_;rintro e j ⟨rfl,n,rfl⟩);go_ret2;exact⟨rfl,below_drewN ((Below.refl _ _).alloc (Nat.le_refl _) _) _⟩
end Go.Proofs.YtbfnnolakggbfaaGreatDoor
