import Derived.Deep.DeepFit
import Derived.Deep.SlicePairs
import Derived.Carry
import Derived.Test.YtbfnnolakggbfaaGreatDoorRows
import Derived.Lib.LaidTab
import Derived.Laws.Rows
import Derived.Stop.LaidErr
import Derived.MakeChecks
import Derived.Deep.CutRange
import Derived.Test.YtbfnnolakggbfaaGreatDoorQAI
import Derived.Test.YtbfnnolakggbfaaGreatDoorQAJ
import Derived.Test.YtbfnnolakggbfaaGreatDoorQAK
import Derived.Test.YtbfnnolakggbfaaGreatDoorQAL
import Derived.Test.YtbfnnolakggbfaaGreatDoorQAM
import Derived.Test.YtbfnnolakggbfaaGreatDoorQAP
set_option maxRecDepth 100000
set_option maxHeartbeats 8000000
open Option renaming some → Ya, none → Yb
open Go.Value renaming slice → Yc, int → Yd
open Go.IntKind renaming i64 → Yf
open Go.Obj renaming cells → Yg
open Go renaming World → Yh, Value → Yi
namespace Go.Proofs.YtbfnnolakggbfaaGreatDoor
section
open Go.RowKit
theorem Zno {P:Int} {Q:Nat} {y:Int×Int} (f:0<Q) (g:OkR y) (h:y.1*(Q:Int)=P*y.2):Zcr P Q=(y,0):=by obtain⟨d,e,v⟩:=g;obtain⟨a,b,c⟩:=Zhm (P:=P) f v (by rw[h,e]);unfold Zcr;rw[a,b,c];exact Prod.ext (Prod.ext rfl e.symm) rfl
theorem Znm {P:Int} {Q:Nat} (e:0<Q) (h:(Zcr P Q).2=0):OkR (Zcr P Q).1/\(Zcr P Q).1.1*(Q:Int)=P*(Zcr P Q).1.2:=by obtain⟨d,a,b,c⟩:=Zpn e h;refine⟨⟨d,a,b⟩,?_⟩;show ZcI P Q*(Q:Int)=P*ZcR P Q;rw[a];exact c
theorem OkR.ext {x y:Int×Int} (f:OkR x) (g:OkR y) (h:x.1*y.2=y.1*x.2):x=y:=by obtain⟨d,e,v⟩:=f;obtain⟨j,c,i⟩:=g;rw[e,c]at h;obtain⟨a,b⟩:=v.unique i h;exact Prod.ext a (by rw[e,c,b])
theorem OkR.zero {x:Int×Int} (a:OkR x) (h:x.1=0):x=(0,1):=a.ext Zak (by rw[h];simp)
theorem OkR.neg {x:Int×Int} (a:OkR x):OkR (-x.1,x.2):=by obtain⟨d,e,v⟩:=a;exact⟨d,e,⟨v.pos,v.d_le,by show(-x.1).natAbs<=_;rw[Int.natAbs_neg];exact v.n_le,by show Nat.gcd (-x.1).natAbs d=1;rw[Int.natAbs_neg];exact v.low⟩⟩
theorem OkR.den {x:Int×Int} (a:OkR x):0<x.2:=by have:=a.pos;omega
theorem ZdZ:OkR (1,1):=⟨1,rfl,by decide,by decide,by decide,by decide⟩
theorem Zqo:OkR (-1,1):=⟨1,rfl,by decide,by decide,by decide,by decide⟩
theorem Zjo {x y:Int×Int} (a:OkR x) (b:OkR y) (h:(Zl x y).2=0):OkR (Zl x y).1/\(Zl x y).1.1*(x.2*y.2)=(x.1*y.2+y.1*x.2)*(Zl x y).1.2:=by have:=Znm (Nat.mul_pos a.pos b.pos) h;rw[Int.natCast_mul,<-a.eta.1,<-b.eta.1]at this;exact this
theorem ZhK {x y:Int×Int} (a:OkR x) (b:OkR y) (h:(ZP x y).2=0):OkR (ZP x y).1/\(ZP x y).1.1*(x.2*y.2)=x.1*y.1*(ZP x y).1.2:=by have:=Znm (Nat.mul_pos a.pos b.pos) h;rw[Int.natCast_mul,<-a.eta.1,<-b.eta.1]at this;exact this
theorem Zq5 {x y z:Int×Int} (a:OkR x) (b:OkR y) (c:OkR z) (h:z.1*(x.2*y.2)=(x.1*y.2+y.1*x.2)*z.2):Zl x y=(z,0):=
 Zno (Nat.mul_pos a.pos b.pos) c (by rw[Int.natCast_mul,<-a.eta.1,<-b.eta.1];exact h)
theorem ZhL {x y z:Int×Int} (a:OkR x) (b:OkR y) (c:OkR z) (h:z.1*(x.2*y.2)=x.1*y.1*z.2):ZP x y=(z,0):=
 Zno (Nat.mul_pos a.pos b.pos) c (by rw[Int.natCast_mul,<-a.eta.1,<-b.eta.1];exact h)
theorem Zde {x:Int×Int} (a:OkR x):Zl x (0,1)=(x,0):=Zq5 a Zak a (by show x.1*(x.2*1)=(x.1*1+0*x.2)*x.2;grind)
theorem Zka {x:Int×Int} (a:OkR x):ZP x (-1,1)=((-x.1,x.2),0):=ZhL a Zqo a.neg (by show -x.1*(x.2*1)=x.1*(-1)*x.2;grind)
theorem Zbo {l:List (Int×Int)} (h:ZC l) (i:Int):atL (Zs l) i=atL l i:=by
 have j:∀(n:Nat) (a:List (Int×Int)),a.length=n->ZC a->atL (Zs a) i=atL a i:=by
  intro n
  induction n with
  |zero=>
   intro a c _;obtain rfl:=List.eq_nil_of_length_eq_zero c;rfl
  |succ n r=>
   intro a c f;have d:a≠[]:=by intro e;rw[e]at c;cases c
   obtain⟨b,x,rfl⟩:∃b x,a=b++[x]:=⟨a.dropLast,a.getLast d,(List.dropLast_concat_getLast d).symm⟩
   rw[ZgE]
   split
   ·rename_i p
    have m:x=(0,1):=(f x (by simp)).zero p;rw[r b (by simpa using c) (fun y o=>f y (by simp[o]))];unfold atL
    split
    ·by_cases g:i.toNat<b.length
     ·rw[List.getElem?_append_left g]
     ·rw[List.getElem?_eq_none (by omega)];by_cases k:i.toNat=b.length
      ·rw[k,List.getElem?_append_right (Nat.le_refl _)];simp[m]
      ·rw[List.getElem?_eq_none (by simp;omega)]
    ·rfl
   ·rfl
 exact j l.length l rfl h
theorem ZeS (h:How) (l m:List (Int×Int)) (k:Nat):atL (Zax h l m) k=if k<max l.length m.length then(h (atL l k) (atL m k)).1 else(0,1):=by
 unfold atL Zax;rw[Yo (by omega),Int.toNat_natCast,List.getElem?_map]
 split
 ·rename_i g
  rw[List.getElem?_range g];unfold atL;rfl
 ·rename_i g
  rw[List.getElem?_eq_none (by simpa using g)];rfl
theorem ZgF {l m:List (Int×Int)} (f:ZC l) (hm:ZC m) (h:∀k:Nat,atL l k=atL m k):Zs l=Zs m:=by
 have j:(Zs l).length=(Zs m).length:=by
  have half:∀(a b:List (Int×Int)),ZC a->ZC b->(∀k:Nat,atL a k=atL b k)->(Zs a).length<=(Zs b).length:=by
   intro a b o p r;rcases Nat.lt_or_ge (Zs b).length (Zs a).length with g|g
   ·exfalso;obtain⟨x,n⟩:∃x,(Zs a)[(Zs a).length-1]? = Ya x:=⟨_,Ym (by omega)⟩
    have e:=Zor a x n (by omega);have c:atL (Zs a) (((Zs a).length-1:Nat):Int)=x:=ZcV n;have d:atL (Zs b) (((Zs a).length-1:Nat):Int)=(0,1):=Zbr (.inr (by omega));rw[Zbo o]at c;rw[Zbo p,<-r,c]at d;rw[d]at e;exact e rfl
   ·exact g
  exact Nat.le_antisymm (half l m f hm h) (half m l hm f fun k=>(h k).symm)
 apply List.ext_getElem?;intro i;by_cases g:i<(Zs l).length
 ·have c:atL (Zs l) (i:Int)=(Zs l)[i]:=ZcV (Ym g);have d:atL (Zs m) (i:Int)=(Zs m)[i]:=ZcV (Ym (by omega));rw[Zbo f]at c;rw[Zbo hm]at d;rw[Ym g,Ym (show i<(Zs m).length by omega),<-c,<-d,h i]
 ·rw[List.getElem?_eq_none (by omega),List.getElem?_eq_none (by omega)]
theorem Zrj {h:How} (b:HowOk h) {l m:List (Int×Int)} {kx a:Int×Int} (d:ZC l) (hm:ZC m) (e:OkR kx) (f:OkR a) (i:l.length<=8) (c:m.length<=8) (he:(Za1 h l m kx a).2.2=0) :
  (h kx a).2=0/\ZZ h l m (max l.length m.length)/\Za1 h l m kx a=(Zs (Zax h l m),(h kx a).1,0)/\ZC (Zax h l m)/\(Zax h l m).length<=8/\OkR (h kx a).1:=by
 unfold Za1 at *
 split at he
 ·rename_i g
  rw[Yo g];exact⟨g.1,g.2,rfl,ZcY b d hm g.2,by rw[Zee];omega,b.ok _ _ e f g.1⟩
 ·cases he
theorem ZjG {h:How} {l m:List (Int×Int)} {kx b c:Int×Int} (a:h kx b=(c,0)) (hc:ZZ h l m (max l.length m.length)):Za1 h l m kx b=(Zs (Zax h l m),c,0):=by unfold Za1;rw[Yo ⟨by rw[a],hc⟩,a]
structure TB where
 b:Nat
 v:Yi
 kn:Int
 kd:Int
 l:List (Int×Int)
structure LiveT (w wr:Yh) (xs:List TB):Prop where
 below:Below w.heap.size w wr
 all:∀x,x∈xs->FracBox wr x.b x.v (Yd Yf x.kn) (Yd Yf x.kd)/\Za wr x.v x.l
section
variable {w wr w2:Yh} {xs:List TB}
theorem LiveT.start (w:Yh):LiveT w w []:=⟨Below.refl _ _,fun x a=>by cases a⟩
theorem LiveT.call (h:LiveT w wr xs) (a:Below wr.heap.size wr w2):LiveT w w2 xs:=
 ⟨h.below.trans (a.mono h.below.size),fun x b=>⟨(h.all x b).1.keep a,(h.all x b).2.below a⟩⟩
theorem LiveT.box (h:LiveT w wr xs) {v:Yi} {l:List (Int×Int)} (c:Za wr v l) (kn kd:Int) (ty:TypeId):LiveT w (wr.alloc (Yg #[v,Yd Yf kn,Yd Yf kd] ty)) (⟨wr.heap.size,v,kn,kd,l⟩::xs):=by
 have a:=below_alloc1 wr (Yg #[v,Yd Yf kn,Yd Yf kd] ty);refine⟨(h.call a).below,fun x b=>?_⟩;rcases List.mem_cons.1 b with rfl|b
 ·exact⟨FracBox.start wr v (Yd Yf kn) (Yd Yf kd) ty,c.below a⟩
 ·exact(h.call a).all x b
theorem LiveT.f (h:LiveT w wr xs) (i:Nat) {x:TB} (a:xs[i]? = Ya x):FracBox wr x.b x.v (Yd Yf x.kn) (Yd Yf x.kd):=(h.all x (List.mem_of_getElem? a)).1
theorem LiveT.r (h:LiveT w wr xs) (i:Nat) {x:TB} (a:xs[i]? = Ya x):Za wr x.v x.l:=(h.all x (List.mem_of_getElem? a)).2
end
end
section
open Go.RowKit
def Zsl (a:Nat->List UInt8):Nat->List (Int×Int)->List (List UInt8)
 |_,[]=>[]
 |k,x::r=>(if x.1=0 then []else [Zcl x.1 x.2.toNat++42::a k])++Zsl a (k+1) r
abbrev txt (s:List UInt8):Yi:=.string ⟨s.toArray⟩
end
section
open Go.RowKit
theorem Zf8:ZC []:=fun x a=>by cases a
end
section
open Go.RowKit
def ZiI {H:Type} (l:List (List UInt8)):DataW H:=.agg (l.map fun z=>.lit (.string z))
def ZeJ (w:Yh) (g:Nat) (l:List (List UInt8)):Prop:=∃t a,w.heap[g]? = Ya (.cells (l.map txt).toArray t a)
theorem ZeJ.below {w w':Yh} {g:Nat} {l:List (List UInt8)} (h:ZeJ w g l) (b:Below w.heap.size w w'):ZeJ w' g l:=by
 obtain⟨t,a,e⟩:=h;have c:g<w.heap.size:=by
  rcases Nat.lt_or_ge g w.heap.size with q|q
  ·exact q
  ·rw[Array.getElem?_eq_none q]at e;cases e
 exact⟨t,a,(b.block g c).trans e⟩
theorem Zjs {H:Type} {enc:TypeId×Yi->H} {P:Program} {w:Yh} {base:Nat} {B:Nat->Bool} {c:Bool} {a:Nat} {t e:TypeId} {n:Nat} {f:List Yi} {zs:List (List UInt8)} {p:List MemPlace}
  (v:P.underlying t=Ya (.array n e)) (he:P.underlying e=Ya .string) (j:P.cellsOf e=1) (k:P.cellsOf t=n)
  (h:DataW.trod enc P w base B c a t f=Ya (ZiI zs,p)):f=zs.map txt:=by
 cases a with
 |zero=>simp[DataW.trod]at h
 |succ a=>
  simp only[DataW.trod,v,j,k,Nat.mul_one]at h
  split at h
  ·rename_i C
   obtain⟨m,hm,x⟩:=Option.map_eq_some_iff.1 h;have d:m.map (·.1)=zs.map fun z=>(DataW.lit (.string z):DataW H):=by have:=congrArg Prod.fst x;simpa[ZiI]using this
   have y:m.length=n:=by simpa using Lib.mapM_length hm
   have A:zs.length=n:=by have:=congrArg List.length d;simp at this;omega
   apply List.ext_getElem?;intro i;by_cases u:i<n
   ·obtain⟨b,r,s⟩:=Lib.mapM_at hm i i (by simp[u]);obtain⟨z,hc,rfl,_⟩:=DataW.trod_string he s;have o:f[i]? = Ya (.string z):=by have:=congrArg (·[0]?) hc;simpa[List.getElem?_take,List.getElem?_drop]using this
    have g:(m.map (·.1))[i]? = Ya (DataW.lit (.string z.data.toList):DataW H):=by simp[r]
    rw[d]at g;simp only[List.getElem?_map,Option.map_eq_some_iff,DataW.lit.injEq,Lit.string.injEq]at g;obtain⟨D,l,rfl⟩:=g;simp[o,l,txt]
   ·rw[List.getElem?_eq_none (by omega),List.getElem?_eq_none (by simp;omega)]
  ·cases h
theorem ZkQ {P:Program} {W:Yh} {b:String} {zs:List (List UInt8)} {rest:List (String×DataW Unit)} {g:Nat} {t e:TypeId} {n:Nat}
  (m:P.globalNamed b=Ya g) (k:(P.globals[g]?).map (·.type)=Ya t) (u:P.underlying t=Ya (.array n e)) (he:P.underlying e=Ya .string) (d:P.cellsOf e=1) (f:P.cellsOf t=n)
  (h:laidMet P ((b,ZiI zs)::rest) W):ZeJ W g zs:=by
 obtain⟨y,⟨x,z,w,l,p,q,i,j,a,r,_,_⟩,_⟩:=h;obtain rfl:=Option.some.inj (m.symm.trans i);obtain rfl:=Option.some.inj (k.symm.trans j);have hc:=Zjs u he d f r;simp only[World.var?,m,Option.bind_some]at a
 split at a
 ·rename_i c v o s
  have a:=Option.some.inj a;subst a;exact⟨v,o,by rw[s,<-hc]⟩
 ·cases a
end
section
open Go.RowKit
def ZbV:List (List UInt8):=[[117,110,105,113,117,101],[102,117,108,108],[115,104,97,114,101],[105,109,109],[112,117,114,101]]
theorem Tryz.gWordsP:Tryz.prog.globalNamed "ballcock/perm.words"=Ya 0:=by kernel_rfl
theorem Tryz.gWordsPType:(Tryz.prog.globals[0]?).map (·.type)=Ya 47:=by kernel_rfl
theorem Tryz.gTenP:Tryz.prog.globalNamed "internal/strconv.uint64pow10"=Ya 2:=by kernel_rfl
theorem Tryz.gTenPType:(Tryz.prog.globals[2]?).map (·.type)=Ya 183:=by kernel_rfl
structure PeTabs (w:Yh):Prop where
 rests:ZcO w
 words:ZeJ w 0 ZbV
 ten:Zfa w
theorem PeTabs.below {w w':Yh} (h:PeTabs w) (a:Below w.heap.size w w'):PeTabs w':=⟨h.rests.below a,h.words.below a,Zc2 h.ten a⟩
theorem ZpE {W:Yh} (h:laidMetH Tryz.prog [("math/bits.deBruijn32tab",Rows.laid_math_bits_deBruijn32tab),("math/bits.deBruijn64tab",Rows.laid_math_bits_deBruijn64tab),("internal/strconv.uint64pow10",Rows.laid_internal_strconv_uint64pow10),("ballcock/perm.rests",Rows.laid_ballcock_perm_rests),("ballcock/perm.words",Rows.laid_ballcock_perm_words)] W):PeTabs W:=by
 rw[MakeChecks.laidMetH_plain _ _ _ (by kernel_rfl)]at h;have a:=laidMet.tail (laidMet.tail h);have b:=laidMet.tail a;have c:=laidMet.tail b
 exact⟨Zn2 b,ZkQ (zs:=ZbV) (rest:=[]) Tryz.gWordsP Tryz.gWordsPType Tryz.underlying47 Tryz.underlying9 (by kernel_rfl) (by kernel_rfl) c,
  Lib.tabIs_of_head (zs:=Lib.pow10Tab) Tryz.gTenP Tryz.gTenPType Tryz.underlying183 Tryz.underlying83 (by kernel_rfl) (by kernel_rfl) a⟩
end
section
open Go.RowKit
theorem ZaF {a:Yh} {b:Nat} {x y h i:Yi} (f:a.cell? ⟨b,0,Yb⟩=Ya h) (g:a.cell? ⟨b,1,Yb⟩=Ya i) :
  ((a.setCell ⟨b,0,Yb⟩ x).setCell ⟨b,1,Yb⟩ y).cell? ⟨b,0,Yb⟩=Ya x/\((a.setCell ⟨b,0,Yb⟩ x).setCell ⟨b,1,Yb⟩ y).cell? ⟨b,1,Yb⟩=Ya y:=by
 obtain⟨v0,d⟩:=cell?_setCell_some (p:=⟨b,1,Yb⟩) (x:=y) (cell?_setCell_some (p:=⟨b,0,Yb⟩) (x:=x) f).choose_spec;obtain⟨j,e⟩:=cell?_setCell_some (p:=⟨b,1,Yb⟩) (x:=y) (cell?_setCell_some (p:=⟨b,0,Yb⟩) (x:=x) g).choose_spec;have c:=d;rw[ZfZ (by decide)]at c;exact⟨d.trans (congrArg Ya (ZbA c)),e.trans (congrArg Ya (ZbA e))⟩
theorem ZaV (w:Yh) (v:Yi) (l:List (Int×Int)) (kn kd i:Int) (h:Za w v l) :
  Calls Tryz.prog 53 #[.agg #[v,Yd Yf kn,Yd Yf kd],Yd Yf i] w fun r w'=>r=.returned (Zb (atL l i).1 (atL l i).2)/\Below w.heap.size w w':=by
 obtain⟨A,c,rfl,o,p,f⟩:=h;have b:=below_alloc2 w (Yg #[Yc A l.length c,Yd Yf kn,Yd Yf kd] 37) (Yg #[Yd Yf 0,Yd Yf 0] 23);have R:=RatAt.start (w.alloc (Yg #[Yc A l.length c,Yd Yf kn,Yd Yf kd] 37)) 0 0 23;rw[World.size_alloc]at R;have t:=Lib.hid Zpx;by_cases g:i<0
 ·rw[Zbr (.inl g)];have d1:decide (i<0)=true:=decide_eq_true g;clear o p f;generalize l.length=n at *;go_enter Tryz.func53,Tryz.ntmps53;go_wp2_with (go_at_call 87;go_fit (t.out _);rintro e d ⟨rfl,a⟩;have m:=Lib.hid (b.trans (a.mono b.size));have k0:=(Zd a R.lt R.k0);have k1:=(Zd a R.lt R.k1);have z:d.frozen? ⟨w.heap.size+1,0,Yb⟩=false:=Zo a R.lt (by go_simp);have B:d.frozen? ⟨w.heap.size+1,1,Yb⟩=false:=Zo a R.lt (by go_simp));obtain⟨c0,c1⟩:=ZaF (x:=Yd Yf 0) (y:=Yd Yf 1) k0 k1;exact bodyPost_ret (v:=Zb 0 1) (by simp[results,Tryz.results53,go_sem,c0,c1]) rfl ⟨rfl,(m.out.setCell (by show w.heap.size<=w.heap.size+1;omega) _).setCell (by show w.heap.size<=w.heap.size+1;omega) _⟩
 ·have d1:decide (i<0)=false:=decide_eq_false g;by_cases j:(l.length:Int)<=i
  ·rw[Zbr (.inr j)];have d2:decide ((l.length:Int)<=i)=true:=decide_eq_true j;clear o p f;generalize l.length=n at *;go_enter Tryz.func53,Tryz.ntmps53;go_wp2_with (go_at_call 87;go_fit (t.out _);rintro e d ⟨rfl,a⟩;have m:=Lib.hid (b.trans (a.mono b.size));have k0:=(Zd a R.lt R.k0);have k1:=(Zd a R.lt R.k1);have z:d.frozen? ⟨w.heap.size+1,0,Yb⟩=false:=Zo a R.lt (by go_simp);have B:d.frozen? ⟨w.heap.size+1,1,Yb⟩=false:=Zo a R.lt (by go_simp));obtain⟨c0,c1⟩:=ZaF (x:=Yd Yf 0) (y:=Yd Yf 1) k0 k1;exact bodyPost_ret (v:=Zb 0 1) (by simp[results,Tryz.results53,go_sem,c0,c1]) rfl ⟨rfl,(m.out.setCell (by show w.heap.size<=w.heap.size+1;omega) _).setCell (by show w.heap.size<=w.heap.size+1;omega) _⟩
  ·obtain⟨k,rfl⟩:∃k:Nat,i=k:=⟨i.toNat,by omega⟩
   have u:k<l.length:=by omega
   obtain⟨x,s⟩:∃x,l[k]? = Ya x:=⟨_,Ym u⟩
   rw[ZcV s];obtain⟨C,rfl,D,E⟩:=Zbc f b s (by omega);have d2:decide ((l.length:Int)<=(k:Int))=false:=decide_eq_false j;have i1:(k:Int)<(l.length:Int):=by omega
   have i2:(0:Int)<=(k:Int):=by omega
   clear o p f s g j u t R;generalize l.length=n at *;go_enter Tryz.func53,Tryz.ntmps53;go_wp2_with fail;exact bodyPost_ret (v:=Zb x.1 x.2) (by simp[results,Tryz.results53,go_sem]) rfl ⟨rfl,(below_alloc2 _ _ _)⟩
theorem Zos (l:List (Int×Int)):l.take (Zs l).length=Zs l:=by
 have h:Zs l <+: l:=by unfold Zs;have:=List.reverse_prefix.2 (List.dropWhile_suffix (fun x:Int×Int=>x.1==0) (l:=l.reverse));rwa[List.reverse_reverse]at this
 exact(List.prefix_iff_eq_take.1 h).symm
theorem ZpI {l:List (Int×Int)} {k:Nat} {x:Int×Int} (a:l[k]? = Ya x):(Zs (l.take (k+1))).length=if x.1=0 then(Zs (l.take k)).length else k+1:=by
 have c:k<l.length:=by
  rcases Nat.lt_or_ge k l.length with g|g
  ·exact g
  ·rw[List.getElem?_eq_none g]at a;cases a
 have b:l.take (k+1)=l.take k++[x]:=by
  have e:l[k]=x:=by rw[Ym c]at a;exact Option.some.inj a
  rw[<-e,<-List.take_succ_eq_append_getElem c]
 rw[b,ZgE]
 split
 ·rfl
 ·rw[<-b,List.length_take];omega
theorem ZhW {a b:Yh} (c:(a.drew.alloc (Yg #[] 23)).grownBy b (Value.slice (Ya ⟨a.heap.size,0,Yb⟩) 0 0).ownBlock):Below a.heap.size a b:=
 ((Zn a).trans (below_alloc1 a.drew _)).grown c (by simp) (fun q hq=>by
   have e:a.heap.size=q:=by simpa[Value.ownBlock]using hq
   omega)
theorem ZeE (w:Yh) (v:Yi) (l:List (Int×Int)) (kn kd:Int) (h:Za w v l) (hw:Zz l) (h1:-9223372036854775808<=kn) (h2:kn<=9223372036854775807) (h3:-9223372036854775808<=kd) (W:kd<=9223372036854775807) (N:ZM l kn kd=true) :
  Calls Tryz.prog 54 #[.agg #[v,Yd Yf kn,Yd Yf kd]] w (Zq4 w (Zs l) kn kd):=by
 obtain⟨i0,hi,O,P,Q⟩:=info_parts ZdE;have E:l.length<=8:=by unfold ZM at N;simp only[Bool.and_eq_true,decide_eq_true_eq]at N;exact N.1.1
 have Y:=fun(d:Yh) (X:Below w.heap.size w d)=>ZaN d v l kn kd (h.below X) hw h1 h2 h3 W;rw[N]at Y;obtain⟨A,c,rfl,g2,g3,g4⟩:=id h;unfold maxLen at g3;obtain⟨n,hn⟩:∃n,n=l.length:=⟨_,rfl⟩
 have F:=Zhy l;have J:=Zpd w A n c kn kd;rw[<-hn]at Y g2 g4 F E⊢;have r:=Lib.hid (And.intro hn (And.intro F (And.intro g2 (And.intro g3 E))));have G4:=Lib.hid g4;have RT:=Lib.hid Y;have M:=below_alloc2 w (Yg #[Yc A n c,Yd Yf kn,Yd Yf kd] 37) (Yg #[Yc Yb 0 0,Yd Yf 0,Yd Yf 0] 37);clear h hw h1 h2 h3 W N E Y hn F g2 g3 g4;go_enter Tryz.func54,Tryz.ntmps54;go_upto_region 3 with(go_at_call 51;go_fit (RT.out _ M);rintro e T ⟨rfl,X⟩)
 have z:=ZdW X J;have s:=Lib.hid z;have k0:=z.1.1;have Z:=Lib.hid z.2.2.1;clear M X J z;go_wp2_with fail;go_loopg [3,4] n (fun g v3 v4 m=>T=m/\∃k:Nat,k<=n/\g=n-k/\v4=Yd Yf k/\v3=Yd Yf ((Zs (l.take k)).length:Nat))
 case atStart=>exact⟨rfl,0,Nat.zero_le _,rfl,rfl,by rw[List.take_zero];rfl⟩
 case round=>
  obtain⟨rfl,k,hk,hg,rfl,rfl⟩:=hrel;by_cases D:k=n
  ·have y:l.take k=l:=by rw[D,r.out.1];exact List.take_length
   rw[y];subst D;have rd:Zw T T.heap.size 2 A (Zs l).length (Zq (Zs l)):=by have:=Za.take (w:=T) r.out.1.symm r.out.2.2.1 (by have:=r.out.2.2.2.1;unfold maxLen;omega) ((G4.out.below Z.out).more Z.out.size) r.out.2.1;rw[Zos]at this;obtain⟨A',c',e,_,_,W⟩:=this;injection e with e1 e2 e3;rw[e1];exact W
   obtain⟨j,hj⟩:∃j,j=(Zs l).length:=⟨_,rfl⟩
   rw[<-hj]at rd⊢;have C:=Lib.hid (And.intro hj (show j<=8 by have:=r.out.2.1;have:=r.out.2.2.2.2;omega));have RD:=Lib.hid rd;have j1:(j:Int)<=(c:Int):=by have:=r.out;omega
   have j2:(0:Int)<=(j:Int):=by omega
   obtain⟨m,an⟩:∃m,m=T:=⟨_,rfl⟩
   subst an;have HS:=ZdW (Zn _) s.out;have i1:¬(k:Int)<(k:Int):=by omega
   clear hk hg y rd hj;go_upto_region 9 with fail;rcases A with _|ad
   ·have al:k=0:=by
     rcases Nat.eq_zero_or_pos k with g|g
     ·exact g
     ·obtain⟨_,e,_⟩:=G4.out.2 g;cases e
    have ak:j=0:=by have:=C.out.1;have:=r.out.2.1;omega
    subst al;subst ak;refine wp_region_noPanic ?_;refine wp_region_held_drew (S:=(fun d=>(d.cell? ⟨w.heap.size,0,Yb⟩=Ya (Yc Yb 0 c)/\d.cell? ⟨w.heap.size,1,Yb⟩=Ya (Yd Yf kn)/\d.cell? ⟨w.heap.size,2,Yb⟩=Ya (Yd Yf kd))/\w.heap.size+1<d.heap.size/\Below w.heap.size w d/\(d.cell? ⟨w.heap.size+1,0,Yb⟩=Ya (Zf d ⟨w.heap.size+1,0,Yb⟩)/\d.cell? ⟨w.heap.size+1,1,Yb⟩=Ya (Zf d ⟨w.heap.size+1,1,Yb⟩)/\d.cell? ⟨w.heap.size+1,2,Yb⟩=Ya (Zf d ⟨w.heap.size+1,2,Yb⟩))/\(d.frozen? ⟨w.heap.size+1,0,Yb⟩=false/\d.frozen? ⟨w.heap.size+1,1,Yb⟩=false/\d.frozen? ⟨w.heap.size+1,2,Yb⟩=false))) (by kernel_rfl) HS (fun a=>?_);refine tk 1 rfl ?_;refine tk 2 rfl ?_;refine tk 3 rfl ?_;refine tk 4 rfl ?_;refine tk 6 rfl ?_;refine tk 7 rfl ?_;(try simp only[cl,Act.put]);refine rd 0 rfl fun K o=>?_;go_simp;refine o.out _ _ (ZdW (below_alloc1 _ _) (by with_reducible assumption)) (fun b=>?_);clear o K a;have a:=b;clear b;(try simp only[cl,Act.put]);refine rd 5 rfl fun K o=>?_;refine ZQ _ rfl _ _ 35 rfl m.heap.size 23 i0 (.agg #[Yd Yf 0,Yd Yf 0]) 2 16 Tryz.underlying35 hi O P Q rfl (by decide) _ 0 [] rfl (Zke m.drew) m.heap.size Yb _ c (Zq (Zs l)) rfl (RD.out.alloc (Nat.le_refl _) _) ?c2 ?c3 ?c4 ?c5 ?_
    case c2=>exact Ze1 _
    case c3=>have:=C.out;unfold maxLen;omega
    case c4=>have:=C.out;omega
    case c5=>simp
    intro R U f i _;rw[Nat.zero_add,List.nil_append]at f;have L:Below m.heap.size m U:=(ZhW i)
    have p:Za U R (Zs l):=Zdn (base:=m.heap.size) (by have e:=C.out.1;rw[<-e];exact f);have u:Zp m.heap.size R:=fun q hq=>Zhl f hq;obtain⟨I,c5,rfl⟩:=Zc p;have t:=Lib.hid (And.intro p u);refine o.out _ _ (ZdW L s.out) (fun b=>?_);clear o K a f i L p u;have a:=b;clear b;(try simp only[cl,Act.put]);refine tk 8 rfl ?_;(try simp only[cl,Act.put]);refine rd 9 rfl fun K o=>?_;go_simp;refine o.out _ _ ?_ (fun b=>?_)
    ·exact Zd4 (Zd4 (Zd4 (by with_reducible assumption)))
    clear o K a;have a:=b;clear b;(try simp only[cl,Act.put]);refine wpAnyH_done (by kernel_rfl) ?_ _;refine NoPanic.normal ?_;go_wp2_with fail;obtain⟨c0,c1,c2,hB⟩:=Ze7 (w:=w) rfl (by with_reducible assumption);have B:Zp (w.heap.size+2) (Yc I (Zs l).length c5):=t.out.2.mono s.out.2.1;refine bodyPost_ret (v:=.agg #[Yc I (Zs l).length c5,Yd Yf kn,Yd Yf kd]) (by simp[results,Tryz.results54,go_sem,c0,c1,c2]) rfl ⟨_,rfl,?_,hB,B.mono (by omega)⟩;exact(((t.out.1.setCell B (by show w.heap.size+1<_;omega) _).setCell B (by show w.heap.size+1<_;omega) _).setCell B (by show w.heap.size+1<_;omega) _)
   ·skip
    refine wp_region_noPanic ?_;refine wp_region_held_drew (S:=(fun d=>(d.cell? ⟨w.heap.size,0,Yb⟩=Ya (Yc (Ya ad) k c)/\d.cell? ⟨w.heap.size,1,Yb⟩=Ya (Yd Yf kn)/\d.cell? ⟨w.heap.size,2,Yb⟩=Ya (Yd Yf kd))/\w.heap.size+1<d.heap.size/\Below w.heap.size w d/\(d.cell? ⟨w.heap.size+1,0,Yb⟩=Ya (Zf d ⟨w.heap.size+1,0,Yb⟩)/\d.cell? ⟨w.heap.size+1,1,Yb⟩=Ya (Zf d ⟨w.heap.size+1,1,Yb⟩)/\d.cell? ⟨w.heap.size+1,2,Yb⟩=Ya (Zf d ⟨w.heap.size+1,2,Yb⟩))/\(d.frozen? ⟨w.heap.size+1,0,Yb⟩=false/\d.frozen? ⟨w.heap.size+1,1,Yb⟩=false/\d.frozen? ⟨w.heap.size+1,2,Yb⟩=false))) (by kernel_rfl) HS (fun a=>?_);refine tk 1 rfl ?_;refine tk 2 rfl ?_;refine tk 3 rfl ?_;refine tk 4 rfl ?_;refine tk 6 rfl ?_;refine tk 7 rfl ?_;(try simp only[cl,Act.put]);refine rd 0 rfl fun K o=>?_;go_simp;refine o.out _ _ (ZdW (below_alloc1 _ _) (by with_reducible assumption)) (fun b=>?_);clear o K a;have a:=b;clear b;(try simp only[cl,Act.put]);refine rd 5 rfl fun K o=>?_;refine ZQ _ rfl _ _ 35 rfl m.heap.size 23 i0 (.agg #[Yd Yf 0,Yd Yf 0]) 2 16 Tryz.underlying35 hi O P Q rfl (by decide) _ 0 [] rfl (Zke m.drew) m.heap.size (Ya ad) _ c (Zq (Zs l)) rfl (RD.out.alloc (Nat.le_refl _) _) ?d2 ?d3 ?d4 ?d5 ?_
    case d2=>exact Ze1 _
    case d3=>have:=C.out;unfold maxLen;omega
    case d4=>have:=C.out;omega
    case d5=>simp
    intro R U f i _;rw[Nat.zero_add,List.nil_append]at f;have L:Below m.heap.size m U:=(ZhW i)
    have p:Za U R (Zs l):=Zdn (base:=m.heap.size) (by have e:=C.out.1;rw[<-e];exact f);have u:Zp m.heap.size R:=fun q hq=>Zhl f hq;obtain⟨I,c5,rfl⟩:=Zc p;have t:=Lib.hid (And.intro p u);refine o.out _ _ (ZdW L s.out) (fun b=>?_);clear o K a f i L p u;have a:=b;clear b;(try simp only[cl,Act.put]);refine tk 8 rfl ?_;(try simp only[cl,Act.put]);refine rd 9 rfl fun K o=>?_;go_simp;refine o.out _ _ ?_ (fun b=>?_)
    ·exact Zd4 (Zd4 (Zd4 (by with_reducible assumption)))
    clear o K a;have a:=b;clear b;(try simp only[cl,Act.put]);refine wpAnyH_done (by kernel_rfl) ?_ _;refine NoPanic.normal ?_;go_wp2_with fail;obtain⟨c0,c1,c2,hB⟩:=Ze7 (w:=w) rfl (by with_reducible assumption);have B:Zp (w.heap.size+2) (Yc I (Zs l).length c5):=t.out.2.mono s.out.2.1;refine bodyPost_ret (v:=.agg #[Yc I (Zs l).length c5,Yd Yf kn,Yd Yf kd]) (by simp[results,Tryz.results54,go_sem,c0,c1,c2]) rfl ⟨_,rfl,?_,hB,B.mono (by omega)⟩;exact(((t.out.1.setCell B (by show w.heap.size+1<_;omega) _).setCell B (by show w.heap.size+1<_;omega) _).setCell B (by show w.heap.size+1<_;omega) _)
  ·have y:k<n:=by omega
   obtain⟨x,hx⟩:∃x,l[k]? = Ya x:=⟨_,Ym (by have:=r.out.1;omega)⟩
   obtain⟨ad,rfl,d1,_⟩:=Zbc G4.out Z.out hx (by omega);have H:=ZpI hx;have i1:(k:Int)<(n:Int):=by omega
   have i2:(0:Int)<=(k:Int):=by omega
   have wk:IntKind.i64.wrap ((k:Int)+1)=(k:Int)+1:=IntWalk.i64_in _ (by have:=r.out;omega);generalize x.1=xn at *;have V:=Lib.hid (And.intro y hg);clear hk hg D y hx;by_cases G:xn=0
   ·rw[Yo G]at H;rw[G]at d1;have ST:=Lib.hid H;clear H G;go_wp2_with fail;go_roundg (n-(k+1))
    case measure=>have:=V.out;omega
    case rel=>exact⟨rfl,k+1,by have:=V.out;omega,rfl,by push_cast;rfl,by rw[ST.out]⟩
   ·rw[Yn G]at H;have a6:(xn != 0)=true:=by simpa using G
    have ST:=Lib.hid H;clear H G;go_wp2_with fail;go_roundg (n-(k+1))
    case measure=>have:=V.out;omega
    case rel=>exact⟨rfl,k+1,by have:=V.out;omega,rfl,by push_cast;rfl,by rw[ST.out];push_cast;rfl⟩
end
section
open Go.RowKit
theorem Zdu (w:Yh) (x y:Int×Int) (b:OkR x) (c:OkR y) :
  Calls Tryz.prog 52 #[Yd Yf 0,Zb x.1 x.2,Zb y.1 y.2] w fun r g=>r=.returned (.tuple #[Zb (Zl x y).1.1 (Zl x y).1.2,Yd Yf (Zl x y).2])/\Below w.heap.size w g:=by
 obtain⟨d,e,v⟩:=b;obtain⟨h,a,f⟩:=c;have:=ZrS v f w;rw[ZpW]at this;unfold Zl Zcr;rw[e,a];exact this
theorem Zd2 (w:Yh) (x y:Int×Int) (b:OkR x) (c:OkR y) :
  Calls Tryz.prog 52 #[Yd Yf 2,Zb x.1 x.2,Zb y.1 y.2] w fun r g=>r=.returned (.tuple #[Zb (ZP x y).1.1 (ZP x y).1.2,Yd Yf (ZP x y).2])/\Below w.heap.size w g:=by
 obtain⟨d,e,v⟩:=b;obtain⟨h,a,f⟩:=c;have:=ZrU v f w;rw[Zqj]at this;unfold ZP Zcr;rw[e,a];exact this
theorem Zb8 {b c:Yh} {B n:Nat} {v:Yi} {g:List Yi} {o:Obj} (d:B<=b.heap.size) (a:b.ownsRow B 23 2 v n g) (e:(b.alloc o).grownBy c v.ownBlock):Below B b c:=
 ((Below.refl B b).alloc d o).grown e (by simp;omega) (fun _ f=>Zhl a f)
theorem FracBox.setC {w:Yh} {b:Nat} {x y z:Yi} (h:FracBox w b x y z) (u:Yi):FracBox (w.setCell ⟨b,0,Yb⟩ u) b u y z where
 k0:=World.cell?_setCell_same _ _ _ h.k0
 k1:=(World.cell?_setCell_other _ _ _ _ (by simp)).trans h.k1
 k2:=(World.cell?_setCell_other _ _ _ _ (by simp)).trans h.k2
 l0:=by rw[World.frozen?_setCell];exact h.l0
 l1:=by rw[World.frozen?_setCell];exact h.l1
 l2:=by rw[World.frozen?_setCell];exact h.l2
 lt:=by rw[World.size_setCell];exact h.lt
theorem Zd0 (w:Yh) (x y:Yi):∀(j:Nat) (u:Yi),[x,y][j]? = Ya u->(w.alloc (Yg #[x,y] 23)).cell? ((⟨w.heap.size,0,Yb⟩:Addr).add j)=Ya u:=by
 intro j u hu
 match j,hu with
 |0,hu=>
  obtain rfl:x=u:=by simpa using hu
  show(w.alloc _).cell? ⟨w.heap.size,0,Yb⟩=_;go_simp
 |1,hu=>
  obtain rfl:y=u:=by simpa using hu
  show(w.alloc _).cell? ⟨w.heap.size,1,Yb⟩=_;go_simp
 |j+2,hu=>simp at hu
def ZaE (h:How) (l m:List (Int×Int)) (k:Nat):List (Int×Int):=(List.range k).map fun i:Nat=>(h (atL l i) (atL m i)).1
theorem ZjQ (h:How) (l m:List (Int×Int)) (k:Nat):(ZaE h l m k).length=k:=by simp[ZaE]
theorem Zc8 (h:How) (l m:List (Int×Int)) (k:Nat):ZaE h l m (k+1)=ZaE h l m k++[(h (atL l k) (atL m k)).1]:=by unfold ZaE;rw[List.range_succ,List.map_append];rfl
theorem ZdK:∀(a b:List (Int×Int)),Zq (a++b)=Zq a++Zq b
 |[],b=>rfl
 |x::r,b=>by rw[List.cons_append,Zq,Zq,ZdK r b];rfl
structure DoS (w wr:Yh) (b k:Nat) (s:Yi) (xn xd:Int) (t:Yi) (yn yd zn zd:Int) (v:Yi) (xs:List (Int×Int)):Prop where
 F:FracBox wr w.heap.size s (Yd Yf xn) (Yd Yf xd)
 G:FracBox wr (w.heap.size+1) t (Yd Yf yn) (Yd Yf yd)
 E:FracBox wr (w.heap.size+1+1) (Yc Yb 0 0) (Yd Yf 0) (Yd Yf 0)
 O:FracBox wr (b+1) v (Yd Yf zn) (Yd Yf zd)
 o:wr.ownsRow (b+2) 23 2 v k (Zq xs)
 lt:w.heap.size+1+1<b
 below:Below w.heap.size w wr
section
variable {w wr w2:Yh} {b k:Nat} {s t v:Yi} {xn xd yn yd zn zd:Int} {xs:List (Int×Int)}
theorem DoS.keep (h:DoS w wr b k s xn xd t yn yd zn zd v xs) (a:Below wr.heap.size wr w2):DoS w w2 b k s xn xd t yn yd zn zd v xs:=
 ⟨h.F.keep a,h.G.keep a,h.E.keep a,h.O.keep a,ZD h.o a,h.lt,h.below.trans (a.mono h.below.size)⟩
theorem Zan {A:Prop} (h:A/\DoS w wr b k s xn xd t yn yd zn zd v xs):DoS w wr b k s xn xd t yn yd zn zd v xs:=h.2
theorem DoS.cells {c:Nat} {p q:Int} (h:DoS w wr b k s xn xd t yn yd zn zd v xs) (a:RatAt wr c p q) :
  ((wr.cell? ⟨w.heap.size,0,Yb⟩=Ya s/\wr.cell? ⟨w.heap.size,1,Yb⟩=Ya (Yd Yf xn)/\wr.cell? ⟨w.heap.size,2,Yb⟩=Ya (Yd Yf xd))/\(wr.cell? ⟨c,0,Yb⟩=Ya (Yd Yf p)/\wr.cell? ⟨c,1,Yb⟩=Ya (Yd Yf q))/\RatAt wr c p q)/\DoS w wr b k s xn xd t yn yd zn zd v xs:=
 ⟨⟨⟨h.F.k0,h.F.k1,h.F.k2⟩,⟨a.k0,a.k1⟩,a⟩,h⟩
theorem Zm {c:Nat} {p q:Int} {A B:Prop} (a:Below wr.heap.size wr w2) (h:(A/\B/\RatAt wr c p q)/\DoS w wr b k s xn xd t yn yd zn zd v xs) :
  ((w2.cell? ⟨w.heap.size,0,Yb⟩=Ya s/\w2.cell? ⟨w.heap.size,1,Yb⟩=Ya (Yd Yf xn)/\w2.cell? ⟨w.heap.size,2,Yb⟩=Ya (Yd Yf xd))/\(w2.cell? ⟨c,0,Yb⟩=Ya (Yd Yf p)/\w2.cell? ⟨c,1,Yb⟩=Ya (Yd Yf q))/\RatAt w2 c p q)/\DoS w w2 b k s xn xd t yn yd zn zd v xs:=
 (h.2.keep a).cells (h.1.2.2.keep a)
structure HoleC (wA wr:Yh) (c:Nat):Prop where
 hc:c=wA.heap.size
 k0:wr.cell? ⟨c,0,Yb⟩=Ya (Yd Yf 0)
 k1:wr.cell? ⟨c,1,Yb⟩=Ya (Yd Yf 0)
 l0:wr.frozen? ⟨c,0,Yb⟩=false
 l1:wr.frozen? ⟨c,1,Yb⟩=false
 lt:c<wr.heap.size
 below:Below wA.heap.size wA wr
theorem HoleC.start (a:Yh) (ty:TypeId):HoleC a (a.alloc (Yg #[Yd Yf 0,Yd Yf 0] ty)) a.heap.size where
 hc:=rfl
 k0:=by go_simp
 k1:=by go_simp
 l0:=by go_simp
 l1:=by go_simp
 lt:=by simp
 below:=below_alloc1 _ _
theorem HoleC.keep {d wr b:Yh} {c:Nat} (h:HoleC d wr c) (a:Below wr.heap.size wr b):HoleC d b c:=
 have z:=a.size;have l:=h.lt
 ⟨h.hc,Zd a l h.k0,Zd a l h.k1,Zo a l h.l0,Zo a l h.l1,by omega,h.below.trans (a.mono h.below.size)⟩
theorem Zaw {w a:Yh} {b k:Nat} {s t v:Yi} {d c g f i h:Int} {e:List (Int×Int)} {A:Prop} {ty:TypeId} (_:A/\DoS w (a.alloc (Yg #[Yd Yf 0,Yd Yf 0] ty)) b k s d c t g f i h v e):HoleC a (a.alloc (Yg #[Yd Yf 0,Yd Yf 0] ty)) a.heap.size:=HoleC.start a ty
theorem Zam {w a:Yh} {b k:Nat} {s t v:Yi} {d c g f i h:Int} {e:List (Int×Int)} {A:Prop} {ty:TypeId} (_:A/\DoS w (a.alloc (Yg #[Yd Yf 0,Yd Yf 0] ty)).drew b k s d c t g f i h v e):HoleC a.drew (a.alloc (Yg #[Yd Yf 0,Yd Yf 0] ty)).drew a.heap.size:=HoleC.start a.drew ty
theorem HoleC.fill {a wr:Yh} {c:Nat} (h:HoleC a wr c) (p q:Int):Below a.heap.size a ((wr.setCell ⟨c,0,Yb⟩ (Yd Yf p)).setCell ⟨c,1,Yb⟩ (Yd Yf q))/\RatAt ((wr.setCell ⟨c,0,Yb⟩ (Yd Yf p)).setCell ⟨c,1,Yb⟩ (Yd Yf q)) c p q:=by obtain⟨c0,c1⟩:=ZaF (x:=Yd Yf p) (y:=Yd Yf q) h.k0 h.k1;have e:=h.hc;exact⟨(h.below.setCell (by show _<=c;omega) _).setCell (by show _<=c;omega) _,c0,c1,by rw[World.size_setCell,World.size_setCell];exact h.lt⟩
theorem Zdt {w:Yh} {B n:Nat} {v:Yi} {d:List Yi} (h:w.ownsRow B 23 2 v n d):∃A c,v=Yc A n c:=by
 rcases h.2 with⟨rfl,rfl⟩|⟨g,a,b,rfl,_⟩
 ·exact⟨Yb,0,rfl⟩
 ·exact⟨_,a,rfl⟩
def ZcS (w:Yh) (b k:Nat) (s:Yi) (h g:Int) (t:Yi) (l j n m:Int) (v:Yi) (i:List (Int×Int)) (p q e:Int) (a d:Yi) (f:Yh):Prop:=
 ∃c,a=.pointer (Ya ⟨c,0,Yb⟩)/\d=Yd Yf e/\RatAt f c p q/\DoS w f b k s h g t l j n m v i
theorem ZcC {w a wr:Yh} {b k c:Nat} {s t v:Yi} {f d j i m l p q e:Int} {g:List (Int×Int)} (h:DoS w a b k s f d t j i m l v g) (hc:HoleC a wr c) :
  ZcS w b k s f d t j i m l v g p q e (.pointer (Ya ⟨c,0,Yb⟩)) (Yd Yf e) ((wr.setCell ⟨c,0,Yb⟩ (Yd Yf p)).setCell ⟨c,1,Yb⟩ (Yd Yf q)):=
 ⟨_,rfl,rfl,(hc.fill p q).2,h.keep (hc.fill p q).1⟩
theorem Zcj {w a:Yh} {b k:Nat} {s t v:Yi} {d c i g l j p q e:Int} {f:List (Int×Int)} (h:DoS w a b k s d c t i g l j v f) (ty:TypeId) :
  ZcS w b k s d c t i g l j v f p q e (.pointer (Ya ⟨a.heap.size,0,Yb⟩)) (Yd Yf e) (a.alloc (Yg #[Yd Yf p,Yd Yf q] ty)):=
 ⟨_,rfl,rfl,RatAt.start a p q ty,h.keep (below_alloc1 _ _)⟩
theorem DoS.push {f c:Yh} {a:Yi} {q:Int×Int} {o:Obj} (h:DoS w f b k s xn xd t yn yd zn zd v xs) (j:(f.alloc o).grownBy c v.ownBlock) (m:c.ownsRow (b+2) 23 2 a (k+1) (Zq xs++[Yd Yf q.1,Yd Yf q.2])) :
  DoS w (c.setCell ⟨b+1,0,Yb⟩ a) b (k+1) s xn xd t yn yd zn zd a (xs++[q]):=by
 have l:=h.lt;have n:=h.O.lt;have g:=Zb8 (by omega) h.o j;have e:Zq (xs++[q])=Zq xs++[Yd Yf q.1,Yd Yf q.2]:=ZdK xs [q];have i:Below (b+1) c (c.setCell ⟨b+1,0,Yb⟩ a):=(Below.refl (b+1) c).setCell (p:=⟨b+1,0,Yb⟩) (Nat.le_refl _) a;have d:=(g.mono (Nat.le_succ _)).trans i;refine⟨h.F.keepB d (by omega),h.G.keepB d (by omega),h.E.keepB d (by omega),(h.O.keepB g (by omega)).setC a,?_,l,h.below.trans (d.mono (by omega))⟩;rw[e];exact ownsRow_setCell_below m (by show b+1<b+2;omega) a
end
end
end Go.Proofs.YtbfnnolakggbfaaGreatDoor
