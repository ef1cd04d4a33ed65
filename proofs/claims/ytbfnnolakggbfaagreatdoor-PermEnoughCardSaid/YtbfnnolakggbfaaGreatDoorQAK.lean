import Derived.Deep.DeepFit
import Derived.Laws.Rows
import Derived.OneCell
import Derived.WalkKit
import Derived.BigRegion
import Derived.Deep.RegionHeld3
import Derived.Lib.LaidTab
import Derived.Stop.LaidErr
import Derived.MakeChecks
import Derived.Test.YtbfnnolakggbfaaGreatDoorRows
import Derived.ProofKit
import Derived.Below
import Derived.Lib.SmallJoins
import Derived.OpenShut
import Derived.Test.YtbfnnolakggbfaaGreatDoorQAA
import Derived.Test.YtbfnnolakggbfaaGreatDoorQAE
import Derived.Test.YtbfnnolakggbfaaGreatDoorQAI
set_option maxRecDepth 100000
set_option maxHeartbeats 8000000
open Option renaming some → Ya, none → Yb
open Go.Value renaming int → Yd
open Go.IntKind renaming i64 → Yf
open Go.Obj renaming cells → Yg
open Go renaming World → Yh, Value → Yi
namespace Go.Proofs.YtbfnnolakggbfaaGreatDoor
section
universe u
theorem Yj {α : Type u} {a b : List α} : (a ++ b).length = a.length + b.length := List.length_append
theorem Yk {α : Type u} {x : α} {a : List α} : (x :: a).length = a.length + 1 := List.length_cons
theorem Yl {α : Type u} : ([] : List α).length = 0 := List.length_nil
theorem Ym {α : Type u} {l : List α} {i : Nat} (h : i < l.length) : l[i]? = some l[i] := List.getElem?_eq_getElem h
theorem Yn {c : Prop} {h : Decidable c} (n : ¬c) {α : Sort u} {t e : α} : ite c t e = e := if_neg n
theorem Yo {c : Prop} {h : Decidable c} (n : c) {α : Sort u} {t e : α} : ite c t e = t := if_pos n
theorem zh {p:Prop} (h:p):Go.RowKit.Hid p:=h
theorem zi {a b:Prop} (h:a) (k:b):a/\b:=⟨h,k⟩
open Go.RowKit
def Blk (w:Yh) (b:Nat) (a:Array Yi):Prop:=∃c,w.heap[b]? = Ya (.cells a c (0,0))
section
variable {w w':Yh} {b:Nat} {cs:Array Yi}
theorem Blk.cell (h:Blk w b cs) (i:Nat):w.cell? ⟨b,i,Yb⟩=cs[i]?:=by obtain⟨a,h⟩:=h;simp[World.cell?,h]
theorem Blk.free (h:Blk w b cs) (i:Nat):w.frozen? ⟨b,i,Yb⟩=false:=by obtain⟨a,h⟩:=h;simp[World.frozen?,h]
theorem Blk.lt (h:Blk w b cs):b<w.heap.size:=by obtain⟨a,h⟩:=h;exact lt_of_block h
theorem Blk.start (w:Yh) (a:Array Yi) (ty:TypeId):Blk (w.alloc (.cells a ty)) w.heap.size a:=⟨ty,heap_alloc_new _ _⟩
theorem Blk.keepB {B:Nat} (h:Blk w b cs) (c:Below B w w') (a:b<B):Blk w' b cs:=by obtain⟨d,h⟩:=h;exact⟨d,(c.block b a).trans h⟩
theorem Blk.keep (h:Blk w b cs) (a:Below w.heap.size w w'):Blk w' b cs:=h.keepB a h.lt
theorem Blk.grown {a:Option Nat} (h:Blk w b cs) (d:w.grownBy w' a) (c:a≠Ya b):Blk w' b cs:=by have f:=h.lt;obtain⟨g,h⟩:=h;exact⟨g,(d.block b f (fun e=>c e.symm)).trans h⟩
theorem Blk.other (h:Blk w b cs) {p:Addr} (a:p.block≠b) (v:Yi):Blk (w.setCell p v) b cs:=by obtain⟨c,h⟩:=h;exact⟨c,by rw[Below.heap_setCell _ _ _ _ (fun e=>a e.symm)];exact h⟩
theorem Blk.set (h:Blk w b cs) (i:Nat) (v:Yi):Blk (w.setCell ⟨b,i,Yb⟩ v) b (cs.setIfInBounds i v):=by
 have a:=h.lt;obtain⟨c,h⟩:=h;refine⟨c,?_⟩;have d:w.heap[b]=.cells cs c (0,0):=by simpa[Array.getElem?_eq_getElem a]using h
 show(w.heap.modify b _)[b]? = _;rw[Array.getElem?_eq_getElem (by simpa using a),Array.getElem_modify_self,d];rfl
theorem Blk.drew (h:Blk w b cs):Blk w.drew b cs:=h
end
end
section
open Go.RowKit
theorem Zcq (n:Int) (w:Yh):Calls Tryz.prog 12 #[Yd Yf n] w fun e w'=>e=.returned (Zb n 1)/\Below w.heap.size w w':=by go_enter Tryz.func12,Tryz.ntmps12;go_wp2_with fail;exact bodyPost_ret (v:=Zb n 1) (by simp[results,Tryz.results12,go_sem]) rfl ⟨rfl,below_alloc1 _ _⟩
theorem Zes (n d:Int) (w:Yh) (j:-9223372036854775807<=n) (k:n<=9223372036854775807):Calls Tryz.prog 13 #[Zb n d] w fun e w'=>e=.returned (Zb (-n) d)/\Below w.heap.size w w':=by have g:=below_alloc2 w (Yg #[Yd Yf n,Yd Yf d] 23) (Yg #[Yd Yf 0,Yd Yf 0] 23);have x:IntKind.i64.wrap (-n)=-n:=IntWalk.i64_in _ (by omega);have c:=(Blk.start w #[Yd Yf n,Yd Yf d] 23).keep (below_alloc1 _ (Yg #[Yd Yf 0,Yd Yf 0] 23));have a:=Blk.start (w.alloc (Yg #[Yd Yf n,Yd Yf d] 23)) #[Yd Yf 0,Yd Yf 0] 23;rw[World.size_alloc]at a;generalize l:(w.alloc (Yg #[Yd Yf n,Yd Yf d] 23)).alloc (Yg #[Yd Yf 0,Yd Yf 0] 23)=b at *;have t:b.cell? ⟨w.heap.size,0,Yb⟩=Ya (Yd Yf n):=c.cell 0;have u:b.cell? ⟨w.heap.size,1,Yb⟩=Ya (Yd Yf d):=c.cell 1;have z0:b.cell? ⟨w.heap.size+1,0,Yb⟩=Ya (Yd Yf 0):=a.cell 0;have y:b.cell? ⟨w.heap.size+1,1,Yb⟩=Ya (Yd Yf 0):=a.cell 1;have r:=a.free 0;have s:=a.free 1;have f:=zh ((a.set 0 (Yd Yf (-n))).set 1 (Yd Yf d));have i:=zh ((g.setCell (p:=⟨w.heap.size+1,0,Yb⟩) (by simp) (Yd Yf (-n))).setCell (p:=⟨w.heap.size+1,1,Yb⟩) (by simp) (Yd Yf d));clear c a g j k;go_enter Tryz.func13,Tryz.ntmps13;go_wp2_with fail;generalize(b.setCell ⟨w.heap.size+1,0,Yb⟩ (Yd Yf (-n))).setCell ⟨w.heap.size+1,1,Yb⟩ (Yd Yf d)=h at *;have m:h.cell? ⟨w.heap.size+1,0,Yb⟩=Ya (Yd Yf (-n)):=f.out.cell 0;have o:h.cell? ⟨w.heap.size+1,1,Yb⟩=Ya (Yd Yf d):=f.out.cell 1;exact bodyPost_ret (v:=Zb (-n) d) (by simp[results,Tryz.results13,go_sem,m,o]) rfl ⟨rfl,i.out⟩
def ZcU (w:Yh) (op c d n e:Int) (v:Yi):Prop:=∃g,v=.agg #[Yd Yf op,.slice (Ya ⟨g,0,Yb⟩) 1 1,Yd Yf n,Yd Yf e]/\Blk w g #[Yd Yf c,Yd Yf d]
theorem ZcU.keep {w w':Yh} {op c d n e:Int} {v:Yi} (h:ZcU w op c d n e v) (b:Below w.heap.size w w'):ZcU w' op c d n e v:=by obtain⟨g,e,a⟩:=h;exact⟨g,e,a.keep b⟩
theorem Zd3 (op c d n e:Int) (w:Yh):Calls Tryz.prog 11 #[Yd Yf op,Zb c d,Zb n e] w fun r w'=>(∃v,r=.returned v/\ZcU w' op c d n e v)/\Below w.heap.size w w':=by have b:=below_alloc2 w (Yg #[Yd Yf c,Yd Yf d] 23) (Yg #[Yd Yf n,Yd Yf e] 23);have f:=below_alloc2 ((w.alloc (Yg #[Yd Yf c,Yd Yf d] 23)).alloc (Yg #[Yd Yf n,Yd Yf e] 23)) (Yg #[Yd Yf op,.slice (Ya ⟨w.heap.size+1+1+1,0,Yb⟩) 1 1,Yd Yf n,Yd Yf e] 39) (Yg #[Yd Yf c,Yd Yf d] 23);have h:=zh (b.trans (f.mono b.size));have a:=Blk.start (((w.alloc (Yg #[Yd Yf c,Yd Yf d] 23)).alloc (Yg #[Yd Yf n,Yd Yf e] 23)).alloc (Yg #[Yd Yf op,.slice (Ya ⟨w.heap.size+1+1+1,0,Yb⟩) 1 1,Yd Yf n,Yd Yf e] 39)) #[Yd Yf c,Yd Yf d] 23;rw[World.size_alloc,World.size_alloc,World.size_alloc]at a;have g:=zh a;clear b f a;go_enter Tryz.func11,Tryz.ntmps11;go_wp2_with fail;exact bodyPost_ret (v:=.agg #[Yd Yf op,.slice (Ya ⟨w.heap.size+1+1+1,0,Yb⟩) 1 1,Yd Yf n,Yd Yf e]) (by simp[results,Tryz.results11,go_sem]) rfl ⟨⟨_,rfl,_,rfl,g.out⟩,h.out⟩
end
section
open Go.RowKit
theorem Zlr (n d:Int) (w:Yh) (a:-9223372036854775807<=n) (b:n<0) (c:0<d) (f:d<=9223372036854775807) :
  Calls Tryz.prog 156 #[Zb n d] w fun e w'=>e=.returned (Zb (-d) (-n))/\Below w.heap.size w w':=by
 go_enter Tryz.func156,Tryz.ntmps156;go_wp2;exact bodyPost_ret (v:=Zb (-d) (-n)) (by simp[results,Tryz.results156,go_sem]) rfl ⟨rfl,((Below.refl _ _).alloc (Nat.le_refl _) _).alloc (by simp) _⟩
theorem Zls (n d:Int) (w:Yh) (a:¬n<0) :
  Calls Tryz.prog 156 #[Zb n d] w fun e w'=>e=.returned (Zb d n)/\Below w.heap.size w w':=by
 go_enter Tryz.func156,Tryz.ntmps156;go_wp2;exact bodyPost_ret (v:=Zb d n) (by simp[results,Tryz.results156,go_sem]) rfl ⟨rfl,((Below.refl _ _).alloc (Nat.le_refl _) _).alloc (by simp) _⟩
theorem Valid.neg {n:Int} {d:Nat} (v:Valid n d):Valid (-n) d:=⟨v.pos,v.d_le,by rw[Int.natAbs_neg];exact v.n_le,by rw[Int.natAbs_neg];exact v.low⟩
theorem Zj3 {w i j:Yh} {n d m e:Yi} (l:Below i.heap.size i j)
  (h:(i.cell? ⟨w.heap.size,0,Yb⟩=Ya n/\i.cell? ⟨w.heap.size,1,Yb⟩=Ya d/\i.cell? ⟨w.heap.size+1,0,Yb⟩=Ya m/\i.cell? ⟨w.heap.size+1,1,Yb⟩=Ya e)/\w.heap.size+2<i.heap.size/\Below w.heap.size w i/\(i.cell? ⟨w.heap.size+1+1,0,Yb⟩=Ya (Zf i ⟨w.heap.size+1+1,0,Yb⟩)/\i.cell? ⟨w.heap.size+1+1,1,Yb⟩=Ya (Zf i ⟨w.heap.size+1+1,1,Yb⟩))/\(i.frozen? ⟨w.heap.size+1+1,0,Yb⟩=false/\i.frozen? ⟨w.heap.size+1+1,1,Yb⟩=false)) :
  (j.cell? ⟨w.heap.size,0,Yb⟩=Ya n/\j.cell? ⟨w.heap.size,1,Yb⟩=Ya d/\j.cell? ⟨w.heap.size+1,0,Yb⟩=Ya m/\j.cell? ⟨w.heap.size+1,1,Yb⟩=Ya e)/\w.heap.size+2<j.heap.size/\Below w.heap.size w j/\(j.cell? ⟨w.heap.size+1+1,0,Yb⟩=Ya (Zf j ⟨w.heap.size+1+1,0,Yb⟩)/\j.cell? ⟨w.heap.size+1+1,1,Yb⟩=Ya (Zf j ⟨w.heap.size+1+1,1,Yb⟩))/\(j.frozen? ⟨w.heap.size+1+1,0,Yb⟩=false/\j.frozen? ⟨w.heap.size+1+1,1,Yb⟩=false):=by
 obtain⟨⟨a,b,c,f⟩,g,k,⟨i0,i1⟩,j0,j1⟩:=h;have s:=l.size;have q:∀o,j.cell? ⟨w.heap.size+1+1,o,Yb⟩=i.cell? ⟨w.heap.size+1+1,o,Yb⟩:=fun o=>l.cell (p:=⟨w.heap.size+1+1,o,Yb⟩) (by simp;omega);have r:∀o,j.frozen? ⟨w.heap.size+1+1,o,Yb⟩=i.frozen? ⟨w.heap.size+1+1,o,Yb⟩:=fun o=>l.frozen (p:=⟨w.heap.size+1+1,o,Yb⟩) (by simp;omega);exact⟨⟨Zd l (by omega) a,Zd l (by omega) b,Zd l (by omega) c,Zd l (by omega) f⟩,by omega,k.trans (l.mono (by omega)),⟨ZH ((q _).trans i0),ZH ((q _).trans i1)⟩,by rw[r];exact j0,by rw[r];exact j1⟩
theorem Zgu {w i:Yh} {n d m e:Yi} {o:Nat} {x:Yi}
  (h:(i.cell? ⟨w.heap.size,0,Yb⟩=Ya n/\i.cell? ⟨w.heap.size,1,Yb⟩=Ya d/\i.cell? ⟨w.heap.size+1,0,Yb⟩=Ya m/\i.cell? ⟨w.heap.size+1,1,Yb⟩=Ya e)/\w.heap.size+2<i.heap.size/\Below w.heap.size w i/\(i.cell? ⟨w.heap.size+1+1,0,Yb⟩=Ya (Zf i ⟨w.heap.size+1+1,0,Yb⟩)/\i.cell? ⟨w.heap.size+1+1,1,Yb⟩=Ya (Zf i ⟨w.heap.size+1+1,1,Yb⟩))/\(i.frozen? ⟨w.heap.size+1+1,0,Yb⟩=false/\i.frozen? ⟨w.heap.size+1+1,1,Yb⟩=false)) :
  ((i.setCell ⟨w.heap.size+1+1,o,Yb⟩ x).cell? ⟨w.heap.size,0,Yb⟩=Ya n/\(i.setCell ⟨w.heap.size+1+1,o,Yb⟩ x).cell? ⟨w.heap.size,1,Yb⟩=Ya d/\(i.setCell ⟨w.heap.size+1+1,o,Yb⟩ x).cell? ⟨w.heap.size+1,0,Yb⟩=Ya m/\(i.setCell ⟨w.heap.size+1+1,o,Yb⟩ x).cell? ⟨w.heap.size+1,1,Yb⟩=Ya e)/\w.heap.size+2<(i.setCell ⟨w.heap.size+1+1,o,Yb⟩ x).heap.size/\Below w.heap.size w (i.setCell ⟨w.heap.size+1+1,o,Yb⟩ x)/\((i.setCell ⟨w.heap.size+1+1,o,Yb⟩ x).cell? ⟨w.heap.size+1+1,0,Yb⟩=Ya (Zf (i.setCell ⟨w.heap.size+1+1,o,Yb⟩ x) ⟨w.heap.size+1+1,0,Yb⟩)/\(i.setCell ⟨w.heap.size+1+1,o,Yb⟩ x).cell? ⟨w.heap.size+1+1,1,Yb⟩=Ya (Zf (i.setCell ⟨w.heap.size+1+1,o,Yb⟩ x) ⟨w.heap.size+1+1,1,Yb⟩))/\((i.setCell ⟨w.heap.size+1+1,o,Yb⟩ x).frozen? ⟨w.heap.size+1+1,0,Yb⟩=false/\(i.setCell ⟨w.heap.size+1+1,o,Yb⟩ x).frozen? ⟨w.heap.size+1+1,1,Yb⟩=false):=by
 obtain⟨⟨a,b,c,f⟩,g,k,⟨i0,i1⟩,j0,j1⟩:=h;have q:∀j l,j<w.heap.size+1+1->(i.setCell ⟨w.heap.size+1+1,o,Yb⟩ x).cell? ⟨j,l,Yb⟩=i.cell? ⟨j,l,Yb⟩:=fun j l p=>World.cell?_setCell_far _ _ _ _ (by simp;omega);exact⟨⟨by rw[q _ _ (by omega)];exact a,by rw[q _ _ (by omega)];exact b,by rw[q _ _ (by omega)];exact c,by rw[q _ _ (by omega)];exact f⟩,by rw[World.size_setCell];exact g,k.setCell (by simp;omega) _,⟨Zao i0,Zao i1⟩,by rw[World.frozen?_setCell];exact j0,by rw[World.frozen?_setCell];exact j1⟩
theorem Boxes.rats {w a:Yh} {n d m e:Int} (h:Boxes w a n d m e) :
  (a.cell? ⟨w.heap.size,0,Yb⟩=Ya (Yd Yf n)/\a.cell? ⟨w.heap.size,1,Yb⟩=Ya (Yd Yf d)/\a.cell? ⟨w.heap.size+1,0,Yb⟩=Ya (Yd Yf m)/\a.cell? ⟨w.heap.size+1,1,Yb⟩=Ya (Yd Yf e))/\w.heap.size+2<a.heap.size/\Below w.heap.size w a/\(a.cell? ⟨w.heap.size+1+1,0,Yb⟩=Ya (Zf a ⟨w.heap.size+1+1,0,Yb⟩)/\a.cell? ⟨w.heap.size+1+1,1,Yb⟩=Ya (Zf a ⟨w.heap.size+1+1,1,Yb⟩))/\(a.frozen? ⟨w.heap.size+1+1,0,Yb⟩=false/\a.frozen? ⟨w.heap.size+1+1,1,Yb⟩=false):=
 ⟨⟨h.c0,h.c1,h.c2,h.c3⟩,h.size,h.below,⟨ZH h.i0,ZH h.i1⟩,h.j0,h.j1⟩
theorem Zi7 {w b:Yh} {x y:Yi} {A B F:Prop} {f:Yh} (a:f=(b.setCell ⟨w.heap.size+1+1,0,Yb⟩ x).setCell ⟨w.heap.size+1+1,1,Yb⟩ y)
  (h:A/\B/\Below w.heap.size w f/\(f.cell? ⟨w.heap.size+1+1,0,Yb⟩=Ya (Zf f ⟨w.heap.size+1+1,0,Yb⟩)/\f.cell? ⟨w.heap.size+1+1,1,Yb⟩=Ya (Zf f ⟨w.heap.size+1+1,1,Yb⟩))/\F) :
  f.cell? ⟨w.heap.size+1+1,0,Yb⟩=Ya x/\f.cell? ⟨w.heap.size+1+1,1,Yb⟩=Ya y/\Below w.heap.size w f:=by
 obtain⟨_,_,k,⟨i0,i1⟩,_⟩:=h;subst a;refine⟨?_,i1.trans (congrArg Ya (ZbA i1)),k⟩;have e:=i0;rw[ZfZ (by decide)]at e;exact i0.trans (congrArg Ya (ZbA e))
theorem Zkt {n m:Int} {d e:Nat} (v:Valid n d) (u:Valid m e) (w:Yh) :
  Calls Tryz.prog 27 #[Zb n d,Zb m e] w fun r w'=>r=.returned (Zcx (n*e-m*d) (d*e))/\Below w.heap.size w w':=by
 have k:=fun w=>ZbU v w;have l:=fun w=>ZbU u w;have b:=fun w=>Zkx v u.neg w;have c:n*e+-m*d=n*e-m*d:=by rw[Int.neg_mul];omega
 rw[c]at b;clear c;unfold Zcx at b⊢;generalize ZcI (n*e-m*d) (d*e)=f at *;generalize ZcR (n*e-m*d) (d*e)=g at *;generalize ZcH (n*e-m*d) (d*e)=h at *;have o:=u.n_le;have j:=fun w=>ZgM m e w (by omega) (by omega);clear v u o;go_enter Tryz.func27,Tryz.ntmps27;go_upto_region 1 with fail;have B:=Boxes.start w n d m e 0 23;go_wp2_with (go_at_call 34;(first|with_reducible refine(k _).mono ?_|with_reducible refine(l _).mono ?_);rintro e p ⟨rfl,a⟩;have B:=B.keep a;have c0:=B.c0;have c1:=B.c1;have c2:=B.c2;have c3:=B.c3)
 go_region_held3 (fun w'=>(w'.cell? ⟨w.heap.size,0,Yb⟩=Ya (Yd Yf n)/\w'.cell? ⟨w.heap.size,1,Yb⟩=Ya (Yd Yf d)/\w'.cell? ⟨w.heap.size+1,0,Yb⟩=Ya (Yd Yf m)/\w'.cell? ⟨w.heap.size+1,1,Yb⟩=Ya (Yd Yf e))/\w.heap.size+2<w'.heap.size/\Below w.heap.size w w'/\(w'.cell? ⟨w.heap.size+1+1,0,Yb⟩=Ya (Zf w' ⟨w.heap.size+1+1,0,Yb⟩)/\w'.cell? ⟨w.heap.size+1+1,1,Yb⟩=Ya (Zf w' ⟨w.heap.size+1+1,1,Yb⟩))/\(w'.frozen? ⟨w.heap.size+1+1,0,Yb⟩=false/\w'.frozen? ⟨w.heap.size+1+1,1,Yb⟩=false))
  (first
   |with_reducible assumption
   |with_reducible exact Zj3 (by with_reducible assumption) (by with_reducible assumption)
   |with_reducible exact Zgu (Zgu (by with_reducible assumption))
   |exact(B.keep (Zn _)).rats)
  (first
   |(go_at_call 43;go_fit (j _);rintro e w' ⟨rfl,a⟩)
   |(go_at_call 42;go_fit (b _);rintro e w' ⟨rfl,a⟩))
 go_wp2_with fail;obtain⟨c0,c1,i⟩:=Zi7 rfl (by with_reducible assumption);exact bodyPost_ret (v:=.tuple #[Zb f g,Yd Yf h]) (by simp[results,Tryz.results27,go_sem,c0,c1]) rfl ⟨rfl,i⟩
theorem Valid.inv {m:Int} {e:Nat} (u:Valid m e) (h:m≠0):Valid (if m<0 then -(e:Int)else e) m.natAbs:=by
 have up:=u.pos;have a:=u.d_le;refine⟨by omega,u.n_le,by split<;>omega,?_⟩;have:(if m<0 then -(e:Int)else(e:Int)).natAbs=e:=by split<;>omega
 rw[this,Nat.gcd_comm];exact u.low
theorem ZjA {m:Int} {e:Nat} (u:Valid m e) (w:Yh) :
  Calls Tryz.prog 156 #[Zb m e] w fun r w'=>r=.returned (Zb (if m<0 then -(e:Int)else e) m.natAbs)/\Below w.heap.size w w':=by
 have up:=u.pos;have a:=u.d_le;have b:=u.n_le;by_cases s:m<0
 ·rw[Yo s];have:=Zlr m e w (by omega) s (by omega) (by omega);rwa[show -m=(m.natAbs:Int)by omega]at this
 ·rw[Yn s];have:=Zls m e w s;rwa[show Zb (e:Int) m=Zb (e:Int) (m.natAbs:Int)by rw[show(m.natAbs:Int)=m by omega]]at this
theorem ZoM {n m:Int} {d e:Nat} (v:Valid n d) (u:Valid m e) (h:m≠0) (w:Yh) :
  Calls Tryz.prog 145 #[Zb n d,Zb m e] w fun r w'=>r=.returned (Zcx (n*(if m<0 then -(e:Int)else e)) (d*m.natAbs))/\Below w.heap.size w w':=by
 have k:=fun w=>ZbU v w;have l:=fun w=>ZbU u w;have j:=fun w=>ZjA u w;have b:=fun w=>ZgO v (u.inv h) w;unfold Zcx at b⊢;generalize(if m<0 then -(e:Int)else(e:Int))=E at *;generalize ZcI (n*E) (d*m.natAbs)=c at *;generalize ZcR (n*E) (d*m.natAbs)=f at *;generalize ZcH (n*E) (d*m.natAbs)=g at *;have hm:(m==0)=false:=by simpa using h
 clear v u h;go_enter Tryz.func145,Tryz.ntmps145;go_upto_region 1 with fail;have B:=Boxes.start w n d m e 0 23;go_wp2_with (go_at_call 34;(first|with_reducible refine(k _).mono ?_|with_reducible refine(l _).mono ?_);rintro e o ⟨rfl,a⟩;have B:=B.keep a;have c0:=B.c0;have c1:=B.c1;have c2:=B.c2;have c3:=B.c3)
 go_region_held3 (fun w'=>(w'.cell? ⟨w.heap.size,0,Yb⟩=Ya (Yd Yf n)/\w'.cell? ⟨w.heap.size,1,Yb⟩=Ya (Yd Yf d)/\w'.cell? ⟨w.heap.size+1,0,Yb⟩=Ya (Yd Yf m)/\w'.cell? ⟨w.heap.size+1,1,Yb⟩=Ya (Yd Yf e))/\w.heap.size+2<w'.heap.size/\Below w.heap.size w w'/\(w'.cell? ⟨w.heap.size+1+1,0,Yb⟩=Ya (Zf w' ⟨w.heap.size+1+1,0,Yb⟩)/\w'.cell? ⟨w.heap.size+1+1,1,Yb⟩=Ya (Zf w' ⟨w.heap.size+1+1,1,Yb⟩))/\(w'.frozen? ⟨w.heap.size+1+1,0,Yb⟩=false/\w'.frozen? ⟨w.heap.size+1+1,1,Yb⟩=false))
  (first
   |with_reducible assumption
   |with_reducible exact Zj3 (by with_reducible assumption) (by with_reducible assumption)
   |with_reducible exact Zgu (Zgu (by with_reducible assumption))
   |exact(B.keep (Zn _)).rats)
  (first
   |(go_at_call 156;go_fit (j _);rintro e w' ⟨rfl,a⟩)
   |(go_at_call 41;go_fit (b _);rintro e w' ⟨rfl,a⟩))
 go_wp2_with fail;obtain⟨c0,c1,i⟩:=Zi7 rfl (by with_reducible assumption);exact bodyPost_ret (v:=.tuple #[Zb c f,Yd Yf g]) (by simp[results,Tryz.results145,go_sem,c0,c1]) rfl ⟨rfl,i⟩
theorem Zr1 {n m x:Int} {d e y:Nat} (v:Valid n d) (u:Valid m e) (z:Valid x y) (h:x*((d*e:Nat):Int)=(n*e-m*d)*(y:Int)) (w:Yh) :
  Calls Tryz.prog 27 #[Zb n d,Zb m e] w fun r w'=>r=.returned (.tuple #[Zb x y,Yd Yf 0])/\Below w.heap.size w w':=by
 obtain⟨a,b,c⟩:=Zhm (Nat.mul_pos v.pos u.pos) z h;have:=Zkt v u w;unfold Zcx at this;rwa[a,b,c]at this
theorem ZrR {n m x:Int} {d e y:Nat} (v:Valid n d) (u:Valid m e) (hm:m≠0) (z:Valid x y) (h:x*d*m=n*e*(y:Int)) (w:Yh) :
  Calls Tryz.prog 145 #[Zb n d,Zb m e] w fun r w'=>r=.returned (.tuple #[Zb x y,Yd Yf 0])/\Below w.heap.size w w':=by
 have g:0<d*m.natAbs:=Nat.mul_pos v.pos (by omega);have f:x*((d*m.natAbs:Nat):Int)=n*(if m<0 then -(e:Int)else e)*(y:Int):=by
  push_cast
  by_cases s:m<0
  ·rw[Yo s,show((m.natAbs:Int))=-m by omega,<-Int.mul_assoc,Int.mul_neg,h,Int.mul_neg,Int.neg_mul]
  ·rw[Yn s,show((m.natAbs:Int))=m by omega,<-Int.mul_assoc,h]
 obtain⟨a,b,c⟩:=Zhm g z f;have:=ZoM v u hm w;unfold Zcx at this;rwa[a,b,c]at this
end
section
open Go.RowKit
abbrev Zb3 (k n d r s:Int):Yi:=.agg #[Yd Yf k,Yd Yf n,Yd Yf d,Yd Yf r,.int .u32 s]
abbrev Zay (k n d r s:Int):Array Yi:=#[Yd Yf k,Yd Yf n,Yd Yf d,Yd Yf r,.int .u32 s]
def Zdo:List (List Int):=[[-1,4,2,3,1],[-1,4,-1,-1,1],[-1,-1,2,-1,2],[-1,-1,-1,3,-1],[-1,-1,-1,-1,4]]
def Zfl (a b:Nat):Int:=(Zdo.getD a []).getD b (-1)
def ZdM (k p:Int):Int:=if 0<=k/\k<5/\0<=p/\p<5 then Zfl k.toNat p.toNat else -1
def ZcO (w:Yh):Prop:=1<w.heap.size/\∀a b:Nat,a<5->b<5->w.cell? ⟨1,a*5+b,Yb⟩=Ya (Yd Yf (Zfl a b))
theorem ZcO.below {w w':Yh} (h:ZcO w) (d:Below w.heap.size w w'):ZcO w':=
 ⟨Nat.lt_of_lt_of_le h.1 d.size,fun a b e c=>(d.cell (p:=⟨_,a*5+b,Yb⟩) h.1).trans (h.2 a b e c)⟩
theorem ZkH {H:Type} {enc:TypeId×Yi->H} {P:Program} {w:Yh} {base:Nat} {D:Nat->Bool} {d:Bool} {a:Nat} {t e f:TypeId} {n m:Nat} {k:IntKind} {o:List Yi} {zss:List (List Int)} {p:List MemPlace}
  (A:P.underlying t=Ya (.array n e)) (he:P.underlying e=Ya (.array m f)) (v:P.underlying f=Ya (.int k)) (j:P.cellsOf f=1) (c:P.cellsOf e=m)
  (h:DataW.trod enc P w base D d a t o=Ya (.agg (zss.map (Lib.tabData k)),p)):∀i z,i<n->zss[i]? = Ya z->(o.drop (i*m)).take m=z.map fun x=>Value.int k x:=by
 cases a with
 |zero=>simp[DataW.trod]at h
 |succ a=>
  simp only[DataW.trod,A,c]at h
  split at h
  ·rename_i G
   obtain⟨s,hm,B⟩:=Option.map_eq_some_iff.1 h;have l:s.map (·.1)=zss.map (Lib.tabData k):=by have:=congrArg Prod.fst B;simpa using this
   intro i z y C;obtain⟨b,u,hq⟩:=Lib.mapM_at hm i i (by simp[y]);have r:(s.map (·.1))[i]? = Ya b.1:=by simp[u]
   rw[l,List.getElem?_map,C]at r;have g:Lib.tabData k z=b.1:=Option.some.inj r;obtain⟨E,F⟩:=b;subst g;exact Lib.cells_of_tab he v j c hq
  ·cases h
theorem Tryz.gRests:Tryz.prog.globalNamed "ballcock/perm.rests"=Ya 1:=by kernel_rfl
theorem Tryz.gRestsType:(Tryz.prog.globals[1]?).map (·.type)=Ya 70:=by kernel_rfl
theorem Zn2 {W:Yh} {rest:List (String×DataW Unit)} (h:laidMet Tryz.prog (("ballcock/perm.rests",Rows.laid_ballcock_perm_rests)::rest) W):ZcO W:=by
 obtain⟨u,⟨t,v,r,k,p,q,i,j,d,n,_,_⟩,_⟩:=h;obtain rfl:=Option.some.inj (Tryz.gRests.symm.trans i);obtain rfl:=Option.some.inj (Tryz.gRestsType.symm.trans j);have hc:=ZkH (zss:=Zdo) Tryz.underlying70 Tryz.underlying69 Tryz.underlying3 (by kernel_rfl) (by kernel_rfl) n;simp only[World.var?,Tryz.gRests,Option.bind_some]at d
 split at d
 ·rename_i c w s e
  have d:=Option.some.inj d;subst d;refine⟨?_,fun a b f m=>?_⟩
  ·rcases Nat.lt_or_ge 1 W.heap.size with q|q
   ·exact q
   ·rw[Array.getElem?_eq_none q]at e;cases e
  ·have o:Zdo[a]? = Ya (Zdo.getD a []):=by rw[List.getD_eq_getElem?_getD];have:a<Zdo.length:=f;simp[this]
   have g:=hc a _ f o;have l:((c.toList.drop (a*5)).take 5)[b]? = Ya (Yd Yf (Zfl a b)):=by
    rw[g,List.getElem?_map];have e:∀a,a<5->∀b,b<5->(Zdo.getD a [])[b]? = Ya (Zfl a b):=by decide
    have:=e a f b m;rw[this];rfl
   rw[List.getElem?_take,Yo m,List.getElem?_drop]at l;simp only[World.cell?,e];simpa using l
 ·cases d
theorem ZdH (n:Int) (w:Yh):Calls Tryz.prog 12 #[Yd Yf n] w fun e w'=>e=.returned (Zb n 1)/\Below w.heap.size w w':=by go_enter Tryz.func12,Tryz.ntmps12;go_wp2_with fail;exact bodyPost_ret (v:=Zb n 1) (by simp[results,Tryz.results12,go_sem]) rfl ⟨rfl,below_alloc1 _ _⟩
theorem ZeC (k:Int) (w:Yh):Calls Tryz.prog 17 #[Yd Yf k] w fun e w'=>e=.returned (.bool (decide (0<=k)&&decide (k<5)))/\w'=w:=by
 by_cases a:0<=k
 ·by_cases b:k<5
  ·rw[decide_eq_true a,decide_eq_true b];have c:decide (k ≥ 0)=true:=decide_eq_true a;have d:decide (k<5)=true:=decide_eq_true b;clear a b;go_enter Tryz.func17,Tryz.ntmps17;go_wp2_with fail;go_ret;exact⟨rfl,rfl⟩
  ·rw[decide_eq_true a,decide_eq_false b];have c:decide (k ≥ 0)=true:=decide_eq_true a;have d:decide (k<5)=false:=decide_eq_false b;clear a b;go_enter Tryz.func17,Tryz.ntmps17;go_wp2_with fail;go_ret;exact⟨rfl,rfl⟩
 ·rw[decide_eq_false a];have c:decide (k ≥ 0)=false:=decide_eq_false a;clear a;go_enter Tryz.func17,Tryz.ntmps17;go_wp2_with fail;go_ret;exact⟨rfl,rfl⟩
end
section
open Go.RowKit Go.WideShapes Go.ChangeShapes Go.ChangeAt Go.Joins
section
variable {H:Type} {enc:TypeId×Yi->H} {w:Yh} {base:Nat} {spare:Nat->Bool} {held:Bool}
theorem ZnQ {a:Nat} {c:List Yi} {x:DataW H×List MemPlace} (l:c.length=2) (h:DataW.trod enc Tryz.prog w base spare held a 23 c=Ya x) :
  ∃n d:Int,c=[Yd Yf n,Yd Yf d]/\(-9223372036854775808<=n/\n<=9223372036854775807)/\(-9223372036854775808<=d/\d<=9223372036854775807):=by
 have k:Tryz.prog.cellsOf 2=1:=by kernel_rfl
 match c,l with
 |[c0,c1],_=>
  obtain⟨s,n,_,_,_,b,j⟩:=DataW.trod_struct Tryz.underlying23 h
  match s,b with
  |[y0,y1],_=>
   have g:=j 0 _ rfl;have i:=j 1 _ rfl;simp[k]at g i;obtain⟨m,e,_,p⟩:=DataW.trod_int Tryz.underlying2 g;obtain⟨o,f,_,r⟩:=DataW.trod_int Tryz.underlying2 i;simp only[List.cons.injEq,and_true]at e f;subst e f;exact⟨m,o,rfl,wf_i64 p,wf_i64 r⟩
theorem ZlE {a:Nat} {c:List Yi} {x:DataW H×List MemPlace} (z:c.length=5) (h:DataW.trod enc Tryz.prog w base spare held a 26 c=Ya x) :
  ∃k n d r s:Int,c=[Yd Yf k,Yd Yf n,Yd Yf d,Yd Yf r,.int .u32 s]/\(-9223372036854775808<=n/\n<=9223372036854775807)/\(-9223372036854775808<=d/\d<=9223372036854775807)/\(-9223372036854775808<=r/\r<=9223372036854775807):=by
 have t:Tryz.prog.cellsOf 3=1:=by kernel_rfl
 have v:Tryz.prog.cellsOf 24=1:=by kernel_rfl
 have u:Tryz.prog.cellsOf 23=2:=by kernel_rfl
 match c,z with
 |[c0,c1,c2,c3,c4],_=>
  obtain⟨B,n,_,_,_,b,e⟩:=DataW.trod_struct Tryz.underlying26 h
  match B,b with
  |[y0,y1,y2,y3],_=>
   have l:=e 0 _ rfl;have m:=e 1 _ rfl;have o:=e 2 _ rfl;have p:=e 3 _ rfl;simp[t,v,u]at l m o p;obtain⟨k,f,_,_⟩:=DataW.trod_int Tryz.underlying3 l;obtain⟨n,d,g,A,y⟩:=ZnQ rfl m;obtain⟨r,i,_,wr⟩:=DataW.trod_int Tryz.underlying3 o;obtain⟨s,j,_,_⟩:=DataW.trod_int Tryz.underlying24 p;simp only[List.cons.injEq,and_true]at f g i j;obtain⟨rfl,rfl⟩:=g;subst f i j;exact⟨k,n,d,r,s,rfl,A,y,wf_i64 wr⟩
theorem ZnP {c:Nat} {r:Reach} {v:Yi} {d:DataW H} {p:List MemPlace} (o:Value.okWide Tryz.prog w r c 26 v) (h:DataW.Trod enc Tryz.prog w base spare held 26 v d p) :
  ∃k n d r s:Int,v=Zb3 k n d r s/\(-9223372036854775808<=n/\n<=9223372036854775807)/\(-9223372036854775808<=d/\d<=9223372036854775807)/\(-9223372036854775808<=r/\r<=9223372036854775807):=by
 obtain⟨⟨f⟩,rfl,a⟩:=okWide_struct Tryz.underlying26 o;have g:Tryz.prog.cellsOf 26=5:=by kernel_rfl
 obtain⟨b,j⟩:=h;obtain⟨k,n,d,r,s,e,l,i,m⟩:=ZlE (a.trans g) (by simpa[Value.cells]using j);have e:f=_:=e;subst e;exact⟨k,n,d,r,s,rfl,l,i,m⟩
end
end
end Go.Proofs.YtbfnnolakggbfaaGreatDoor
