import Derived.BigQuiet
import Derived.Deep.QuietTactic
import Derived.OwnWalk
import Derived.Deep.LoopGhost
import Derived.Deep.RegionHeld3
import Derived.Test.YtbfnnolakggbfaaGreatDoorQAG
import Derived.Test.YtbfnnolakggbfaaGreatDoorQAI
set_option maxRecDepth 100000
set_option maxHeartbeats 8000000
open Option renaming some → Ya, none → Yb
open Go.Value renaming slice → Yc, int → Yd
open Go.IntKind renaming i64 → Yf
open Go.Obj renaming cells → Yg
open Go renaming World → Yh, Value → Yi
namespace Go.Proofs.YtbfnnolakggbfaaGreatDoor
section
open Go.RowKit
theorem ZdE:(Tryz.prog.info? 23).map (fun i=>(i.zero,i.size,i.bytes))=Ya (Ya (.agg #[Yd Yf 0,Yd Yf 0]),2,16):=by kernel_rfl
theorem Zdn {w:Yh} {base:Nat} {l:List (Int×Int)} {v:Yi} (h:w.ownsRow base 23 2 v l.length (Zq l)):Za w v l:=by
 have e:=h;rcases h.2 with⟨rfl,f⟩|⟨g,b,d,rfl,_,i,c,a⟩
 ·have:l=[]:=List.eq_nil_of_length_eq_zero (by simpa using f);subst this;exact Za.nil w
 ·exact⟨Ya _,b,rfl,c,a.1,Zw.of_own e⟩
theorem Zke (w:Yh):(w.alloc (Yg #[] 23)).ownsRow w.heap.size 23 2 (Yc (Ya ⟨w.heap.size,0,Yb⟩) 0 0) 0 []:=
 ⟨rfl,.inr ⟨w.heap.size,0,#[],rfl,Nat.le_refl _,heap_alloc_new w _,Nat.le_refl _,by decide,rfl,rfl⟩⟩
theorem Ze1:∀(l:List (Int×Int)),∀u∈Zq l,u.oneCell'=true
 |[],u,h=>by cases h
 |x::r,u,h=>by
  rw[Zq,List.mem_cons,List.mem_cons]at h;rcases h with rfl|rfl|h
  ·rfl
  ·rfl
  ·exact Ze1 r u h
theorem Zhl {w:Yh} {base k n:Nat} {v:Yi} {d:List Yi} (h:w.ownsRow base 23 2 v n d) (a:v.ownBlock=Ya k):base<=k:=by
 rcases h.2 with⟨rfl,_⟩|⟨g,b,c,rfl,e,_⟩
 ·cases a
 ·have:g=k:=by simpa[Value.ownBlock]using a
  omega
end
section
open Go.RowKit
def Zq4 (w:Yh) (l:List (Int×Int)) (kn kd:Int) (e:Ending) (w':Yh):Prop:=∃v,e=.returned (.agg #[v,Yd Yf kn,Yd Yf kd])/\Za w' v l/\Below w.heap.size w w'/\Zp w.heap.size v
theorem Za.setCell {w:Yh} {B:Nat} {v:Yi} {l:List (Int×Int)} (h:Za w v l) (f:Zp B v) {p:Addr} (m:p.block<B) (x:Yi):Za (w.setCell p x) v l:=by obtain⟨A,c,rfl,d,g,b⟩:=h;refine⟨A,c,rfl,d,g,b.1,fun k=>?_⟩;obtain⟨a,rfl,i,hc⟩:=b.2 k;have:=f a.block rfl;refine⟨a,rfl,by rw[World.size_setCell];exact i,fun j u hu=>?_⟩;rw[World.cell?_setCell_other _ _ _ _ (fun e=>by have:=congrArg Addr.block e;rw[ZJ]at this;omega)];exact hc j u hu
theorem Zhy (l:List (Int×Int)):(Zs l).length<=l.length:=by unfold Zs;rw[List.length_reverse];have:=(List.dropWhile_sublist (fun x:Int×Int=>x.1==0) (l:=l.reverse)).length_le;rwa[List.length_reverse]at this
theorem ZqQ (w:Yh):Calls Tryz.prog 46 #[] w fun r w'=>r=.returned (.agg #[Yc Yb 0 0,Yd Yf 0,Yd Yf 1])/\Below w.heap.size w w':=by go_enter Tryz.func46,Tryz.ntmps46;go_wp2_with fail;exact bodyPost_ret (v:=.agg #[Yc Yb 0 0,Yd Yf 0,Yd Yf 1]) (by simp[results,Tryz.results46,go_sem]) rfl ⟨rfl,below_alloc1 _ _⟩
theorem ZdW {w a b:Yh} {d e f:Yi} (c:Below a.heap.size a b)
  (h:(a.cell? ⟨w.heap.size,0,Yb⟩=Ya d/\a.cell? ⟨w.heap.size,1,Yb⟩=Ya e/\a.cell? ⟨w.heap.size,2,Yb⟩=Ya f)/\w.heap.size+1<a.heap.size/\Below w.heap.size w a/\(a.cell? ⟨w.heap.size+1,0,Yb⟩=Ya (Zf a ⟨w.heap.size+1,0,Yb⟩)/\a.cell? ⟨w.heap.size+1,1,Yb⟩=Ya (Zf a ⟨w.heap.size+1,1,Yb⟩)/\a.cell? ⟨w.heap.size+1,2,Yb⟩=Ya (Zf a ⟨w.heap.size+1,2,Yb⟩))/\(a.frozen? ⟨w.heap.size+1,0,Yb⟩=false/\a.frozen? ⟨w.heap.size+1,1,Yb⟩=false/\a.frozen? ⟨w.heap.size+1,2,Yb⟩=false)) :
  (b.cell? ⟨w.heap.size,0,Yb⟩=Ya d/\b.cell? ⟨w.heap.size,1,Yb⟩=Ya e/\b.cell? ⟨w.heap.size,2,Yb⟩=Ya f)/\w.heap.size+1<b.heap.size/\Below w.heap.size w b/\(b.cell? ⟨w.heap.size+1,0,Yb⟩=Ya (Zf b ⟨w.heap.size+1,0,Yb⟩)/\b.cell? ⟨w.heap.size+1,1,Yb⟩=Ya (Zf b ⟨w.heap.size+1,1,Yb⟩)/\b.cell? ⟨w.heap.size+1,2,Yb⟩=Ya (Zf b ⟨w.heap.size+1,2,Yb⟩))/\(b.frozen? ⟨w.heap.size+1,0,Yb⟩=false/\b.frozen? ⟨w.heap.size+1,1,Yb⟩=false/\b.frozen? ⟨w.heap.size+1,2,Yb⟩=false):=by
 obtain⟨⟨a0,i,a2⟩,g,k,⟨i0,i1,i2⟩,⟨j0,j1,j2⟩⟩:=h;have j:=c.size;exact⟨⟨Zd c (by omega) a0,Zd c (by omega) i,Zd c (by omega) a2⟩,by omega,k.trans (c.mono k.size),⟨ZH (Zd c (by omega) i0),ZH (Zd c (by omega) i1),ZH (Zd c (by omega) i2)⟩,⟨Zo c (by omega) j0,Zo c (by omega) j1,Zo c (by omega) j2⟩⟩
theorem Zd4 {w a:Yh} {d f i:Yi} {o:Nat} {x:Yi}
  (h:(a.cell? ⟨w.heap.size,0,Yb⟩=Ya d/\a.cell? ⟨w.heap.size,1,Yb⟩=Ya f/\a.cell? ⟨w.heap.size,2,Yb⟩=Ya i)/\w.heap.size+1<a.heap.size/\Below w.heap.size w a/\(a.cell? ⟨w.heap.size+1,0,Yb⟩=Ya (Zf a ⟨w.heap.size+1,0,Yb⟩)/\a.cell? ⟨w.heap.size+1,1,Yb⟩=Ya (Zf a ⟨w.heap.size+1,1,Yb⟩)/\a.cell? ⟨w.heap.size+1,2,Yb⟩=Ya (Zf a ⟨w.heap.size+1,2,Yb⟩))/\(a.frozen? ⟨w.heap.size+1,0,Yb⟩=false/\a.frozen? ⟨w.heap.size+1,1,Yb⟩=false/\a.frozen? ⟨w.heap.size+1,2,Yb⟩=false)) :
  ((a.setCell ⟨w.heap.size+1,o,Yb⟩ x).cell? ⟨w.heap.size,0,Yb⟩=Ya d/\(a.setCell ⟨w.heap.size+1,o,Yb⟩ x).cell? ⟨w.heap.size,1,Yb⟩=Ya f/\(a.setCell ⟨w.heap.size+1,o,Yb⟩ x).cell? ⟨w.heap.size,2,Yb⟩=Ya i)/\w.heap.size+1<(a.setCell ⟨w.heap.size+1,o,Yb⟩ x).heap.size/\Below w.heap.size w (a.setCell ⟨w.heap.size+1,o,Yb⟩ x)/\((a.setCell ⟨w.heap.size+1,o,Yb⟩ x).cell? ⟨w.heap.size+1,0,Yb⟩=Ya (Zf (a.setCell ⟨w.heap.size+1,o,Yb⟩ x) ⟨w.heap.size+1,0,Yb⟩)/\(a.setCell ⟨w.heap.size+1,o,Yb⟩ x).cell? ⟨w.heap.size+1,1,Yb⟩=Ya (Zf (a.setCell ⟨w.heap.size+1,o,Yb⟩ x) ⟨w.heap.size+1,1,Yb⟩)/\(a.setCell ⟨w.heap.size+1,o,Yb⟩ x).cell? ⟨w.heap.size+1,2,Yb⟩=Ya (Zf (a.setCell ⟨w.heap.size+1,o,Yb⟩ x) ⟨w.heap.size+1,2,Yb⟩))/\((a.setCell ⟨w.heap.size+1,o,Yb⟩ x).frozen? ⟨w.heap.size+1,0,Yb⟩=false/\(a.setCell ⟨w.heap.size+1,o,Yb⟩ x).frozen? ⟨w.heap.size+1,1,Yb⟩=false/\(a.setCell ⟨w.heap.size+1,o,Yb⟩ x).frozen? ⟨w.heap.size+1,2,Yb⟩=false):=by
 obtain⟨⟨a0,j,a2⟩,g,k,⟨i0,i1,i2⟩,⟨j0,j1,j2⟩⟩:=h;have q:∀b c,b≠w.heap.size+1->(a.setCell ⟨w.heap.size+1,o,Yb⟩ x).cell? ⟨b,c,Yb⟩=a.cell? ⟨b,c,Yb⟩:=fun b c l=>World.cell?_setCell_other _ _ _ _ (by intro e;injection e with e;exact l e.symm);exact⟨⟨(q _ _ (by omega)).trans a0,(q _ _ (by omega)).trans j,(q _ _ (by omega)).trans a2⟩,by rw[World.size_setCell];exact g,k.setCell (by show w.heap.size<=w.heap.size+1;omega) _,⟨Zao i0,Zao i1,Zao i2⟩,⟨by rw[World.frozen?_setCell];exact j0,by rw[World.frozen?_setCell];exact j1,by rw[World.frozen?_setCell];exact j2⟩⟩
theorem Zpd (w:Yh) (A:Option Addr) (n c:Nat) (kn kd:Int):((((w.alloc (Yg #[Yc A n c,Yd Yf kn,Yd Yf kd] 37)).alloc (Yg #[Yc Yb 0 0,Yd Yf 0,Yd Yf 0] 37))).cell? ⟨w.heap.size,0,Yb⟩=Ya (Yc A n c)/\(((w.alloc (Yg #[Yc A n c,Yd Yf kn,Yd Yf kd] 37)).alloc (Yg #[Yc Yb 0 0,Yd Yf 0,Yd Yf 0] 37))).cell? ⟨w.heap.size,1,Yb⟩=Ya (Yd Yf kn)/\(((w.alloc (Yg #[Yc A n c,Yd Yf kn,Yd Yf kd] 37)).alloc (Yg #[Yc Yb 0 0,Yd Yf 0,Yd Yf 0] 37))).cell? ⟨w.heap.size,2,Yb⟩=Ya (Yd Yf kd))/\w.heap.size+1<(((w.alloc (Yg #[Yc A n c,Yd Yf kn,Yd Yf kd] 37)).alloc (Yg #[Yc Yb 0 0,Yd Yf 0,Yd Yf 0] 37))).heap.size/\Below w.heap.size w (((w.alloc (Yg #[Yc A n c,Yd Yf kn,Yd Yf kd] 37)).alloc (Yg #[Yc Yb 0 0,Yd Yf 0,Yd Yf 0] 37)))/\((((w.alloc (Yg #[Yc A n c,Yd Yf kn,Yd Yf kd] 37)).alloc (Yg #[Yc Yb 0 0,Yd Yf 0,Yd Yf 0] 37))).cell? ⟨w.heap.size+1,0,Yb⟩=Ya (Zf (((w.alloc (Yg #[Yc A n c,Yd Yf kn,Yd Yf kd] 37)).alloc (Yg #[Yc Yb 0 0,Yd Yf 0,Yd Yf 0] 37))) ⟨w.heap.size+1,0,Yb⟩)/\(((w.alloc (Yg #[Yc A n c,Yd Yf kn,Yd Yf kd] 37)).alloc (Yg #[Yc Yb 0 0,Yd Yf 0,Yd Yf 0] 37))).cell? ⟨w.heap.size+1,1,Yb⟩=Ya (Zf (((w.alloc (Yg #[Yc A n c,Yd Yf kn,Yd Yf kd] 37)).alloc (Yg #[Yc Yb 0 0,Yd Yf 0,Yd Yf 0] 37))) ⟨w.heap.size+1,1,Yb⟩)/\(((w.alloc (Yg #[Yc A n c,Yd Yf kn,Yd Yf kd] 37)).alloc (Yg #[Yc Yb 0 0,Yd Yf 0,Yd Yf 0] 37))).cell? ⟨w.heap.size+1,2,Yb⟩=Ya (Zf (((w.alloc (Yg #[Yc A n c,Yd Yf kn,Yd Yf kd] 37)).alloc (Yg #[Yc Yb 0 0,Yd Yf 0,Yd Yf 0] 37))) ⟨w.heap.size+1,2,Yb⟩))/\((((w.alloc (Yg #[Yc A n c,Yd Yf kn,Yd Yf kd] 37)).alloc (Yg #[Yc Yb 0 0,Yd Yf 0,Yd Yf 0] 37))).frozen? ⟨w.heap.size+1,0,Yb⟩=false/\(((w.alloc (Yg #[Yc A n c,Yd Yf kn,Yd Yf kd] 37)).alloc (Yg #[Yc Yb 0 0,Yd Yf 0,Yd Yf 0] 37))).frozen? ⟨w.heap.size+1,1,Yb⟩=false/\(((w.alloc (Yg #[Yc A n c,Yd Yf kn,Yd Yf kd] 37)).alloc (Yg #[Yc Yb 0 0,Yd Yf 0,Yd Yf 0] 37))).frozen? ⟨w.heap.size+1,2,Yb⟩=false):=
 ⟨⟨by go_simp,by go_simp,by go_simp⟩,by simp,below_alloc2 _ _ _,⟨ZH (v:=Yc Yb 0 0) (by go_simp),ZH (v:=Yd Yf 0) (by go_simp),ZH (v:=Yd Yf 0) (by go_simp)⟩,⟨by go_simp,by go_simp,by go_simp⟩⟩
end
section
open Go.RowKit
theorem Zfc {a:Type} (p:a->Bool):∀l:List a,(l.dropWhile p).dropWhile p=l.dropWhile p
 |[]=>rfl
 |x::r=>by
  rw[List.dropWhile_cons]
  split
  ·exact Zfc p r
  ·rename_i h
   rw[List.dropWhile_cons,if_neg h]
theorem Zig (l:List (Int×Int)):Zs (Zs l)=Zs l:=by unfold Zs;rw[List.reverse_reverse,Zfc]
theorem ZpH (l:List (Int×Int)):∀x,x∈Zs l->x∈l:=by intro x a;unfold Zs at a;rw[List.mem_reverse]at a;exact List.mem_reverse.1 ((List.dropWhile_sublist _).mem a)
theorem Zor (l:List (Int×Int)):∀x,(Zs l)[(Zs l).length-1]? = Ya x->0<(Zs l).length->x.1≠0:=by
 intro x a c b;have e:(Zs l).getLast? = Ya x:=by rw[List.getLast?_eq_getElem?];exact a
 unfold Zs at e;rw[List.getLast?_reverse]at e;cases hd:l.reverse.dropWhile (fun x=>x.1==0)with
 |nil=>rw[hd]at e;cases e
 |cons y r=>
  rw[hd]at e;obtain rfl:y=x:=by simpa using e
  have:=List.head?_dropWhile_not (fun x:Int×Int=>x.1==0) l.reverse;rw[hd]at this;simp[b]at this
end
section
open Go.RowKit
def atL (l:List (Int×Int)) (i:Int):Int×Int:=if 0<=i then(l[i.toNat]?).getD (0,1)else(0,1)
theorem Zbr {l:List (Int×Int)} {i:Int} (h:i<0\/(l.length:Int)<=i):atL l i=(0,1):=by
 unfold atL
 split
 ·rw[List.getElem?_eq_none (by omega)];rfl
 ·rfl
theorem ZcV {l:List (Int×Int)} {k:Nat} {x:Int×Int} (h:l[k]? = Ya x):atL l (k:Int)=x:=by unfold atL;rw[if_pos (by omega),Int.toNat_natCast,h];rfl
theorem Zpx (w:Yh):Calls Tryz.prog 87 #[] w fun r w'=>r=.returned (Zb 0 1)/\Below w.heap.size w w':=by go_enter Tryz.func87,Tryz.ntmps87;go_wp2_with fail;exact bodyPost_ret (v:=Zb 0 1) (by simp[results,Tryz.results87,go_sem]) rfl ⟨rfl,below_alloc1 _ _⟩
theorem Zbv (w:Yh) (v:Yi) (l:List (Int×Int)) (kn kd i:Int) (h:Za w v l) :
  Calls Tryz.prog 66 #[.agg #[v,Yd Yf kn,Yd Yf kd],Yd Yf i] w fun r w'=>r=.returned (Zb (atL l i).1 (atL l i).2)/\Below w.heap.size w w':=by
 obtain⟨A,c,rfl,e,f,a⟩:=h;have g:=below_alloc2 w (Yg #[Yc A l.length c,Yd Yf kn,Yd Yf kd] 37) (Yg #[Yd Yf 0,Yd Yf 0] 23);by_cases b:i<0
 ·rw[Zbr (.inl b)];have d1:decide (i<0)=true:=decide_eq_true b;clear e f a;go_enter Tryz.func66,Tryz.ntmps66;go_wp2_with fail;exact bodyPost_ret (v:=Zb 0 1) (by simp[results,Tryz.results66,go_sem]) rfl ⟨rfl,(below_alloc2 _ _ _)⟩
 ·have d1:decide (i<0)=false:=decide_eq_false b;by_cases d:(l.length:Int)<=i
  ·rw[Zbr (.inr d)];have d2:decide ((l.length:Int)<=i)=true:=decide_eq_true d;clear e f a;generalize l.length=n at *;go_enter Tryz.func66,Tryz.ntmps66;go_wp2_with fail;exact bodyPost_ret (v:=Zb 0 1) (by simp[results,Tryz.results66,go_sem]) rfl ⟨rfl,(below_alloc2 _ _ _)⟩
  ·obtain⟨k,rfl⟩:∃k:Nat,i=k:=⟨i.toNat,by omega⟩
   have m:k<l.length:=by omega
   obtain⟨x,j⟩:∃x,l[k]? = Ya x:=⟨_,List.getElem?_eq_getElem m⟩
   rw[ZcV j];obtain⟨o,rfl,p,s⟩:=Zbc a g j (by omega);have d2:decide ((l.length:Int)<=(k:Int))=false:=decide_eq_false d;have i1:(k:Int)<(l.length:Int):=by omega
   have i2:(0:Int)<=(k:Int):=by omega
   clear e f a j b d m;generalize l.length=n at *;go_enter Tryz.func66,Tryz.ntmps66;go_wp2_with fail;exact bodyPost_ret (v:=Zb x.1 x.2) (by simp[results,Tryz.results66,go_sem]) rfl ⟨rfl,(below_alloc2 _ _ _)⟩
end
section
open Go.RowKit
def OkR (x:Int×Int):Prop:=∃d:Nat,x.2=d/\Valid x.1 d
def ZC (l:List (Int×Int)):Prop:=∀x,x∈l->OkR x
theorem ZfX {x:Int×Int} (h:Zaf x.1 x.2=true) (a:(-9223372036854775808<=x.1/\x.1<=9223372036854775807)/\(-9223372036854775808<=x.2/\x.2<=9223372036854775807)):OkR x:=
 ZgH h a.1.1 a.1.2 a.2.2
theorem OkR.right {x:Int×Int} (h:OkR x):Zaf x.1 x.2=true:=by obtain⟨d,e,v⟩:=h;rw[e];exact v.right
theorem OkR.wide {x:Int×Int} (h:OkR x):(-9223372036854775808<=x.1/\x.1<=9223372036854775807)/\(-9223372036854775808<=x.2/\x.2<=9223372036854775807):=by obtain⟨d,e,v⟩:=h;have:=v.pos;have:=v.n_le;have:=v.d_le;omega
theorem OkR.pos {x:Int×Int} (h:OkR x):0<x.2.toNat:=by obtain⟨d,e,v⟩:=h;have:=v.pos;omega
theorem OkR.eta {x:Int×Int} (h:OkR x):x.2=(x.2.toNat:Int)/\Valid x.1 x.2.toNat:=by obtain⟨d,e,v⟩:=h;rw[e];exact⟨rfl,v⟩
theorem Zak:OkR (0,1):=⟨1,rfl,by decide,by decide,by decide,by decide⟩
theorem Zf9 {l:List (Int×Int)} (h:Za6 l=true) (b:Zz l):ZC l:=fun x a=>ZfX (List.all_eq_true.1 h x a) (b x a)
theorem ZC.all {l:List (Int×Int)} (h:ZC l):Za6 l=true:=List.all_eq_true.2 fun x a=>(h x a).right
theorem ZC.wide {l:List (Int×Int)} (h:ZC l):Zz l:=fun x a=>(h x a).wide
theorem ZC.at {l:List (Int×Int)} (h:ZC l) (i:Int):OkR (atL l i):=by
 unfold atL
 split
 ·cases e:l[i.toNat]? with
  |none=>exact Zak
  |some x=>exact h x (List.mem_of_getElem? e)
 ·exact Zak
theorem ZC.trim {l:List (Int×Int)} (h:ZC l):ZC (Zs l):=fun x a=>h x (ZpH l x a)
theorem Zaj {l:List (Int×Int)} {kn kd:Int} (h:ZM l kn kd=true) (e:Zz l) (a:-9223372036854775808<=kn) (b:kn<=9223372036854775807) (c:-9223372036854775808<=kd) (d:kd<=9223372036854775807):l.length<=8/\ZC l/\OkR (kn,kd):=by unfold ZM at h;simp only[Bool.and_eq_true,decide_eq_true_eq]at h;exact⟨h.1.1,Zf9 h.2 e,ZfX h.1.2 ⟨⟨a,b⟩,c,d⟩⟩
theorem Zav {l:List (Int×Int)} {kn kd:Int} (h:l.length<=8) (a:ZC l) (b:OkR (kn,kd)):ZM l kn kd=true:=by unfold ZM;rw[a.all,decide_eq_true h,b.right];rfl
def Zcr (P:Int) (Q:Nat):(Int×Int)×Int:=((ZcI P Q,ZcR P Q),ZcH P Q)
theorem Znp {P:Int} {Q:Nat} (c:0<Q) (h:(Zcr P Q).2=0):OkR (Zcr P Q).1:=by obtain⟨d,a,b,_⟩:=Zpn c h;exact⟨d,a,b⟩
theorem Znn {P:Int} {Q:Nat} (h:(Zcr P Q).2≠0):Zcr P Q=((0,0),3):=by obtain⟨a,b,c⟩:=Zr0 h;unfold Zcr;rw[a,b,c]
abbrev How:=(Int×Int)->(Int×Int)->(Int×Int)×Int
structure HowOk (h:How):Prop where
 ok:∀x y,OkR x->OkR y->(h x y).2=0->OkR (h x y).1
 no:∀x y,OkR x->OkR y->(h x y).2≠0->h x y=((0,0),3)
def Zl:How:=fun x y=>Zcr (x.1*y.2+y.1*x.2) (x.2.toNat*y.2.toNat)
def ZP:How:=fun x y=>Zcr (x.1*y.1) (x.2.toNat*y.2.toNat)
def Zt (k:Int×Int):How:=fun x _=>ZP x k
theorem Zbi:HowOk Zl:=⟨fun _ _ a b h=>Znp (Nat.mul_pos a.pos b.pos) h,fun _ _ _ _ h=>Znn h⟩
theorem Zb6:HowOk ZP:=⟨fun _ _ a b h=>Znp (Nat.mul_pos a.pos b.pos) h,fun _ _ _ _ h=>Znn h⟩
theorem Zck {k:Int×Int} (b:OkR k):HowOk (Zt k):=⟨fun x _ a _ h=>Zb6.ok x k a b h,fun x _ a _ h=>Zb6.no x k a b h⟩
def Zbq (h:How) (l m:List (Int×Int)) (n k:Nat):List (Int×Int):=(List.range n).map fun i:Nat=>if i<k then(h (atL l i) (atL m i)).1 else(0,0)
def Zax (h:How) (l m:List (Int×Int)):List (Int×Int):=(List.range (max l.length m.length)).map fun i:Nat=>(h (atL l i) (atL m i)).1
def ZZ (h:How) (l m:List (Int×Int)) (k:Nat):Prop:=∀i:Nat,i<k->(h (atL l i) (atL m i)).2=0
theorem Zgt (h:How) (l m:List (Int×Int)) (n k:Nat):(Zbq h l m n k).length=n:=by simp[Zbq]
theorem Zee (h:How) (l m:List (Int×Int)):(Zax h l m).length=max l.length m.length:=by simp[Zax]
theorem ZlQ (h:How) (l m:List (Int×Int)):Zbq h l m (max l.length m.length) (max l.length m.length)=Zax h l m:=by unfold Zbq Zax;refine List.map_congr_left fun i a=>?_;rw[if_pos (List.mem_range.1 a)]
theorem Zfp (h:How) (l m:List (Int×Int)) (n k:Nat):Zbq h l m n (k+1)=(Zbq h l m n k).set k (h (atL l k) (atL m k)).1:=by
 apply List.ext_getElem?;intro i;rw[List.getElem?_set];simp only[Zgt];by_cases a:i<n
 ·rw[Zbq,Zbq,List.getElem?_map,List.getElem?_map,List.getElem?_range a];simp only[Option.map_some];by_cases e:k=i
  ·subst e;rw[if_pos rfl,if_pos a,if_pos (by omega)]
  ·rw[if_neg e];by_cases g:i<k
   ·rw[if_pos g,if_pos (by omega)]
   ·rw[if_neg g,if_neg (by omega)]
 ·rw[List.getElem?_eq_none (by rw[Zgt];omega),List.getElem?_eq_none (by rw[Zgt];omega)];by_cases e:k=i
  ·rw[if_pos e,if_neg (by omega)]
  ·rw[if_neg e]
theorem Zcw:∀(l:List (Int×Int)) (k:Nat) (x:Int×Int),Zq (l.set k x)=((Zq l).set (k*2) (Yd Yf x.1)).set (k*2+1) (Yd Yf x.2)
 |[],k,x=>by simp[Zq]
 |y::r,0,x=>by simp[Zq]
 |y::r,k+1,x=>by
  rw[List.set_cons_succ,Zq,Zq,Zcw r k x,show(k+1)*2=k*2+1+1 by omega,show k*2+1+1+1=(k*2+1)+1+1 by omega];simp only[List.set_cons_succ]
theorem ZdN (h:How) (l m:List (Int×Int)) (n:Nat):(madeCells (.agg #[Yd Yf 0,Yd Yf 0]:Yi).cells (n*2)).toList=Zq (Zbq h l m n 0):=by
 apply List.ext_getElem?;intro j;have g:(Zq (Zbq h l m n 0)).length=n*2:=by rw[ZdL,Zgt]
 by_cases d:j<n*2
 ·have a:(madeCells (.agg #[Yd Yf 0,Yd Yf 0]:Yi).cells (n*2)).toList[j]? = Ya (Yd Yf 0):=by
   rw[Array.getElem?_toList];unfold madeCells;rw[Array.getElem?_map,Array.getElem?_range,if_pos d];simp only[Option.map_some,Value.cells];rcases Nat.mod_two_eq_zero_or_one j with e|e<;>simp[e]
  rw[a];have:j<(Zq (Zbq h l m n 0)).length:=by omega
  obtain⟨u,hu⟩:∃u,(Zq (Zbq h l m n 0))[j]? = Ya u:=⟨_,List.getElem?_eq_getElem this⟩
  rw[hu];have c:∀(q:List (Int×Int)),(∀x,x∈q->x=(0,0))->∀(j:Nat) (u:Yi),(Zq q)[j]? = Ya u->u=Value.int Yf 0:=by
   intro q
   induction q with
   |nil=>intro _ j u hu;simp[Zq]at hu
   |cons y r f=>
    intro hq j u hu;obtain rfl:=hq y (by simp)
    match j,hu with
    |0,hu=>simpa[Zq]using hu.symm
    |1,hu=>simpa[Zq]using hu.symm
    |j+2,hu=>exact f (fun x b=>hq x (by simp[b])) j u (by simpa[Zq]using hu)
  rw[c _ (fun x b=>by
   unfold Zbq at b;obtain⟨i,_,rfl⟩:=List.mem_map.1 b
   rw[if_neg (by omega)]) j u hu]
 ·rw[List.getElem?_eq_none (by rw[Array.length_toList,size_madeCells];omega),List.getElem?_eq_none (by omega)]
theorem ZcY {h:How} (b:HowOk h) {l m:List (Int×Int)} (d:ZC l) (hm:ZC m) (hc:ZZ h l m (max l.length m.length)):ZC (Zax h l m):=by intro x a;unfold Zax at a;obtain⟨i,c,rfl⟩:=List.mem_map.1 a;exact b.ok _ _ (d.at i) (hm.at i) (hc i (List.mem_range.1 c))
end
section
open Go.RowKit
instance combOkDec (h:How) (l m:List (Int×Int)) (k:Nat):Decidable (ZZ h l m k):=by unfold ZZ;infer_instance
def ZaQ (w:Yh) (l:List (Int×Int)) (k:Int×Int) (E:Int) (e:Ending) (w':Yh):Prop:=
 ∃v,e=.returned (.tuple #[.agg #[v,Yd Yf k.1,Yd Yf k.2],Yd Yf E])/\Za w' v l/\Below w.heap.size w w'/\Zp w.heap.size v
theorem ZaD (w:Yh) (x y z b c d e f z2:Yi) (ty:TypeId):FracBox (((w.alloc (Yg #[x,y,z] ty)).alloc (Yg #[b,c,d] ty)).alloc (Yg #[e,f,z2] ty)) w.heap.size x y z/\FracBox (((w.alloc (Yg #[x,y,z] ty)).alloc (Yg #[b,c,d] ty)).alloc (Yg #[e,f,z2] ty)) (w.heap.size+1) b c d/\FracBox (((w.alloc (Yg #[x,y,z] ty)).alloc (Yg #[b,c,d] ty)).alloc (Yg #[e,f,z2] ty)) (w.heap.size+1+1) e f z2 ∧
  Below w.heap.size w (((w.alloc (Yg #[x,y,z] ty)).alloc (Yg #[b,c,d] ty)).alloc (Yg #[e,f,z2] ty)):=by
 obtain⟨F,G⟩:=Zfv w x y z b c d ty;have h:=FracBox.start ((w.alloc (Yg #[x,y,z] ty)).alloc (Yg #[b,c,d] ty)) e f z2 ty;rw[World.size_alloc,World.size_alloc]at h;have a:=below_alloc1 ((w.alloc (Yg #[x,y,z] ty)).alloc (Yg #[b,c,d] ty)) (Yg #[e,f,z2] ty);exact⟨F.keep a,G.keep a,h,(below_alloc2 w _ _).trans (a.mono (by simp;omega))⟩
theorem FracBox.keepB {d e:Yh} {b B:Nat} {x y z:Yi} (h:FracBox d b x y z) (c:Below B d e) (a:b<B):FracBox e b x y z:=
 have t:=c.size;have l:=h.lt
 {k0:=(c.cell (p:=⟨b,0,Yb⟩) a).trans h.k0,k1:=(c.cell (p:=⟨b,1,Yb⟩) a).trans h.k1,k2:=(c.cell (p:=⟨b,2,Yb⟩) a).trans h.k2,
  l0:=(c.frozen (p:=⟨b,0,Yb⟩) a).trans h.l0,l1:=(c.frozen (p:=⟨b,1,Yb⟩) a).trans h.l1,l2:=(c.frozen (p:=⟨b,2,Yb⟩) a).trans h.l2,lt:=by omega }
theorem RatAt.keepB {e f:Yh} {b B:Nat} {n d:Int} (h:RatAt e b n d) (c:Below B e f) (a:b<B):RatAt f b n d:=
 have z:=c.size;have l:=h.lt
 {k0:=(c.cell (p:=⟨b,0,Yb⟩) a).trans h.k0,k1:=(c.cell (p:=⟨b,1,Yb⟩) a).trans h.k1,lt:=by omega }
theorem ZD {w d:Yh} {base n:Nat} {v:Yi} {e:List Yi} (h:w.ownsRow base 23 2 v n e) (i:Below w.heap.size w d):d.ownsRow base 23 2 v n e:=by
 refine⟨h.1,?_⟩;rcases h.2 with f|⟨g,a,b,k,j,c,r⟩
 ·exact .inl f
 ·exact .inr ⟨g,a,b,k,j,by rw[i.block g (by
   rcases Nat.lt_or_ge g w.heap.size with q|q
   ·exact q
   ·rw[Array.getElem?_eq_none q]at c;cases c)];exact c,r⟩
def Zij (w:Yh) (v:Yi) (l:List (Int×Int)) (e:Ending) (w':Yh):Prop:=∃a,e=.returned a/\Za w' a l/\Below w.heap.size w w'/\a.ownBlock=v.ownBlock
theorem Zhz (w:Yh) (v:Yi) (l:List (Int×Int)) (h:Za w v l):Calls Tryz.prog 67 #[v] w (Zij w v (Zs l)):=
 (ZmT w v l h).mono fun _ _ h=>by
  obtain⟨c,he,b,rfl,a⟩:=h
  exact⟨c,he,b,Below.refl _ _,a⟩
structure CombS (w wr:Yh) (b n:Nat) (s:Yi) (xn xd:Int) (t:Yi) (yn yd zn zd:Int):Prop where
 F:FracBox wr w.heap.size s (Yd Yf xn) (Yd Yf xd)
 G:FracBox wr (w.heap.size+1) t (Yd Yf yn) (Yd Yf yd)
 E:FracBox wr (w.heap.size+1+1) (Yc Yb 0 0) (Yd Yf 0) (Yd Yf 0)
 R:RatAt wr b zn zd
 o:∃xs,wr.ownsRow (w.heap.size+3) 23 2 (Yc (Ya ⟨b+1,0,Yb⟩) n n) n xs
 lt:w.heap.size+1+1<b
 below:Below w.heap.size w wr
section
variable {w wr w2:Yh} {b n:Nat} {s t:Yi} {xn xd yn yd zn zd:Int}
theorem CombS.keep (h:CombS w wr b n s xn xd t yn yd zn zd) (a:Below wr.heap.size wr w2):CombS w w2 b n s xn xd t yn yd zn zd:=
 ⟨h.F.keep a,h.G.keep a,h.E.keep a,h.R.keep a,by
  obtain⟨d,c⟩:=h.o
  exact⟨d,ZD c a⟩,h.lt,h.below.trans (a.mono h.below.size)⟩
theorem CombS.set (h:CombS w wr b n s xn xd t yn yd zn zd) (j:Nat) (u:Yi):CombS w (wr.setCell ⟨b+1,j,Yb⟩ u) b n s xn xd t yn yd zn zd:=by have c:=h.lt;have a:Below (b+1) wr (wr.setCell ⟨b+1,j,Yb⟩ u):=(Below.refl (b+1) wr).setCell (p:=⟨b+1,j,Yb⟩) (Nat.le_refl (b+1)) u;obtain⟨e,d⟩:=h.o;exact⟨h.F.keepB a (by omega),h.G.keepB a (by omega),h.E.keepB a (by omega),h.R.keepB a (by omega),⟨_,(d.stored j u).1⟩,c,h.below.trans (a.mono (by omega))⟩
theorem CombS.row (h:CombS w wr b n s xn xd t yn yd zn zd) {j:Nat} (c:j<n*2):wr.cell? ⟨b+1,j,Yb⟩=Ya (Zf wr ⟨b+1,j,Yb⟩)/\wr.frozen? ⟨b+1,j,Yb⟩=false:=by obtain⟨e,a⟩:=h.o;have d:=a.1;exact⟨ZH ((a.cellAt j c).trans (List.getElem?_eq_getElem (by omega))),a.frozenAt j⟩
theorem CombS.cells {k:Nat} (d:k<n) (h:CombS w wr b n s xn xd t yn yd zn zd) :
  (((wr.cell? ⟨w.heap.size,0,Yb⟩=Ya s/\wr.cell? ⟨w.heap.size,1,Yb⟩=Ya (Yd Yf xn)/\wr.cell? ⟨w.heap.size,2,Yb⟩=Ya (Yd Yf xd))/\(wr.cell? ⟨w.heap.size+1,0,Yb⟩=Ya t/\wr.cell? ⟨w.heap.size+1,1,Yb⟩=Ya (Yd Yf yn)/\wr.cell? ⟨w.heap.size+1,2,Yb⟩=Ya (Yd Yf yd))) ∧
    ((wr.cell? ⟨b+1,k*2,Yb⟩=Ya (Zf wr ⟨b+1,k*2,Yb⟩)/\wr.cell? ⟨b+1,k*2+1,Yb⟩=Ya (Zf wr ⟨b+1,k*2+1,Yb⟩))/\(wr.frozen? ⟨b+1,k*2,Yb⟩=false/\wr.frozen? ⟨b+1,k*2+1,Yb⟩=false)))/\CombS w wr b n s xn xd t yn yd zn zd:=
 have a:=h.row (j:=k*2) (by omega);have c:=h.row (j:=k*2+1) (by omega)
 ⟨⟨⟨⟨h.F.k0,h.F.k1,h.F.k2⟩,⟨h.G.k0,h.G.k1,h.G.k2⟩⟩,⟨⟨a.1,c.1⟩,⟨a.2,c.2⟩⟩⟩,h⟩
theorem Zk {A:Prop} (h:A/\CombS w wr b n s xn xd t yn yd zn zd):CombS w wr b n s xn xd t yn yd zn zd:=h.2
end
structure EndS (w wr:Yh) (b:Nat) (zn zd:Int):Prop where
 R:RatAt wr b zn zd
 c0:wr.cell? ⟨w.heap.size+1+1,0,Yb⟩=Ya (Zf wr ⟨w.heap.size+1+1,0,Yb⟩)
 c1:wr.cell? ⟨w.heap.size+1+1,1,Yb⟩=Ya (Zf wr ⟨w.heap.size+1+1,1,Yb⟩)
 c2:wr.cell? ⟨w.heap.size+1+1,2,Yb⟩=Ya (Zf wr ⟨w.heap.size+1+1,2,Yb⟩)
 l0:wr.frozen? ⟨w.heap.size+1+1,0,Yb⟩=false
 l1:wr.frozen? ⟨w.heap.size+1+1,1,Yb⟩=false
 l2:wr.frozen? ⟨w.heap.size+1+1,2,Yb⟩=false
 sz:w.heap.size+1+1<wr.heap.size
 lt:w.heap.size+1+1<b
 below:Below w.heap.size w wr
section
variable {w wr w2:Yh} {b:Nat} {zn zd:Int}
theorem EndS.keep (h:EndS w wr b zn zd) (a:Below wr.heap.size wr w2):EndS w w2 b zn zd:=
 have z:=a.size;have s:=h.sz
 ⟨h.R.keep a,ZH (Zd a s h.c0),ZH (Zd a s h.c1),ZH (Zd a s h.c2),Zo a s h.l0,Zo a s h.l1,Zo a s h.l2,by omega,h.lt,h.below.trans (a.mono h.below.size)⟩
theorem EndS.set (h:EndS w wr b zn zd) (o:Nat) (x:Yi):EndS w (wr.setCell ⟨w.heap.size+1+1,o,Yb⟩ x) b zn zd:=by have c:=h.lt;have q:∀a,(wr.setCell ⟨w.heap.size+1+1,o,Yb⟩ x).cell? ⟨b,a,Yb⟩=wr.cell? ⟨b,a,Yb⟩:=fun a=>World.cell?_setCell_far _ _ _ _ (by show w.heap.size+1+1≠b;omega);exact⟨⟨(q 0).trans h.R.k0,(q 1).trans h.R.k1,by rw[World.size_setCell];exact h.R.lt⟩,Zao h.c0,Zao h.c1,Zao h.c2,by rw[World.frozen?_setCell];exact h.l0,by rw[World.frozen?_setCell];exact h.l1,by rw[World.frozen?_setCell];exact h.l2,by rw[World.size_setCell];exact h.sz,c,h.below.setCell (by show w.heap.size<=w.heap.size+1+1;omega) _⟩
theorem EndS.cells (h:EndS w wr b zn zd):((wr.cell? ⟨b,0,Yb⟩=Ya (Yd Yf zn)/\wr.cell? ⟨b,1,Yb⟩=Ya (Yd Yf zd)) ∧
  (wr.cell? ⟨w.heap.size+1+1,0,Yb⟩=Ya (Zf wr ⟨w.heap.size+1+1,0,Yb⟩)/\wr.cell? ⟨w.heap.size+1+1,1,Yb⟩=Ya (Zf wr ⟨w.heap.size+1+1,1,Yb⟩)/\wr.cell? ⟨w.heap.size+1+1,2,Yb⟩=Ya (Zf wr ⟨w.heap.size+1+1,2,Yb⟩)) ∧
  (wr.frozen? ⟨w.heap.size+1+1,0,Yb⟩=false/\wr.frozen? ⟨w.heap.size+1+1,1,Yb⟩=false/\wr.frozen? ⟨w.heap.size+1+1,2,Yb⟩=false))/\EndS w wr b zn zd:=
 ⟨⟨⟨h.R.k0,h.R.k1⟩,⟨h.c0,h.c1,h.c2⟩,⟨h.l0,h.l1,h.l2⟩⟩,h⟩
theorem ZfR {A:Prop} (h:A/\EndS w wr b zn zd):EndS w wr b zn zd:=h.2
theorem ZiV {f g:Yh} {x y z:Yi} (e:f=((g.setCell ⟨w.heap.size+1+1,0,Yb⟩ x).setCell ⟨w.heap.size+1+1,1,Yb⟩ y).setCell ⟨w.heap.size+1+1,2,Yb⟩ z) (h:EndS w f b zn zd) :
  f.cell? ⟨w.heap.size+1+1,0,Yb⟩=Ya x/\f.cell? ⟨w.heap.size+1+1,1,Yb⟩=Ya y/\f.cell? ⟨w.heap.size+1+1,2,Yb⟩=Ya z/\Below w.heap.size w f:=by
 have i0:=h.c0;have i1:=h.c1;have i2:=h.c2;have k:=h.below;subst e;obtain⟨a,c,d⟩:=Zeo i0 i1 i2;exact⟨i0.trans (congrArg Ya a),i1.trans (congrArg Ya c),i2.trans (congrArg Ya d),k⟩
end
theorem CombS.ends {w wr:Yh} {b n:Nat} {s t:Yi} {e d g f c a:Int} (h:CombS w wr b n s e d t g f c a):EndS w wr b c a:=
 ⟨h.R,ZH h.E.k0,ZH h.E.k1,ZH h.E.k2,h.E.l0,h.E.l1,h.E.l2,h.E.lt,h.lt,h.below⟩
theorem Zag {a:Yh} {b:Nat} {x y z l m n:Yi} (i:a.cell? ⟨b,0,Yb⟩=Ya l) (j:a.cell? ⟨b,1,Yb⟩=Ya m) (k:a.cell? ⟨b,2,Yb⟩=Ya n) :
  (((a.setCell ⟨b,0,Yb⟩ x).setCell ⟨b,1,Yb⟩ y).setCell ⟨b,2,Yb⟩ z).cell? ⟨b,0,Yb⟩=Ya x/\(((a.setCell ⟨b,0,Yb⟩ x).setCell ⟨b,1,Yb⟩ y).setCell ⟨b,2,Yb⟩ z).cell? ⟨b,1,Yb⟩=Ya y/\(((a.setCell ⟨b,0,Yb⟩ x).setCell ⟨b,1,Yb⟩ y).setCell ⟨b,2,Yb⟩ z).cell? ⟨b,2,Yb⟩=Ya z:=by
 obtain⟨v0,c⟩:=cell?_setCell_some (p:=⟨b,2,Yb⟩) (x:=z) (cell?_setCell_some (p:=⟨b,1,Yb⟩) (x:=y) (cell?_setCell_some (p:=⟨b,0,Yb⟩) (x:=x) i).choose_spec).choose_spec;obtain⟨o,d⟩:=cell?_setCell_some (p:=⟨b,2,Yb⟩) (x:=z) (cell?_setCell_some (p:=⟨b,1,Yb⟩) (x:=y) (cell?_setCell_some (p:=⟨b,0,Yb⟩) (x:=x) j).choose_spec).choose_spec;obtain⟨v2,e⟩:=cell?_setCell_some (p:=⟨b,2,Yb⟩) (x:=z) (cell?_setCell_some (p:=⟨b,1,Yb⟩) (x:=y) (cell?_setCell_some (p:=⟨b,0,Yb⟩) (x:=x) k).choose_spec).choose_spec;obtain⟨f,g,h⟩:=Zeo c d e;exact⟨c.trans (congrArg Ya f),d.trans (congrArg Ya g),e.trans (congrArg Ya h)⟩
end
section
open Go.RowKit
def Off (S:Nat->Prop) (v:Yi) (l:List (Int×Int)):Prop:=l≠[]->∀b,v.ownBlock=Ya b->¬S b
theorem Off.mono {S S':Nat->Prop} {v:Yi} {l:List (Int×Int)} (h:Off S v l) (d:∀b,S' b->S b):Off S' v l:=fun c b a q=>h c b a (d b q)
theorem Off.none_ (S:Nat->Prop) (v:Yi):Off S v []:=fun h=>absurd rfl h
theorem Off.fresh {S:Nat->Prop} {v:Yi} {l:List (Int×Int)} {B:Nat} (c:Zp B v) (d:∀b,S b->b<B):Off S v l:=fun _ b a q=>by
 have:=c b a;have:=d b q;omega
theorem Za.lt {w:Yh} {v:Yi} {l:List (Int×Int)} (h:Za w v l) (f:l≠[]):∀b,v.ownBlock=Ya b->b<w.heap.size:=by
 obtain⟨A,c,rfl,_,_,d⟩:=h;intro b e;have i:0<l.length:=List.length_pos_iff.2 f;obtain⟨a,rfl,g,_⟩:=d.2 i;have:a.block=b:=by simpa[Value.ownBlock]using e
 omega
theorem Off.more {w:Yh} {S S':Nat->Prop} {v:Yi} {l:List (Int×Int)} (h:Off S v l) (d:Za w v l) (e:∀b,S' b->S b\/w.heap.size<=b):Off S' v l:=fun c b a q=>by
 rcases e b q with g|g
 ·exact h c b a g
 ·have:=d.lt c b a;omega
theorem Za.grown {w w':Yh} {a:Option Nat} {v:Yi} {l:List (Int×Int)} (h:Za w v l) (k:w.grownBy w' a) (p:l≠[]->∀b,v.ownBlock=Ya b->a≠Ya b):Za w' v l:=by obtain⟨A,c,rfl,n,o,i⟩:=h;refine⟨A,c,rfl,n,o,i.1,fun m=>?_⟩;obtain⟨f,rfl,d,hc⟩:=i.2 m;refine⟨f,rfl,Nat.lt_of_lt_of_le d k.size,fun j u hu=>?_⟩;have g:a≠Ya f.block:=p (List.length_pos_iff.1 m) _ rfl;exact(World.cell?_of_block (k.block (f.add j).block (by rw[ZJ];exact d) (by rw[ZJ];exact fun e=>g e.symm))).trans (hc j u hu)
theorem Za.off {w w':Yh} {a:Option Nat} {S:Nat->Prop} {v:Yi} {l:List (Int×Int)} (h:Za w v l) (g:Off S v l) (d:w.grownBy w' a) (i:∀b,a=Ya b->S b):Za w' v l:=
 h.grown d fun f b c e=>g f b c (i b e)
theorem ZY {w w':Yh} (h:Below w.heap.size w w') (a:Option Nat):w.grownBy w' a:=⟨h.os,h.tape,h.output,h.size,fun k b _=>h.block k b⟩
theorem ZX {a b c:Yh} {d:Option Nat} (h:a.grownBy b d) (k:b.grownBy c d):a.grownBy c d:=
 ⟨k.os.trans h.os,k.tape.trans h.tape,k.output.trans h.output,Nat.le_trans h.size k.size,fun i f e=>(k.block i (Nat.lt_of_lt_of_le f h.size) e).trans (h.block i f e)⟩
theorem ZaH {w:Yh} {g j:Nat} {u:Yi}:w.grownBy (w.setCell ⟨g,j,Yb⟩ u) (Ya g):=
 ⟨rfl,rfl,rfl,by simp[World.setCell],fun k _ a=>Below.heap_setCell _ _ _ _ (fun e=>a (by rw[e]))⟩
def ZV (w:Yh) (base:Nat) (v:Yi) (ts:List Trm) (S:Nat->Prop):Prop:=
 ∃a,a.map (·.2)=ts/\w.ownsRow base 37 3 v ts.length (Ze a)/\∀x∈a,Za w x.1 x.2.1/\Off S x.1 x.2.1
theorem ZV.nil (w:Yh) (base:Nat) (S:Nat->Prop):ZV w base (Yc Yb 0 0) [] S:=⟨[],rfl,World.ownsRow_nil w base _ _,fun x a=>by cases a⟩
theorem ZV.terms {w:Yh} {base:Nat} {v:Yi} {ts:List Trm} {S:Nat->Prop} (h:ZV w base v ts S):Zai w v ts:=by
 obtain⟨n,j,e,k⟩:=h;have i:=e;rcases e.2 with⟨rfl,l⟩|⟨g,b,f,rfl,_,o,c,a⟩
 ·have d:ts=[]:=List.eq_nil_of_length_eq_zero l;subst d;exact Zai.nil w
 ·exact⟨Ya _,b,n,rfl,c,a.1,j,Zw.of_own i,fun x m=>(k x m).1⟩
theorem ZV.lt {w:Yh} {base:Nat} {v:Yi} {ts:List Trm} {S:Nat->Prop} (h:ZV w base v ts S):∀k,v.ownBlock=Ya k->base<=k/\k<w.heap.size:=by obtain⟨b,_,a,_⟩:=h;exact a.lt
theorem ZV.below {w w':Yh} {base:Nat} {v:Yi} {ts:List Trm} {S:Nat->Prop} (h:ZV w base v ts S) (b:Below w.heap.size w w'):ZV w' base v ts S:=by obtain⟨f,d,e,a⟩:=h;exact⟨f,d,e.kept (ZY b Yb) (by cases hv:v.ownBlock<;>simp),fun x c=>⟨(a x c).1.below b,(a x c).2⟩⟩
theorem ZV.other {w w':Yh} {base:Nat} {v:Yi} {ts:List Trm} {S:Nat->Prop} {a:Option Nat} (h:ZV w base v ts S) (f:w.grownBy w' a) (g:∀b,a=Ya b->S b/\v.ownBlock≠Ya b):ZV w' base v ts S:=by
 obtain⟨k,i,j,c⟩:=h;refine⟨k,i,j.kept f ?_,fun x d=>⟨(c x d).1.off (c x d).2 f fun b e=>(g b e).1,(c x d).2⟩⟩;cases a with
 |none=>cases hv:v.ownBlock<;>simp
 |some b=>exact .inr (g b rfl).2
theorem ZV.mono {w:Yh} {base:Nat} {v:Yi} {ts:List Trm} {S S':Nat->Prop} (h:ZV w base v ts S) (f:∀b,S' b->S b\/w.heap.size<=b):ZV w base v ts S':=by obtain⟨g,d,e,a⟩:=h;exact⟨g,d,e,fun x c=>⟨(a x c).1,(a x c).2.more (a x c).1 f⟩⟩
theorem ZV.base {w:Yh} {base a:Nat} {v:Yi} {ts:List Trm} {S:Nat->Prop} (h:ZV w base v ts S) (j:a<=base):ZV w a v ts S:=by
 obtain⟨l,f,d,i⟩:=h;refine⟨l,f,⟨d.1,?_⟩,i⟩;rcases d.2 with q|⟨g,b,c,e,k,rest⟩
 ·exact .inl q
 ·exact .inr ⟨g,b,c,e,Nat.le_trans j k,rest⟩
theorem ZgR:∀(l:List (Yi×Trm)) (k:Nat) (x:Yi×Trm),Ze (l.set k x)=(((Ze l).set (k*3) x.1).set (k*3+1) (Yd Yf x.2.2.1)).set (k*3+2) (Yd Yf x.2.2.2)
 |[],k,x=>by simp[Ze]
 |y::r,0,x=>by simp[Ze]
 |y::r,k+1,x=>by
  rw[List.set_cons_succ,Ze,Ze,ZgR r k x,show(k+1)*3=k*3+1+1+1 by omega,show k*3+1+1+1+1=(k*3+1)+1+1+1 by omega,show k*3+1+1+1+2=(k*3+2)+1+1+1 by omega];simp only[List.set_cons_succ]
theorem Zdp:∀(l m:List (Yi×Trm)),Ze (l++m)=Ze l++Ze m
 |[],m=>rfl
 |x::r,m=>by rw[List.cons_append,Ze,Ze,Zdp r m];rfl
theorem Zev:∀(l:List (Yi×Trm)) (_:∀x∈l,∃A n c,x.1=Yc A n c),∀u∈Ze l,u.oneCell'=true
 |[],_,u,h=>by cases h
 |x::r,hx,u,h=>by
  rw[Ze,List.mem_cons,List.mem_cons,List.mem_cons]at h;rcases h with rfl|rfl|rfl|h
  ·obtain⟨A,n,c,e⟩:=hx x (by simp);rw[e];rfl
  ·rfl
  ·rfl
  ·exact Zev r (fun y a=>hx y (by simp[a])) u h
theorem ZV.stored {w:Yh} {base g n a k:Nat} {ts:List Trm} {S:Nat->Prop} (h:ZV w base (Yc (Ya ⟨g,0,Yb⟩) n a) ts S) (j:S g) {v:Yi} {t:Trm} (z:Za w v t.1) (l:Off S v t.1) :
  ZV (((w.setCell ⟨g,k*3,Yb⟩ v).setCell ⟨g,k*3+1,Yb⟩ (Yd Yf t.2.1)).setCell ⟨g,k*3+2,Yb⟩ (Yd Yf t.2.2)) base (Yc (Ya ⟨g,0,Yb⟩) n a) (ts.set k t) S ∧
  w.grownBy (((w.setCell ⟨g,k*3,Yb⟩ v).setCell ⟨g,k*3+1,Yb⟩ (Yd Yf t.2.1)).setCell ⟨g,k*3+2,Yb⟩ (Yd Yf t.2.2)) (Ya g):=by
 obtain⟨B,u,i,c⟩:=h;have y:n=ts.length:=by
  rcases i.2 with⟨e,_⟩|⟨C,f,s,e,_⟩
  ·cases e
  ·injection e
 subst y;obtain⟨m,o⟩:=i.stored (k*3) v;obtain⟨a2,p⟩:=m.stored (k*3+1) (Yd Yf t.2.1);obtain⟨a3,r⟩:=a2.stored (k*3+2) (Yd Yf t.2.2);have d:=ZX (ZX o p) r;refine⟨⟨B.set k (v,t),by rw[List.map_set,u],?_,fun x A=>?_⟩,d⟩
 ·rw[List.length_set,ZgR];exact a3
 ·rcases List.mem_or_eq_of_mem_set A with q|rfl
  ·exact⟨(c x q).1.off (c x q).2 d (fun b e=>by injection e with e;exact e▸j),(c x q).2⟩
  ·exact⟨z.off l d (fun b e=>by injection e with e;exact e▸j),l⟩
theorem ZV.form {w:Yh} {base:Nat} {v:Yi} {ts:List Trm} {S:Nat->Prop} (h:ZV w base v ts S) (f:0<ts.length):∃g a,v=Yc (Ya ⟨g,0,Yb⟩) ts.length a/\base<=g/\g<w.heap.size/\ts.length<=a/\a<=maxLen:=by
 obtain⟨j,_,c,_⟩:=h;rcases c.2 with⟨_,i⟩|⟨g,a,b,rfl,d,e,hc,hm,_⟩
 ·omega
 ·exact⟨g,a,rfl,d,(Array.getElem?_eq_some_iff.1 e).1,hc,hm⟩
theorem ZV.cells {w:Yh} {base g n i k:Nat} {ts:List Trm} {S:Nat->Prop} (h:ZV w base (Yc (Ya ⟨g,0,Yb⟩) n i) ts S) {t:Trm} (f:ts[k]? = Ya t) :
  ∃v,Za w v t.1/\Off S v t.1/\w.cell? ⟨g,k*3,Yb⟩=Ya v/\w.cell? ⟨g,k*3+1,Yb⟩=Ya (Yd Yf t.2.1)/\w.cell? ⟨g,k*3+2,Yb⟩=Ya (Yd Yf t.2.2) ∧
   w.frozen? ⟨g,k*3,Yb⟩=false/\w.frozen? ⟨g,k*3+1,Yb⟩=false/\w.frozen? ⟨g,k*3+2,Yb⟩=false:=by
 obtain⟨r,m,d,u⟩:=h;have y:n=ts.length:=by
  rcases d.2 with⟨e,_⟩|⟨z,l,s,e,_⟩
  ·cases e
  ·injection e
 subst y;have o:k<ts.length:=by
  rcases Nat.lt_or_ge k ts.length with q|q
  ·exact q
  ·rw[List.getElem?_eq_none q]at f;cases f
 obtain⟨x,j⟩:∃x,r[k]? = Ya x:=⟨_,List.getElem?_eq_getElem (by rw[<-m,List.length_map]at o;exact o)⟩
 have e:x.2=t:=by rw[<-m,List.getElem?_map,j]at f;exact Option.some.inj f
 subst e;obtain⟨a,b,c⟩:=Ze6 r k x j;obtain⟨p,q⟩:=u x (List.mem_of_getElem? j);refine⟨x.1,p,q,?_,?_,?_,d.frozenAt _,d.frozenAt _,d.frozenAt _⟩
 ·rw[d.cellAt _ (by omega)];exact a
 ·rw[d.cellAt _ (by omega)];exact b
 ·rw[d.cellAt _ (by omega)];exact c
theorem ZV.appended {w w':Yh} {base:Nat} {v e vt:Yi} {ts:List Trm} {rs:List (Yi×Trm)} {t:Trm} {S S':Nat->Prop} (f:rs.map (·.2)=ts) (g:∀x∈rs,Za w x.1 x.2.1/\Off S x.1 x.2.1)
  (d:w'.ownsRow base 37 3 e (ts.length+1) (Ze rs++[vt,Yd Yf t.2.1,Yd Yf t.2.2])) (h:w.grownBy w' v.ownBlock) (l:∀b,v.ownBlock=Ya b->S b) (j:Za w vt t.1) (i:Off S vt t.1) (k:∀b,S' b->S b\/w.heap.size<=b) :
  ZV w' base e (ts++[t]) S':=by
 have a:∀x∈rs++[(vt,t)],Za w x.1 x.2.1/\Off S x.1 x.2.1:=by
  intro x c;rcases List.mem_append.1 c with q|q
  ·exact g x q
  ·rw[List.mem_singleton]at q;subst q;exact⟨j,i⟩
 refine⟨rs++[(vt,t)],by rw[List.map_append,f];rfl,?_,fun x c=>⟨(a x c).1.off (a x c).2 h l,(a x c).2.more (a x c).1 k⟩⟩;rw[List.length_append,Zdp];exact d
end
end Go.Proofs.YtbfnnolakggbfaaGreatDoor
