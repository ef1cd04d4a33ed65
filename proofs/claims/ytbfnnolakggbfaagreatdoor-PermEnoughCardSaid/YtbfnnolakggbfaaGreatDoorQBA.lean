import Derived.Deep.DeepFit
import Derived.OrdersHeld
import Derived.Deep.RegionHeld
import Derived.WalkKit
import Derived.BigRegion
import Derived.Deep.RegionHeld3
import Derived.Laws.IdiomStrings
import Derived.Test.YtbfnnolakggbfaaGreatDoorQAI
import Derived.Test.YtbfnnolakggbfaaGreatDoorQAK
import Derived.Test.YtbfnnolakggbfaaGreatDoorQAQ
import Derived.Test.YtbfnnolakggbfaaGreatDoorQAZ
set_option maxRecDepth 100000
set_option maxHeartbeats 8000000
open Option renaming some → Ya, none → Yb
open Go.Value renaming int → Yd, pointer → Ye
open Go.IntKind renaming i64 → Yf
open Go.Obj renaming cells → Yg
open Go renaming World → Yh, Value → Yi
namespace Go.Proofs.YtbfnnolakggbfaaGreatDoor
section
open Go Go.RowKit
section
variable {P:Program} {ops:Array Oper} {Q:Exit->Act->Yh->Prop} {md:Region.Mode}
def Zir (b:Region.Mode) (a:Array Oper):Bool:=(List.range a.size).all fun i=>match a[i]? with|none=>true|some o=>o.after.all fun e=>!Region.binds b e||decide (e.on<i)
theorem Zlk (h:Zir md ops=true) {i:Nat} {o:Oper} (a:ops[i]? = Ya o):∀e∈o.after,Region.binds md e=true->e.on<i:=by intro e he b;unfold Zir at h;rw[List.all_eq_true]at h;have:=h i (List.mem_range.2 (Array.getElem?_eq_some_iff.1 a).1);rw[a]at this;have:=Array.all_eq_true_iff_forall_mem.1 this e he;rw[b]at this;simpa using this
theorem Zlt:∀(l:List Bool) (i:Nat),l[i]? = Ya false->(l.set i true).count false+1=l.count false
 |[],i,h=>by simp at h
 |b::l,0,h=>by
  obtain rfl:b=false:=by simpa using h
  simp
 |b::l,i+1,h=>by
  have:=Zlt l i (by simpa using h);rw[List.set_cons_succ,List.count_cons,List.count_cons];omega
theorem ZeK {c:Array Bool} {i:Nat} (h:i<c.size) (a b:Bool):c.getD i a=c.getD i b:=by simp[Array.getD,h]
theorem ZrN (f:Zir md ops=true) {a:Array Bool} (l:a.size=ops.size) (g:Region.ready md ops a=[]):∀n i,i<n->i<ops.size->a.getD i true=true:=by
 intro n
 induction n with
 |zero=>intro i h;omega
 |succ n j=>
  intro i k b;cases hq:a.getD i true with
  |true=>rfl
  |false=>
   exfalso
   have:i∈Region.ready md ops a:=mem_ready.2 ⟨hq,_,Array.getElem?_eq_getElem b,fun e he d=>by
    have c:=Zlk f (Array.getElem?_eq_getElem b) e he d;rw[ZeK (by omega) false true]
    exact j e.on (by omega) (by omega)⟩
   rw[g]at this;cases this
theorem ZpO (G:Array Bool->Act->Yh->Prop) (v:Zir md ops=true)
  (hstep:∀(i:Nat) (o:Oper),ops[i]? = Ya o->∀b a w,G b a w->b.getD i true=false->(∀e∈o.after,Region.binds md e=true->b.getD e.on false=true) ->
   ∀g:Act->Yh->Prop,Shut (∀h w',G (b.setIfInBounds i true) h w'->g h w')->if Region.wanted o (yielded ops a.tmps)=true then Oper.wp P o a w g Q else g (a.put o.dst undef) w)
  (f:∀b a w,G b a w->(∀i,i<ops.size->b.getD i true=true)->Q .normal a w) :
  ∀(c:Nat) (b:Array Bool) (a:Act) (w:Yh),b.size=ops.size->b.toList.count false<=c->G b a w->wpAny P md ops Q c b a w:=by
 intro c
 induction c with
 |zero=>
  intro b a w s hc n
  have d:∀i,i<ops.size->b.getD i true=true:=fun i p=>by
   cases hq:b.getD i true with
   |true=>rfl
   |false=>
    exfalso;have r:i<b.size:=by omega
    have:false∈b.toList:=by rw[show false=b[i]by simpa[Array.getD,r]using hq.symm];simp
    have:=List.count_pos_iff.2 this;omega
  refine⟨List.eq_nil_iff_forall_not_mem.2 fun j y=>?_,f _ _ _ n d⟩;obtain⟨k,o,m,_⟩:=mem_ready.1 y;rw[d j (Array.getElem?_eq_some_iff.1 m).1]at k;cases k
 |succ c A=>
  intro b a w s hc n;refine⟨fun z=>f _ _ _ n (fun i p=>ZrN v s z (i+1) i (by omega) p),fun i p=>?_⟩;obtain⟨k,o,m,u⟩:=mem_ready.1 p;refine wpOp_step m fun g t=>hstep i o m b a w n k u g (fun h w' x=>t h w' (A _ h w' (by simpa using s) ?_ x));have l:i<b.size:=by have:=(Array.getElem?_eq_some_iff.1 m).1;omega
  have:b.toList[i]? = Ya false:=by
   rw[Array.getElem?_toList,Array.getElem?_eq_getElem l]
   congr 1
   simpa[Array.getD,l]using k
  have:=Zlt b.toList i this;rw[Array.toList_setIfInBounds];omega
theorem ZgT {j:Nat} {a:Act} {w:Yh} (G:Array Bool->Act->Yh->Prop) (hm:P.follows .mixedOrders=true) (h:Zir .any ops=true) (g:G (Array.replicate ops.size false) a w.drew)
  (hstep:∀(i:Nat) (o:Oper),ops[i]? = Ya o->∀b a w,G b a w->b.getD i true=false->(∀e∈o.after,Region.binds .any e=true->b.getD e.on false=true) ->
   ∀d:Act->Yh->Prop,Shut (∀f w',G (b.setIfInBounds i true) f w'->d f w')->if Region.wanted o (yielded ops a.tmps)=true then Oper.wp P o a w d Q else d (a.put o.dst undef) w)
  (c:∀b a w,G b a w->(∀i,i<ops.size->b.getD i true=true)->Q .normal a w):(Code.region j ops true).wp P Q a w:=
 wp_region_any hm (ZpO G h hstep c ops.size _ a _ (by simp) (by simp) g)
theorem Zbw {L:Nat} {a:Act} {w:Yh} (A:(Nat->Yi)->Act) (C:Nat->Yi) (R:Nat->Yi->Yh->Prop) (hm:P.follows .mixedOrders=true) (z:Zir .any ops=true) (D:a=A C)
  (s:∀(i:Nat) (o:Oper),ops[i]? = Ya o->∀x v,(A x).put o.dst v=A (fun j=>if j=i then v else x j))
  (F:∀j v c f,Below c.heap.size c f->R j v c->R j v f)
  (hstep:∀(i:Nat) (o:Oper),ops[i]? = Ya o->∀x c,Below w.heap.size w c->(∀e∈o.after,Region.binds .any e=true->R e.on (x e.on) c) ->
   ∀g:Act->Yh->Prop,Shut (∀v f,Below c.heap.size c f->R i v f->g ((A x).put o.dst v) f)->if Region.wanted o (yielded ops (A x).tmps)=true then Oper.wp P o (A x) c g Q else g ((A x).put o.dst undef) c)
  (p:∀x c,Below w.heap.size w c->(∀i,i<ops.size->R i (x i) c)->Q .normal (A x) c):(Code.region L ops true).wp P Q a w:=by
 refine ZgT (fun b a c=>b.size=ops.size/\∃x,a=A x/\Below w.heap.size w c/\∀i,i<ops.size->b.getD i true=true->R i (x i) c) hm z ⟨by simp,C,D,(Below.refl _ _).drew,fun i r h=>?_⟩ ?_ ?_
 ·simp[Array.getD,r]at h
 ·intro i o t b a c ⟨B,x,y,l,u⟩ M G g E;subst y;refine hstep i o t x c l (fun e he n=>?_) g (fun v f m K=>E _ _ ⟨by simpa using B,_,s i o t x v,l.trans (m.mono l.size),fun j H I=>?_⟩)
  ·have J:=Zlk z t e he n;have r:=(Array.getElem?_eq_some_iff.1 t).1;exact u e.on (by omega) (by rw[ZeK (by omega) true false];exact G e he n)
  ·by_cases d:j=i
   ·subst d;rw[Yo rfl];exact K
   ·rw[Yn d];refine F j _ _ _ m (u j H ?_);rwa[getD_set_ne true (show i≠j from fun e=>d e.symm)]at I
 ·intro b a c ⟨B,x,y,l,u⟩ k;subst y;exact p x c l (fun i r=>u i r (k i r))
end
end
section
open Go.RowKit
def ZfN (w:Yh) (b rd:Int) (v:Yi):Prop:=∃g x y z,v=.slice (Ya ⟨g,0,Yb⟩) 3 3/\ZcU w 2 1 1 0 1 x/\ZcU w 1 (-1) 1 1 1 y/\ZcU w 1 1 1 (-b) rd z/\∃a:Array Yi,a.toList=x.cells.toList++(y.cells.toList++z.cells.toList)/\Blk w g a
theorem ZfN.keep {w w':Yh} {b rd:Int} {v:Yi} (h:ZfN w b rd v) (a:Below w.heap.size w w'):ZfN w' b rd v:=by obtain⟨g,x,y,z,e,f,i,j,c,hc,d⟩:=h;exact⟨g,x,y,z,e,f.keep a,i.keep a,j.keep a,c,hc,d.keep a⟩
def enR (a rd:Int):Nat->Yi->Yh->Prop
 |0,v,_=>v=.func (.func 11) #[] #[]
 |1,v,_=>v=Zb 1 1
 |2,v,_=>v=Zb 0 1
 |3,v,w=>ZcU w 2 1 1 0 1 v
 |4,v,_=>v=.func (.func 11) #[] #[]
 |5,v,_=>v=Zb (-1) 1
 |6,v,_=>v=Zb 1 1
 |7,v,w=>ZcU w 1 (-1) 1 1 1 v
 |8,v,_=>v=.func (.func 11) #[] #[]
 |9,v,_=>v=Zb 1 1
 |10,v,_=>v=Zb a rd
 |11,v,_=>v=Zb (-a) rd
 |12,v,w=>ZcU w 1 1 1 (-a) rd v
 |13,v,w=>ZfN w a rd v
 |14,v,w=>ZfN w a rd v
 |_,_,_=>True
theorem Zp7 (b rd:Int):∀j v a c,Below a.heap.size a c->enR b rd j v a->enR b rd j v c
 |0,_,_,_,_,h=>h
 |1,_,_,_,_,h=>h
 |2,_,_,_,_,h=>h
 |3,_,_,_,hb,h=>h.keep hb
 |4,_,_,_,_,h=>h
 |5,_,_,_,_,h=>h
 |6,_,_,_,_,h=>h
 |7,_,_,_,hb,h=>h.keep hb
 |8,_,_,_,_,h=>h
 |9,_,_,_,_,h=>h
 |10,_,_,_,_,h=>h
 |11,_,_,_,_,h=>h
 |12,_,_,_,hb,h=>h.keep hb
 |13,_,_,_,hb,h=>h.keep hb
 |14,_,_,_,hb,h=>h.keep hb
 |_+15,_,_,_,_,_=>trivial
end
section
open Go Go.RowKit
section
variable {P:Program} {ops:Array Oper} {Q:Exit->Act->Yh->Prop}
def Zi5 (b:Region.Mode) (a:Array Oper) (k:Nat):Bool:=(List.range k).all fun i=>(List.range (k+1)).any fun j=>decide (i<j)&&(match a[j]? with|none=>false|some o=>o.after.any fun e=>Region.binds b e&&decide (e.on=i))
theorem Ziz {g:Region.Mode} {k:Nat} (h:Zi5 g ops k=true) {L:Nat->Bool} (m:∀j o,ops[j]? = Ya o->L j=true->∀e∈o.after,Region.binds g e=true->L e.on=true) (s:L k=true):∀n i,i+n=k->L i=true:=by
 intro n
 induction n using Nat.strongRecOn with
 |ind n t=>
  intro i u;by_cases l:n=0
  ·subst l;rw[show i=k by omega];exact s
  ·unfold Zi5 at h;rw[List.all_eq_true]at h;have d:=h i (List.mem_range.2 (by omega));rw[List.any_eq_true]at d;obtain⟨j,r,f⟩:=d;rw[List.mem_range]at r;rw[Bool.and_eq_true,decide_eq_true_eq]at f;obtain⟨p,a⟩:=f;have c:L j=true:=t (k-j) (by omega) j (by omega);cases ho:ops[j]? with
   |none=>rw[ho]at a;cases a
   |some o=>
    rw[ho]at a;dsimp only at a;rw[<-Array.any_toList,List.any_eq_true]at a;obtain⟨e,he,b⟩:=a;have he:=Array.mem_toList_iff.1 he;rw[Bool.and_eq_true,decide_eq_true_eq]at b;have:=m j o ho c e he b.1;rwa[b.2]at this
theorem Zf4 {id:Nat} {a:Act} {w:Yh} (k:Nat) (A:(Nat->Yi)->Act) (U:Nat->Yi) (R:Nat->Yi->Yh->Prop) (E F:(Nat->Yi)->Yh->Prop) (hk:ops.size=k+2) (hm:P.follows .mixedOrders=true) (hf:Zir .any ops=true) (hn:Zi5 .any ops k=true) (H:Zi5 .any ops (k+1)=true) (hA:a=A U)
  (z:∀(i:Nat) (o:Oper),ops[i]? = Ya o->∀x v,(A x).put o.dst v=A (fun j=>if j=i then v else x j))
  (hR:∀j v d r,Below d.heap.size d r->R j v d->R j v r)
  (hstep:∀(i:Nat) (o:Oper),i<k->ops[i]? = Ya o->∀x d,x (k+1)=U (k+1)->Below w.heap.size w d->(∀e∈o.after,Region.binds .any e=true->R e.on (x e.on) d) ->
   ∀n:Act->Yh->Prop,Shut (∀v r,Below d.heap.size d r->R i v r->n ((A x).put o.dst v) r)->if Region.wanted o (yielded ops (A x).tmps)=true then Oper.wp P o (A x) d n Q else n ((A x).put o.dst undef) d)
  (hfirst:∀o:Oper,ops[k]? = Ya o->∀x d,x (k+1)=U (k+1)->Below w.heap.size w d->(∀i,i<k->R i (x i) d) ->
   ∀n:Act->Yh->Prop,Shut (∀v r,E (fun j=>if j=k then v else x j) r->n ((A x).put o.dst v) r)->if Region.wanted o (yielded ops (A x).tmps)=true then Oper.wp P o (A x) d n Q else n ((A x).put o.dst undef) d)
  (hlast:∀o:Oper,ops[k+1]? = Ya o->∀x d,E x d ->
   ∀n:Act->Yh->Prop,Shut (∀v r,F (fun j=>if j=k+1 then v else x j) r->n ((A x).put o.dst v) r)->if Region.wanted o (yielded ops (A x).tmps)=true then Oper.wp P o (A x) d n Q else n ((A x).put o.dst undef) d)
  (N:∀x d,F x d->Q .normal (A x) d):(Code.region id ops true).wp P Q a w:=by
 have aa:∀i,i<ops.size->i<k\/i=k\/i=k+1:=fun i V=>by omega
 refine ZgT (fun c a d=>c.size=ops.size/\(∀j o,ops[j]? = Ya o->c.getD j false=true->∀e∈o.after,Region.binds .any e=true->c.getD e.on false=true) ∧
   ∃x,a=A x/\(c.getD k false=false->Below w.heap.size w d/\∀i,i<k->c.getD i true=true->R i (x i) d)/\(c.getD k false=true->c.getD (k+1) false=false->E x d)/\(c.getD (k+1) false=true->F x d)/\(c.getD (k+1) false=false->x (k+1)=U (k+1))) hm hf ⟨by simp,fun j o _ t=>?_,U,hA,fun _=>⟨(Below.refl _ _).drew,fun i V h=>?_⟩,fun h=>?_,fun h=>?_,fun _=>rfl⟩ ?_ ?_
 ·simp[Array.getD]at t
 ·simp[Array.getD,show i<ops.size by omega]at h
 ·simp[Array.getD]at h
 ·simp[Array.getD]at h
 ·intro i o B c a d ⟨S,G,x,Z,X,h2,h3,I⟩ h0 hd n Y;subst Z;have V:=(Array.getElem?_eq_some_iff.1 B).1;have D:c.getD i false=false:=by rw[ZeK (by omega) false true];exact h0
  have f:∀j b,j≠i->(c.setIfInBounds i true).getD j b=c.getD j b:=fun j b t=>getD_set_ne b (fun e=>t e.symm);have g:∀b,(c.setIfInBounds i true).getD i b=true:=fun b=>by simp[Array.getD,S,V]
  have l:∀j T,ops[j]? = Ya T->(c.setIfInBounds i true).getD j false=true->∀e∈T.after,Region.binds .any e=true->(c.setIfInBounds i true).getD e.on false=true:=by
   intro j T O t e he C;by_cases M:e.on=i
   ·rw[M];exact g _
   ·rw[f _ _ M];by_cases s:j=i
    ·subst s;obtain rfl:o=T:=Option.some.inj (B.symm.trans O);exact hd e he C
    ·rw[f _ _ s]at t;exact G j T O t e he C
  have nk:∀m,Zi5 .any ops m=true->c.getD m false=true->i<=m->False:=fun m ad hl aq=>by
   have:=Ziz ad (L:=fun j=>c.getD j false) G hl (m-i) i (by omega);rw[D]at this;cases this
  rcases aa i V with ac|rfl|rfl
  ·have y:c.getD k false=false:=by
    cases q:c.getD k false with
    |false=>rfl
    |true=>exact(nk k hn q (by omega)).elim
   have p:c.getD (k+1) false=false:=by
    cases q:c.getD (k+1) false with
    |false=>rfl
    |true=>exact(nk (k+1) H q (by omega)).elim
   obtain⟨C,W⟩:=X y;refine hstep i o ac B x d (I p) C (fun e he K=>?_) n (fun v r J hv=>Y _ _ ⟨by simpa using S,l,_,z i o B x v,fun _=>⟨C.trans (J.mono C.size),fun j t hl=>?_⟩,fun h=>?_,fun h=>?_,fun _=>by rw[Yn (by omega)];exact I p⟩)
   ·have aj:=Zlk hf B e he K;exact W e.on (by omega) (by rw[ZeK (by omega) true false];exact hd e he K)
   ·by_cases s:j=i
    ·subst s;rw[Yo rfl];exact hv
    ·rw[Yn s];refine hR j _ _ _ J (W j t ?_);rwa[f _ _ s]at hl
   ·rw[f _ _ (by omega),y]at h;cases h
   ·rw[f _ _ (by omega),p]at h;cases h
  ·have p:c.getD (i+1) false=false:=by
    cases q:c.getD (i+1) false with
    |false=>rfl
    |true=>exact(nk (i+1) H q (by omega)).elim
   obtain⟨C,W⟩:=X D
   have u:∀j,j<i->c.getD j true=true:=fun j t=>by
    have ap:c.setIfInBounds i true=c.setIfInBounds i true:=rfl;have:=Ziz hn (L:=fun j=>(c.setIfInBounds i true).getD j false) l (g _) (i-j) j (by omega);rw[f _ _ (by omega)]at this;rw[ZeK (by omega) true false];exact this
   refine hfirst o B x d (I p) C (fun j t=>W j t (u j t)) n (fun v r hE=>Y _ _ ⟨by simpa using S,l,_,z i o B x v,fun h=>?_,fun _ _=>hE,fun h=>?_,fun _=>by rw[Yn (by omega)];exact I p⟩)
   ·rw[g]at h;cases h
   ·rw[f _ _ (by omega),p]at h;cases h
  ·have y:c.getD k false=true:=by have:=Ziz H (L:=fun j=>(c.setIfInBounds (k+1) true).getD j false) l (g _) 1 k rfl;rwa[f _ _ (by omega)]at this
   refine hlast o B x d (h2 y D) n (fun v r hF=>Y _ _ ⟨by simpa using S,l,_,z _ o B x v,fun h=>?_,fun _ h=>?_,fun _=>hF,fun h=>?_⟩)
   ·rw[f _ _ (by omega),y]at h;cases h
   ·rw[g]at h;cases h
   ·rw[g]at h;cases h
 ·intro c a d ⟨S,G,x,Z,X,h2,h3,I⟩ u;subst Z;exact N x d (h3 (by rw[ZeK (by omega) false true];exact u _ (by omega)))
end
end
section
open Go.RowKit
structure HoleAt (w w1:Yh):Prop where
 i0:w1.cell? ⟨w.heap.size,0,Yb⟩=Ya (Yd Yf 0)
 i1:w1.cell? ⟨w.heap.size,1,Yb⟩=Ya (Yd Yf 0)
 j0:w1.frozen? ⟨w.heap.size,0,Yb⟩=false
 j1:w1.frozen? ⟨w.heap.size,1,Yb⟩=false
 lt:w.heap.size<w1.heap.size
 below:Below w.heap.size w w1
theorem HoleAt.start (w:Yh) (ty:TypeId):HoleAt w (w.alloc (Yg #[Yd Yf 0,Yd Yf 0] ty)) where
 i0:=by go_simp
 i1:=by go_simp
 j0:=by go_simp
 j1:=by go_simp
 lt:=by simp
 below:=below_alloc1 _ _
theorem HoleAt.keep {w b c:Yh} (h:HoleAt w b) (a:Below b.heap.size b c):HoleAt w c:=
 have z:=a.size;have l:=h.lt
 {i0:=Zd a l h.i0,i1:=Zd a l h.i1,j0:=Zo a l h.j0,j1:=Zo a l h.j1,lt:=by omega,below:=h.below.trans (a.mono h.below.size) }
theorem Zkb (k:Nat) (h:k<10):(UInt8.ofNat (48+k)).toNat=48+k:=by rw[UInt8.toNat_ofNat'];omega
theorem Zgf:∀(u:Nat) (_:u<=9223372036854775807) (w:Yh),
  Calls Tryz.prog 38 #[Yd Yf u] w fun r w'=>r=.returned (.string ⟨(Lib.decDigits u).toArray⟩)/\Below w.heap.size w w':=by
 intro u
 induction u using Nat.strongRecOn with
 |ind u d=>
  intro hu w;by_cases h:u<10
  ·rw[Lib.decDigits_one h];clear d hu;have i1:(u:Int)<10:=by omega
   have l:IntKind.i64.wrap (48+(u:Int))=48+u:=IntWalk.i64_in _ (by omega);have m:IntKind.u8.wrap (48+(u:Int))=48+u:=IntWalk.u8_in _ (by omega);have hc:(convert 68 9 (.slice (Ya ⟨w.heap.size,0,Yb⟩) 1 1)).run Tryz.prog (w.alloc (Yg #[.int .u8 (48+(u:Int))] 5))=.ok (.string ⟨#[UInt8.ofNat (48+u)]⟩) (w.alloc (Yg #[.int .u8 (48+(u:Int))] 5)):=
    run_convert_bytes_back _ _ _ 5 _ 1 [UInt8.ofNat (48+u)] Tryz.underlying68 Tryz.underlying5 Tryz.underlying9 (fun j k=>by
     obtain rfl:j=0:=by simpa using k
     rw[List.getElem_cons_zero,Zkb u h]
     simp[Addr.add])
   generalize UInt8.ofNat (48+u)=i at *;go_enter Tryz.func38,Tryz.ntmps38;go_wp2_with fail;go_ret;exact⟨rfl,below_alloc1 _ _⟩
  ·have c:=fun w=>d (u / 10) (by omega) (by omega) w;have a:=fun w=>d (u % 10) (by omega) (by omega) w;rw[Lib.decDigits_one (show u % 10<10 by omega)]at a;have i1:¬(u:Int)<10:=by omega
   have i2:decide ((u:Int)<10)=false:=decide_eq_false i1;have l:wrap64 ((u:Int) / 10)=(u:Int) / 10:=IntWalk.wrap64_in _ (by omega);have m:wrap64 ((u:Int) % 10)=(u:Int) % 10:=IntWalk.wrap64_in _ (by omega);rw[show((u / 10:Nat):Int)=(u:Int) / 10 by omega]at c;rw[show((u % 10:Nat):Int)=(u:Int) % 10 by omega]at a;have l1:¬9223372036854775807<(Lib.decDigits (u / 10)).length+1:=by have:=ZfQ (u / 10) 18 (by omega);omega
   have g:Lib.decDigits u=Lib.decDigits (u / 10)++[UInt8.ofNat (48+u % 10)]:=by rw[Lib.decDigits,dif_neg h]
   rw[g];generalize UInt8.ofNat (48+u % 10)=i at *;clear g d h hu;go_enter Tryz.func38,Tryz.ntmps38
   go_wp2_with (first
    |(go_at_call 38;go_fit (c _);rintro e n ⟨rfl,b⟩)
    |(go_at_call 38;go_fit (a _);rintro e o ⟨rfl,f⟩))
   go_ret;exact⟨Zbm (by simp),b.trans (f.mono b.size)⟩
theorem Zef (u:Nat) (h:u<=9223372036854775807):(Lib.decDigits u).length<=19:=by have:=ZfQ u 18 (by omega);omega
theorem ZnA (n:Int) (a:n<0) (h:n.natAbs<=9223372036854775807) (w:Yh) :
  Calls Tryz.prog 38 #[Yd Yf (-n)] w fun r w'=>r=.returned (.string ⟨(Lib.decDigits n.natAbs).toArray⟩)/\Below w.heap.size w w':=by
 have:=Zgf n.natAbs h w;rwa[show((n.natAbs:Nat):Int)=-n by omega]at this
theorem ZnB (n:Int) (a:¬n<0) (h:n.natAbs<=9223372036854775807) (w:Yh) :
  Calls Tryz.prog 38 #[Yd Yf n] w fun r w'=>r=.returned (.string ⟨(Lib.decDigits n.toNat).toArray⟩)/\Below w.heap.size w w':=by
 have:=Zgf n.natAbs h w;rwa[show((n.natAbs:Nat):Int)=n by omega,show n.natAbs=n.toNat by omega]at this
theorem ZmL {n:Int} {d:Nat} (v:Valid n d) (w:Yh) :
  Calls Tryz.prog 20 #[Zb n d] w fun r w'=>r=.returned (.string ⟨(Zcl n d).toArray⟩)/\Below w.heap.size w w':=by
 have h:=v.n_le;have k:=v.d_le;have o:=fun w=>ZaC n d w (by omega) (by omega) (by omega) (by omega);rw[v.right]at o;have z:=fun w=>Zgf d k w;have L:=(Live.start w).box n d;have s:=Zef d k;have p:d≠0:=by have:=v.pos;omega
 clear v;have j:Lib.itoa d=Lib.decDigits d:=by unfold Lib.itoa;rw[Yn (by omega)];rfl
 by_cases t:n<0
 ·have l:=fun w=>ZnA n t h w;have m:=Zef n.natAbs h;have f:Lib.itoa n=45::Lib.decDigits n.natAbs:=by unfold Lib.itoa;rw[Yo t]
  have A:IntKind.i64.wrap (-n)=-n:=IntWalk.i64_in _ (by omega);generalize Lib.decDigits n.natAbs=c at *;have l0:¬9223372036854775807<1+c.length:=by omega
  by_cases e:d=1
  ·have b:Zcl n d=45::c:=by unfold Zcl;rw[Yo e,List.append_nil,f]
   rw[b];have x:((d:Int) != 1)=false:=by simp;omega
   have y:((d:Int)==1)=true:=by simp;omega
   clear b e f j h k s m p;go_enter Tryz.func20,Tryz.ntmps20
   go_wp2_with (first
    |(go_at_call 37;go_fit (o _);rintro e i ⟨rfl,a⟩;have L:=L.call a;have a0:=L.n 0 rfl;have g:=L.d 0 rfl)
    |(go_at_call 38;go_fit (l _);rintro e i ⟨rfl,a⟩;have L:=L.call a;have a0:=L.n 0 rfl;have g:=L.d 0 rfl))
   go_ret;exact⟨Zbm (by simp),L.below⟩
  ·have b:Zcl n d=45::c++47::Lib.decDigits d:=by unfold Zcl;rw[Yn e,f,j]
   rw[b];generalize Lib.decDigits d=u at *;have l1:¬9223372036854775807<1+c.length+1:=by omega
   have l2:¬9223372036854775807<1+c.length+1+u.length:=by omega
   have x:((d:Int) != 1)=true:=by simp;omega
   have y:((d:Int)==1)=false:=by simp;omega
   clear b e f j h k s m p;go_enter Tryz.func20,Tryz.ntmps20
   go_wp2_with (first
    |(go_at_call 37;go_fit (o _);rintro e i ⟨rfl,a⟩;have L:=L.call a;have a0:=L.n 0 rfl;have g:=L.d 0 rfl)
    |(go_at_call 38;(first|with_reducible refine(l _).mono ?_|with_reducible refine(z _).mono ?_);rintro e i ⟨rfl,a⟩;have L:=L.call a;have a0:=L.n 0 rfl;have g:=L.d 0 rfl))
   go_ret;exact⟨Zbm (by simp),L.below⟩
 ·have l:=fun w=>ZnB n t h w;have m:=Zef n.toNat (by omega);have f:Lib.itoa n=Lib.decDigits n.toNat:=by unfold Lib.itoa;rw[Yn t]
  generalize Lib.decDigits n.toNat=c at *;by_cases e:d=1
  ·have b:Zcl n d=c:=by unfold Zcl;rw[Yo e,List.append_nil,f]
   rw[b];have x:((d:Int) != 1)=false:=by simp;omega
   have y:((d:Int)==1)=true:=by simp;omega
   clear b e f j h k s m p;go_enter Tryz.func20,Tryz.ntmps20
   go_wp2_with (first
    |(go_at_call 37;go_fit (o _);rintro e i ⟨rfl,a⟩;have L:=L.call a;have a0:=L.n 0 rfl;have g:=L.d 0 rfl)
    |(go_at_call 38;go_fit (l _);rintro e i ⟨rfl,a⟩;have L:=L.call a;have a0:=L.n 0 rfl;have g:=L.d 0 rfl))
   go_ret;exact⟨Zbm (by simp),L.below⟩
  ·have b:Zcl n d=c++47::Lib.decDigits d:=by unfold Zcl;rw[Yn e,f,j]
   rw[b];generalize Lib.decDigits d=u at *;have l1:¬9223372036854775807<c.length+1:=by omega
   have l2:¬9223372036854775807<c.length+1+u.length:=by omega
   have x:((d:Int) != 1)=true:=by simp;omega
   have y:((d:Int)==1)=false:=by simp;omega
   clear b e f j h k s m p;go_enter Tryz.func20,Tryz.ntmps20
   go_wp2_with (first
    |(go_at_call 37;go_fit (o _);rintro e i ⟨rfl,a⟩;have L:=L.call a;have a0:=L.n 0 rfl;have g:=L.d 0 rfl)
    |(go_at_call 38;(first|with_reducible refine(l _).mono ?_|with_reducible refine(z _).mono ?_);rintro e i ⟨rfl,a⟩;have L:=L.call a;have a0:=L.n 0 rfl;have g:=L.d 0 rfl))
   go_ret;exact⟨Zbm (by simp),L.below⟩
theorem Zpu {n d:Int} (w:Yh) (b:∀w,Calls Tryz.prog 37 #[Zb n d] w fun r w'=>r=.returned (.bool false)/\Below w.heap.size w w') :
  Calls Tryz.prog 20 #[Zb n d] w fun r w'=>r=.returned (.string ⟨#[63]⟩)/\Below w.heap.size w w':=by
 have L:=(Live.start w).box n d;go_enter Tryz.func20,Tryz.ntmps20;go_wp2_with (go_at_call 37;go_fit (b _);rintro e c ⟨rfl,a⟩;have L:=L.call a);go_ret;exact⟨rfl,L.below⟩
theorem ZqH {n d:Int} (w:Yh) (b:∀w,Calls Tryz.prog 34 #[Zb n d] w fun r w'=>r=.returned (.bool false)/\Below w.heap.size w w') :
  Calls Tryz.prog 18 #[Zb n d] w fun r w'=>r=.returned (.string ⟨#[63]⟩)/\Below w.heap.size w w':=by
 have L:=(Live.start w).box n d;go_enter Tryz.func18,Tryz.ntmps18;go_wp2_with (go_at_call 34;go_fit (b _);rintro e c ⟨rfl,a⟩;have L:=L.call a);go_ret;exact⟨rfl,L.below⟩
end
section
open Go.RowKit
theorem ZhY:∀(u:Nat) (_:u<=9223372036854775807) (w:Yh),
  Calls Tryz.prog 21 #[Yd Yf u] w fun r w'=>r=.returned (.string ⟨(Lib.decDigits u).toArray⟩)/\Below w.heap.size w w':=by
 intro u
 induction u using Nat.strongRecOn with
 |ind u d=>
  intro hu w;by_cases h:u<10
  ·rw[Lib.decDigits_one h];clear d hu;have i1:(u:Int)<10:=by omega
   have l:IntKind.i64.wrap (48+(u:Int))=48+u:=IntWalk.i64_in _ (by omega);have m:IntKind.u8.wrap (48+(u:Int))=48+u:=IntWalk.u8_in _ (by omega);have hc:(convert 68 9 (.slice (Ya ⟨w.heap.size,0,Yb⟩) 1 1)).run Tryz.prog (w.alloc (Yg #[.int .u8 (48+(u:Int))] 5))=.ok (.string ⟨#[UInt8.ofNat (48+u)]⟩) (w.alloc (Yg #[.int .u8 (48+(u:Int))] 5)):=
    run_convert_bytes_back _ _ _ 5 _ 1 [UInt8.ofNat (48+u)] Tryz.underlying68 Tryz.underlying5 Tryz.underlying9 (fun j k=>by
     obtain rfl:j=0:=by simpa using k
     rw[List.getElem_cons_zero,Zkb u h]
     simp[Addr.add])
   generalize UInt8.ofNat (48+u)=i at *;go_enter Tryz.func21,Tryz.ntmps21;go_wp2_with fail;go_ret;exact⟨rfl,below_alloc1 _ _⟩
  ·have c:=fun w=>d (u / 10) (by omega) (by omega) w;have a:=fun w=>d (u % 10) (by omega) (by omega) w;rw[Lib.decDigits_one (show u % 10<10 by omega)]at a;have i1:¬(u:Int)<10:=by omega
   have i2:decide ((u:Int)<10)=false:=decide_eq_false i1;have l:wrap64 ((u:Int) / 10)=(u:Int) / 10:=IntWalk.wrap64_in _ (by omega);have m:wrap64 ((u:Int) % 10)=(u:Int) % 10:=IntWalk.wrap64_in _ (by omega);rw[show((u / 10:Nat):Int)=(u:Int) / 10 by omega]at c;rw[show((u % 10:Nat):Int)=(u:Int) % 10 by omega]at a;have l1:¬9223372036854775807<(Lib.decDigits (u / 10)).length+1:=by have:=ZfQ (u / 10) 18 (by omega);omega
   have g:Lib.decDigits u=Lib.decDigits (u / 10)++[UInt8.ofNat (48+u % 10)]:=by rw[Lib.decDigits,dif_neg h]
   rw[g];generalize UInt8.ofNat (48+u % 10)=i at *;clear g d h hu;go_enter Tryz.func21,Tryz.ntmps21
   go_wp2_with (first
    |(go_at_call 21;go_fit (c _);rintro e n ⟨rfl,b⟩)
    |(go_at_call 21;go_fit (a _);rintro e o ⟨rfl,f⟩))
   go_ret;exact⟨Zbm (by simp),b.trans (f.mono b.size)⟩
theorem Zmp (n:Int) (a:n<0) (h:n.natAbs<=9223372036854775807) (w:Yh) :
  Calls Tryz.prog 21 #[Yd Yf (-n)] w fun r w'=>r=.returned (.string ⟨(Lib.decDigits n.natAbs).toArray⟩)/\Below w.heap.size w w':=by
 have:=ZhY n.natAbs h w;rwa[show((n.natAbs:Nat):Int)=-n by omega]at this
theorem Zmq (n:Int) (a:¬n<0) (h:n.natAbs<=9223372036854775807) (w:Yh) :
  Calls Tryz.prog 21 #[Yd Yf n] w fun r w'=>r=.returned (.string ⟨(Lib.decDigits n.toNat).toArray⟩)/\Below w.heap.size w w':=by
 have:=ZhY n.natAbs h w;rwa[show((n.natAbs:Nat):Int)=n by omega,show n.natAbs=n.toNat by omega]at this
end
section
open Go.RowKit
theorem Zqc (n:Int) (w:Yh) (h:Zfa w) (a:-9223372036854775808<=n) (b:n<=9223372036854775807) :
  Calls Tryz.prog 19 #[Yd Yf n] w fun e w'=>e=.returned (txt (Lib.itoa n))/\Below w.heap.size w w':=
 (Tryz.strconv_Itoa n a b w h).mono fun _ _ ⟨he,k,d,c⟩=>⟨he,by rw[c];exact below_grow _ _ _⟩
theorem ZeH {b:List UInt8} {s:ByteArray} (h:s.data.toList=b):Value.string s=txt b:=by obtain⟨⟨l⟩⟩:=s;simp only at h;rw[h]
def Zet (n d:Int):List UInt8:=if Zaf n d then Zcl n d.toNat else [63]
theorem ZlK {n d:Int} (c:-9223372036854775808<=n) (e:n<=9223372036854775807) (f:d<=9223372036854775807):(Zet n d).length<=60:=by
 unfold Zet;cases hr:Zaf n d
 ·simp
 ·obtain⟨k,rfl,v⟩:=ZgH hr c e f;have a:=ZdV (n:=n) c e;have b:=ZdV (n:=(k:Int)) (by omega) f;rw[Yo rfl,Int.toNat_natCast];unfold Zcl;rw[Yj]
  split
  ·rw[Yl];omega
  ·rw[Yk];omega
theorem Zrp (n d:Int) (w:Yh) (h:Zfa w) (a:-9223372036854775808<=n) (b:n<=9223372036854775807) (f:-9223372036854775808<=d) (c:d<=9223372036854775807) :
  Calls Tryz.prog 18 #[Zb n d] w fun e w'=>e=.returned (txt (Zet n d))/\Below w.heap.size w w':=by
 unfold Zet;cases hr:Zaf n d
 ·exact ZqH w fun w=>by have:=Zdv n d w a b f c;rwa[hr]at this
 ·obtain⟨k,rfl,v⟩:=ZgH hr a b c;rw[Yo rfl,Int.toNat_natCast];exact Zod v w h
theorem ZqE (n d:Int) (w:Yh) (a:-9223372036854775808<=n) (b:n<=9223372036854775807) (f:-9223372036854775808<=d) (c:d<=9223372036854775807) :
  Calls Tryz.prog 20 #[Zb n d] w fun e w'=>e=.returned (txt (Zet n d))/\Below w.heap.size w w':=by
 unfold Zet;cases hr:Zaf n d
 ·exact Zpu w fun w=>by have:=ZaC n d w a b f c;rwa[hr]at this
 ·obtain⟨k,rfl,v⟩:=ZgH hr a b c;rw[Yo rfl,Int.toNat_natCast];exact ZmL v w
def Zcs (r:Int):List UInt8:=if r=-1 then []else [42,107]++Lib.itoa r
def Zgv (k n d r:Int):List UInt8:=if 0<=k/\k<5 then ZbV.getD k.toNat []++[32]++Zet n d++Zcs r else [63]
theorem ZpN {w:Yh} (h:ZeJ w 0 ZbV) {k:Nat} {a:List UInt8} (b:ZbV[k]? = Ya a):w.cell? ⟨0,k,Yb⟩=Ya (txt a):=by obtain⟨t,c,e⟩:=h;simp[World.cell?,e,b]
theorem ZlW {k:Nat} (a:k<5) (n d r:Int):Zgv k n d r=ZbV.getD k []++[32]++Zet n d++Zcs r:=by unfold Zgv;rw[Yo ⟨by omega,by omega⟩,Int.toNat_natCast]
theorem Zkm {k:Int} (h:¬(0<=k/\k<5)) (n d r:Int):Zgv k n d r=[63]:=by unfold Zgv;rw[Yn h]
def shR (b k:Nat) (f e c a:List UInt8) (n d:Int):Nat->Yi->Yh->Prop
 |0,v,_=>v=Ye (Ya ⟨b,0,Yb⟩)
 |1,v,_=>v=Yd Yf k
 |2,v,_=>v=Ye (Ya ⟨0,k,Yb⟩)
 |3,v,_=>v=txt f
 |4,v,_=>v=txt e
 |5,v,_=>v=Ye (Ya ⟨b,1,Yb⟩)
 |6,v,_=>v=Zb n d
 |7,v,_=>v=txt c
 |8,v,_=>v=txt a
 |9,v,_=>v=txt a
 |_,_,_=>True
theorem ZqG (b k:Nat) (i f e c:List UInt8) (n d:Int):∀j v a g,Below a.heap.size a g->shR b k i f e c n d j v a->shR b k i f e c n d j v g
 |0,_,_,_,_,h=>h
 |1,_,_,_,_,h=>h
 |2,_,_,_,_,h=>h
 |3,_,_,_,_,h=>h
 |4,_,_,_,_,h=>h
 |5,_,_,_,_,h=>h
 |6,_,_,_,_,h=>h
 |7,_,_,_,_,h=>h
 |8,_,_,_,_,h=>h
 |9,_,_,_,_,h=>h
 |_+10,_,_,_,_,_=>trivial
theorem Zqy (k:Nat) (R:k<5) (w:Yh) (J:PeTabs w) (n d r s:Int) (O:-9223372036854775808<=n) (P:n<=9223372036854775807) (h3:-9223372036854775808<=d) (Q:d<=9223372036854775807) (h5:-1099511627776<=r) (h6:r<=9223372036854775807) :
  Calls Tryz.prog 7 #[.agg #[Yd Yf k,Yd Yf n,Yd Yf d,Yd Yf r,.int .u32 s]] w fun e w'=>e=.returned (txt (ZbV.getD k []++[32]++Zet n d++Zcs r))/\Below w.heap.size w w':=by
 have p:=zh (fun(w':Yh) (a:Below (w.alloc (Yg #[Yd Yf k,Yd Yf n,Yd Yf d,Yd Yf r,.int .u32 s] 26)).heap.size (w.alloc (Yg #[Yd Yf k,Yd Yf n,Yd Yf d,Yd Yf r,.int .u32 s] 26)) w')=>(Blk.start w #[Yd Yf k,Yd Yf n,Yd Yf d,Yd Yf r,.int .u32 s] 26).keep a);have t:=zh (below_alloc1 w (Yg #[Yd Yf k,Yd Yf n,Yd Yf d,Yd Yf r,.int .u32 s] 26));have S:(w.alloc (Yg #[Yd Yf k,Yd Yf n,Yd Yf d,Yd Yf r,.int .u32 s] 26)).cell? ⟨w.heap.size,0,Yb⟩=Ya (Yd Yf k):=(p.out _ (Below.refl _ _)).cell 0;have U:=zh (fun(k':Int) (w':Yh)=>ZeC k' w');obtain⟨h,K⟩:∃h,ZbV[k]? = Ya h:=⟨_,Ym (show k<ZbV.length from R)⟩
 have E:h.length<=6:=by
  have:∀k<5,(ZbV.getD k []).length<=6:=by decide
  have:=this k R;rwa[List.getD_eq_getElem?_getD,K]at this
 have D:ZbV.getD k []=h:=by rw[List.getD_eq_getElem?_getD,K];rfl
 have V:=zh (fun(w':Yh) (a:Below (w.alloc (Yg #[Yd Yf k,Yd Yf n,Yd Yf d,Yd Yf r,.int .u32 s] 26)).heap.size (w.alloc (Yg #[Yd Yf k,Yd Yf n,Yd Yf d,Yd Yf r,.int .u32 s] 26)) w')=>Zrp n d w' (Zc2 (Zc2 J.ten t.out) a) O P h3 Q);have C:=ZlK (n:=n) (d:=d) O P Q;have A:=zh (fun(w':Yh) (a:Below (w.alloc (Yg #[Yd Yf k,Yd Yf n,Yd Yf d,Yd Yf r,.int .u32 s] 26)).heap.size (w.alloc (Yg #[Yd Yf k,Yd Yf n,Yd Yf d,Yd Yf r,.int .u32 s] 26)) w')=>Zc2 (Zc2 J.ten t.out) a);have X:=zh (fun(w':Yh) (a:Below (w.alloc (Yg #[Yd Yf k,Yd Yf n,Yd Yf d,Yd Yf r,.int .u32 s] 26)).heap.size (w.alloc (Yg #[Yd Yf k,Yd Yf n,Yd Yf d,Yd Yf r,.int .u32 s] 26)) w')=>ZpN ((J.words.below t.out).below a) K);rw[D];generalize Zet n d=G at *;obtain⟨m,u⟩:∃m,m=h++[32]:=⟨_,rfl⟩
 obtain⟨l,I⟩:∃l,l=m++G:=⟨_,rfl⟩
 obtain⟨F,N⟩:∃F,F=l++Zcs r:=⟨_,rfl⟩
 rw[<-u,<-I,<-N];have k1:=congrArg List.length u;have k2:=congrArg List.length I;rw[Yj]at k1 k2;have j:=zh (show h.length<=6/\G.length<=60/\m.length<=7/\l.length<=67/\-1099511627776<=r/\r<=9223372036854775807 from⟨E,C,by simp only[Yk,Yl]at k1;omega,by simp only[Yk,Yl]at k1;omega,h5,h6⟩);have H:=zh (zi u (zi I N));have i0:(0:Int)<=(k:Int):=by omega
 have i1:(k:Int)<5:=by omega
 have M:decide ((0:Int)<=(k:Int))=true:=decide_eq_true i0;have d1:decide ((k:Int)<5)=true:=decide_eq_true i1;clear K E D J O P h3 Q h5 h6 u I N k1 k2 C R;go_enter Tryz.func7,Tryz.ntmps7;go_upto_region 3 with(go_at_call 17;go_fit (U.out _ _);rintro e b ⟨rfl,rfl⟩)
 clear S U;refine Zbw (fun x=>{ tmps:=#[.agg #[Yd Yf k,Yd Yf n,Yd Yf d,Yd Yf r,.int .u32 s],Ye (Ya ⟨w.heap.size,0,Yb⟩),.string ⟨#[]⟩,x 9,Ye (Ya ⟨w.heap.size,0,Yb⟩),Yd Yf k,.bool true,.bool false,x 0,x 1,x 2,x 3,x 4,x 5,x 6,x 7,x 8,undef,undef,undef,undef,undef,undef,undef,undef,undef,undef],defers:=[] }) (fun _=>undef) (shR w.heap.size k h m G l n d) (by kernel_rfl) (by kernel_rfl) (by rfl) ?_ (ZqG w.heap.size k h m G l n d) ?_ ?_
 ·intro i o B x v;have hi:i<10:=(Array.getElem?_eq_some_iff.1 B).1;have hc:i=0\/i=1\/i=2\/i=3\/i=4\/i=5\/i=6\/i=7\/i=8\/i=9:=by omega
  rcases hc with rfl|rfl|rfl|rfl|rfl|rfl|rfl|rfl|rfl|rfl <;>
  ·have e:=Option.some.inj B;subst e;rfl
 ·intro i o B x b a g K' c;have hi:i<10:=(Array.getElem?_eq_some_iff.1 B).1;have hc:i=0\/i=1\/i=2\/i=3\/i=4\/i=5\/i=6\/i=7\/i=8\/i=9:=by omega
  rcases hc with rfl|rfl|rfl|rfl|rfl|rfl|rfl|rfl|rfl|rfl<;>(have e:=Option.some.inj B;subst e)
  ·go_simp;exact c.out _ _ (Below.refl _ _) rfl
  ·have M:=g ⟨0,.data⟩ (by simp) rfl;dsimp only[shR]at M;generalize x 0=z0 at *;subst M;have S:b.cell? ⟨w.heap.size,0,Yb⟩=Ya (Yd Yf k):=(p.out b a).cell 0;go_simp;exact c.out _ _ (Below.refl _ _) rfl
  ·have d1:=g ⟨1,.data⟩ (by simp) rfl;dsimp only[shR]at d1;generalize x 1=z1 at *;subst d1;go_simp;exact c.out _ _ (Below.refl _ _) rfl
  ·have d2:=g ⟨2,.data⟩ (by simp) rfl;dsimp only[shR]at d2;generalize x 2=z2 at *;subst d2;have S:=X.out b a;go_simp;exact c.out _ _ (Below.refl _ _) rfl
  ·have Y:=g ⟨3,.data⟩ (by simp) rfl;dsimp only[shR]at Y;generalize x 3=z3 at *;subst Y;have l0:¬9223372036854775807<h.length+1:=by have:=j.out.1;omega
   go_simp;exact c.out _ _ (Below.refl _ _) (ZeH (by rw[H.out.1];simp))
  ·go_simp;exact c.out _ _ (Below.refl _ _) rfl
  ·have d5:=g ⟨5,.data⟩ (by simp) rfl;dsimp only[shR]at d5;generalize x 5=z5 at *;subst d5;have q1:b.cell? ⟨w.heap.size,1,Yb⟩=Ya (Yd Yf n):=(p.out b a).cell 1;have q2:b.cell? ⟨w.heap.size,2,Yb⟩=Ya (Yd Yf d):=(p.out b a).cell 2;go_simp;exact c.out _ _ (Below.refl _ _) rfl
  ·have d6:=g ⟨6,.data⟩ (by simp) rfl;dsimp only[shR]at d6;generalize x 6=z6 at *;subst d6;go_simp;go_at_call 18;refine(V.out b a).mono ?_;rintro e' w2 ⟨rfl,f⟩;go_wp2_with fail;exact c.out _ _ f rfl
  ·have Z:=g ⟨4,.data⟩ (by simp) rfl;have d7:=g ⟨7,.data⟩ (by simp) rfl;dsimp only[shR]at Z d7;generalize x 4=z4 at *;generalize x 7=z7 at *;subst Z d7;have l1:¬9223372036854775807<m.length+G.length:=by have:=j.out;omega
   go_simp;exact c.out _ _ (Below.refl _ _) (ZeH (by rw[H.out.2.1];simp))
  ·have d8:=g ⟨8,.data⟩ (by simp) rfl;dsimp only[shR]at d8;generalize x 8=z8 at *;subst d8;go_simp;exact c.out _ _ (Below.refl _ _) rfl
 ·intro x b a hx;have h9:=hx 9 (by decide);dsimp only[shR]at h9;generalize x 0=y0 at *;generalize x 1=y1 at *;generalize x 2=y2 at *;generalize x 3=y3 at *;generalize x 4=y4 at *;generalize x 5=y5 at *;generalize x 6=y6 at *;generalize x 7=y7 at *;generalize x 8=y8 at *;generalize x 9=y9 at *;clear hx;subst h9;have z:=zh (t.out.trans (a.mono t.out.size));have r3:b.cell? ⟨w.heap.size,3,Yb⟩=Ya (Yd Yf r):=(p.out b a).cell 3;have W:=zh (A.out b a);have T:=zh (fun(w':Yh) (hp:Zfa w')=>Zqc r w' hp (by have:=j.out;omega) (by have:=j.out;omega));have ls:=ZdV (n:=r) (by have:=j.out;omega) (by have:=j.out;omega);clear A X V p t a;by_cases y:r=-1
  ·have u:(r != -1)=false:=by simpa using y
   have L:=zh (show Zcs r=[]by unfold Zcs;rw[Yo y]);clear y T W ls;go_wp2_with fail;go_ret;exact⟨by rw[H.out.2.2,L.out];exact Zbm (by simp),z.out⟩
  ·have u:(r != -1)=true:=by simpa using y
   have L:=zh (show Zcs r=[42,107]++Lib.itoa r by unfold Zcs;rw[Yn y]);clear y;generalize Lib.itoa r=it at *;have l2:¬9223372036854775807<2+it.length:=by omega
   have l3:¬9223372036854775807<l.length+(2+it.length):=by have:=j.out;omega
   clear ls;go_upto_region 6 with(go_at_call 19;go_fit (T.out _ W.out);rintro e w2 ⟨rfl,f⟩)
   have z:=zh (z.out.trans (f.mono z.out.size));clear f;go_wp2_with fail;go_ret;exact⟨by rw[H.out.2.2,L.out];exact Zbm (by simp),z.out⟩
theorem Zpj (w:Yh) (m:PeTabs w) (k n d r s:Int) (f:-9223372036854775808<=n) (g:n<=9223372036854775807) (h:-9223372036854775808<=d) (i:d<=9223372036854775807) (j:-1099511627776<=r) (l:r<=9223372036854775807) :
  Calls Tryz.prog 7 #[.agg #[Yd Yf k,Yd Yf n,Yd Yf d,Yd Yf r,.int .u32 s]] w fun e w'=>e=.returned (txt (Zgv k n d r))/\Below w.heap.size w w':=by
 by_cases a:0<=k/\k<5
 ·have:=Zqy k.toNat (by omega) w m n d r s f g h i j l;rw[<-ZlW (by omega),Int.toNat_of_nonneg a.1]at this;exact this
 ·rw[Zkm a];have p:(w.alloc (Yg #[Yd Yf k,Yd Yf n,Yd Yf d,Yd Yf r,.int .u32 s] 26)).cell? ⟨w.heap.size,0,Yb⟩=Ya (Yd Yf k):=(Blk.start w #[Yd Yf k,Yd Yf n,Yd Yf d,Yd Yf r,.int .u32 s] 26).cell 0;have o:=zh (below_alloc1 w (Yg #[Yd Yf k,Yd Yf n,Yd Yf d,Yd Yf r,.int .u32 s] 26));have c:(decide (0<=k)&&decide (k<5))=false:=by
   rcases Bool.eq_false_or_eq_true (decide (0<=k)&&decide (k<5))with q|q
   ·simp at q;exact absurd q a
   ·exact q
  have b:=fun w=>ZeC k w;rw[c]at b;clear c a m f g h i j l;go_enter Tryz.func7,Tryz.ntmps7;go_wp2_with (go_at_call 17;go_fit (b _);rintro e t ⟨rfl,rfl⟩);go_ret;exact⟨rfl,o.out⟩
end
section
open Go.RowKit
def Zeu (b k:Nat) (f e c a:List UInt8) (n d:Int):Nat->Yi->Yh->Prop
 |0,v,w=>∃g,v=.slice (Ya ⟨g,0,Yb⟩) 5 5/\Blk w g #[txt [117,110,105,113,117,101],txt [102,117,108,108],txt [115,104,97,114,101],txt [105,109,109],txt [112,117,114,101]]
 |1,v,_=>v=Ye (Ya ⟨b,0,Yb⟩)
 |2,v,_=>v=Yd Yf k
 |3,v,w=>∃g,v=Ye (Ya ⟨g,k,Yb⟩)/\Blk w g #[txt [117,110,105,113,117,101],txt [102,117,108,108],txt [115,104,97,114,101],txt [105,109,109],txt [112,117,114,101]]
 |4,v,_=>v=txt f
 |5,v,_=>v=txt e
 |6,v,_=>v=Ye (Ya ⟨b,1,Yb⟩)
 |7,v,_=>v=Zb n d
 |8,v,_=>v=txt c
 |9,v,_=>v=txt a
 |10,v,_=>v=txt a
 |_,_,_=>True
theorem Zps (b k:Nat) (m i f c:List UInt8) (n d:Int):∀j v a l,Below a.heap.size a l->Zeu b k m i f c n d j v a->Zeu b k m i f c n d j v l
 |0,_,_,_,hb,h=>by obtain⟨g,e,B⟩:=h;exact⟨g,e,B.keep hb⟩
 |1,_,_,_,_,h=>h
 |2,_,_,_,_,h=>h
 |3,_,_,_,hb,h=>by obtain⟨g,e,B⟩:=h;exact⟨g,e,B.keep hb⟩
 |4,_,_,_,_,h=>h
 |5,_,_,_,_,h=>h
 |6,_,_,_,_,h=>h
 |7,_,_,_,_,h=>h
 |8,_,_,_,_,h=>h
 |9,_,_,_,_,h=>h
 |10,_,_,_,_,h=>h
 |_+11,_,_,_,_,_=>trivial
theorem ZqD (k:Nat) (Z:k<5) (w:Yh) (n d r s:Int) (W:-9223372036854775808<=n) (X:n<=9223372036854775807) (h3:-9223372036854775808<=d) (Y:d<=9223372036854775807) (h5:-1099511627776<=r) (h6:r<=9223372036854775807) :
  Calls Tryz.prog 8 #[.agg #[Yd Yf k,Yd Yf n,Yd Yf d,Yd Yf r,.int .u32 s]] w fun e w'=>e=.returned (txt (ZbV.getD k []++[32]++Zet n d++Zcs r))/\Below w.heap.size w w':=by
 have z:=zh (fun(w':Yh) (h:Below (w.alloc (Yg #[Yd Yf k,Yd Yf n,Yd Yf d,Yd Yf r,.int .u32 s] 26)).heap.size (w.alloc (Yg #[Yd Yf k,Yd Yf n,Yd Yf d,Yd Yf r,.int .u32 s] 26)) w')=>(Blk.start w #[Yd Yf k,Yd Yf n,Yd Yf d,Yd Yf r,.int .u32 s] 26).keep h);have P:=zh (below_alloc1 w (Yg #[Yd Yf k,Yd Yf n,Yd Yf d,Yd Yf r,.int .u32 s] 26));have q0:(w.alloc (Yg #[Yd Yf k,Yd Yf n,Yd Yf d,Yd Yf r,.int .u32 s] 26)).cell? ⟨w.heap.size,0,Yb⟩=Ya (Yd Yf k):=(z.out _ (Below.refl _ _)).cell 0;obtain⟨j,M⟩:∃j,ZbV[k]? = Ya j:=⟨_,Ym (show k<ZbV.length from Z)⟩
 have H:j.length<=6:=by
  have:∀k<5,(ZbV.getD k []).length<=6:=by decide
  have:=this k Z;rwa[List.getD_eq_getElem?_getD,M]at this
 have G:ZbV.getD k []=j:=by rw[List.getD_eq_getElem?_getD,M];rfl
 have SH:=zh (fun(w':Yh) (h:Below (w.alloc (Yg #[Yd Yf k,Yd Yf n,Yd Yf d,Yd Yf r,.int .u32 s] 26)).heap.size (w.alloc (Yg #[Yd Yf k,Yd Yf n,Yd Yf d,Yd Yf r,.int .u32 s] 26)) w')=>ZqE n d w' W X h3 Y);have F:=ZlK (n:=n) (d:=d) W X Y
 have WC:=zh (show(#[txt [117,110,105,113,117,101],txt [102,117,108,108],txt [115,104,97,114,101],txt [105,109,109],txt [112,117,114,101]]:Array Yi)[k]? = Ya (txt j)from by
  have e:(#[txt [117,110,105,113,117,101],txt [102,117,108,108],txt [115,104,97,114,101],txt [105,109,109],txt [112,117,114,101]]:Array Yi)=(ZbV.map txt).toArray:=rfl;rw[e]
  simp[M])
 rw[G];generalize Zet n d=J at *;obtain⟨y,A⟩:∃y,y=j++[32]:=⟨_,rfl⟩
 obtain⟨l,B⟩:∃l,l=y++J:=⟨_,rfl⟩
 obtain⟨I,L⟩:∃I,I=l++Zcs r:=⟨_,rfl⟩
 rw[<-A,<-B,<-L];have k1:=congrArg List.length A;have k2:=congrArg List.length B;rw[Yj]at k1 k2;have c:=zh (show j.length<=6/\J.length<=60/\y.length<=7/\l.length<=67/\-1099511627776<=r/\r<=9223372036854775807 from⟨H,F,by simp only[Yk,Yl]at k1;omega,by simp only[Yk,Yl]at k1;omega,h5,h6⟩);have C:=zh (zi A (zi B L));have i0:(0:Int)<=(k:Int):=by omega
 have i1:(k:Int)<5:=by omega
 have Q:decide ((0:Int)<=(k:Int))=true:=decide_eq_true i0;have d1:decide ((k:Int)<5)=true:=decide_eq_true i1;have d2:decide ((k:Int)<0)=false:=decide_eq_false (by omega);have R:decide ((k:Int) > 4)=false:=decide_eq_false (by omega);have S:decide ((4:Int)<(k:Int))=false:=decide_eq_false (by omega);have T:¬(4:Int)<(k:Int):=by omega
 have U:¬(k:Int)<0:=by omega
 clear M H G W X h3 Y h5 h6 A B L k1 k2 F Z;go_enter Tryz.func8,Tryz.ntmps8;go_upto_region 3 with fail;clear q0;refine Zbw (fun x=>{ tmps:=#[.agg #[Yd Yf k,Yd Yf n,Yd Yf d,Yd Yf r,.int .u32 s],Ye (Ya ⟨w.heap.size,0,Yb⟩),.string ⟨#[]⟩,x 10,Ye (Ya ⟨w.heap.size,0,Yb⟩),Yd Yf k,.bool false,.bool false,Ye (Ya ⟨w.heap.size,0,Yb⟩),Yd Yf k,.bool false,.bool false,x 0,x 1,x 2,x 3,x 4,x 5,x 6,x 7,x 8,x 9,undef,undef,undef,undef,undef,undef,undef,undef,undef,undef,undef,undef,undef,undef,undef,undef,undef,undef,undef,undef],defers:=[] }) (fun _=>undef) (Zeu w.heap.size k j y J l n d) (by kernel_rfl) (by kernel_rfl) (by rfl) ?_ (Zps w.heap.size k j y J l n d) ?_ ?_
 ·intro i o E x v;have hi:i<11:=(Array.getElem?_eq_some_iff.1 E).1;have hc:i=0\/i=1\/i=2\/i=3\/i=4\/i=5\/i=6\/i=7\/i=8\/i=9\/i=10:=by omega
  rcases hc with rfl|rfl|rfl|rfl|rfl|rfl|rfl|rfl|rfl|rfl|rfl <;>
  ·have e:=Option.some.inj E;subst e;rfl
 ·intro i o E x b h m K' f;have hi:i<11:=(Array.getElem?_eq_some_iff.1 E).1;have hc:i=0\/i=1\/i=2\/i=3\/i=4\/i=5\/i=6\/i=7\/i=8\/i=9\/i=10:=by omega
  rcases hc with rfl|rfl|rfl|rfl|rfl|rfl|rfl|rfl|rfl|rfl|rfl<;>(have e:=Option.some.inj E;subst e)
  ·go_simp;exact f.out _ _ (below_alloc1 _ _) ⟨_,rfl,Blk.start b #[txt [117,110,105,113,117,101],txt [102,117,108,108],txt [115,104,97,114,101],txt [105,109,109],txt [112,117,114,101]] 9⟩
  ·go_simp;exact f.out _ _ (Below.refl _ _) rfl
  ·have d1:=m ⟨1,.data⟩ (by simp) rfl;dsimp only[Zeu]at d1;generalize x 1=z1 at *;subst d1;have q0:b.cell? ⟨w.heap.size,0,Yb⟩=Ya (Yd Yf k):=(z.out b h).cell 0;go_simp;exact f.out _ _ (Below.refl _ _) rfl
  ·have Q:=m ⟨0,.data⟩ (by simp) rfl;have d2:=m ⟨2,.data⟩ (by simp) rfl;dsimp only[Zeu]at Q d2;generalize x 0=z0 at *;generalize x 2=z2 at *;subst d2;obtain⟨g,rfl,N⟩:=Q;go_simp;exact f.out _ _ (Below.refl _ _) ⟨g,by simp,N⟩
  ·have R:=m ⟨3,.data⟩ (by simp) rfl;dsimp only[Zeu]at R;generalize x 3=z3 at *;obtain⟨g,rfl,N⟩:=R;have q0:b.cell? ⟨g,k,Yb⟩=Ya (txt j):=(N.cell k).trans WC.out;go_simp;exact f.out _ _ (Below.refl _ _) rfl
  ·have S:=m ⟨4,.data⟩ (by simp) rfl;dsimp only[Zeu]at S;generalize x 4=z4 at *;subst S;have l0:¬9223372036854775807<j.length+1:=by have:=c.out.1;omega
   go_simp;exact f.out _ _ (Below.refl _ _) (ZeH (by rw[C.out.1];simp))
  ·go_simp;exact f.out _ _ (Below.refl _ _) rfl
  ·have U:=m ⟨6,.data⟩ (by simp) rfl;dsimp only[Zeu]at U;generalize x 6=z6 at *;subst U;have q1:b.cell? ⟨w.heap.size,1,Yb⟩=Ya (Yd Yf n):=(z.out b h).cell 1;have q2:b.cell? ⟨w.heap.size,2,Yb⟩=Ya (Yd Yf d):=(z.out b h).cell 2;go_simp;exact f.out _ _ (Below.refl _ _) rfl
  ·have d7:=m ⟨7,.data⟩ (by simp) rfl;dsimp only[Zeu]at d7;generalize x 7=z7 at *;subst d7;go_simp;go_at_call 20;refine(SH.out b h).mono ?_;rintro e' w2 ⟨rfl,a⟩;go_wp2_with fail;exact f.out _ _ a rfl
  ·have T:=m ⟨5,.data⟩ (by simp) rfl;have d8:=m ⟨8,.data⟩ (by simp) rfl;dsimp only[Zeu]at T d8;generalize x 5=z5 at *;generalize x 8=z8 at *;subst T d8;have l1:¬9223372036854775807<y.length+J.length:=by have:=c.out;omega
   go_simp;exact f.out _ _ (Below.refl _ _) (ZeH (by rw[C.out.2.1];simp))
  ·have d9:=m ⟨9,.data⟩ (by simp) rfl;dsimp only[Zeu]at d9;generalize x 9=z9 at *;subst d9;go_simp;exact f.out _ _ (Below.refl _ _) rfl
 ·intro x b h hx;have h9:=hx 10 (by decide);dsimp only[Zeu]at h9;generalize x 0=y0 at *;generalize x 1=y1 at *;generalize x 2=y2 at *;generalize x 3=y3 at *;generalize x 4=y4 at *;generalize x 5=y5 at *;generalize x 6=y6 at *;generalize x 7=y7 at *;generalize x 8=y8 at *;generalize x 9=y9 at *;generalize x 10=ap at *;clear hx;subst h9;have p:=zh (P.out.trans (h.mono P.out.size));have r3:b.cell? ⟨w.heap.size,3,Yb⟩=Ya (Yd Yf r):=(z.out b h).cell 3;clear WC SH z P h;by_cases u:r=-1
  ·have A:(r==-1)=true:=by simpa using u
   have D:=zh (show Zcs r=[]by unfold Zcs;rw[Yo u]);clear u;go_wp2_with fail;go_ret;exact⟨by rw[C.out.2.2,D.out];exact Zbm (by simp),p.out⟩
  ·have A:(r==-1)=false:=by simpa using u
   have K:Zcs r=[42,107]++Lib.itoa r:=by unfold Zcs;rw[Yn u]
   by_cases t:r<0
   ·have B:decide (r<0)=true:=decide_eq_true t;have L:IntKind.i64.wrap (-r)=-r:=IntWalk.i64_in _ (by have:=c.out;omega);have D:=zh (show Zcs r=[42,107]++(45::Lib.decDigits r.natAbs)by rw[K];unfold Lib.itoa;rw[Yo t]);have ls:=Zef r.natAbs (by have:=c.out;omega);have O:=zh (fun w'=>Zmp r t (by have:=c.out;omega) w');generalize Lib.decDigits r.natAbs=V at *;have l2:¬9223372036854775807<l.length+3:=by have:=c.out;omega
    have l3:¬9223372036854775807<l.length+3+V.length:=by have:=c.out;omega
    clear u K t ls;go_wp2_with (go_at_call 21;go_fit (O.out _);rintro e w2 ⟨rfl,a⟩);have p:=zh (p.out.trans (a.mono p.out.size));clear a;(try go_wp2_with fail);go_ret;exact⟨by rw[C.out.2.2,D.out];exact Zbm (by simp),p.out⟩
   ·have B:decide (r<0)=false:=decide_eq_false t;have D:=zh (show Zcs r=[42,107]++Lib.decDigits r.toNat by rw[K];unfold Lib.itoa;rw[Yn t]);have ls:=Zef r.toNat (by have:=c.out;omega);have O:=zh (fun w'=>Zmq r t (by have:=c.out;omega) w');generalize Lib.decDigits r.toNat=V at *;have l2:¬9223372036854775807<l.length+2:=by have:=c.out;omega
    have l3:¬9223372036854775807<l.length+2+V.length:=by have:=c.out;omega
    clear u K t ls;go_wp2_with (go_at_call 21;go_fit (O.out _);rintro e w2 ⟨rfl,a⟩);have p:=zh (p.out.trans (a.mono p.out.size));clear a;(try go_wp2_with fail);go_ret;exact⟨by rw[C.out.2.2,D.out];exact Zbm (by simp),p.out⟩
theorem Zpt (w:Yh) (k n d r s:Int) (b:-9223372036854775808<=n) (c:n<=9223372036854775807) (f:-9223372036854775808<=d) (g:d<=9223372036854775807) (h:-1099511627776<=r) (i:r<=9223372036854775807) :
  Calls Tryz.prog 8 #[.agg #[Yd Yf k,Yd Yf n,Yd Yf d,Yd Yf r,.int .u32 s]] w fun e w'=>e=.returned (txt (Zgv k n d r))/\Below w.heap.size w w':=by
 by_cases a:0<=k/\k<5
 ·have:=ZqD k.toNat (by omega) w n d r s b c f g h i;rw[<-ZlW (by omega),Int.toNat_of_nonneg a.1]at this;exact this
 ·rw[Zkm a];have t:(w.alloc (Yg #[Yd Yf k,Yd Yf n,Yd Yf d,Yd Yf r,.int .u32 s] 26)).cell? ⟨w.heap.size,0,Yb⟩=Ya (Yd Yf k):=(Blk.start w #[Yd Yf k,Yd Yf n,Yd Yf d,Yd Yf r,.int .u32 s] 26).cell 0;have j:=zh (below_alloc1 w (Yg #[Yd Yf k,Yd Yf n,Yd Yf d,Yd Yf r,.int .u32 s] 26));by_cases l:k<0
  ·have m:decide (k<0)=true:=decide_eq_true l;clear a b c f g h i;go_enter Tryz.func8,Tryz.ntmps8;go_wp2_with fail;go_ret;exact⟨rfl,j.out⟩
  ·have m:decide (k<0)=false:=decide_eq_false l;have o:decide (k > 4)=true:=decide_eq_true (by omega);have p:(4:Int)<k:=by omega
   clear a b c f g h i;go_enter Tryz.func8,Tryz.ntmps8;go_wp2_with fail;go_ret;exact⟨rfl,j.out⟩
end
section
open Go.RowKit
theorem ZlL (n d m e:Int) (w:Yh) (a:∀w,Calls Tryz.prog 37 #[Zb n d] w fun r w'=>r=.returned (.bool (Zaf n d))/\Below w.heap.size w w')
  (c:∀w,Calls Tryz.prog 37 #[Zb m e] w fun r w'=>r=.returned (.bool (Zaf m e))/\Below w.heap.size w w') (h:Zaf n d=false\/(Zaf n d=true/\Zaf m e=false)) :
  Calls Tryz.prog 158 #[Zb n d,Zb m e] w fun r w'=>r=.returned (Yd Yf 0)/\Below w.heap.size w w':=by
 have L:=((Live.start w).box n d).boxAt m e (w.heap.size+1) (by simp);rcases h with h|⟨h,g⟩
 ·rw[h]at a;clear h c;go_enter Tryz.func158,Tryz.ntmps158;go_wp2_with (go_at_call 37;go_fit (a _);rintro e f ⟨rfl,b⟩;have L:=L.call b);go_ret;exact⟨rfl,L.below⟩
 ·rw[h]at a;rw[g]at c;clear h g;go_enter Tryz.func158,Tryz.ntmps158;go_wp2_with (go_at_call 37;(first|with_reducible refine(a _).mono ?_|with_reducible refine(c _).mono ?_);rintro e f ⟨rfl,b⟩;have L:=L.call b;have a0:=L.n 0 rfl;have i:=L.d 0 rfl);go_ret;exact⟨rfl,L.below⟩
theorem Zlb {n m:Int} {d e:Nat} (v:Valid n d) (u:Valid m e) (w:Yh) :
  Calls Tryz.prog 158 #[Zb n d,Zb m e] w fun r w'=>r=.returned (Yd Yf (ZbY n m d e))/\Below w.heap.size w w':=by
 obtain⟨a,b⟩:=Zks n m d e;refine ZkN v u rfl rfl ?_ w;rw[Int.natAbs_natCast,Int.natAbs_natCast,a];unfold ZbY;by_cases z:n*(e:Int)=m*(d:Int)
 ·rw[Yn (by omega),Yo z,Yo (by omega)]
 ·rw[b (by omega),Yn (show ¬(n*(e:Int)-m*(d:Int)).natAbs=0 by omega)];by_cases l:n*(e:Int)<m*(d:Int)
  ·rw[Yo l,Yo (decide_eq_true (by omega))]
  ·rw[Yn l,Yn z,Yn (by simp;omega)]
end
end Go.Proofs.YtbfnnolakggbfaaGreatDoor
