import Derived.Below
import Derived.Laws.OwnMore
import Derived.Deep.AppendLies
import Derived.Deep.Draws
import Derived.Maps.AppendAt
import Derived.RegionTactic
import Derived.OwnWalk
import Derived.Deep.RegionHeld
import Derived.Laws.Rows
import Derived.OneCell
import Derived.WalkKit
import Derived.BigRegion
import Derived.Deep.RegionHeld3
import Derived.OrdersHeld
set_option maxRecDepth 100000
set_option maxHeartbeats 8000000
open Option renaming some → Ya
open Go.Value renaming slice → Yc
open Go renaming World → Yh, Value → Yi
namespace Go.Proofs.YtdkegpkfjgloeaaGreatDoor
section
open Go.RowKit
theorem cl.{u} {b:Type u}:(∀(c:List b) (i:Nat) (h:i<c.toArray.size),c.toArray[i]=c[i]'(by simpa using h))/\(∀(a:b) (ys:List b) (i:Nat) (h:i+1<(a::ys).length),(a::ys)[i+1]=ys[i]'(Nat.lt_of_succ_lt_succ h))/\(∀(a:b) (ys:List b) (h:0<(a::ys).length),(a::ys)[0]'h=a)/\(∀(c:List b) (i:Nat) (v:b),c.toArray.setIfInBounds i v=(c.set i v).toArray)/\(∀(a v:b) (ys:List b),(a::ys).set 0 v=v::ys)/\∀(a v:b) (ys:List b) (i:Nat),(a::ys).set (i+1) v=a::ys.set i v:=
 ⟨fun _ _ _=>List.getElem_toArray _,fun _ _ _ _=>rfl,fun _ _ _=>rfl,fun _ _ _=>List.setIfInBounds_toArray _ _ _,fun _ _ _=>rfl,fun _ _ _ _=>rfl⟩
section
variable {P:Program} {ops:Array Oper} {Q:Exit->Act->Yh->Prop} {md:Region.Mode} {S:Yh->Prop} {fuel:Nat} {listed:Array Bool} {a:Act} {w:Yh}
theorem tk (i:Nat) {b:Oper} (j:ops[i]? = Ya b) {v:Yi} (h:wpAnyH P md ops Q S fuel (listed.setIfInBounds i true) (a.put b.dst v) w) (m:∀w':Yh,S w'->Sem.run P (execOp a.eval b) w'=.ok (.value v) w':=by intro _ d;(try dsimp only at d);go_simp<;>with_reducible rfl)
  (l:Region.noSelect ops=true:=by kernel_rfl) (g:Region.free md ops listed i=true:=by kernel_rfl) (k:(Region.ready md ops listed).contains i=true:=by kernel_rfl) (e:∀c a w,Q (.panic c) (a.put b.dst v) w->Q (.panic c) a w:=by exact fun _ _ _ h=>h) (hn:Region.wanted b (yielded ops a.tmps)=true:=by rfl) (f:S w:=by assumption):wpAnyH P md ops Q S (fuel+1) listed a w:=
 wpAnyH_take j l g k e (.inl ⟨hn,m⟩) f h
theorem rd (i:Nat) {o:Oper} (c:ops[i]? = Ya o) (h:∀b:Act->Yh->Prop,Shut (∀a w,S w->(S w->wpAnyH P md ops Q S fuel (listed.setIfInBounds i true) a w)->b a w)->if Region.wanted o (yielded ops a.tmps)=true then Oper.wp P o a w b Q else b (a.put o.dst undef) w)
  (d:Region.ready md ops listed=[i]:=by kernel_rfl):wpAnyH P md ops Q S (fuel+1) listed a w:=wpAnyH_ready d (by simp) (AllReadyH.cons c h AllReadyH.nil)
end
theorem Zbq (a:Addr) (n:Nat):(a.add n).block=a.block:=by unfold Addr.add;split<;>rfl
theorem Zfy (a:Addr) (i j:Nat):(a.add i).add j=a.add (i+j):=by unfold Addr.add;by_cases b:i=0<;>by_cases c:j=0<;>simp[b,c,Nat.add_assoc]
def ZO (w:Yh) (B a:Nat) (A:Option Addr) (n:Nat) (c:List Yi):Prop:=
 c.length=n*a/\(0<n->∃b,A=Ya b/\b.block<B/\∀j u,c[j]? = Ya u->w.cell? (b.add j)=Ya u)
section
variable {w w':Yh} {B B' size n:Nat} {A:Option Addr} {xs:List Yi}
theorem ZO.none_:ZO w B size A 0 []:=⟨by simp,fun h=>absurd h (by omega)⟩
theorem ZO.at_ {k:Nat} (h:ZO w B 1 A n xs) (hk:k<n):∃a u,A=Ya a/\a.block<B/\xs[k]? = Ya u/\w.cell? (a.add k)=Ya u:=by
 obtain⟨a,e,c,hc⟩:=h.2 (by omega);have b:k<xs.length:=by have:=h.1;omega
 exact⟨a,xs[k],e,c,List.getElem?_eq_getElem b,hc k _ (List.getElem?_eq_getElem b)⟩
theorem ZO.keep (h:ZO w B size A n xs) (hk:∀p:Addr,p.block<B->w'.cell? p=w.cell? p):ZO w' B size A n xs:=
 ⟨h.1,fun hn=>by
  obtain⟨b,e,a,hc⟩:=h.2 hn
  exact⟨b,e,a,fun j u c=>(hk _ (by rw[Zbq];exact a)).trans (hc j u c)⟩⟩
theorem ZO.more (h:ZO w B size A n xs) (b:B<=B'):ZO w B' size A n xs:=
 ⟨h.1,fun hn=>by
  obtain⟨a,e,c,hc⟩:=h.2 hn
  exact⟨a,e,by omega,hc⟩⟩
theorem ZO.below (h:ZO w B size A n xs) (a:Below B w w'):ZO w' B size A n xs:=h.keep fun _ b=>a.cell b
theorem ZO.drew (h:ZO w B size A n xs):ZO w.drew B size A n xs:=h
theorem ZO.drewN (h:ZO w B size A n xs) (k:Nat):ZO (w.drewN k) B size A n xs:=h
theorem ZO.alloc (h:ZO w B size A n xs) (a:B<=w.heap.size) (o:Obj):ZO (w.alloc o) B size A n xs:=h.keep fun p b=>World.cell?_alloc_lt w o p (by omega)
theorem ZO.setCell (h:ZO w B size A n xs) {p:Addr} (a:B<=p.block) (u:Yi):ZO (w.setCell p u) B size A n xs:=
 h.keep fun q hq=>World.cell?_setCell_other w p q u (fun e=>by subst e;omega)
theorem ZO.grown (h:ZO w B size A n xs) {row:Option Nat} (a:w.grownBy w' row) (c:B<=w.heap.size) (b:∀g,row=Ya g->B<=g):ZO w' B size A n xs:=
 h.keep fun p d=>World.cell?_of_block (a.block p.block (by omega) (fun e=>by have:=b _ e.symm;omega))
theorem ZO.cut (h:ZO w B size A n xs) {k cap:Nat} (hk:k<=n) (hc:n<=cap) :
  ZO w B size (if cap=k then A else A.map (·.add (k*size))) (n-k) (xs.drop (k*size)):=by
 refine⟨by rw[List.length_drop,h.1,Nat.sub_mul],fun hn=>?_⟩;obtain⟨b,rfl,c,a⟩:=h.2 (by omega);rw[if_neg (by omega)];refine⟨b.add (k*size),rfl,by rw[Zbq];exact c,fun j u d=>?_⟩;rw[Zfy];exact a _ u (by rw[<-d,List.getElem?_drop])
theorem ZO.of_own {a:Nat} {e:TypeId} {c:Nat} (h:w.ownsRow a e size (Yc A n c) n xs):ZO w w.heap.size size A n xs:=by
 refine⟨h.1,fun hn=>?_⟩;obtain⟨g,d,hv,_,b⟩:=h.form hn;have f:A=Ya ⟨g,0,none⟩:=by injection hv
 subst f;exact⟨_,rfl,b,h.cells (g:=g) rfl⟩
end
section
variable {P:Program} (w:Yh)
theorem ZhV (a:Nat) (t ty e:TypeId) (i:TypeInfo) (d:Nat) (j:P.underlying t=Ya (.slice e)) (h:P.info? e=Ya i)
  (v:Yi) (n:Nat) (m:List Yi) (b:w.ownsRow a e d v n m) (c:Nat):(Builtin.append_ #[t,t] ty #[v,Yc none 0 c]).run P w=.ok v w:=by
 rcases b.2 with⟨rfl,rfl⟩|⟨g,k,l,rfl,_,_,f,_⟩
 ·simp[Builtin.append_,run_underlying j,sizeOf,typeInfo,h,Builtin.lenOf,Builtin.firstCells]
 ·simp[Builtin.append_,run_underlying j,sizeOf,typeInfo,h,Builtin.lenOf,Builtin.firstCells,f,storeCells]
theorem Zjm (d:Nat) (t ty e:TypeId) (i:TypeInfo) (z:Yi) (a f:Nat) (J:P.underlying t=Ya (.slice e)) (I:P.info? e=Ya i) (R:i.zero=Ya z)
  (q:i.size=a) (F:i.bytes=f) (H:z.cells.size=a) (G:0<a)
  (v:Yi) (n:Nat) (C:List Yi) (g:w.ownsRow d e a v n C)
  (B:Nat) (A:Option Addr) (m c:Nat) (b:List Yi) (s:ZO w B a A m b) (M:∀u∈b,u.oneCell'=true)
  (E:n+m<=maxLen) (k:(n+m)*f<=140737488355328) (p:d<=w.heap.size) :
  ∃r w',(Builtin.append_ #[t,t] ty #[v,Yc A m c]).run P w=.ok r w'/\w'.ownsRow d e a r (n+m) (C++b)/\w.grownBy w' v.ownBlock ∧
   (r.ownBlock=v.ownBlock\/r.ownBlock=Ya w.heap.size):=by
 rcases A with _|D
 ·have hm:m=0:=by
   rcases Nat.eq_zero_or_pos m with o|o
   ·exact o
   ·obtain⟨D,h,_⟩:=s.2 o;cases h
  subst hm;have hn:b=[]:=List.eq_nil_of_length_eq_zero (by simpa using s.1);subst hn;exact⟨v,w,ZhV w d t ty e i a J I v n C g c,by simpa using g,World.grownBy.refl w _,.inl rfl⟩
 ·have l:∀j u,b[j]? = Ya u->w.cell? (D.add j)=Ya u:=by
   intro j u K;rcases Nat.eq_zero_or_pos m with o|o
   ·subst o;have hn:b=[]:=List.eq_nil_of_length_eq_zero (by simpa using s.1);subst hn;simp at K
   ·obtain⟨L,h,_,hc⟩:=s.2 o;injection h with h;subst h;exact hc j u K
  obtain⟨r,w',y,N,O,_,Q⟩:=run_append_own_at (P:=P) w d t ty e i z a f J I R q F H G v n C g D m c b s.1 l M E k p;exact⟨r,w',y,N,O,Q⟩
theorem Zg8 {o:Oper} {a:Act} {K:Act->Yh->Prop} {Q:Exit->Act->Yh->Prop} (s x:Operand) (t:TypeId)
  (M:o.op=.call { callee:=.builtin .append,args:=#[s,x],argTypes:=#[t,t] })
  (f:Nat) (e:TypeId) (i:TypeInfo) (z:Yi) (b d:Nat) (R:P.underlying t=Ya (.slice e)) (L:P.info? e=Ya i) (S:i.zero=Ya z)
  (l:i.size=b) (C:i.bytes=d) (E:z.cells.size=b) (D:0<b)
  (v:Yi) (n:Nat) (F:List Yi) (O:a.eval s=v) (q:w.ownsRow f e b v n F)
  (B:Nat) (A:Option Addr) (m c:Nat) (g:List Yi) (hx:a.eval x=Yc A m c) (N:ZO w B b A m g) (G:∀u∈g,u.oneCell'=true)
  (y:n+m<=maxLen) (j:(n+m)*d<=140737488355328) (k:f<=w.heap.size)
  (h:∀p w',w'.ownsRow f e b p (n+m) (F++g)->w.grownBy w' v.ownBlock->(p.ownBlock=v.ownBlock\/p.ownBlock=Ya w.heap.size)->K (a.put o.dst p) w'):o.wp P a w K Q:=by
 obtain⟨p,w',r,H,I,J⟩:=Zjm (P:=P) w f t o.type e i z b d R L S l C E D v n F q B A m c g N G y j k;unfold Oper.wp execOp;simp only[M,resolve,invoke,builtin,Sem.run_bind,Sem.run_pure,Result.andThen_ok,List.map_toArray,List.map_cons,List.map_nil,O,hx,r];exact h p w' H I J
theorem ZaV {r:Array Oper} {rest:List Oper} {o:Oper} {a:Act} {Q:Exit->Act->Yh->Prop} (D:o.guard=none) (s x:Operand) (t:TypeId)
  (N:o.op=.call { callee:=.builtin .append,args:=#[s,x],argTypes:=#[t,t] })
  (f:Nat) (e:TypeId) (i:TypeInfo) (z:Yi) (b d:Nat) (S:P.underlying t=Ya (.slice e)) (M:P.info? e=Ya i) (T:i.zero=Ya z)
  (l:i.size=b) (C:i.bytes=d) (F:z.cells.size=b) (E:0<b)
  (v:Yi) (n:Nat) (G:List Yi) (R:a.eval s=v) (q:w.ownsRow f e b v n G)
  (B:Nat) (A:Option Addr) (m c:Nat) (g:List Yi) (hx:a.eval x=Yc A m c) (O:ZO w B b A m g) (H:∀u∈g,u.oneCell'=true)
  (y:n+m<=maxLen) (j:(n+m)*d<=140737488355328) (k:f<=w.heap.size)
  (h:∀p w',w'.ownsRow f e b p (n+m) (G++g)->w.grownBy w' v.ownBlock->(p.ownBlock=v.ownBlock\/p.ownBlock=Ya w.heap.size)->wpList P r Q rest (a.put o.dst p) w'):wpList P r Q (o::rest) a w:=
 wpList_plain D fun _ L=>Zg8 w s x t N f e i z b d S M T l C F E v n G R q B A m c g hx O H y j k fun p w' I J K=>L _ _ (h p w' I J K)
theorem ZaL {q:Array Oper} {o:Oper} {a:Act} {K:Act->Yh->Prop} {Q:Exit->Act->Yh->Prop} {E:Prop} (D:o.guard=none) (s x:Operand) (t:TypeId)
  (L:o.op=.call { callee:=.builtin .append,args:=#[s,x],argTypes:=#[t,t] })
  (f:Nat) (e:TypeId) (i:TypeInfo) (z:Yi) (b d:Nat) (O:P.underlying t=Ya (.slice e)) (J:P.info? e=Ya i) (S:i.zero=Ya z)
  (l:i.size=b) (C:i.bytes=d) (G:z.cells.size=b) (F:0<b)
  (v:Yi) (n:Nat) (H:List Yi) (N:a.eval s=v) (p:w.ownsRow f e b v n H)
  (B:Nat) (A:Option Addr) (m c:Nat) (g:List Yi) (hx:a.eval x=Yc A m c) (M:ZO w B b A m g) (I:∀u∈g,u.oneCell'=true)
  (y:n+m<=maxLen) (j:(n+m)*d<=140737488355328) (k:f<=w.heap.size)
  (h:∀r w',w'.ownsRow f e b r (n+m) (H++g)->w.grownBy w' v.ownBlock->(r.ownBlock=v.ownBlock\/r.ownBlock=Ya w.heap.size)->K (a.put o.dst r) w') :
  if Region.wanted o (yielded q a.tmps)=true then Oper.wp P o a w K Q else E:=by
 have R:Region.wanted o (yielded q a.tmps)=true:=by simp[Region.wanted,D]
 rw[if_pos R];exact Zg8 w s x t L f e i z b d O J S l C G F v n H N p B A m c g hx M I y j k h
end
end
section
universe u
theorem Yj {α : Type u} {a b : List α} : (a ++ b).length = a.length + b.length := List.length_append
theorem Yk {α : Type u} {x : α} {a : List α} : (x :: a).length = a.length + 1 := List.length_cons
theorem Yl {α : Type u} : ([] : List α).length = 0 := List.length_nil
theorem Ym {α : Type u} {l : List α} {i : Nat} (h : i < l.length) : l[i]? = some l[i] := List.getElem?_eq_getElem h
theorem Yn {c : Prop} {h : Decidable c} (n : ¬c) {α : Sort u} {t e : α} : ite c t e = e := if_neg n
theorem Yo {c : Prop} {h : Decidable c} (n : c) {α : Sort u} {t e : α} : ite c t e = t := if_pos n
theorem zh {p:Prop} (h:p):Go.RowKit.Hid p:=h
theorem zi {a b:Prop} (h:a) (k:b):a/\b:=⟨h,k⟩
open Go.RowKit
def Blk (w:Yh) (b:Nat) (cs:Array Yi):Prop:=∃a,w.heap[b]? = Ya (.cells cs a (0,0))
section
variable {w w':Yh} {b:Nat} {cs:Array Yi}
theorem Blk.cell (h:Blk w b cs) (i:Nat):w.cell? ⟨b,i,none⟩=cs[i]?:=by obtain⟨a,h⟩:=h;simp[World.cell?,h]
theorem Blk.free (h:Blk w b cs) (i:Nat):w.frozen? ⟨b,i,none⟩=false:=by obtain⟨a,h⟩:=h;simp[World.frozen?,h]
theorem Blk.lt (h:Blk w b cs):b<w.heap.size:=by obtain⟨a,h⟩:=h;exact lt_of_block h
theorem Blk.start (w:Yh) (cs:Array Yi) (ty:TypeId):Blk (w.alloc (.cells cs ty)) w.heap.size cs:=⟨ty,heap_alloc_new _ _⟩
theorem Blk.keepB {B:Nat} (h:Blk w b cs) (c:Below B w w') (a:b<B):Blk w' b cs:=by obtain⟨d,h⟩:=h;exact⟨d,(c.block b a).trans h⟩
theorem Blk.keep (h:Blk w b cs) (a:Below w.heap.size w w'):Blk w' b cs:=h.keepB a h.lt
theorem Blk.grown {row:Option Nat} (h:Blk w b cs) (c:w.grownBy w' row) (a:row≠Ya b):Blk w' b cs:=by have d:=h.lt;obtain⟨f,h⟩:=h;exact⟨f,(c.block b d (fun e=>a e.symm)).trans h⟩
theorem Blk.other (h:Blk w b cs) {p:Addr} (a:p.block≠b) (v:Yi):Blk (w.setCell p v) b cs:=by obtain⟨c,h⟩:=h;exact⟨c,by rw[Below.heap_setCell _ _ _ _ (fun e=>a e.symm)];exact h⟩
theorem Blk.set (h:Blk w b cs) (i:Nat) (v:Yi):Blk (w.setCell ⟨b,i,none⟩ v) b (cs.setIfInBounds i v):=by
 have a:=h.lt;obtain⟨c,h⟩:=h;refine⟨c,?_⟩;have d:w.heap[b]=.cells cs c (0,0):=by simpa[Array.getElem?_eq_getElem a]using h
 show(w.heap.modify b _)[b]? = _;rw[Array.getElem?_eq_getElem (by simpa using a),Array.getElem_modify_self,d];rfl
theorem Blk.drew (h:Blk w b cs):Blk w.drew b cs:=h
end
end
section
open Go.RowKit
abbrev txt (s:List UInt8):Yi:=.string ⟨s.toArray⟩
theorem Zd7 {w w':Yh} (h:Below w.heap.size w w') (row:Option Nat):w.grownBy w' row:=⟨h.os,h.tape,h.output,h.size,fun k hk _=>h.block k hk⟩
theorem Zaw {w:Yh} {g j:Nat} {u:Yi}:w.grownBy (w.setCell ⟨g,j,none⟩ u) (Ya g):=
 ⟨rfl,rfl,rfl,by simp[World.setCell],fun k _ hk=>Below.heap_setCell _ _ _ _ (fun e=>hk (by rw[e]))⟩
theorem Zjb {B:Nat} {w w':Yh} {row:Option Nat} (b:w.grownBy w' row) (a:B<=w.heap.size) (c:∀k,row=Ya k->B<=k):Below B w w':=(Below.refl B w).grown b a c
theorem below_alloc1 (w:Yh) (a:Obj):Below w.heap.size w (w.alloc a):=(Below.refl _ _).alloc (Nat.le_refl _) _
theorem Za9 (w:Yh):Below w.heap.size w w.drew:=(Below.refl _ _).drew
section
variable {P:Program} {ops:Array Oper} {Q:Exit->Act->Yh->Prop} {md:Region.Mode} {S:Yh->Prop} {fuel:Nat} {listed:Array Bool} {a:Act} {w:Yh}
theorem tkk (i:Nat) {b:Oper} (j:ops[i]? = Ya b) {v:Yi} (h:wpAnyH P md ops Q S fuel (listed.setIfInBounds i true) (a.put b.dst v) w) (m:∀w':Yh,S w'->Sem.run P (execOp a.eval b) w'=.ok (.value v) w':=by intro _ d;(try dsimp only at d);go_simp<;>with_reducible rfl)
  (l:Region.noSelect ops=true:=by kernel_rfl) (g:Region.free md ops listed i=true:=by kernel_rfl) (k:(Region.ready md ops listed).contains i=true:=by kernel_rfl) (e:∀c a w,Q (.panic c) (a.put b.dst v) w->Q (.panic c) a w:=by exact fun _ _ _ h=>h) (hn:Region.wanted b (yielded ops a.tmps)=true:=by kernel_rfl) (f:S w:=by assumption):wpAnyH P md ops Q S (fuel+1) listed a w:=
 wpAnyH_take j l g k e (.inl ⟨hn,m⟩) f h
theorem txk (i:Nat) {b:Oper} (g:ops[i]? = Ya b) (h:wpAnyH P md ops Q S fuel (listed.setIfInBounds i true) (a.put b.dst undef) w)
  (k:Region.noSelect ops=true:=by kernel_rfl) (f:Region.free md ops listed i=true:=by kernel_rfl) (j:(Region.ready md ops listed).contains i=true:=by kernel_rfl) (d:∀c a w,Q (.panic c) (a.put b.dst undef) w->Q (.panic c) a w:=by exact fun _ _ _ h=>h) (hn:Region.wanted b (yielded ops a.tmps)=false:=by kernel_rfl) (e:S w:=by assumption):wpAnyH P md ops Q S (fuel+1) listed a w:=
 wpAnyH_take g k f j d (.inr ⟨hn,rfl⟩) e h
end
end
section
open Go Go.RowKit
section
variable {P:Program} {ops:Array Oper} {Q:Exit->Act->Yh->Prop} {md:Region.Mode} {S:Yh->Prop} {ks:List Nat}
def Ze9 (b:List Nat) (a:Array Bool):Bool:=b.all fun k=>!(a.getD k false)
theorem Zf4 {d:List Nat} {a:Array Bool} {i:Nat} (e:i∈d) (f:a.getD i true=false):¬(Ze9 d (a.setIfInBounds i true)=true):=fun h=>by
 unfold Ze9 at h;rw[List.all_eq_true]at h;have:=h i e;have c:i<a.size:=by
  rcases Nat.lt_or_ge i a.size with b|b
  ·exact b
  ·simp[Array.getElem?_eq_none b]at f
 simp[c]at this
theorem Zig {b:List Nat} {a:Array Bool} {i:Nat} (c:i ∉ b):Ze9 b (a.setIfInBounds i true)=Ze9 b a:=by
 unfold Ze9;rw[Bool.eq_iff_iff,List.all_eq_true,List.all_eq_true];constructor<;>intro h k hk
 ·have:=h k hk;rw[getD_set_ne false (show i≠k from fun e=>c (e▸hk))]at this;exact this
 ·rw[getD_set_ne false (show i≠k from fun e=>c (e▸hk))];exact h k hk
def wpAnyL (P:Program) (c:Region.Mode) (b:Array Oper) (Q:Exit->Act->Yh->Prop) (S:Yh->Prop) (d:List Nat):Nat->Array Bool->Act->Yh->Prop
 |0,listed,a,w=>Region.ready c b listed=[]/\Q .normal a w
 |fuel+1,listed,a,w=>
  (Region.ready c b listed=[]->Q .normal a w) ∧
  ∀i∈Region.ready c b listed,wpOp P b Q i (fun e w'=>(Ze9 d (listed.setIfInBounds i true)=true->S w')/\wpAnyL P c b Q S d fuel (listed.setIfInBounds i true) e w') a w
theorem Zg7:∀(b:Nat) (c:Array Bool) (a:Act) (w:Yh),wpAnyL P md ops Q S ks b c a w->wpAny P md ops Q b c a w
 |0,_,_,_,h=>h
 |b+1,_,_,_,h=>⟨h.1,fun i f=>wpOp_mono (fun d w' e=>Zg7 b _ d w' e.2) (h.2 i f)⟩
def Zi2 (c:Region.Mode) (b:Array Oper) (a:Array Bool):Prop:=∀(j:Nat) (o:Oper),b[j]? = Ya o->a.getD j false=true->∀e∈o.after,Region.binds c e=true->a.getD e.on false=true
def ZiE (c:Region.Mode) (b:Array Oper) (a:Array Bool):Bool:=
 (List.range b.size).all fun j=>!(a.getD j false)||(match b[j]? with|none=>true|some o=>o.after.toList.all fun e=>!(Region.binds c e)||a.getD e.on false)
theorem Zms {a:Array Bool} (h:ZiE md ops a=true):Zi2 md ops a:=by intro j o b f e d c;unfold ZiE at h;rw[List.all_eq_true]at h;have:=h j (List.mem_range.2 (Array.getElem?_eq_some_iff.1 b).1);rw[f,b]at this;simp only[Bool.not_true,Bool.false_or,List.all_eq_true]at this;have:=this e (by simpa using d);rw[c]at this;simpa using this
def Zej (b:Region.Mode) (a:Array Oper):Nat->Nat->Nat->Bool
 |0,_,_=>false
 |f+1,k,i=>match a[k]? with
  |none=>false
  |some o=>o.after.toList.any fun e=>Region.binds b e&&(e.on==i||Zej b a f e.on i)
theorem ZhH {a:Array Bool} (h:Zi2 md ops a) {i:Nat}:∀(f k:Nat),Zej md ops f k i=true->(∀o,ops[k]? = Ya o->∀e∈o.after,Region.binds md e=true->a.getD e.on false=true)->a.getD i false=true
 |0,_,hw,_=>by cases hw
 |f+1,k,hw,ha=>by
  unfold Zej at hw;cases ho:ops[k]? with
  |none=>rw[ho]at hw;cases hw
  |some o=>
   rw[ho]at hw;simp only[List.any_eq_true,Bool.and_eq_true,Bool.or_eq_true,beq_iff_eq]at hw;obtain⟨e,g,d,hx⟩:=hw;have c:=ha o ho e (by simpa using g) d;rcases hx with rfl|hx
   ·exact c
   ·exact ZhH h f e.on hx fun j b=>h e.on j b c
theorem ZoK {a:Array Bool} {j:Nat} (h:Zi2 md ops a) (k:j∈Region.ready md ops a):Zi2 md ops (a.setIfInBounds j true):=by
 obtain⟨_,l,d,b⟩:=mem_ready.1 k;intro m o hm i e g f;by_cases c:j=m
 ·subst c;rw[d]at hm;injection hm with hm;subst hm;exact getD_set_true (b e g f)
 ·rw[getD_set_ne false c]at i;exact getD_set_true (h m o hm i e g f)
theorem wpAnyL_first {S0:Yh->Prop} {i:Nat} {E:Oper} {v:Yi} (X:ops[i]? = Ya E) (y:∀(j:Nat) (o:Oper) cs b,ops[j]? = Ya o->o.op≠.select cs b)
  (hQ:∀c a w,Q (.panic c) (a.put E.dst v) w->Q (.panic c) a w) (C:i ∉ ks) (G:(∀w,S0 w)\/((∀w,S w->S0 w)/\∃f,∀k∈ks,Zej md ops f k i=true)) :
  ∀(l:Nat) (d:Array Bool) (a:Act) (w:Yh),Zi2 md ops d ->
   (∀j F,ops[j]? = Ya F->j≠i->d.getD j true=false->(∀e∈F.after,Region.binds md e=true->e.on≠i)->E.apart ops F=true) ->
   i∈Region.ready md ops d->YieldsIf P ops S0 E v a->(Ze9 ks d=true->S w) ->
   wpAnyL P md ops Q S ks l (d.setIfInBounds i true) (a.put E.dst v) w->wpAnyL P md ops Q S ks (l+1) d a w:=by
 have u:∀(d:Array Bool) (w:Yh),Zi2 md ops d->i∈Region.ready md ops d->(Ze9 ks d=true->S w)->S0 w:=fun d w A n B=>by
  rcases G with G|⟨p,f,hw⟩
  ·exact G w
  ·refine p w (B ?_);have s:=(mem_ready.1 n).1;unfold Ze9;rw[List.all_eq_true];intro k hk;cases q:d.getD k false with
   |false=>rfl
   |true=>
    have:=ZhH A f k (hw k hk) fun o ho e V U=>A k o ho q e V U;rcases Nat.lt_or_ge i d.size with z|z
    ·simp[z]at s this;rw[s]at this;cases this
    ·simp[Array.getElem?_eq_none z]at this
 intro l
 induction l with
 |zero=>
  intro d a w A _ n R B H;refine⟨fun h=>(by rw[h]at n;cases n),fun j K=>?_⟩;by_cases g:j=i
  ·subst g;exact R.wpOp X (u _ _ A n B) ⟨fun q=>B (by rw[Zig C]at q;exact q),H⟩
  ·have:=ready_mono K g;rw[H.1]at this;cases this
 |succ l ih=>
  intro d a w A m n R B H;refine⟨fun h=>(by rw[h]at n;cases n),fun j K=>?_⟩;by_cases g:j=i
  ·subst g;exact R.wpOp X (u _ _ A n B) ⟨fun q=>B (by rw[Zig C]at q;exact q),H⟩
  ·have p:=H.2 j (ready_mono K g);obtain⟨t,F,D,J⟩:=mem_ready.1 K
   have M:∀e∈F.after,Region.binds md e=true->e.on≠i:=fun e V U W=>by
    have p:=J e V U;have G:=(mem_ready.1 n).1;rw[W]at p;rcases Nat.lt_or_ge i d.size with z|z
    ·simp[z]at G p;rw[G]at p;cases p
    ·simp[Array.getElem?_eq_none z]at p
   have h2:=wpOp_putIf D (m j F D g t M) (fun cs b=>y i E cs b X) (fun cs b=>y j F cs b D) hQ R p
   have r:∀k O,ops[k]? = Ya O->k≠i->(d.setIfInBounds j true).getD k true=false ->
     (∀e∈O.after,Region.binds md e=true->e.on≠i)->E.apart ops O=true:=fun k O hk Y N Z=>by
    refine m k O hk Y ?_ Z;by_cases L:j=k
    ·subst L;exact t
    ·rw[getD_set_ne true L]at N;exact N
   refine wpOp_mono (fun a' w' T=>?_) h2;have I:Ze9 ks (d.setIfInBounds j true)=true->S w':=fun q=>T.2.1 (by rw[Array.setIfInBounds_comm _ _ (Ne.symm g),Zig C];exact q);refine⟨I,ih (d.setIfInBounds j true) a' w' (ZoK A K) r (ready_mono n (Ne.symm g)) T.1 I ?_⟩;rw[Array.setIfInBounds_comm _ _ g];exact T.2.2
variable {fuel:Nat} {listed:Array Bool} {a:Act} {w:Yh}
theorem Zam {c:Nat} (d:List Nat) (S:Yh->Prop) (hm:P.follows .mixedOrders=true) (b:S w.drew)
  (h:S w.drew->wpAnyL P .any ops Q S d ops.size (Array.replicate ops.size false) a w.drew):(Code.region c ops true).wp P Q a w:=
 wp_region_any hm (Zg7 _ _ _ _ (h b))
theorem ZaM (c:Region.ready md ops listed=[]) (h:Q .normal a w):∀b,wpAnyL P md ops Q S ks b listed a w
 |0=>⟨c,h⟩
 |_+1=>⟨fun _=>h,by rw[c];simp⟩
theorem lk (i:Nat) {b:Oper} (f:ops[i]? = Ya b) {v:Yi} (h:wpAnyL P md ops Q S ks fuel (listed.setIfInBounds i true) (a.put b.dst v) w) (p:∀w':Yh,S w'->Sem.run P (execOp a.eval b) w'=.ok (.value v) w':=by intro _ d;(try dsimp only at d);go_simp<;>with_reducible rfl)
  (o:Region.noSelect ops=true:=by kernel_rfl) (l:Region.free md ops listed i=true:=by kernel_rfl) (n:(Region.ready md ops listed).contains i=true:=by kernel_rfl) (m:ZiE md ops listed=true:=by kernel_rfl) (e:(!(ks.contains i)&&ks.all fun k=>Zej md ops 8 k i)=true:=by kernel_rfl)
  (g:∀c a w,Q (.panic c) (a.put b.dst v) w->Q (.panic c) a w:=by exact fun _ _ _ h=>h) (hn:Region.wanted b (yielded ops a.tmps)=true:=by kernel_rfl) (j:S w:=by assumption):wpAnyL P md ops Q S ks (fuel+1) listed a w:=by
 simp only[Bool.and_eq_true,Bool.not_eq_true',List.all_eq_true]at e;exact wpAnyL_first f (Region.noSelect_spec o) g (by simpa using e.1) (.inr ⟨fun _ q=>q,8,e.2⟩) fuel listed a w (Zms m) (Region.free_spec f l) (by simpa using n) (.inl ⟨hn,p⟩) (fun _=>j) h
theorem lp (i:Nat) {b:Oper} (d:ops[i]? = Ya b) {v:Yi} (h:wpAnyL P md ops Q S ks fuel (listed.setIfInBounds i true) (a.put b.dst v) w) (n:∀w':Yh,Sem.run P (execOp a.eval b) w'=.ok (.value v) w':=by intro _;go_simp<;>with_reducible rfl)
  (l:Region.noSelect ops=true:=by kernel_rfl) (g:Region.free md ops listed i=true:=by kernel_rfl) (k:(Region.ready md ops listed).contains i=true:=by kernel_rfl) (j:ZiE md ops listed=true:=by kernel_rfl) (m:ks.contains i=false:=by kernel_rfl)
  (e:∀c a w,Q (.panic c) (a.put b.dst v) w->Q (.panic c) a w:=by exact fun _ _ _ h=>h) (hn:Region.wanted b (yielded ops a.tmps)=true:=by kernel_rfl) (f:S w:=by assumption):wpAnyL P md ops Q S ks (fuel+1) listed a w:=
 wpAnyL_first (S0:=fun _=>True) d (Region.noSelect_spec l) e (by simpa using m) (.inl fun _=>trivial) fuel listed a w (Zms j) (Region.free_spec d g) (by simpa using k) (.inl ⟨hn,fun w _=>n w⟩) (fun _=>f) h
theorem ln (i:Nat) {o:Oper} (l:ops[i]? = Ya o) (h:∀b:Act->Yh->Prop,Shut (∀a w,S w->(S w->wpAnyL P md ops Q S ks fuel (listed.setIfInBounds i true) a w)->b a w)->if Region.wanted o (yielded ops a.tmps)=true then Oper.wp P o a w b Q else b (a.put o.dst undef) w)
  (f:Region.ready md ops listed=[i]:=by kernel_rfl):wpAnyL P md ops Q S ks (fuel+1) listed a w:=by
 refine⟨fun c=>(by rw[f]at c;cases c),?_⟩;rw[f];intro j e;rw[List.mem_singleton]at e;subst e;exact wpOp_step l fun b g=>h b fun a w d k=>g a w ⟨fun _=>d,k d⟩
theorem le_ (i:Nat) {o:Oper} (l:ops[i]? = Ya o) (h:∀b:Act->Yh->Prop,Shut (∀a w,wpAnyL P md ops Q S ks fuel (listed.setIfInBounds i true) a w->b a w)->if Region.wanted o (yielded ops a.tmps)=true then Oper.wp P o a w b Q else b (a.put o.dst undef) w)
  (c:Region.ready md ops listed=[i]:=by kernel_rfl) (hk:ks.contains i=true:=by kernel_rfl):wpAnyL P md ops Q S ks (fuel+1) listed a w:=by
 refine⟨fun d=>(by rw[c]at d;cases d),?_⟩;rw[c];intro j f;rw[List.mem_singleton]at f;subst f;have m:=(mem_ready.1 (show j∈Region.ready md ops listed by rw[c];exact List.mem_singleton.2 rfl)).1;exact wpOp_step l fun b g=>h b fun a w k=>g a w ⟨fun e=>absurd e (Zf4 (by simpa using hk) m),k⟩
theorem Zge (i j:Nat) {k l:Oper} (u:ops[i]? = Ya k) (v:ops[j]? = Ya l) {a1 a2 b1:Act} {w1 w2 v1:Yh} (n:Region.ready md ops listed=[i,j]) (f:Region.ready md ops (listed.setIfInBounds i true)=[j]) (g:Region.ready md ops (listed.setIfInBounds j true)=[i]) (hk:(ks.contains i&&ks.contains j)=true) (r:(i==j)=false)
  (B:∀K:Act->Yh->Prop,K a1 w1->if Region.wanted k (yielded ops a.tmps)=true then Oper.wp P k a w K Q else K (a.put k.dst undef) w)
  (C:∀K:Act->Yh->Prop,K a2 w2->if Region.wanted l (yielded ops a1.tmps)=true then Oper.wp P l a1 w1 K Q else K (a1.put l.dst undef) w1)
  (D:∀K:Act->Yh->Prop,K b1 v1->if Region.wanted l (yielded ops a.tmps)=true then Oper.wp P l a w K Q else K (a.put l.dst undef) w)
  (t2:∀K:Act->Yh->Prop,K a2 w2->if Region.wanted k (yielded ops b1.tmps)=true then Oper.wp P k b1 v1 K Q else K (b1.put k.dst undef) v1)
  (h:wpAnyL P md ops Q S ks fuel ((listed.setIfInBounds i true).setIfInBounds j true) a2 w2):wpAnyL P md ops Q S ks (fuel+2) listed a w:=by
 simp only[Bool.and_eq_true]at hk;have E:=(mem_ready.1 (show i∈Region.ready md ops listed by rw[n];simp)).1;have F:=(mem_ready.1 (show j∈Region.ready md ops listed by rw[n];simp)).1;have t:=(mem_ready.1 (show j∈Region.ready md ops (listed.setIfInBounds i true)by rw[f];simp)).1;have s:=(mem_ready.1 (show i∈Region.ready md ops (listed.setIfInBounds j true)by rw[g];simp)).1;have y:i∈ks:=by simpa using hk.1
 have z:j∈ks:=by simpa using hk.2
 refine⟨fun c=>(by rw[n]at c;cases c),?_⟩;rw[n];intro m hm;rcases List.mem_cons.1 hm with rfl|hm
 ·refine wpOp_step u fun o q=>B o (q _ _ ⟨fun e=>absurd e (Zf4 y E),fun c=>(by rw[f]at c;cases c),?_⟩);rw[f];intro A b;rw[List.mem_singleton]at b;subst b;exact wpOp_step v fun p d=>C p (d _ _ ⟨fun e=>absurd e (Zf4 z t),h⟩)
 ·rw[List.mem_singleton]at hm;subst hm;refine wpOp_step v fun o q=>D o (q _ _ ⟨fun e=>absurd e (Zf4 z F),fun c=>(by rw[g]at c;cases c),?_⟩);rw[g];intro A b;rw[List.mem_singleton]at b;subst b;refine wpOp_step u fun p d=>t2 p (d _ _ ⟨fun e=>absurd e (Zf4 y s),?_⟩);rw[Array.setIfInBounds_comm _ _ (by simpa using r)]at h;exact h
theorem lcb (i j:Nat) {b c:Oper} {T1 U1:Yi->Yh->Prop} {R:Yi->Yi->Yh->Prop} (y:ops[i]? = Ya b) (z:ops[j]? = Ya c) (A:Region.ready md ops listed=[i,j]) (k:Region.ready md ops (listed.setIfInBounds i true)=[j]) (l:Region.ready md ops (listed.setIfInBounds j true)=[i]) (r:(i==j)=false) (hd:∀v u,(a.put c.dst u).put b.dst v=(a.put b.dst v).put c.dst u)
  (C:∀K:Act->Yh->Prop,(∀a1 w1 v,a1=a.put b.dst v->T1 v w1->K a1 w1)->if Region.wanted b (yielded ops a.tmps)=true then Oper.wp P b a w K Q else K (a.put b.dst undef) w)
  (b1:∀v w1,T1 v w1->S w1/\∀K:Act->Yh->Prop,(∀a2 w2 u,a2=(a.put b.dst v).put c.dst u->R v u w2->K a2 w2)->if Region.wanted c (yielded ops (a.put b.dst v).tmps)=true then Oper.wp P c (a.put b.dst v) w1 K Q else K ((a.put b.dst v).put c.dst undef) w1)
  (B:∀K:Act->Yh->Prop,(∀a1 w1 u,a1=a.put c.dst u->U1 u w1->K a1 w1)->if Region.wanted c (yielded ops a.tmps)=true then Oper.wp P c a w K Q else K (a.put c.dst undef) w)
  (s:∀u w1,U1 u w1->S w1/\∀K:Act->Yh->Prop,(∀a2 w2 v,a2=(a.put c.dst u).put b.dst v->R v u w2->K a2 w2)->if Region.wanted b (yielded ops (a.put c.dst u).tmps)=true then Oper.wp P b (a.put c.dst u) w1 K Q else K ((a.put c.dst u).put b.dst undef) w1)
  (t:∀v u w2,R v u w2->S w2)
  (h:∀v u w2,R v u w2->wpAnyL P md ops Q S ks fuel ((listed.setIfInBounds i true).setIfInBounds j true) ((a.put b.dst v).put c.dst u) w2):wpAnyL P md ops Q S ks (fuel+2) listed a w:=by
 refine⟨fun e=>(by rw[A]at e;cases e),?_⟩;rw[A];intro m hm;rcases List.mem_cons.1 hm with rfl|hm
 ·refine wpOp_step y fun o q=>C o fun a1 w1 v ha n=>q _ _ ⟨fun _=>(b1 v w1 n).1,fun e=>(by rw[k]at e;cases e),?_⟩;rw[k];intro D d;rw[List.mem_singleton]at d;subst d ha;exact wpOp_step z fun p f=>(b1 v w1 n).2 p fun a2 w2 u ha g=>f _ _ ⟨fun _=>t v u w2 g,ha▸h v u w2 g⟩
 ·rw[List.mem_singleton]at hm;subst hm;refine wpOp_step z fun o q=>B o fun a1 w1 u ha n=>q _ _ ⟨fun _=>(s u w1 n).1,fun e=>(by rw[l]at e;cases e),?_⟩;rw[l];intro D d;rw[List.mem_singleton]at d;subst d ha;refine wpOp_step y fun p f=>(s u w1 n).2 p fun a2 w2 v ha g=>f _ _ ⟨fun _=>t v u w2 g,?_⟩;have:=h v u w2 g;rw[Array.setIfInBounds_comm _ _ (by simpa using r),<-hd v u,<-ha]at this;exact this
end
theorem Zle (w:Yh) (p q:Addr) (u v:Yi) (h:p.block≠q.block):(w.setCell p u).setCell q v=(w.setCell q v).setCell p u:=by
 have e:∀i:Nat,((w.setCell p u).setCell q v).heap[i]? = ((w.setCell q v).setCell p u).heap[i]?:=by
  intro i;simp only[World.setCell,Array.getElem?_modify];by_cases b:q.block=i
  ·by_cases a:p.block=i
   ·exact absurd (a.trans b.symm) h
   ·simp[b,a]
  ·by_cases a:p.block=i
   ·simp[b,a]
   ·simp[b,a]
 have c:=Array.ext_getElem? e;unfold World.setCell at c⊢;dsimp only at c⊢;rw[c]
end
end Go.Proofs.YtdkegpkfjgloeaaGreatDoor
