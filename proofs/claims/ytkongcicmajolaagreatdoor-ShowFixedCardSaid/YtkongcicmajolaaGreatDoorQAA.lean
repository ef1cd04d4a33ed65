import Derived.Below
import Derived.Laws.OwnMore
import Derived.Deep.AppendLies
import Derived.Deep.Draws
import Derived.Maps.AppendAt
import Derived.RegionTactic
import Derived.OwnWalk
import Derived.Deep.RegionHeld
import Derived.Laws.Rows
import Derived.OneCell
import Derived.WalkKit
import Derived.BigRegion
import Derived.Deep.RegionHeld3
import Derived.OrdersHeld
set_option maxRecDepth 100000
set_option maxHeartbeats 8000000
namespace Go.Proofs.YtkongcicmajolaaGreatDoor
section
open Go.RowKit
theorem cl.{u} {α:Type u}:(∀ (xs:List α) (i:Nat) (h:i<xs.toArray.size),xs.toArray[i]=xs[i]'(by simpa using h))/\(∀ (a:α) (ys:List α) (i:Nat) (h:i+1<(a::ys).length),(a::ys)[i+1]=ys[i]'(Nat.lt_of_succ_lt_succ h))/\(∀ (a:α) (ys:List α) (h:0<(a::ys).length),(a::ys)[0]'h=a)/\(∀ (xs:List α) (i:Nat) (v:α),xs.toArray.setIfInBounds i v=(xs.set i v).toArray)/\(∀ (a v:α) (ys:List α),(a::ys).set 0 v=v::ys)/\∀ (a v:α) (ys:List α) (i:Nat),(a::ys).set (i+1) v=a::ys.set i v:=
 ⟨fun _ _ _=>List.getElem_toArray _,fun _ _ _ _=>rfl,fun _ _ _=>rfl,fun _ _ _=>List.setIfInBounds_toArray _ _ _,fun _ _ _=>rfl,fun _ _ _ _=>rfl⟩
section
variable {P:Program} {ops:Array Oper} {Q:Exit->Act->World->Prop} {md:Region.Mode} {S:World->Prop} {fuel:Nat} {listed:Array Bool} {a:Act} {w:World}
theorem tk (i:Nat) {oi:Oper} (hi:ops[i]? = some oi) {v:Value} (h:wpAnyH P md ops Q S fuel (listed.setIfInBounds i true) (a.put oi.dst v) w) (hy:∀ w':World,S w'->Sem.run P (execOp a.eval oi) w'=.ok (.value v) w':=by intro _ hS_;(try dsimp only at hS_);go_simp<;>with_reducible rfl)
  (hs:Region.noSelect ops=true:=by kernel_rfl) (hf:Region.free md ops listed i=true:=by kernel_rfl) (hr:(Region.ready md ops listed).contains i=true:=by kernel_rfl) (hQ:∀ c a w,Q (.panic c) (a.put oi.dst v) w->Q (.panic c) a w:=by exact fun _ _ _ h=>h) (hn:Region.wanted oi (yielded ops a.tmps)=true:=by rfl) (hS:S w:=by assumption):wpAnyH P md ops Q S (fuel+1) listed a w:=
 wpAnyH_take hi hs hf hr hQ (.inl ⟨hn,hy⟩) hS h
theorem rd (i:Nat) {o:Oper} (ho:ops[i]? = some o) (h:∀ K':Act->World->Prop,Shut (∀ a w,S w->(S w->wpAnyH P md ops Q S fuel (listed.setIfInBounds i true) a w)->K' a w)->if Region.wanted o (yielded ops a.tmps)=true then Oper.wp P o a w K' Q else K' (a.put o.dst undef) w)
  (hr:Region.ready md ops listed=[i]:=by kernel_rfl):wpAnyH P md ops Q S (fuel+1) listed a w:=wpAnyH_ready hr (by simp) (AllReadyH.cons ho h AllReadyH.nil)
end
theorem ZbO (a:Addr) (n:Nat):(a.add n).block=a.block:=by unfold Addr.add;split<;>rfl
theorem ZgM (a:Addr) (i j:Nat):(a.add i).add j=a.add (i+j):=by
 unfold Addr.add
 by_cases hi:i=0<;>by_cases hj:j=0<;>simp [hi,hj,Nat.add_assoc]
def ZM (w:World) (B size:Nat) (A:Option Addr) (n:Nat) (xs:List Value):Prop:=
 xs.length=n*size/\(0<n->∃ ad,A=some ad/\ad.block<B/\∀ j u,xs[j]? = some u->w.cell? (ad.add j)=some u)
section
variable {w w':World} {B B' size n:Nat} {A:Option Addr} {xs:List Value}
theorem ZM.none_:ZM w B size A 0 []:=⟨by simp,fun h=>absurd h (by omega)⟩
theorem ZM.at_ {k:Nat} (h:ZM w B 1 A n xs) (hk:k<n):∃ ad u,A=some ad/\ad.block<B/\xs[k]? = some u/\w.cell? (ad.add k)=some u:=by
 obtain ⟨ad,e,hb,hc⟩:=h.2 (by omega)
 have hl:k<xs.length:=by have:=h.1;omega
 exact ⟨ad,xs[k],e,hb,List.getElem?_eq_getElem hl,hc k _ (List.getElem?_eq_getElem hl)⟩
theorem ZM.keep (h:ZM w B size A n xs) (hk:∀ p:Addr,p.block<B->w'.cell? p=w.cell? p):ZM w' B size A n xs:=
 ⟨h.1,fun hn=>by
  obtain ⟨ad,e,hb,hc⟩:=h.2 hn
  exact ⟨ad,e,hb,fun j u hu=>(hk _ (by rw [ZbO];exact hb)).trans (hc j u hu)⟩⟩
theorem ZM.more (h:ZM w B size A n xs) (hB:B<=B'):ZM w B' size A n xs:=
 ⟨h.1,fun hn=>by
  obtain ⟨ad,e,hb,hc⟩:=h.2 hn
  exact ⟨ad,e,by omega,hc⟩⟩
theorem ZM.below (h:ZM w B size A n xs) (hb:Below B w w'):ZM w' B size A n xs:=h.keep fun _ hp=>hb.cell hp
theorem ZM.drew (h:ZM w B size A n xs):ZM w.drew B size A n xs:=h
theorem ZM.drewN (h:ZM w B size A n xs) (k:Nat):ZM (w.drewN k) B size A n xs:=h
theorem ZM.alloc (h:ZM w B size A n xs) (hB:B<=w.heap.size) (o:Obj):ZM (w.alloc o) B size A n xs:=h.keep fun p hp=>World.cell?_alloc_lt w o p (by omega)
theorem ZM.setCell (h:ZM w B size A n xs) {p:Addr} (hB:B<=p.block) (u:Value):ZM (w.setCell p u) B size A n xs:=
 h.keep fun q hq=>World.cell?_setCell_other w p q u (fun e=>by subst e;omega)
theorem ZM.grown (h:ZM w B size A n xs) {row:Option Nat} (hg:w.grownBy w' row) (hB:B<=w.heap.size) (hr:∀ g,row=some g->B<=g):ZM w' B size A n xs:=
 h.keep fun p hp=>World.cell?_of_block (hg.block p.block (by omega) (fun e=>by have:=hr _ e.symm;omega))
theorem ZM.cut (h:ZM w B size A n xs) {k cap:Nat} (hk:k<=n) (hc:n<=cap) :
  ZM w B size (if cap=k then A else A.map (·.add (k*size))) (n-k) (xs.drop (k*size)):=by
 refine ⟨by rw [List.length_drop,h.1,Nat.sub_mul],fun hn=>?_⟩
 obtain ⟨ad,rfl,hb,hcell⟩:=h.2 (by omega)
 rw [if_neg (by omega)]
 refine ⟨ad.add (k*size),rfl,by rw [ZbO];exact hb,fun j u hu=>?_⟩
 rw [ZgM]
 exact hcell _ u (by rw [<- hu,List.getElem?_drop])
theorem ZM.of_own {base:Nat} {e:TypeId} {c:Nat} (h:w.ownsRow base e size (.slice A n c) n xs):ZM w w.heap.size size A n xs:=by
 refine ⟨h.1,fun hn=>?_⟩
 obtain ⟨g,cap,hv,_,hlt⟩:=h.form hn
 have hA:A=some ⟨g,0,none⟩:=by injection hv
 subst hA
 exact ⟨_,rfl,hlt,h.cells (g:=g) rfl⟩
end
section
variable {P:Program} (w:World)
theorem Zh2 (base:Nat) (t ty e:TypeId) (i:TypeInfo) (size:Nat) (ht:P.underlying t=some (.slice e)) (hi:P.info? e=some i)
  (v:Value) (n:Nat) (xs:List Value) (hown:w.ownsRow base e size v n xs) (c:Nat):(Builtin.append_ #[t,t] ty #[v,.slice none 0 c]).run P w=.ok v w:=by
 rcases hown.2 with ⟨rfl,rfl⟩ | ⟨g,cap,cur,rfl,_,_,hnc,_⟩
 ·simp [Builtin.append_,run_underlying ht,sizeOf,typeInfo,hi,Builtin.lenOf,Builtin.firstCells]
 ·simp [Builtin.append_,run_underlying ht,sizeOf,typeInfo,hi,Builtin.lenOf,Builtin.firstCells,hnc,storeCells]
theorem ZjF (base:Nat) (t ty e:TypeId) (i:TypeInfo) (z:Value) (size bytes:Nat) (ht:P.underlying t=some (.slice e)) (hi:P.info? e=some i) (hz:i.zero=some z)
  (hsize:i.size=size) (hby:i.bytes=bytes) (hzs:z.cells.size=size) (hsz:0<size)
  (v:Value) (n:Nat) (xs:List Value) (hown:w.ownsRow base e size v n xs)
  (B:Nat) (A:Option Addr) (m c:Nat) (news:List Value) (hr:ZM w B size A m news) (h1:∀ u∈news,u.oneCell'=true)
  (h63:n+m<=maxLen) (hbytes:(n+m)*bytes<=140737488355328) (hbase:base<=w.heap.size) :
  ∃ v' w',(Builtin.append_ #[t,t] ty #[v,.slice A m c]).run P w=.ok v' w'/\w'.ownsRow base e size v' (n+m) (xs++news)/\w.grownBy w' v.ownBlock ∧
   (v'.ownBlock=v.ownBlock\/v'.ownBlock=some w.heap.size):=by
 rcases A with _ | ad
 ·have hm:m=0:=by
   rcases Nat.eq_zero_or_pos m with h0 | h0
   ·exact h0
   ·obtain ⟨ad,h,_⟩:=hr.2 h0
    cases h
  subst hm
  have hn:news=[]:=List.eq_nil_of_length_eq_zero (by simpa using hr.1)
  subst hn
  exact ⟨v,w,Zh2 w base t ty e i size ht hi v n xs hown c,by simpa using hown,World.grownBy.refl w _,.inl rfl⟩
 ·have hcells:∀ j u,news[j]? = some u->w.cell? (ad.add j)=some u:=by
   intro j u hu
   rcases Nat.eq_zero_or_pos m with h0 | h0
   ·subst h0
    have hn:news=[]:=List.eq_nil_of_length_eq_zero (by simpa using hr.1)
    subst hn
    simp at hu
   ·obtain ⟨ad',h,_,hc⟩:=hr.2 h0
    injection h with h
    subst h
    exact hc j u hu
  obtain ⟨v',w',hrun,h2,h3,_,h5⟩:=run_append_own_at (P:=P) w base t ty e i z size bytes ht hi hz hsize hby hzs hsz v n xs hown ad m c news hr.1 hcells h1 h63 hbytes hbase
  exact ⟨v',w',hrun,h2,h3,h5⟩
theorem Zhj {o:Oper} {a:Act} {K:Act->World->Prop} {Q:Exit->Act->World->Prop} (s x:Operand) (t:TypeId)
  (ho:o.op=.call { callee:=.builtin .append,args:=#[s,x],argTypes:=#[t,t] })
  (base:Nat) (e:TypeId) (i:TypeInfo) (z:Value) (size bytes:Nat) (ht:P.underlying t=some (.slice e)) (hi:P.info? e=some i) (hz:i.zero=some z)
  (hsize:i.size=size) (hby:i.bytes=bytes) (hzs:z.cells.size=size) (hsz:0<size)
  (v:Value) (n:Nat) (xs:List Value) (hs:a.eval s=v) (hown:w.ownsRow base e size v n xs)
  (B:Nat) (A:Option Addr) (m c:Nat) (news:List Value) (hx:a.eval x=.slice A m c) (hr:ZM w B size A m news) (h1:∀ u∈news,u.oneCell'=true)
  (h63:n+m<=maxLen) (hbytes:(n+m)*bytes<=140737488355328) (hbase:base<=w.heap.size)
  (h:∀ v' w',w'.ownsRow base e size v' (n+m) (xs++news)->w.grownBy w' v.ownBlock->(v'.ownBlock=v.ownBlock\/v'.ownBlock=some w.heap.size)->K (a.put o.dst v') w'):o.wp P a w K Q:=by
 obtain ⟨v',w',hrun,h2,h3,h4⟩:=ZjF (P:=P) w base t o.type e i z size bytes ht hi hz hsize hby hzs hsz v n xs hown B A m c news hr h1 h63 hbytes hbase
 unfold Oper.wp execOp
 simp only [ho,resolve,invoke,builtin,Sem.run_bind,Sem.run_pure,Result.andThen_ok,List.map_toArray,List.map_cons,List.map_nil,hs,hx,hrun]
 exact h v' w' h2 h3 h4
theorem ZaN {ops:Array Oper} {rest:List Oper} {o:Oper} {a:Act} {Q:Exit->Act->World->Prop} (hgd:o.guard=none) (s x:Operand) (t:TypeId)
  (ho:o.op=.call { callee:=.builtin .append,args:=#[s,x],argTypes:=#[t,t] })
  (base:Nat) (e:TypeId) (i:TypeInfo) (z:Value) (size bytes:Nat) (ht:P.underlying t=some (.slice e)) (hi:P.info? e=some i) (hz:i.zero=some z)
  (hsize:i.size=size) (hby:i.bytes=bytes) (hzs:z.cells.size=size) (hsz:0<size)
  (v:Value) (n:Nat) (xs:List Value) (hs:a.eval s=v) (hown:w.ownsRow base e size v n xs)
  (B:Nat) (A:Option Addr) (m c:Nat) (news:List Value) (hx:a.eval x=.slice A m c) (hr:ZM w B size A m news) (h1:∀ u∈news,u.oneCell'=true)
  (h63:n+m<=maxLen) (hbytes:(n+m)*bytes<=140737488355328) (hbase:base<=w.heap.size)
  (h:∀ v' w',w'.ownsRow base e size v' (n+m) (xs++news)->w.grownBy w' v.ownBlock->(v'.ownBlock=v.ownBlock\/v'.ownBlock=some w.heap.size)->wpList P ops Q rest (a.put o.dst v') w'):wpList P ops Q (o::rest) a w:=
 wpList_plain hgd fun _ hK=>Zhj w s x t ho base e i z size bytes ht hi hz hsize hby hzs hsz v n xs hs hown B A m c news hx hr h1 h63 hbytes hbase fun v' w' h2 h3 h4=>hK _ _ (h v' w' h2 h3 h4)
theorem ZaF {ops:Array Oper} {o:Oper} {a:Act} {K:Act->World->Prop} {Q:Exit->Act->World->Prop} {E:Prop} (hgd:o.guard=none) (s x:Operand) (t:TypeId)
  (ho:o.op=.call { callee:=.builtin .append,args:=#[s,x],argTypes:=#[t,t] })
  (base:Nat) (e:TypeId) (i:TypeInfo) (z:Value) (size bytes:Nat) (ht:P.underlying t=some (.slice e)) (hi:P.info? e=some i) (hz:i.zero=some z)
  (hsize:i.size=size) (hby:i.bytes=bytes) (hzs:z.cells.size=size) (hsz:0<size)
  (v:Value) (n:Nat) (xs:List Value) (hs:a.eval s=v) (hown:w.ownsRow base e size v n xs)
  (B:Nat) (A:Option Addr) (m c:Nat) (news:List Value) (hx:a.eval x=.slice A m c) (hr:ZM w B size A m news) (h1:∀ u∈news,u.oneCell'=true)
  (h63:n+m<=maxLen) (hbytes:(n+m)*bytes<=140737488355328) (hbase:base<=w.heap.size)
  (h:∀ v' w',w'.ownsRow base e size v' (n+m) (xs++news)->w.grownBy w' v.ownBlock->(v'.ownBlock=v.ownBlock\/v'.ownBlock=some w.heap.size)->K (a.put o.dst v') w') :
  if Region.wanted o (yielded ops a.tmps)=true then Oper.wp P o a w K Q else E:=by
 have hw:Region.wanted o (yielded ops a.tmps)=true:=by simp [Region.wanted,hgd]
 rw [if_pos hw]
 exact Zhj w s x t ho base e i z size bytes ht hi hz hsize hby hzs hsz v n xs hs hown B A m c news hx hr h1 h63 hbytes hbase h
end
end
section
theorem zh {p:Prop} (h:p):Go.RowKit.Hid p:=h
theorem zi {a b:Prop} (h:a) (k:b):a/\b:=⟨h,k⟩
open Go.RowKit
def Blk (w:World) (b:Nat) (cs:Array Value):Prop:=∃ ty,w.heap[b]? = some (.cells cs ty (0,0))
section
variable {w w':World} {b:Nat} {cs:Array Value}
theorem Blk.cell (h:Blk w b cs) (i:Nat):w.cell? ⟨b,i,none⟩=cs[i]?:=by
 obtain ⟨ty,h⟩:=h
 simp [World.cell?,h]
theorem Blk.free (h:Blk w b cs) (i:Nat):w.frozen? ⟨b,i,none⟩=false:=by
 obtain ⟨ty,h⟩:=h
 simp [World.frozen?,h]
theorem Blk.lt (h:Blk w b cs):b<w.heap.size:=by
 obtain ⟨ty,h⟩:=h
 exact lt_of_block h
theorem Blk.start (w:World) (cs:Array Value) (ty:TypeId):Blk (w.alloc (.cells cs ty)) w.heap.size cs:=⟨ty,heap_alloc_new _ _⟩
theorem Blk.keepB {B:Nat} (h:Blk w b cs) (hb:Below B w w') (hlt:b<B):Blk w' b cs:=by
 obtain ⟨ty,h⟩:=h
 exact ⟨ty,(hb.block b hlt).trans h⟩
theorem Blk.keep (h:Blk w b cs) (hb:Below w.heap.size w w'):Blk w' b cs:=h.keepB hb h.lt
theorem Blk.grown {row:Option Nat} (h:Blk w b cs) (hg:w.grownBy w' row) (hne:row≠some b):Blk w' b cs:=by
 have hl:=h.lt
 obtain ⟨ty,h⟩:=h
 exact ⟨ty,(hg.block b hl (fun e=>hne e.symm)).trans h⟩
theorem Blk.other (h:Blk w b cs) {p:Addr} (hp:p.block≠b) (v:Value):Blk (w.setCell p v) b cs:=by
 obtain ⟨ty,h⟩:=h
 exact ⟨ty,by rw [Below.heap_setCell _ _ _ _ (fun e=>hp e.symm)];exact h⟩
theorem Blk.set (h:Blk w b cs) (i:Nat) (v:Value):Blk (w.setCell ⟨b,i,none⟩ v) b (cs.setIfInBounds i v):=by
 have hlt:=h.lt
 obtain ⟨ty,h⟩:=h
 refine ⟨ty,?_⟩
 have h':w.heap[b]=.cells cs ty (0,0):=by simpa [Array.getElem?_eq_getElem hlt] using h
 show (w.heap.modify b _)[b]? = _
 rw [Array.getElem?_eq_getElem (by simpa using hlt),Array.getElem_modify_self,h']
 rfl
theorem Blk.drew (h:Blk w b cs):Blk w.drew b cs:=h
end
end
section
open Go.RowKit
abbrev txt (s:List UInt8):Value:=.string ⟨s.toArray⟩
theorem Zd9 {w w':World} (h:Below w.heap.size w w') (row:Option Nat):w.grownBy w' row:=⟨h.os,h.tape,h.output,h.size,fun k hk _=>h.block k hk⟩
theorem Zas {w:World} {g j:Nat} {u:Value}:w.grownBy (w.setCell ⟨g,j,none⟩ u) (some g):=
 ⟨rfl,rfl,rfl,by simp [World.setCell],fun k _ hk=>Below.heap_setCell _ _ _ _ (fun e=>hk (by rw [e]))⟩
theorem Zjw {B:Nat} {w w':World} {row:Option Nat} (hg:w.grownBy w' row) (hB:B<=w.heap.size) (hr:∀ k,row=some k->B<=k):Below B w w':=(Below.refl B w).grown hg hB hr
theorem below_alloc1 (w:World) (a:Obj):Below w.heap.size w (w.alloc a):=(Below.refl _ _).alloc (Nat.le_refl _) _
theorem Za7 (w:World):Below w.heap.size w w.drew:=(Below.refl _ _).drew
section
variable {P:Program} {ops:Array Oper} {Q:Exit->Act->World->Prop} {md:Region.Mode} {S:World->Prop} {fuel:Nat} {listed:Array Bool} {a:Act} {w:World}
theorem tkk (i:Nat) {oi:Oper} (hi:ops[i]? = some oi) {v:Value} (h:wpAnyH P md ops Q S fuel (listed.setIfInBounds i true) (a.put oi.dst v) w) (hy:∀ w':World,S w'->Sem.run P (execOp a.eval oi) w'=.ok (.value v) w':=by intro _ hS_;(try dsimp only at hS_);go_simp<;>with_reducible rfl)
  (hs:Region.noSelect ops=true:=by kernel_rfl) (hf:Region.free md ops listed i=true:=by kernel_rfl) (hr:(Region.ready md ops listed).contains i=true:=by kernel_rfl) (hQ:∀ c a w,Q (.panic c) (a.put oi.dst v) w->Q (.panic c) a w:=by exact fun _ _ _ h=>h) (hn:Region.wanted oi (yielded ops a.tmps)=true:=by kernel_rfl) (hS:S w:=by assumption):wpAnyH P md ops Q S (fuel+1) listed a w:=
 wpAnyH_take hi hs hf hr hQ (.inl ⟨hn,hy⟩) hS h
theorem txk (i:Nat) {oi:Oper} (hi:ops[i]? = some oi) (h:wpAnyH P md ops Q S fuel (listed.setIfInBounds i true) (a.put oi.dst undef) w)
  (hs:Region.noSelect ops=true:=by kernel_rfl) (hf:Region.free md ops listed i=true:=by kernel_rfl) (hr:(Region.ready md ops listed).contains i=true:=by kernel_rfl) (hQ:∀ c a w,Q (.panic c) (a.put oi.dst undef) w->Q (.panic c) a w:=by exact fun _ _ _ h=>h) (hn:Region.wanted oi (yielded ops a.tmps)=false:=by kernel_rfl) (hS:S w:=by assumption):wpAnyH P md ops Q S (fuel+1) listed a w:=
 wpAnyH_take hi hs hf hr hQ (.inr ⟨hn,rfl⟩) hS h
end
end
section
open Go Go.RowKit
section
variable {P:Program} {ops:Array Oper} {Q:Exit->Act->World->Prop} {md:Region.Mode} {S:World->Prop} {ks:List Nat}
def Zfj (ks:List Nat) (listed:Array Bool):Bool:=ks.all fun k=>!(listed.getD k false)
theorem Zgg {ks:List Nat} {listed:Array Bool} {i:Nat} (hi:i∈ks) (hl:listed.getD i true=false):¬ (Zfj ks (listed.setIfInBounds i true)=true):=fun h=>by
 unfold Zfj at h
 rw [List.all_eq_true] at h
 have:=h i hi
 have hlt:i<listed.size:=by
  rcases Nat.lt_or_ge i listed.size with h' | h'
  ·exact h'
  ·simp [Array.getElem?_eq_none h'] at hl
 simp [hlt] at this
theorem Ziq {ks:List Nat} {listed:Array Bool} {i:Nat} (hi:i ∉ ks):Zfj ks (listed.setIfInBounds i true)=Zfj ks listed:=by
 unfold Zfj
 rw [Bool.eq_iff_iff,List.all_eq_true,List.all_eq_true]
 constructor<;>intro h k hk
 ·have:=h k hk
  rw [getD_set_ne false (show i≠k from fun e=>hi (e▸hk))] at this
  exact this
 ·rw [getD_set_ne false (show i≠k from fun e=>hi (e▸hk))]
  exact h k hk
def wpAnyL (P:Program) (md:Region.Mode) (ops:Array Oper) (Q:Exit->Act->World->Prop) (S:World->Prop) (ks:List Nat):Nat->Array Bool->Act->World->Prop
 | 0,listed,a,w=>Region.ready md ops listed=[]/\Q .normal a w
 | fuel+1,listed,a,w=>
  (Region.ready md ops listed=[]->Q .normal a w) ∧
  ∀ i∈Region.ready md ops listed,wpOp P ops Q i (fun a' w'=>(Zfj ks (listed.setIfInBounds i true)=true->S w')/\wpAnyL P md ops Q S ks fuel (listed.setIfInBounds i true) a' w') a w
theorem Zhi:∀ (fuel:Nat) (listed:Array Bool) (a:Act) (w:World),wpAnyL P md ops Q S ks fuel listed a w->wpAny P md ops Q fuel listed a w
 | 0,_,_,_,h=>h
 | fuel+1,_,_,_,h=>⟨h.1,fun i hi=>wpOp_mono (fun a' w' h'=>Zhi fuel _ a' w' h'.2) (h.2 i hi)⟩
def Zjn (md:Region.Mode) (ops:Array Oper) (listed:Array Bool):Prop:=∀ (j:Nat) (o:Oper),ops[j]? = some o->listed.getD j false=true->∀ e∈o.after,Region.binds md e=true->listed.getD e.on false=true
def ZiS (md:Region.Mode) (ops:Array Oper) (listed:Array Bool):Bool:=
 (List.range ops.size).all fun j=>!(listed.getD j false)||(match ops[j]? with | none=>true | some o=>o.after.toList.all fun e=>!(Region.binds md e)||listed.getD e.on false)
theorem Zmw {listed:Array Bool} (h:ZiS md ops listed=true):Zjn md ops listed:=by
 intro j o hj hl e he hb
 unfold ZiS at h
 rw [List.all_eq_true] at h
 have:=h j (List.mem_range.2 (Array.getElem?_eq_some_iff.1 hj).1)
 rw [hl,hj] at this
 simp only [Bool.not_true,Bool.false_or,List.all_eq_true] at this
 have:=this e (by simpa using he)
 rw [hb] at this
 simpa using this
def Zel (md:Region.Mode) (ops:Array Oper):Nat->Nat->Nat->Bool
 | 0,_,_=>false
 | f+1,k,i=>match ops[k]? with
  | none=>false
  | some o=>o.after.toList.any fun e=>Region.binds md e&&(e.on==i||Zel md ops f e.on i)
theorem ZhT {listed:Array Bool} (h:Zjn md ops listed) {i:Nat}:∀ (f k:Nat),Zel md ops f k i=true->(∀ o,ops[k]? = some o->∀ e∈o.after,Region.binds md e=true->listed.getD e.on false=true)->listed.getD i false=true
 | 0,_,hw,_=>by cases hw
 | f+1,k,hw,ha=>by
  unfold Zel at hw
  cases ho:ops[k]? with
  | none=>rw [ho] at hw;cases hw
  | some o=>
   rw [ho] at hw
   simp only [List.any_eq_true,Bool.and_eq_true,Bool.or_eq_true,beq_iff_eq] at hw
   obtain ⟨e,he,hb,hx⟩:=hw
   have hl:=ha o ho e (by simpa using he) hb
   rcases hx with rfl | hx
   ·exact hl
   ·exact ZhT h f e.on hx fun o' ho'=>h e.on o' ho' hl
theorem ZoH {listed:Array Bool} {j:Nat} (h:Zjn md ops listed) (hj:j∈Region.ready md ops listed):Zjn md ops (listed.setIfInBounds j true):=by
 obtain ⟨_,oj,hoj,hall⟩:=mem_ready.1 hj
 intro m o hm hl e he hb
 by_cases hmj:j=m
 ·subst hmj
  rw [hoj] at hm
  injection hm with hm
  subst hm
  exact getD_set_true (hall e he hb)
 ·rw [getD_set_ne false hmj] at hl
  exact getD_set_true (h m o hm hl e he hb)
theorem wpAnyL_first {S0:World->Prop} {i:Nat} {oi:Oper} {v:Value} (hi:ops[i]? = some oi) (hsel:∀ (j:Nat) (o:Oper) cs b,ops[j]? = some o->o.op≠.select cs b)
  (hQ:∀ c a w,Q (.panic c) (a.put oi.dst v) w->Q (.panic c) a w) (hik:i ∉ ks) (h0:(∀ w,S0 w)\/((∀ w,S w->S0 w)/\∃ f,∀ k∈ks,Zel md ops f k i=true)) :
  ∀ (fuel:Nat) (listed:Array Bool) (a:Act) (w:World),Zjn md ops listed ->
   (∀ j oj,ops[j]? = some oj->j≠i->listed.getD j true=false->(∀ e∈oj.after,Region.binds md e=true->e.on≠i)->oi.apart ops oj=true) ->
   i∈Region.ready md ops listed->YieldsIf P ops S0 oi v a->(Zfj ks listed=true->S w) ->
   wpAnyL P md ops Q S ks fuel (listed.setIfInBounds i true) (a.put oi.dst v) w->wpAnyL P md ops Q S ks (fuel+1) listed a w:=by
 have hold:∀ (listed:Array Bool) (w:World),Zjn md ops listed->i∈Region.ready md ops listed->(Zfj ks listed=true->S w)->S0 w:=fun listed w hH hr hS=>by
  rcases h0 with h0 | ⟨h1,f,hw⟩
  ·exact h0 w
  ·refine h1 w (hS ?_)
   have hiun:=(mem_ready.1 hr).1
   unfold Zfj
   rw [List.all_eq_true]
   intro k hk
   cases q:listed.getD k false with
   | false=>rfl
   | true=>
    have:=ZhT hH f k (hw k hk) fun o ho e he hb=>hH k o ho q e he hb
    rcases Nat.lt_or_ge i listed.size with h' | h'
    ·simp [h'] at hiun this;rw [hiun] at this;cases this
    ·simp [Array.getElem?_eq_none h'] at this
 intro fuel
 induction fuel with
 | zero=>
  intro listed a w hH _ hr hy hS H
  refine ⟨fun h=>(by rw [h] at hr;cases hr),fun j hj=>?_⟩
  by_cases hji:j=i
  ·subst hji;exact hy.wpOp hi (hold _ _ hH hr hS) ⟨fun q=>hS (by rw [Ziq hik] at q;exact q),H⟩
  ·have:=ready_mono hj hji
   rw [H.1] at this
   cases this
 | succ fuel ih=>
  intro listed a w hH hfree hr hy hS H
  refine ⟨fun h=>(by rw [h] at hr;cases hr),fun j hj=>?_⟩
  by_cases hji:j=i
  ·subst hji;exact hy.wpOp hi (hold _ _ hH hr hS) ⟨fun q=>hS (by rw [Ziq hik] at q;exact q),H⟩
  ·have h1:=H.2 j (ready_mono hj hji)
   obtain ⟨hjun,oj,hoj,hall⟩:=mem_ready.1 hj
   have hnot:∀ e∈oj.after,Region.binds md e=true->e.on≠i:=fun e he hb heq=>by
    have h1:=hall e he hb
    have h0:=(mem_ready.1 hr).1
    rw [heq] at h1
    rcases Nat.lt_or_ge i listed.size with h' | h'
    ·simp [h'] at h0 h1;rw [h0] at h1;cases h1
    ·simp [Array.getElem?_eq_none h'] at h1
   have h2:=wpOp_putIf hoj (hfree j oj hoj hji hjun hnot) (fun cs b=>hsel i oi cs b hi) (fun cs b=>hsel j oj cs b hoj) hQ hy h1
   have hfree':∀ k ok,ops[k]? = some ok->k≠i->(listed.setIfInBounds j true).getD k true=false ->
     (∀ e∈ok.after,Region.binds md e=true->e.on≠i)->oi.apart ops ok=true:=fun k ok hk hki hun hno=>by
    refine hfree k ok hk hki ?_ hno
    by_cases hjk:j=k
    ·subst hjk;exact hjun
    ·rw [getD_set_ne true hjk] at hun;exact hun
   refine wpOp_mono (fun a' w' h3=>?_) h2
   have hS':Zfj ks (listed.setIfInBounds j true)=true->S w':=fun q=>h3.2.1 (by rw [Array.setIfInBounds_comm _ _ (Ne.symm hji),Ziq hik];exact q)
   refine ⟨hS',ih (listed.setIfInBounds j true) a' w' (ZoH hH hj) hfree' (ready_mono hr (Ne.symm hji)) h3.1 hS' ?_⟩
   rw [Array.setIfInBounds_comm _ _ hji]
   exact h3.2.2
variable {fuel:Nat} {listed:Array Bool} {a:Act} {w:World}
theorem Zai {id:Nat} (ks:List Nat) (S:World->Prop) (hm:P.follows .mixedOrders=true) (hS:S w.drew)
  (h:S w.drew->wpAnyL P .any ops Q S ks ops.size (Array.replicate ops.size false) a w.drew):(Code.region id ops true).wp P Q a w:=
 wp_region_any hm (Zhi _ _ _ _ (h hS))
theorem ZaG (hr:Region.ready md ops listed=[]) (h:Q .normal a w):∀ fuel,wpAnyL P md ops Q S ks fuel listed a w
 | 0=>⟨hr,h⟩
 | _+1=>⟨fun _=>h,by rw [hr];simp⟩
theorem lk (i:Nat) {oi:Oper} (hi:ops[i]? = some oi) {v:Value} (h:wpAnyL P md ops Q S ks fuel (listed.setIfInBounds i true) (a.put oi.dst v) w) (hy:∀ w':World,S w'->Sem.run P (execOp a.eval oi) w'=.ok (.value v) w':=by intro _ hS_;(try dsimp only at hS_);go_simp<;>with_reducible rfl)
  (hs:Region.noSelect ops=true:=by kernel_rfl) (hf:Region.free md ops listed i=true:=by kernel_rfl) (hr:(Region.ready md ops listed).contains i=true:=by kernel_rfl) (hh:ZiS md ops listed=true:=by kernel_rfl) (hw:(!(ks.contains i)&&ks.all fun k=>Zel md ops 8 k i)=true:=by kernel_rfl)
  (hQ:∀ c a w,Q (.panic c) (a.put oi.dst v) w->Q (.panic c) a w:=by exact fun _ _ _ h=>h) (hn:Region.wanted oi (yielded ops a.tmps)=true:=by kernel_rfl) (hS:S w:=by assumption):wpAnyL P md ops Q S ks (fuel+1) listed a w:=by
 simp only [Bool.and_eq_true,Bool.not_eq_true',List.all_eq_true] at hw
 exact wpAnyL_first hi (Region.noSelect_spec hs) hQ (by simpa using hw.1) (.inr ⟨fun _ q=>q,8,hw.2⟩) fuel listed a w (Zmw hh) (Region.free_spec hi hf) (by simpa using hr) (.inl ⟨hn,hy⟩) (fun _=>hS) h
theorem lp (i:Nat) {oi:Oper} (hi:ops[i]? = some oi) {v:Value} (h:wpAnyL P md ops Q S ks fuel (listed.setIfInBounds i true) (a.put oi.dst v) w) (hy:∀ w':World,Sem.run P (execOp a.eval oi) w'=.ok (.value v) w':=by intro _;go_simp<;>with_reducible rfl)
  (hs:Region.noSelect ops=true:=by kernel_rfl) (hf:Region.free md ops listed i=true:=by kernel_rfl) (hr:(Region.ready md ops listed).contains i=true:=by kernel_rfl) (hh:ZiS md ops listed=true:=by kernel_rfl) (hw:ks.contains i=false:=by kernel_rfl)
  (hQ:∀ c a w,Q (.panic c) (a.put oi.dst v) w->Q (.panic c) a w:=by exact fun _ _ _ h=>h) (hn:Region.wanted oi (yielded ops a.tmps)=true:=by kernel_rfl) (hS:S w:=by assumption):wpAnyL P md ops Q S ks (fuel+1) listed a w:=
 wpAnyL_first (S0:=fun _=>True) hi (Region.noSelect_spec hs) hQ (by simpa using hw) (.inl fun _=>trivial) fuel listed a w (Zmw hh) (Region.free_spec hi hf) (by simpa using hr) (.inl ⟨hn,fun w _=>hy w⟩) (fun _=>hS) h
theorem ln (i:Nat) {o:Oper} (ho:ops[i]? = some o) (h:∀ K':Act->World->Prop,Shut (∀ a w,S w->(S w->wpAnyL P md ops Q S ks fuel (listed.setIfInBounds i true) a w)->K' a w)->if Region.wanted o (yielded ops a.tmps)=true then Oper.wp P o a w K' Q else K' (a.put o.dst undef) w)
  (hr:Region.ready md ops listed=[i]:=by kernel_rfl):wpAnyL P md ops Q S ks (fuel+1) listed a w:=by
 refine ⟨fun h0=>(by rw [hr] at h0;cases h0),?_⟩
 rw [hr]
 intro j hj
 rw [List.mem_singleton] at hj
 subst hj
 exact wpOp_step ho fun K' hK=>h K' fun a w hS hW=>hK a w ⟨fun _=>hS,hW hS⟩
theorem le_ (i:Nat) {o:Oper} (ho:ops[i]? = some o) (h:∀ K':Act->World->Prop,Shut (∀ a w,wpAnyL P md ops Q S ks fuel (listed.setIfInBounds i true) a w->K' a w)->if Region.wanted o (yielded ops a.tmps)=true then Oper.wp P o a w K' Q else K' (a.put o.dst undef) w)
  (hr:Region.ready md ops listed=[i]:=by kernel_rfl) (hk:ks.contains i=true:=by kernel_rfl):wpAnyL P md ops Q S ks (fuel+1) listed a w:=by
 refine ⟨fun h0=>(by rw [hr] at h0;cases h0),?_⟩
 rw [hr]
 intro j hj
 rw [List.mem_singleton] at hj
 subst hj
 have hu:=(mem_ready.1 (show j∈Region.ready md ops listed by rw [hr];exact List.mem_singleton.2 rfl)).1
 exact wpOp_step ho fun K' hK=>h K' fun a w hW=>hK a w ⟨fun e=>absurd e (Zgg (by simpa using hk) hu),hW⟩
theorem Zgn (i j:Nat) {oi oj:Oper} (hi:ops[i]? = some oi) (hj:ops[j]? = some oj) {a1 a2 b1:Act} {w1 w2 v1:World} (hr:Region.ready md ops listed=[i,j]) (hri:Region.ready md ops (listed.setIfInBounds i true)=[j]) (hrj:Region.ready md ops (listed.setIfInBounds j true)=[i]) (hk:(ks.contains i&&ks.contains j)=true) (hne:(i==j)=false)
  (s1:∀ K:Act->World->Prop,K a1 w1->if Region.wanted oi (yielded ops a.tmps)=true then Oper.wp P oi a w K Q else K (a.put oi.dst undef) w)
  (s2:∀ K:Act->World->Prop,K a2 w2->if Region.wanted oj (yielded ops a1.tmps)=true then Oper.wp P oj a1 w1 K Q else K (a1.put oj.dst undef) w1)
  (t1:∀ K:Act->World->Prop,K b1 v1->if Region.wanted oj (yielded ops a.tmps)=true then Oper.wp P oj a w K Q else K (a.put oj.dst undef) w)
  (t2:∀ K:Act->World->Prop,K a2 w2->if Region.wanted oi (yielded ops b1.tmps)=true then Oper.wp P oi b1 v1 K Q else K (b1.put oi.dst undef) v1)
  (h:wpAnyL P md ops Q S ks fuel ((listed.setIfInBounds i true).setIfInBounds j true) a2 w2):wpAnyL P md ops Q S ks (fuel+2) listed a w:=by
 simp only [Bool.and_eq_true] at hk
 have ui:=(mem_ready.1 (show i∈Region.ready md ops listed by rw [hr];simp)).1
 have uj:=(mem_ready.1 (show j∈Region.ready md ops listed by rw [hr];simp)).1
 have uji:=(mem_ready.1 (show j∈Region.ready md ops (listed.setIfInBounds i true) by rw [hri];simp)).1
 have uij:=(mem_ready.1 (show i∈Region.ready md ops (listed.setIfInBounds j true) by rw [hrj];simp)).1
 have ik:i∈ks:=by simpa using hk.1
 have jk:j∈ks:=by simpa using hk.2
 refine ⟨fun h0=>(by rw [hr] at h0;cases h0),?_⟩
 rw [hr]
 intro m hm
 rcases List.mem_cons.1 hm with rfl | hm
 ·refine wpOp_step hi fun K' hK=>s1 K' (hK _ _ ⟨fun e=>absurd e (Zgg ik ui),fun h0=>(by rw [hri] at h0;cases h0),?_⟩)
  rw [hri]
  intro m2 hm2
  rw [List.mem_singleton] at hm2
  subst hm2
  exact wpOp_step hj fun K2 hK2=>s2 K2 (hK2 _ _ ⟨fun e=>absurd e (Zgg jk uji),h⟩)
 ·rw [List.mem_singleton] at hm
  subst hm
  refine wpOp_step hj fun K' hK=>t1 K' (hK _ _ ⟨fun e=>absurd e (Zgg jk uj),fun h0=>(by rw [hrj] at h0;cases h0),?_⟩)
  rw [hrj]
  intro m2 hm2
  rw [List.mem_singleton] at hm2
  subst hm2
  refine wpOp_step hi fun K2 hK2=>t2 K2 (hK2 _ _ ⟨fun e=>absurd e (Zgg ik uij),?_⟩)
  rw [Array.setIfInBounds_comm _ _ (by simpa using hne)] at h
  exact h
theorem lcb (i j:Nat) {oi oj:Oper} {T1 U1:Value->World->Prop} {R:Value->Value->World->Prop} (hi:ops[i]? = some oi) (hj:ops[j]? = some oj) (hr:Region.ready md ops listed=[i,j]) (hri:Region.ready md ops (listed.setIfInBounds i true)=[j]) (hrj:Region.ready md ops (listed.setIfInBounds j true)=[i]) (hne:(i==j)=false) (hd:∀ v u,(a.put oj.dst u).put oi.dst v=(a.put oi.dst v).put oj.dst u)
  (c1:∀ K:Act->World->Prop,(∀ a1 w1 v,a1=a.put oi.dst v->T1 v w1->K a1 w1)->if Region.wanted oi (yielded ops a.tmps)=true then Oper.wp P oi a w K Q else K (a.put oi.dst undef) w)
  (b1:∀ v w1,T1 v w1->S w1/\∀ K:Act->World->Prop,(∀ a2 w2 u,a2=(a.put oi.dst v).put oj.dst u->R v u w2->K a2 w2)->if Region.wanted oj (yielded ops (a.put oi.dst v).tmps)=true then Oper.wp P oj (a.put oi.dst v) w1 K Q else K ((a.put oi.dst v).put oj.dst undef) w1)
  (b2:∀ K:Act->World->Prop,(∀ a1 w1 u,a1=a.put oj.dst u->U1 u w1->K a1 w1)->if Region.wanted oj (yielded ops a.tmps)=true then Oper.wp P oj a w K Q else K (a.put oj.dst undef) w)
  (c2:∀ u w1,U1 u w1->S w1/\∀ K:Act->World->Prop,(∀ a2 w2 v,a2=(a.put oj.dst u).put oi.dst v->R v u w2->K a2 w2)->if Region.wanted oi (yielded ops (a.put oj.dst u).tmps)=true then Oper.wp P oi (a.put oj.dst u) w1 K Q else K ((a.put oj.dst u).put oi.dst undef) w1)
  (hS:∀ v u w2,R v u w2->S w2)
  (h:∀ v u w2,R v u w2->wpAnyL P md ops Q S ks fuel ((listed.setIfInBounds i true).setIfInBounds j true) ((a.put oi.dst v).put oj.dst u) w2):wpAnyL P md ops Q S ks (fuel+2) listed a w:=by
 refine ⟨fun h0=>(by rw [hr] at h0;cases h0),?_⟩
 rw [hr]
 intro m hm
 rcases List.mem_cons.1 hm with rfl | hm
 ·refine wpOp_step hi fun K' hK=>c1 K' fun a1 w1 v ha ht=>hK _ _ ⟨fun _=>(b1 v w1 ht).1,fun h0=>(by rw [hri] at h0;cases h0),?_⟩
  rw [hri]
  intro m2 hm2
  rw [List.mem_singleton] at hm2
  subst hm2 ha
  exact wpOp_step hj fun K2 hK2=>(b1 v w1 ht).2 K2 fun a2 w2 u ha hR=>hK2 _ _ ⟨fun _=>hS v u w2 hR,ha▸h v u w2 hR⟩
 ·rw [List.mem_singleton] at hm
  subst hm
  refine wpOp_step hj fun K' hK=>b2 K' fun a1 w1 u ha ht=>hK _ _ ⟨fun _=>(c2 u w1 ht).1,fun h0=>(by rw [hrj] at h0;cases h0),?_⟩
  rw [hrj]
  intro m2 hm2
  rw [List.mem_singleton] at hm2
  subst hm2 ha
  refine wpOp_step hi fun K2 hK2=>(c2 u w1 ht).2 K2 fun a2 w2 v ha hR=>hK2 _ _ ⟨fun _=>hS v u w2 hR,?_⟩
  have:=h v u w2 hR
  rw [Array.setIfInBounds_comm _ _ (by simpa using hne),<- hd v u,<- ha] at this
  exact this
end
theorem Zlr (w:World) (p q:Addr) (u v:Value) (h:p.block≠q.block):(w.setCell p u).setCell q v=(w.setCell q v).setCell p u:=by
 have e:∀ i:Nat,((w.setCell p u).setCell q v).heap[i]? = ((w.setCell q v).setCell p u).heap[i]?:=by
  intro i
  simp only [World.setCell,Array.getElem?_modify]
  by_cases h1:q.block=i
  ·by_cases h2:p.block=i
   ·exact absurd (h2.trans h1.symm) h
   ·simp [h1,h2]
  ·by_cases h2:p.block=i
   ·simp [h1,h2]
   ·simp [h1,h2]
 have e2:=Array.ext_getElem? e
 unfold World.setCell at e2 ⊢
 dsimp only at e2 ⊢
 rw [e2]
end
end Go.Proofs.YtkongcicmajolaaGreatDoor
