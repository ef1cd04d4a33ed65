import Derived.Below
import Derived.Laws.OwnMore
import Derived.Deep.AppendLies
import Derived.Deep.Draws
import Derived.Maps.AppendAt
import Derived.RegionTactic
import Derived.OwnWalk
import Derived.Deep.RegionHeld
import Derived.Laws.Rows
import Derived.OneCell
import Derived.WalkKit
import Derived.BigRegion
import Derived.Deep.RegionHeld3
set_option maxRecDepth 100000
set_option maxHeartbeats 8000000
namespace Go.Proofs.YtaacbenikcbibabGreatDoor
section
open Go.RowKit
theorem cl.{u} {α:Type u}:(∀ (xs:List α) (i:Nat) (h:i<xs.toArray.size),xs.toArray[i]=xs[i]'(by simpa using h))/\(∀ (a:α) (ys:List α) (i:Nat) (h:i+1<(a::ys).length),(a::ys)[i+1]=ys[i]'(Nat.lt_of_succ_lt_succ h))/\(∀ (a:α) (ys:List α) (h:0<(a::ys).length),(a::ys)[0]'h=a)/\(∀ (xs:List α) (i:Nat) (v:α),xs.toArray.setIfInBounds i v=(xs.set i v).toArray)/\(∀ (a v:α) (ys:List α),(a::ys).set 0 v=v::ys)/\∀ (a v:α) (ys:List α) (i:Nat),(a::ys).set (i+1) v=a::ys.set i v:=
 ⟨fun _ _ _=>List.getElem_toArray _,fun _ _ _ _=>rfl,fun _ _ _=>rfl,fun _ _ _=>List.setIfInBounds_toArray _ _ _,fun _ _ _=>rfl,fun _ _ _ _=>rfl⟩
section
variable {P:Program} {ops:Array Oper} {Q:Exit->Act->World->Prop} {md:Region.Mode} {S:World->Prop} {fuel:Nat} {listed:Array Bool} {a:Act} {w:World}
theorem tk (i:Nat) {oi:Oper} (hi:ops[i]? = some oi) {v:Value} (h:wpAnyH P md ops Q S fuel (listed.setIfInBounds i true) (a.put oi.dst v) w) (hy:∀ w':World,S w'->Sem.run P (execOp a.eval oi) w'=.ok (.value v) w':=by intro _ hS_;(try dsimp only at hS_);go_simp<;>with_reducible rfl)
  (hs:Region.noSelect ops=true:=by kernel_rfl) (hf:Region.free md ops listed i=true:=by kernel_rfl) (hr:(Region.ready md ops listed).contains i=true:=by kernel_rfl) (hQ:∀ c a w,Q (.panic c) (a.put oi.dst v) w->Q (.panic c) a w:=by exact fun _ _ _ h=>h) (hn:Region.wanted oi (yielded ops a.tmps)=true:=by rfl) (hS:S w:=by assumption):wpAnyH P md ops Q S (fuel+1) listed a w:=
 wpAnyH_take hi hs hf hr hQ (.inl ⟨hn,hy⟩) hS h
theorem rd (i:Nat) {o:Oper} (ho:ops[i]? = some o) (h:∀ K':Act->World->Prop,Shut (∀ a w,S w->(S w->wpAnyH P md ops Q S fuel (listed.setIfInBounds i true) a w)->K' a w)->if Region.wanted o (yielded ops a.tmps)=true then Oper.wp P o a w K' Q else K' (a.put o.dst undef) w)
  (hr:Region.ready md ops listed=[i]:=by kernel_rfl):wpAnyH P md ops Q S (fuel+1) listed a w:=wpAnyH_ready hr (by simp) (AllReadyH.cons ho h AllReadyH.nil)
theorem tx (i:Nat) {oi:Oper} (hi:ops[i]? = some oi) (h:wpAnyH P md ops Q S fuel (listed.setIfInBounds i true) (a.put oi.dst undef) w)
  (hs:Region.noSelect ops=true:=by kernel_rfl) (hf:Region.free md ops listed i=true:=by kernel_rfl) (hr:(Region.ready md ops listed).contains i=true:=by kernel_rfl) (hQ:∀ c a w,Q (.panic c) (a.put oi.dst undef) w->Q (.panic c) a w:=by exact fun _ _ _ h=>h) (hn:Region.wanted oi (yielded ops a.tmps)=false:=by rfl) (hS:S w:=by assumption):wpAnyH P md ops Q S (fuel+1) listed a w:=
 wpAnyH_take hi hs hf hr hQ (.inr ⟨hn,rfl⟩) hS h
end
theorem ZT (a:Addr) (n:Nat):(a.add n).block=a.block:=by unfold Addr.add;split<;>rfl
theorem ZaI (a:Addr) (i j:Nat):(a.add i).add j=a.add (i+j):=by
 unfold Addr.add
 by_cases hi:i=0<;>by_cases hj:j=0<;>simp [hi,hj,Nat.add_assoc]
def Zs (w:World) (B size:Nat) (A:Option Addr) (n:Nat) (xs:List Value):Prop:=
 xs.length=n*size/\(0<n->∃ ad,A=some ad/\ad.block<B/\∀ j u,xs[j]? = some u->w.cell? (ad.add j)=some u)
section
variable {w w':World} {B B' size n:Nat} {A:Option Addr} {xs:List Value}
theorem Zs.none_:Zs w B size A 0 []:=⟨by simp,fun h=>absurd h (by omega)⟩
theorem Zs.at_ {k:Nat} (h:Zs w B 1 A n xs) (hk:k<n):∃ ad u,A=some ad/\ad.block<B/\xs[k]? = some u/\w.cell? (ad.add k)=some u:=by
 obtain ⟨ad,e,hb,hc⟩:=h.2 (by omega)
 have hl:k<xs.length:=by have:=h.1;omega
 exact ⟨ad,xs[k],e,hb,List.getElem?_eq_getElem hl,hc k _ (List.getElem?_eq_getElem hl)⟩
theorem Zs.keep (h:Zs w B size A n xs) (hk:∀ p:Addr,p.block<B->w'.cell? p=w.cell? p):Zs w' B size A n xs:=
 ⟨h.1,fun hn=>by
  obtain ⟨ad,e,hb,hc⟩:=h.2 hn
  exact ⟨ad,e,hb,fun j u hu=>(hk _ (by rw [ZT];exact hb)).trans (hc j u hu)⟩⟩
theorem Zs.more (h:Zs w B size A n xs) (hB:B<=B'):Zs w B' size A n xs:=
 ⟨h.1,fun hn=>by
  obtain ⟨ad,e,hb,hc⟩:=h.2 hn
  exact ⟨ad,e,by omega,hc⟩⟩
theorem Zs.below (h:Zs w B size A n xs) (hb:Below B w w'):Zs w' B size A n xs:=h.keep fun _ hp=>hb.cell hp
theorem Zs.drew (h:Zs w B size A n xs):Zs w.drew B size A n xs:=h
theorem Zs.drewN (h:Zs w B size A n xs) (k:Nat):Zs (w.drewN k) B size A n xs:=h
theorem Zs.alloc (h:Zs w B size A n xs) (hB:B<=w.heap.size) (o:Obj):Zs (w.alloc o) B size A n xs:=h.keep fun p hp=>World.cell?_alloc_lt w o p (by omega)
theorem Zs.setCell (h:Zs w B size A n xs) {p:Addr} (hB:B<=p.block) (u:Value):Zs (w.setCell p u) B size A n xs:=
 h.keep fun q hq=>World.cell?_setCell_other w p q u (fun e=>by subst e;omega)
theorem Zs.grown (h:Zs w B size A n xs) {row:Option Nat} (hg:w.grownBy w' row) (hB:B<=w.heap.size) (hr:∀ g,row=some g->B<=g):Zs w' B size A n xs:=
 h.keep fun p hp=>World.cell?_of_block (hg.block p.block (by omega) (fun e=>by have:=hr _ e.symm;omega))
theorem Zs.cut (h:Zs w B size A n xs) {k cap:Nat} (hk:k<=n) (hc:n<=cap) :
  Zs w B size (if cap=k then A else A.map (·.add (k*size))) (n-k) (xs.drop (k*size)):=by
 refine ⟨by rw [List.length_drop,h.1,Nat.sub_mul],fun hn=>?_⟩
 obtain ⟨ad,rfl,hb,hcell⟩:=h.2 (by omega)
 rw [if_neg (by omega)]
 refine ⟨ad.add (k*size),rfl,by rw [ZT];exact hb,fun j u hu=>?_⟩
 rw [ZaI]
 exact hcell _ u (by rw [<- hu,List.getElem?_drop])
end
section
variable {P:Program} (w:World)
theorem ZcJ (base:Nat) (t ty e:TypeId) (i:TypeInfo) (size:Nat) (ht:P.underlying t=some (.slice e)) (hi:P.info? e=some i)
  (v:Value) (n:Nat) (xs:List Value) (hown:w.ownsRow base e size v n xs) (c:Nat):(Builtin.append_ #[t,t] ty #[v,.slice none 0 c]).run P w=.ok v w:=by
 rcases hown.2 with ⟨rfl,rfl⟩ | ⟨g,cap,cur,rfl,_,_,hnc,_⟩
 ·simp [Builtin.append_,run_underlying ht,sizeOf,typeInfo,hi,Builtin.lenOf,Builtin.firstCells]
 ·simp [Builtin.append_,run_underlying ht,sizeOf,typeInfo,hi,Builtin.lenOf,Builtin.firstCells,hnc,storeCells]
theorem ZdG (base:Nat) (t ty e:TypeId) (i:TypeInfo) (z:Value) (size bytes:Nat) (ht:P.underlying t=some (.slice e)) (hi:P.info? e=some i) (hz:i.zero=some z)
  (hsize:i.size=size) (hby:i.bytes=bytes) (hzs:z.cells.size=size) (hsz:0<size)
  (v:Value) (n:Nat) (xs:List Value) (hown:w.ownsRow base e size v n xs)
  (B:Nat) (A:Option Addr) (m c:Nat) (news:List Value) (hr:Zs w B size A m news) (h1:∀ u∈news,u.oneCell'=true)
  (h63:n+m<=maxLen) (hbytes:(n+m)*bytes<=140737488355328) (hbase:base<=w.heap.size) :
  ∃ v' w',(Builtin.append_ #[t,t] ty #[v,.slice A m c]).run P w=.ok v' w'/\w'.ownsRow base e size v' (n+m) (xs++news)/\w.grownBy w' v.ownBlock ∧
   (v'.ownBlock=v.ownBlock\/v'.ownBlock=some w.heap.size):=by
 rcases A with _ | ad
 ·have hm:m=0:=by
   rcases Nat.eq_zero_or_pos m with h0 | h0
   ·exact h0
   ·obtain ⟨ad,h,_⟩:=hr.2 h0
    cases h
  subst hm
  have hn:news=[]:=List.eq_nil_of_length_eq_zero (by simpa using hr.1)
  subst hn
  exact ⟨v,w,ZcJ w base t ty e i size ht hi v n xs hown c,by simpa using hown,World.grownBy.refl w _,.inl rfl⟩
 ·have hcells:∀ j u,news[j]? = some u->w.cell? (ad.add j)=some u:=by
   intro j u hu
   rcases Nat.eq_zero_or_pos m with h0 | h0
   ·subst h0
    have hn:news=[]:=List.eq_nil_of_length_eq_zero (by simpa using hr.1)
    subst hn
    simp at hu
   ·obtain ⟨ad',h,_,hc⟩:=hr.2 h0
    injection h with h
    subst h
    exact hc j u hu
  obtain ⟨v',w',hrun,h2,h3,_,h5⟩:=run_append_own_at (P:=P) w base t ty e i z size bytes ht hi hz hsize hby hzs hsz v n xs hown ad m c news hr.1 hcells h1 h63 hbytes hbase
  exact ⟨v',w',hrun,h2,h3,h5⟩
theorem Zcn {o:Oper} {a:Act} {K:Act->World->Prop} {Q:Exit->Act->World->Prop} (s x:Operand) (t:TypeId)
  (ho:o.op=.call { callee:=.builtin .append,args:=#[s,x],argTypes:=#[t,t] })
  (base:Nat) (e:TypeId) (i:TypeInfo) (z:Value) (size bytes:Nat) (ht:P.underlying t=some (.slice e)) (hi:P.info? e=some i) (hz:i.zero=some z)
  (hsize:i.size=size) (hby:i.bytes=bytes) (hzs:z.cells.size=size) (hsz:0<size)
  (v:Value) (n:Nat) (xs:List Value) (hs:a.eval s=v) (hown:w.ownsRow base e size v n xs)
  (B:Nat) (A:Option Addr) (m c:Nat) (news:List Value) (hx:a.eval x=.slice A m c) (hr:Zs w B size A m news) (h1:∀ u∈news,u.oneCell'=true)
  (h63:n+m<=maxLen) (hbytes:(n+m)*bytes<=140737488355328) (hbase:base<=w.heap.size)
  (h:∀ v' w',w'.ownsRow base e size v' (n+m) (xs++news)->w.grownBy w' v.ownBlock->(v'.ownBlock=v.ownBlock\/v'.ownBlock=some w.heap.size)->K (a.put o.dst v') w'):o.wp P a w K Q:=by
 obtain ⟨v',w',hrun,h2,h3,h4⟩:=ZdG (P:=P) w base t o.type e i z size bytes ht hi hz hsize hby hzs hsz v n xs hown B A m c news hr h1 h63 hbytes hbase
 unfold Oper.wp execOp
 simp only [ho,resolve,invoke,builtin,Sem.run_bind,Sem.run_pure,Result.andThen_ok,List.map_toArray,List.map_cons,List.map_nil,hs,hx,hrun]
 exact h v' w' h2 h3 h4
theorem ZJ {ops:Array Oper} {rest:List Oper} {o:Oper} {a:Act} {Q:Exit->Act->World->Prop} (hgd:o.guard=none) (s x:Operand) (t:TypeId)
  (ho:o.op=.call { callee:=.builtin .append,args:=#[s,x],argTypes:=#[t,t] })
  (base:Nat) (e:TypeId) (i:TypeInfo) (z:Value) (size bytes:Nat) (ht:P.underlying t=some (.slice e)) (hi:P.info? e=some i) (hz:i.zero=some z)
  (hsize:i.size=size) (hby:i.bytes=bytes) (hzs:z.cells.size=size) (hsz:0<size)
  (v:Value) (n:Nat) (xs:List Value) (hs:a.eval s=v) (hown:w.ownsRow base e size v n xs)
  (B:Nat) (A:Option Addr) (m c:Nat) (news:List Value) (hx:a.eval x=.slice A m c) (hr:Zs w B size A m news) (h1:∀ u∈news,u.oneCell'=true)
  (h63:n+m<=maxLen) (hbytes:(n+m)*bytes<=140737488355328) (hbase:base<=w.heap.size)
  (h:∀ v' w',w'.ownsRow base e size v' (n+m) (xs++news)->w.grownBy w' v.ownBlock->(v'.ownBlock=v.ownBlock\/v'.ownBlock=some w.heap.size)->wpList P ops Q rest (a.put o.dst v') w'):wpList P ops Q (o::rest) a w:=
 wpList_plain hgd fun _ hK=>Zcn w s x t ho base e i z size bytes ht hi hz hsize hby hzs hsz v n xs hs hown B A m c news hx hr h1 h63 hbytes hbase fun v' w' h2 h3 h4=>hK _ _ (h v' w' h2 h3 h4)
theorem ZU {ops:Array Oper} {o:Oper} {a:Act} {K:Act->World->Prop} {Q:Exit->Act->World->Prop} {E:Prop} (hgd:o.guard=none) (s x:Operand) (t:TypeId)
  (ho:o.op=.call { callee:=.builtin .append,args:=#[s,x],argTypes:=#[t,t] })
  (base:Nat) (e:TypeId) (i:TypeInfo) (z:Value) (size bytes:Nat) (ht:P.underlying t=some (.slice e)) (hi:P.info? e=some i) (hz:i.zero=some z)
  (hsize:i.size=size) (hby:i.bytes=bytes) (hzs:z.cells.size=size) (hsz:0<size)
  (v:Value) (n:Nat) (xs:List Value) (hs:a.eval s=v) (hown:w.ownsRow base e size v n xs)
  (B:Nat) (A:Option Addr) (m c:Nat) (news:List Value) (hx:a.eval x=.slice A m c) (hr:Zs w B size A m news) (h1:∀ u∈news,u.oneCell'=true)
  (h63:n+m<=maxLen) (hbytes:(n+m)*bytes<=140737488355328) (hbase:base<=w.heap.size)
  (h:∀ v' w',w'.ownsRow base e size v' (n+m) (xs++news)->w.grownBy w' v.ownBlock->(v'.ownBlock=v.ownBlock\/v'.ownBlock=some w.heap.size)->K (a.put o.dst v') w') :
  if Region.wanted o (yielded ops a.tmps)=true then Oper.wp P o a w K Q else E:=by
 have hw:Region.wanted o (yielded ops a.tmps)=true:=by simp [Region.wanted,hgd]
 rw [if_pos hw]
 exact Zcn w s x t ho base e i z size bytes ht hi hz hsize hby hzs hsz v n xs hs hown B A m c news hx hr h1 h63 hbytes hbase h
end
end
section
open Go.RowKit
def Blk (w:World) (b:Nat) (cs:Array Value):Prop:=∃ ty,w.heap[b]? = some (.cells cs ty (0,0))
section
variable {w w':World} {b:Nat} {cs:Array Value}
theorem Blk.cell (h:Blk w b cs) (i:Nat):w.cell? ⟨b,i,none⟩=cs[i]?:=by
 obtain ⟨ty,h⟩:=h
 simp [World.cell?,h]
theorem Blk.free (h:Blk w b cs) (i:Nat):w.frozen? ⟨b,i,none⟩=false:=by
 obtain ⟨ty,h⟩:=h
 simp [World.frozen?,h]
theorem Blk.lt (h:Blk w b cs):b<w.heap.size:=by
 obtain ⟨ty,h⟩:=h
 exact lt_of_block h
theorem Blk.start (w:World) (cs:Array Value) (ty:TypeId):Blk (w.alloc (.cells cs ty)) w.heap.size cs:=⟨ty,heap_alloc_new _ _⟩
theorem Blk.keepB {B:Nat} (h:Blk w b cs) (hb:Below B w w') (hlt:b<B):Blk w' b cs:=by
 obtain ⟨ty,h⟩:=h
 exact ⟨ty,(hb.block b hlt).trans h⟩
theorem Blk.keep (h:Blk w b cs) (hb:Below w.heap.size w w'):Blk w' b cs:=h.keepB hb h.lt
theorem Blk.grown {row:Option Nat} (h:Blk w b cs) (hg:w.grownBy w' row) (hne:row≠some b):Blk w' b cs:=by
 have hl:=h.lt
 obtain ⟨ty,h⟩:=h
 exact ⟨ty,(hg.block b hl (fun e=>hne e.symm)).trans h⟩
theorem Blk.other (h:Blk w b cs) {p:Addr} (hp:p.block≠b) (v:Value):Blk (w.setCell p v) b cs:=by
 obtain ⟨ty,h⟩:=h
 exact ⟨ty,by rw [Below.heap_setCell _ _ _ _ (fun e=>hp e.symm)];exact h⟩
theorem Blk.set (h:Blk w b cs) (i:Nat) (v:Value):Blk (w.setCell ⟨b,i,none⟩ v) b (cs.setIfInBounds i v):=by
 have hlt:=h.lt
 obtain ⟨ty,h⟩:=h
 refine ⟨ty,?_⟩
 have h':w.heap[b]=.cells cs ty (0,0):=by simpa [Array.getElem?_eq_getElem hlt] using h
 show (w.heap.modify b _)[b]? = _
 rw [Array.getElem?_eq_getElem (by simpa using hlt),Array.getElem_modify_self,h']
 rfl
theorem Blk.drew (h:Blk w b cs):Blk w.drew b cs:=h
end
end
section
open Go.RowKit
abbrev txt (s:List UInt8):Value:=.string ⟨s.toArray⟩
theorem Zbq {w:World} {g j:Nat} {u:Value}:w.grownBy (w.setCell ⟨g,j,none⟩ u) (some g):=
 ⟨rfl,rfl,rfl,by simp [World.setCell],fun k _ hk=>Below.heap_setCell _ _ _ _ (fun e=>hk (by rw [e]))⟩
theorem Zv {B:Nat} {w w':World} {row:Option Nat} (hg:w.grownBy w' row) (hB:B<=w.heap.size) (hr:∀ k,row=some k->B<=k):Below B w w':=(Below.refl B w).grown hg hB hr
theorem Za (w:World) (a:Obj):Below w.heap.size w (w.alloc a):=(Below.refl _ _).alloc (Nat.le_refl _) _
theorem Zp (w:World):Below w.heap.size w w.drew:=(Below.refl _ _).drew
section
variable {P:Program} {ops:Array Oper} {Q:Exit->Act->World->Prop} {md:Region.Mode} {S:World->Prop} {fuel:Nat} {listed:Array Bool} {a:Act} {w:World}
theorem tkk (i:Nat) {oi:Oper} (hi:ops[i]? = some oi) {v:Value} (h:wpAnyH P md ops Q S fuel (listed.setIfInBounds i true) (a.put oi.dst v) w) (hy:∀ w':World,S w'->Sem.run P (execOp a.eval oi) w'=.ok (.value v) w':=by intro _ hS_;(try dsimp only at hS_);go_simp<;>with_reducible rfl)
  (hs:Region.noSelect ops=true:=by kernel_rfl) (hf:Region.free md ops listed i=true:=by kernel_rfl) (hr:(Region.ready md ops listed).contains i=true:=by kernel_rfl) (hQ:∀ c a w,Q (.panic c) (a.put oi.dst v) w->Q (.panic c) a w:=by exact fun _ _ _ h=>h) (hn:Region.wanted oi (yielded ops a.tmps)=true:=by kernel_rfl) (hS:S w:=by assumption):wpAnyH P md ops Q S (fuel+1) listed a w:=
 wpAnyH_take hi hs hf hr hQ (.inl ⟨hn,hy⟩) hS h
theorem txk (i:Nat) {oi:Oper} (hi:ops[i]? = some oi) (h:wpAnyH P md ops Q S fuel (listed.setIfInBounds i true) (a.put oi.dst undef) w)
  (hs:Region.noSelect ops=true:=by kernel_rfl) (hf:Region.free md ops listed i=true:=by kernel_rfl) (hr:(Region.ready md ops listed).contains i=true:=by kernel_rfl) (hQ:∀ c a w,Q (.panic c) (a.put oi.dst undef) w->Q (.panic c) a w:=by exact fun _ _ _ h=>h) (hn:Region.wanted oi (yielded ops a.tmps)=false:=by kernel_rfl) (hS:S w:=by assumption):wpAnyH P md ops Q S (fuel+1) listed a w:=
 wpAnyH_take hi hs hf hr hQ (.inr ⟨hn,rfl⟩) hS h
end
end
section
open Go.RowKit
theorem Zm {w:World} {base n size:Nat} {e:TypeId} {v:Value} {xs:List Value} (h:w.ownsRow base e size v n xs):∃ A c,v=.slice A n c:=by
 rcases h.2 with ⟨rfl,rfl⟩ | ⟨g,cap,cur,rfl,_⟩
 ·exact ⟨_,_,rfl⟩
 ·exact ⟨_,_,rfl⟩
theorem Zf {w w1:World} {base n size:Nat} {e:TypeId} {v:Value} {xs:List Value} (h:w.ownsRow base e size v n xs) (hb:Below w.heap.size w w1):w1.ownsRow base e size v n xs:=
 h.kept (row:=none) ⟨hb.os,hb.tape,hb.output,hb.size,fun k hk _=>hb.block k hk⟩ (by
  cases q:v.ownBlock with
  | none=>exact .inl rfl
  | some k=>exact .inr (by simp))
theorem Zab {w:World} {base n size:Nat} {e:TypeId} {A:Option Addr} {c:Nat} {xs:List Value} (h:w.ownsRow base e size (.slice A n c) n xs):n<=c/\c<=maxLen/\Zs w w.heap.size size A n xs:=by
 rcases h.2 with ⟨q,rfl⟩ | ⟨g,cap,cur,q,hb,hg,hnc,hcm,hcs,ht⟩
 ·injection q with q1 q2 q3
  subst q1 q3
  exact ⟨Nat.le_refl _,by decide,⟨h.1,fun hn=>absurd hn (Nat.lt_irrefl _)⟩⟩
 ·injection q with q1 q2 q3
  subst q1 q3
  refine ⟨hnc,hcm,⟨h.1,fun _=>⟨⟨g,0,none⟩,rfl,(Array.getElem?_eq_some_iff.1 hg).1,fun j u hj=>?_⟩⟩⟩
  have hl:=(List.getElem?_eq_some_iff.1 hj).1
  rw [h.1] at hl
  have:=h.cellAt j hl
  rw [hj] at this
  rw [show (⟨g,0,none⟩:Addr).add j=⟨g,j,none⟩ by unfold Addr.add;by_cases e:j=0<;>simp [e]]
  exact this
theorem ZG {P:Program} {t:TypeId} {z:Option Value} {s b:Nat} (h:(P.info? t).map (fun i=>(i.zero,i.size,i.bytes))=some (z,s,b)):∃ i,P.info? t=some i/\i.zero=z/\i.size=s/\i.bytes=b:=by
 cases q:P.info? t with
 | none=>rw [q] at h;cases h
 | some i=>
  rw [q] at h
  simp only [Option.map_some,Option.some.injEq,Prod.mk.injEq] at h
  exact ⟨i,rfl,h.1,h.2.1,h.2.2⟩
def Ze (w:World) (b:Nat) (ty:TypeId) (cs:Array Value):Prop:=w.heap[b]? = some (.cells cs ty (0,0))
theorem Ze.blk {w:World} {b:Nat} {ty:TypeId} {cs:Array Value} (h:Ze w b ty cs):Blk w b cs:=⟨ty,h⟩
theorem Ze.start (w:World) (cs:Array Value) (ty:TypeId):Ze (w.alloc (.cells cs ty)) w.heap.size ty cs:=heap_alloc_new _ _
theorem Ze.lt {w:World} {b:Nat} {ty:TypeId} {cs:Array Value} (h:Ze w b ty cs):b<w.heap.size:=h.blk.lt
theorem Ze.keep {w w':World} {b:Nat} {ty:TypeId} {cs:Array Value} (h:Ze w b ty cs) (hb:Below w.heap.size w w'):Ze w' b ty cs:=(hb.block b h.lt).trans h
theorem Ze.set {w:World} {b:Nat} {ty:TypeId} {cs:Array Value} (h:Ze w b ty cs) (i:Nat) (v:Value):Ze (w.setCell ⟨b,i,none⟩ v) b ty (cs.setIfInBounds i v):=by
 have hlt:=h.lt
 have h':w.heap[b]=.cells cs ty (0,0):=by
  unfold Ze at h
  simpa [Array.getElem?_eq_getElem hlt] using h
 show (w.heap.modify b _)[b]? = _
 rw [Array.getElem?_eq_getElem (by simpa using hlt),Array.getElem_modify_self,h']
 rfl
theorem Ze.off {w:World} {b base n size:Nat} {ty e:TypeId} {cs:Array Value} {v:Value} {xs:List Value} (h:Ze w b ty cs) (ho:w.ownsRow base e size v n xs) (hne:ty≠e):v.ownBlock≠some b:=by
 rcases ho.2 with ⟨rfl,_⟩ | ⟨g,cap,cur,rfl,_,hg,_⟩
 ·intro q;cases q
 ·intro q
  injection q with q
  dsimp only at q
  subst q
  unfold Ze at h
  rw [hg] at h
  injection h with h
  injection h with _ h _
  exact hne h.symm
theorem Zar {w:World} {base base' n n' size size':Nat} {e e':TypeId} {v v':Value} {xs xs':List Value} (h:w.ownsRow base e size v n xs) (h':w.ownsRow base' e' size' v' n' xs') (hne:e≠e'):∀ b,v.ownBlock=some b->v'.ownBlock≠some b:=by
 intro b hb
 rcases h.2 with ⟨rfl,_⟩ | ⟨g,cap,cur,rfl,_,hg,_⟩
 ·cases hb
 ·injection hb with hb
  dsimp only at hb
  subst hb
  exact Ze.off (ty:=e) (cs:=cur) hg h' hne
theorem Ze.other {w:World} {b:Nat} {ty:TypeId} {cs:Array Value} (h:Ze w b ty cs) {p:Addr} (hp:p.block≠b) (v:Value):Ze (w.setCell p v) b ty cs:=(heap_setCell_other w p b v (fun e=>hp e.symm)).trans h
theorem Zk {w:World} {base n size g j:Nat} {e:TypeId} {v u:Value} {xs:List Value} (h:w.ownsRow base e size v n xs) (hg:v.ownBlock≠some g):(w.setCell ⟨g,j,none⟩ u).ownsRow base e size v n xs:=
 h.kept (row:=some g) Zbq (.inr hg)
theorem Ze.grown {w w':World} {b:Nat} {ty:TypeId} {cs:Array Value} {row:Option Nat} (h:Ze w b ty cs) (hg:w.grownBy w' row) (hne:row≠some b):Ze w' b ty cs:=(hg.block b h.lt (fun e=>hne e.symm)).trans h
end
end Go.Proofs.YtaacbenikcbibabGreatDoor
