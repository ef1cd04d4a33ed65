import Derived.Below
import Derived.Laws.OwnMore
import Derived.Deep.AppendLies
import Derived.Deep.Draws
import Derived.Maps.AppendAt
import Derived.RegionTactic
import Derived.OwnWalk
import Derived.Deep.RegionHeld
import Derived.Laws.Rows
import Derived.OneCell
import Derived.WalkKit
import Derived.BigRegion
import Derived.Deep.RegionHeld3
import Derived.Test.YtkgkmdhpnhmcpaaGreatDoorRows
import Derived.WalkSpells
import Derived.WalkLawsBesides
import Derived.IntWalk
import Derived.Lib.Hide
import Derived.WalkSmall
import Derived.Deep.QuietTactic
import Derived.BigQuiet
import Derived.Deep.LoopGhost
import Derived.Lib.Strings
import Derived.StillTailTactics
import Derived.Deep.Cut
import Derived.Maps.OwnOps
import Derived.Maps.Views
set_option maxRecDepth 100000
set_option maxHeartbeats 8000000
namespace Go.Proofs.YtkgkmdhpnhmcpaaGreatDoor
section
open Go.RowKit
theorem cl.{u} {α:Type u}:(∀ (xs:List α) (i:Nat) (h:i<xs.toArray.size),xs.toArray[i]=xs[i]'(by simpa using h))/\(∀ (a:α) (ys:List α) (i:Nat) (h:i+1<(a::ys).length),(a::ys)[i+1]=ys[i]'(Nat.lt_of_succ_lt_succ h))/\(∀ (a:α) (ys:List α) (h:0<(a::ys).length),(a::ys)[0]'h=a)/\(∀ (xs:List α) (i:Nat) (v:α),xs.toArray.setIfInBounds i v=(xs.set i v).toArray)/\(∀ (a v:α) (ys:List α),(a::ys).set 0 v=v::ys)/\∀ (a v:α) (ys:List α) (i:Nat),(a::ys).set (i+1) v=a::ys.set i v:=
 ⟨fun _ _ _=>List.getElem_toArray _,fun _ _ _ _=>rfl,fun _ _ _=>rfl,fun _ _ _=>List.setIfInBounds_toArray _ _ _,fun _ _ _=>rfl,fun _ _ _ _=>rfl⟩
section
variable {P:Program} {ops:Array Oper} {Q:Exit->Act->World->Prop} {md:Region.Mode} {S:World->Prop} {fuel:Nat} {listed:Array Bool} {a:Act} {w:World}
theorem tk (i:Nat) {oi:Oper} (hi:ops[i]? = some oi) {v:Value} (h:wpAnyH P md ops Q S fuel (listed.setIfInBounds i true) (a.put oi.dst v) w) (hy:∀ w':World,S w'->Sem.run P (execOp a.eval oi) w'=.ok (.value v) w':=by intro _ hS_;(try dsimp only at hS_);go_simp<;>with_reducible rfl)
  (hs:Region.noSelect ops=true:=by kernel_rfl) (hf:Region.free md ops listed i=true:=by kernel_rfl) (hr:(Region.ready md ops listed).contains i=true:=by kernel_rfl) (hQ:∀ c a w,Q (.panic c) (a.put oi.dst v) w->Q (.panic c) a w:=by exact fun _ _ _ h=>h) (hn:Region.wanted oi (yielded ops a.tmps)=true:=by rfl) (hS:S w:=by assumption):wpAnyH P md ops Q S (fuel+1) listed a w:=
 wpAnyH_take hi hs hf hr hQ (.inl ⟨hn,hy⟩) hS h
theorem rd (i:Nat) {o:Oper} (ho:ops[i]? = some o) (h:∀ K':Act->World->Prop,Shut (∀ a w,S w->(S w->wpAnyH P md ops Q S fuel (listed.setIfInBounds i true) a w)->K' a w)->if Region.wanted o (yielded ops a.tmps)=true then Oper.wp P o a w K' Q else K' (a.put o.dst undef) w)
  (hr:Region.ready md ops listed=[i]:=by kernel_rfl):wpAnyH P md ops Q S (fuel+1) listed a w:=wpAnyH_ready hr (by simp) (AllReadyH.cons ho h AllReadyH.nil)
theorem tx (i:Nat) {oi:Oper} (hi:ops[i]? = some oi) (h:wpAnyH P md ops Q S fuel (listed.setIfInBounds i true) (a.put oi.dst undef) w)
  (hs:Region.noSelect ops=true:=by kernel_rfl) (hf:Region.free md ops listed i=true:=by kernel_rfl) (hr:(Region.ready md ops listed).contains i=true:=by kernel_rfl) (hQ:∀ c a w,Q (.panic c) (a.put oi.dst undef) w->Q (.panic c) a w:=by exact fun _ _ _ h=>h) (hn:Region.wanted oi (yielded ops a.tmps)=false:=by rfl) (hS:S w:=by assumption):wpAnyH P md ops Q S (fuel+1) listed a w:=
 wpAnyH_take hi hs hf hr hQ (.inr ⟨hn,rfl⟩) hS h
end
theorem ZQ (a:Addr) (n:Nat):(a.add n).block=a.block:=by unfold Addr.add;split<;>rfl
theorem ZaE (a:Addr) (i j:Nat):(a.add i).add j=a.add (i+j):=by
 unfold Addr.add
 by_cases hi:i=0<;>by_cases hj:j=0<;>simp [hi,hj,Nat.add_assoc]
def Zr (w:World) (B size:Nat) (A:Option Addr) (n:Nat) (xs:List Value):Prop:=
 xs.length=n*size/\(0<n->∃ ad,A=some ad/\ad.block<B/\∀ j u,xs[j]? = some u->w.cell? (ad.add j)=some u)
section
variable {w w':World} {B B' size n:Nat} {A:Option Addr} {xs:List Value}
theorem Zr.none_:Zr w B size A 0 []:=⟨by simp,fun h=>absurd h (by omega)⟩
theorem Zr.at_ {k:Nat} (h:Zr w B 1 A n xs) (hk:k<n):∃ ad u,A=some ad/\ad.block<B/\xs[k]? = some u/\w.cell? (ad.add k)=some u:=by
 obtain ⟨ad,e,hb,hc⟩:=h.2 (by omega)
 have hl:k<xs.length:=by have:=h.1;omega
 exact ⟨ad,xs[k],e,hb,List.getElem?_eq_getElem hl,hc k _ (List.getElem?_eq_getElem hl)⟩
theorem Zr.keep (h:Zr w B size A n xs) (hk:∀ p:Addr,p.block<B->w'.cell? p=w.cell? p):Zr w' B size A n xs:=
 ⟨h.1,fun hn=>by
  obtain ⟨ad,e,hb,hc⟩:=h.2 hn
  exact ⟨ad,e,hb,fun j u hu=>(hk _ (by rw [ZQ];exact hb)).trans (hc j u hu)⟩⟩
theorem Zr.more (h:Zr w B size A n xs) (hB:B<=B'):Zr w B' size A n xs:=
 ⟨h.1,fun hn=>by
  obtain ⟨ad,e,hb,hc⟩:=h.2 hn
  exact ⟨ad,e,by omega,hc⟩⟩
theorem Zr.below (h:Zr w B size A n xs) (hb:Below B w w'):Zr w' B size A n xs:=h.keep fun _ hp=>hb.cell hp
theorem Zr.drew (h:Zr w B size A n xs):Zr w.drew B size A n xs:=h
theorem Zr.drewN (h:Zr w B size A n xs) (k:Nat):Zr (w.drewN k) B size A n xs:=h
theorem Zr.alloc (h:Zr w B size A n xs) (hB:B<=w.heap.size) (o:Obj):Zr (w.alloc o) B size A n xs:=h.keep fun p hp=>World.cell?_alloc_lt w o p (by omega)
theorem Zr.setCell (h:Zr w B size A n xs) {p:Addr} (hB:B<=p.block) (u:Value):Zr (w.setCell p u) B size A n xs:=
 h.keep fun q hq=>World.cell?_setCell_other w p q u (fun e=>by subst e;omega)
theorem Zr.grown (h:Zr w B size A n xs) {row:Option Nat} (hg:w.grownBy w' row) (hB:B<=w.heap.size) (hr:∀ g,row=some g->B<=g):Zr w' B size A n xs:=
 h.keep fun p hp=>World.cell?_of_block (hg.block p.block (by omega) (fun e=>by have:=hr _ e.symm;omega))
theorem Zr.cut (h:Zr w B size A n xs) {k cap:Nat} (hk:k<=n) (hc:n<=cap) :
  Zr w B size (if cap=k then A else A.map (·.add (k*size))) (n-k) (xs.drop (k*size)):=by
 refine ⟨by rw [List.length_drop,h.1,Nat.sub_mul],fun hn=>?_⟩
 obtain ⟨ad,rfl,hb,hcell⟩:=h.2 (by omega)
 rw [if_neg (by omega)]
 refine ⟨ad.add (k*size),rfl,by rw [ZQ];exact hb,fun j u hu=>?_⟩
 rw [ZaE]
 exact hcell _ u (by rw [<- hu,List.getElem?_drop])
end
section
variable {P:Program} (w:World)
theorem ZcO (base:Nat) (t ty e:TypeId) (i:TypeInfo) (size:Nat) (ht:P.underlying t=some (.slice e)) (hi:P.info? e=some i)
  (v:Value) (n:Nat) (xs:List Value) (hown:w.ownsRow base e size v n xs) (c:Nat):(Builtin.append_ #[t,t] ty #[v,.slice none 0 c]).run P w=.ok v w:=by
 rcases hown.2 with ⟨rfl,rfl⟩ | ⟨g,cap,cur,rfl,_,_,hnc,_⟩
 ·simp [Builtin.append_,run_underlying ht,sizeOf,typeInfo,hi,Builtin.lenOf,Builtin.firstCells]
 ·simp [Builtin.append_,run_underlying ht,sizeOf,typeInfo,hi,Builtin.lenOf,Builtin.firstCells,hnc,storeCells]
theorem ZdN (base:Nat) (t ty e:TypeId) (i:TypeInfo) (z:Value) (size bytes:Nat) (ht:P.underlying t=some (.slice e)) (hi:P.info? e=some i) (hz:i.zero=some z)
  (hsize:i.size=size) (hby:i.bytes=bytes) (hzs:z.cells.size=size) (hsz:0<size)
  (v:Value) (n:Nat) (xs:List Value) (hown:w.ownsRow base e size v n xs)
  (B:Nat) (A:Option Addr) (m c:Nat) (news:List Value) (hr:Zr w B size A m news) (h1:∀ u∈news,u.oneCell'=true)
  (h63:n+m<=maxLen) (hbytes:(n+m)*bytes<=140737488355328) (hbase:base<=w.heap.size) :
  ∃ v' w',(Builtin.append_ #[t,t] ty #[v,.slice A m c]).run P w=.ok v' w'/\w'.ownsRow base e size v' (n+m) (xs++news)/\w.grownBy w' v.ownBlock ∧
   (v'.ownBlock=v.ownBlock\/v'.ownBlock=some w.heap.size):=by
 rcases A with _ | ad
 ·have hm:m=0:=by
   rcases Nat.eq_zero_or_pos m with h0 | h0
   ·exact h0
   ·obtain ⟨ad,h,_⟩:=hr.2 h0
    cases h
  subst hm
  have hn:news=[]:=List.eq_nil_of_length_eq_zero (by simpa using hr.1)
  subst hn
  exact ⟨v,w,ZcO w base t ty e i size ht hi v n xs hown c,by simpa using hown,World.grownBy.refl w _,.inl rfl⟩
 ·have hcells:∀ j u,news[j]? = some u->w.cell? (ad.add j)=some u:=by
   intro j u hu
   rcases Nat.eq_zero_or_pos m with h0 | h0
   ·subst h0
    have hn:news=[]:=List.eq_nil_of_length_eq_zero (by simpa using hr.1)
    subst hn
    simp at hu
   ·obtain ⟨ad',h,_,hc⟩:=hr.2 h0
    injection h with h
    subst h
    exact hc j u hu
  obtain ⟨v',w',hrun,h2,h3,_,h5⟩:=run_append_own_at (P:=P) w base t ty e i z size bytes ht hi hz hsize hby hzs hsz v n xs hown ad m c news hr.1 hcells h1 h63 hbytes hbase
  exact ⟨v',w',hrun,h2,h3,h5⟩
theorem Zcs {o:Oper} {a:Act} {K:Act->World->Prop} {Q:Exit->Act->World->Prop} (s x:Operand) (t:TypeId)
  (ho:o.op=.call { callee:=.builtin .append,args:=#[s,x],argTypes:=#[t,t] })
  (base:Nat) (e:TypeId) (i:TypeInfo) (z:Value) (size bytes:Nat) (ht:P.underlying t=some (.slice e)) (hi:P.info? e=some i) (hz:i.zero=some z)
  (hsize:i.size=size) (hby:i.bytes=bytes) (hzs:z.cells.size=size) (hsz:0<size)
  (v:Value) (n:Nat) (xs:List Value) (hs:a.eval s=v) (hown:w.ownsRow base e size v n xs)
  (B:Nat) (A:Option Addr) (m c:Nat) (news:List Value) (hx:a.eval x=.slice A m c) (hr:Zr w B size A m news) (h1:∀ u∈news,u.oneCell'=true)
  (h63:n+m<=maxLen) (hbytes:(n+m)*bytes<=140737488355328) (hbase:base<=w.heap.size)
  (h:∀ v' w',w'.ownsRow base e size v' (n+m) (xs++news)->w.grownBy w' v.ownBlock->(v'.ownBlock=v.ownBlock\/v'.ownBlock=some w.heap.size)->K (a.put o.dst v') w'):o.wp P a w K Q:=by
 obtain ⟨v',w',hrun,h2,h3,h4⟩:=ZdN (P:=P) w base t o.type e i z size bytes ht hi hz hsize hby hzs hsz v n xs hown B A m c news hr h1 h63 hbytes hbase
 unfold Oper.wp execOp
 simp only [ho,resolve,invoke,builtin,Sem.run_bind,Sem.run_pure,Result.andThen_ok,List.map_toArray,List.map_cons,List.map_nil,hs,hx,hrun]
 exact h v' w' h2 h3 h4
theorem ZV {ops:Array Oper} {rest:List Oper} {o:Oper} {a:Act} {Q:Exit->Act->World->Prop} (hgd:o.guard=none) (s x:Operand) (t:TypeId)
  (ho:o.op=.call { callee:=.builtin .append,args:=#[s,x],argTypes:=#[t,t] })
  (base:Nat) (e:TypeId) (i:TypeInfo) (z:Value) (size bytes:Nat) (ht:P.underlying t=some (.slice e)) (hi:P.info? e=some i) (hz:i.zero=some z)
  (hsize:i.size=size) (hby:i.bytes=bytes) (hzs:z.cells.size=size) (hsz:0<size)
  (v:Value) (n:Nat) (xs:List Value) (hs:a.eval s=v) (hown:w.ownsRow base e size v n xs)
  (B:Nat) (A:Option Addr) (m c:Nat) (news:List Value) (hx:a.eval x=.slice A m c) (hr:Zr w B size A m news) (h1:∀ u∈news,u.oneCell'=true)
  (h63:n+m<=maxLen) (hbytes:(n+m)*bytes<=140737488355328) (hbase:base<=w.heap.size)
  (h:∀ v' w',w'.ownsRow base e size v' (n+m) (xs++news)->w.grownBy w' v.ownBlock->(v'.ownBlock=v.ownBlock\/v'.ownBlock=some w.heap.size)->wpList P ops Q rest (a.put o.dst v') w'):wpList P ops Q (o::rest) a w:=
 wpList_plain hgd fun _ hK=>Zcs w s x t ho base e i z size bytes ht hi hz hsize hby hzs hsz v n xs hs hown B A m c news hx hr h1 h63 hbytes hbase fun v' w' h2 h3 h4=>hK _ _ (h v' w' h2 h3 h4)
theorem ZP {ops:Array Oper} {o:Oper} {a:Act} {K:Act->World->Prop} {Q:Exit->Act->World->Prop} {E:Prop} (hgd:o.guard=none) (s x:Operand) (t:TypeId)
  (ho:o.op=.call { callee:=.builtin .append,args:=#[s,x],argTypes:=#[t,t] })
  (base:Nat) (e:TypeId) (i:TypeInfo) (z:Value) (size bytes:Nat) (ht:P.underlying t=some (.slice e)) (hi:P.info? e=some i) (hz:i.zero=some z)
  (hsize:i.size=size) (hby:i.bytes=bytes) (hzs:z.cells.size=size) (hsz:0<size)
  (v:Value) (n:Nat) (xs:List Value) (hs:a.eval s=v) (hown:w.ownsRow base e size v n xs)
  (B:Nat) (A:Option Addr) (m c:Nat) (news:List Value) (hx:a.eval x=.slice A m c) (hr:Zr w B size A m news) (h1:∀ u∈news,u.oneCell'=true)
  (h63:n+m<=maxLen) (hbytes:(n+m)*bytes<=140737488355328) (hbase:base<=w.heap.size)
  (h:∀ v' w',w'.ownsRow base e size v' (n+m) (xs++news)->w.grownBy w' v.ownBlock->(v'.ownBlock=v.ownBlock\/v'.ownBlock=some w.heap.size)->K (a.put o.dst v') w') :
  if Region.wanted o (yielded ops a.tmps)=true then Oper.wp P o a w K Q else E:=by
 have hw:Region.wanted o (yielded ops a.tmps)=true:=by simp [Region.wanted,hgd]
 rw [if_pos hw]
 exact Zcs w s x t ho base e i z size bytes ht hi hz hsize hby hzs hsz v n xs hs hown B A m c news hx hr h1 h63 hbytes hbase h
end
end
section
theorem zh {p:Prop} (h:p):Go.RowKit.Hid p:=h
theorem zi {a b:Prop} (h:a) (k:b):a/\b:=⟨h,k⟩
open Go.RowKit
def Blk (w:World) (b:Nat) (cs:Array Value):Prop:=∃ ty,w.heap[b]? = some (.cells cs ty (0,0))
section
variable {w w':World} {b:Nat} {cs:Array Value}
theorem Blk.cell (h:Blk w b cs) (i:Nat):w.cell? ⟨b,i,none⟩=cs[i]?:=by
 obtain ⟨ty,h⟩:=h
 simp [World.cell?,h]
theorem Blk.free (h:Blk w b cs) (i:Nat):w.frozen? ⟨b,i,none⟩=false:=by
 obtain ⟨ty,h⟩:=h
 simp [World.frozen?,h]
theorem Blk.lt (h:Blk w b cs):b<w.heap.size:=by
 obtain ⟨ty,h⟩:=h
 exact lt_of_block h
theorem Blk.start (w:World) (cs:Array Value) (ty:TypeId):Blk (w.alloc (.cells cs ty)) w.heap.size cs:=⟨ty,heap_alloc_new _ _⟩
theorem Blk.keepB {B:Nat} (h:Blk w b cs) (hb:Below B w w') (hlt:b<B):Blk w' b cs:=by
 obtain ⟨ty,h⟩:=h
 exact ⟨ty,(hb.block b hlt).trans h⟩
theorem Blk.keep (h:Blk w b cs) (hb:Below w.heap.size w w'):Blk w' b cs:=h.keepB hb h.lt
theorem Blk.grown {row:Option Nat} (h:Blk w b cs) (hg:w.grownBy w' row) (hne:row≠some b):Blk w' b cs:=by
 have hl:=h.lt
 obtain ⟨ty,h⟩:=h
 exact ⟨ty,(hg.block b hl (fun e=>hne e.symm)).trans h⟩
theorem Blk.other (h:Blk w b cs) {p:Addr} (hp:p.block≠b) (v:Value):Blk (w.setCell p v) b cs:=by
 obtain ⟨ty,h⟩:=h
 exact ⟨ty,by rw [Below.heap_setCell _ _ _ _ (fun e=>hp e.symm)];exact h⟩
theorem Blk.set (h:Blk w b cs) (i:Nat) (v:Value):Blk (w.setCell ⟨b,i,none⟩ v) b (cs.setIfInBounds i v):=by
 have hlt:=h.lt
 obtain ⟨ty,h⟩:=h
 refine ⟨ty,?_⟩
 have h':w.heap[b]=.cells cs ty (0,0):=by simpa [Array.getElem?_eq_getElem hlt] using h
 show (w.heap.modify b _)[b]? = _
 rw [Array.getElem?_eq_getElem (by simpa using hlt),Array.getElem_modify_self,h']
 rfl
theorem Blk.drew (h:Blk w b cs):Blk w.drew b cs:=h
end
end
section
open Go.RowKit
abbrev txt (s:List UInt8):Value:=.string ⟨s.toArray⟩
theorem ZcF {w:World} {g j:Nat} {u:Value}:w.grownBy (w.setCell ⟨g,j,none⟩ u) (some g):=
 ⟨rfl,rfl,rfl,by simp [World.setCell],fun k _ hk=>Below.heap_setCell _ _ _ _ (fun e=>hk (by rw [e]))⟩
theorem Zv {B:Nat} {w w':World} {row:Option Nat} (hg:w.grownBy w' row) (hB:B<=w.heap.size) (hr:∀ k,row=some k->B<=k):Below B w w':=(Below.refl B w).grown hg hB hr
theorem below_alloc1 (w:World) (a:Obj):Below w.heap.size w (w.alloc a):=(Below.refl _ _).alloc (Nat.le_refl _) _
theorem Zo (w:World):Below w.heap.size w w.drew:=(Below.refl _ _).drew
section
variable {P:Program} {ops:Array Oper} {Q:Exit->Act->World->Prop} {md:Region.Mode} {S:World->Prop} {fuel:Nat} {listed:Array Bool} {a:Act} {w:World}
theorem tkk (i:Nat) {oi:Oper} (hi:ops[i]? = some oi) {v:Value} (h:wpAnyH P md ops Q S fuel (listed.setIfInBounds i true) (a.put oi.dst v) w) (hy:∀ w':World,S w'->Sem.run P (execOp a.eval oi) w'=.ok (.value v) w':=by intro _ hS_;(try dsimp only at hS_);go_simp<;>with_reducible rfl)
  (hs:Region.noSelect ops=true:=by kernel_rfl) (hf:Region.free md ops listed i=true:=by kernel_rfl) (hr:(Region.ready md ops listed).contains i=true:=by kernel_rfl) (hQ:∀ c a w,Q (.panic c) (a.put oi.dst v) w->Q (.panic c) a w:=by exact fun _ _ _ h=>h) (hn:Region.wanted oi (yielded ops a.tmps)=true:=by kernel_rfl) (hS:S w:=by assumption):wpAnyH P md ops Q S (fuel+1) listed a w:=
 wpAnyH_take hi hs hf hr hQ (.inl ⟨hn,hy⟩) hS h
theorem txk (i:Nat) {oi:Oper} (hi:ops[i]? = some oi) (h:wpAnyH P md ops Q S fuel (listed.setIfInBounds i true) (a.put oi.dst undef) w)
  (hs:Region.noSelect ops=true:=by kernel_rfl) (hf:Region.free md ops listed i=true:=by kernel_rfl) (hr:(Region.ready md ops listed).contains i=true:=by kernel_rfl) (hQ:∀ c a w,Q (.panic c) (a.put oi.dst undef) w->Q (.panic c) a w:=by exact fun _ _ _ h=>h) (hn:Region.wanted oi (yielded ops a.tmps)=false:=by kernel_rfl) (hS:S w:=by assumption):wpAnyH P md ops Q S (fuel+1) listed a w:=
 wpAnyH_take hi hs hf hr hQ (.inr ⟨hn,rfl⟩) hS h
end
end
section
open Go.RowKit
structure Ou where
 name:List UInt8
 to:Int
structure Sta where
 name:List UInt8
 final:Bool
structure Mov where
 op:List UInt8
 at_:Int
 outs:List Ou
structure Pro where
 name:List UInt8
 states:List Sta
 moves:List Mov
section
variable {α:Type}
def Zt (f:α->List Value):List α->List Value
 | []=>[]
 | x::r=>f x++Zt f r
theorem Zay (f:α->List Value):∀ l k,Zt f (l++k)=Zt f l++Zt f k
 | [],k=>rfl
 | x::r,k=>by rw [List.cons_append,Zt,Zt,Zay f r k,List.append_assoc]
theorem ZaB {f:α->List Value} {m:Nat} (hf:∀ x,(f x).length=m):∀ (l:List α) (k j:Nat) (x:α),l[k]? = some x->j<m->(Zt f l)[k*m+j]? = (f x)[j]?
 | [],k,j,x,h,_=>by simp at h
 | y::r,0,j,x,h,hj=>by
  obtain rfl:y=x:=by simpa using h
  rw [Zt,Nat.zero_mul,Nat.zero_add,List.getElem?_append_left (by rw [hf];exact hj)]
 | y::r,k+1,j,x,h,hj=>by
  rw [List.getElem?_cons_succ] at h
  rw [Zt,List.getElem?_append_right (by rw [hf,Nat.add_mul];omega),hf,show (k+1)*m+j-m=k*m+j by rw [Nat.add_mul];omega]
  exact ZaB hf r k j x h hj
def Zak (m:Nat) (f:α->List Value) (P:World->α->Prop) (w:World) (v:Value) (l:List α):Prop:=
 ∃ A c,v=.slice A l.length c/\l.length<=c/\c<=maxLen/\Zr w w.heap.size m A l.length (Zt f l)/\∀ x∈l,P w x
theorem Zak.below {m:Nat} {f:α->List Value} {P:World->α->Prop} (hP:∀ w w' x,P w x->Below w.heap.size w w'->P w' x) {w w':World} {v:Value} {l:List α} (h:Zak m f P w v l) (hb:Below w.heap.size w w'):Zak m f P w' v l:=by
 obtain ⟨A,c,h1,h2,h3,h4,h5⟩:=h
 exact ⟨A,c,h1,h2,h3,(h4.below hb).more hb.size,fun x hx=>hP w w' x (h5 x hx) hb⟩
theorem Zak.nil (m:Nat) (f:α->List Value) (P:World->α->Prop) (w:World):Zak m f P w (.slice none 0 0) []:=⟨none,0,rfl,Nat.le_refl _,by decide,Zr.none_,fun x hx=>by cases hx⟩
theorem ZfV {m:Nat} {f:α->List Value} (hf:∀ x,(f x).length=m) {w wr:World} {A:Option Addr} {n k:Nat} {l:List α} {x:α} (h4:Zr w w.heap.size m A n (Zt f l)) (hb:Below w.heap.size w wr) (hx:l[k]? = some x) (hn:0<n) :
  ∃ ad,A=some ad/\∀ j,j<m->wr.cell? ((ad.add (k*m)).add j)=(f x)[j]?:=by
 obtain ⟨ad,e,hbk,hc⟩:=h4.2 hn
 refine ⟨ad,e,fun j hj=>?_⟩
 rw [ZaE,hb.cell (p:=ad.add (k*m+j)) (by rw [ZQ];exact hbk)]
 have hu:(f x)[j]? = some ((f x)[j]'(by rw [hf];exact hj)):=List.getElem?_eq_getElem _
 rw [hu]
 exact hc _ _ ((ZaB hf l k j x hx hj).trans hu)
end
section
variable {α:Type}
theorem ZaN {f:α->List Value} (hf:∀ x,(f x).length=2) {w wr:World} {A:Option Addr} {n k:Nat} {l:List α} {x:α} (h4:Zr w w.heap.size 2 A n (Zt f l)) (hb:Below w.heap.size w wr) (hx:l[k]? = some x) (hn:0<n) :
  ∃ ad,A=some ad/\wr.cell? (ad.add (k*2))=(f x)[0]?/\wr.cell? ⟨(ad.add (k*2)).block,(ad.add (k*2)).off+1,none⟩=(f x)[1]?:=by
 obtain ⟨ad,e,h⟩:=ZfV hf h4 hb hx hn
 have h0:=h 0 (by decide)
 have h1:=h 1 (by decide)
 rw [ZaE,Nat.add_zero] at h0
 exact ⟨ad,e,h0,h1⟩
theorem ZbL {f:α->List Value} (hf:∀ x,(f x).length=3) {w wr:World} {A:Option Addr} {n k:Nat} {l:List α} {x:α} (h4:Zr w w.heap.size 3 A n (Zt f l)) (hb:Below w.heap.size w wr) (hx:l[k]? = some x) (hn:0<n) :
  ∃ ad,A=some ad/\wr.cell? (ad.add (k*3))=(f x)[0]?/\wr.cell? ⟨(ad.add (k*3)).block,(ad.add (k*3)).off+1,none⟩=(f x)[1]?/\wr.cell? ⟨(ad.add (k*3)).block,(ad.add (k*3)).off+2,none⟩=(f x)[2]?:=by
 obtain ⟨ad,e,h⟩:=ZfV hf h4 hb hx hn
 have h0:=h 0 (by decide)
 have h1:=h 1 (by decide)
 have h2:=h 2 (by decide)
 rw [ZaE,Nat.add_zero] at h0
 exact ⟨ad,e,h0,h1,h2⟩
end
def ouC (x:Ou):List Value:=[txt x.name,.int .i64 x.to]
def stC (x:Sta):List Value:=[txt x.name,.bool x.final]
def mvC (x:Value×Mov):List Value:=[txt x.2.op,.int .i64 x.2.at_,x.1]
def Zaj:World->Value->List Ou->Prop:=Zak 2 ouC fun _ x=>x.name.length<=maxLen
def ZaD:World->Value->List Sta->Prop:=Zak 2 stC fun _ x=>x.name.length<=maxLen
def Zby (w:World) (v:Value) (ms:List Mov):Prop:=∃ rs:List (Value×Mov),rs.map (·.2)=ms/\Zak 3 mvC (fun w x=>x.2.op.length<=maxLen/\Zaj w x.1 x.2.outs) w v rs
theorem Zaj.below {w w':World} {v:Value} {l:List Ou} (h:Zaj w v l) (hb:Below w.heap.size w w'):Zaj w' v l:=Zak.below (fun _ _ _ h _=>h) h hb
theorem ZaD.below {w w':World} {v:Value} {l:List Sta} (h:ZaD w v l) (hb:Below w.heap.size w w'):ZaD w' v l:=Zak.below (fun _ _ _ h _=>h) h hb
theorem Zby.below {w w':World} {v:Value} {l:List Mov} (h:Zby w v l) (hb:Below w.heap.size w w'):Zby w' v l:=by
 obtain ⟨rs,e,h⟩:=h
 exact ⟨rs,e,Zak.below (fun _ _ _ h hb=>⟨h.1,h.2.below hb⟩) h hb⟩
theorem Zaj.len {w:World} {v:Value} {l:List Ou} (h:Zaj w v l):∃ A c,v=.slice A l.length c/\l.length<=maxLen:=by
 obtain ⟨A,c,e,a,b,_⟩:=h
 exact ⟨A,c,e,Nat.le_trans a b⟩
theorem ZaD.len {w:World} {v:Value} {l:List Sta} (h:ZaD w v l):∃ A c,v=.slice A l.length c/\l.length<=maxLen:=by
 obtain ⟨A,c,e,a,b,_⟩:=h
 exact ⟨A,c,e,Nat.le_trans a b⟩
theorem Zby.len {w:World} {v:Value} {l:List Mov} (h:Zby w v l):∃ A c,v=.slice A l.length c/\l.length<=maxLen:=by
 obtain ⟨rs,rfl,A,c,e,a,b,_⟩:=h
 rw [List.length_map]
 exact ⟨A,c,e,Nat.le_trans a b⟩
structure ProAt (w:World) (vs vm:Value) (p:Pro):Prop where
 name:p.name.length<=maxLen
 states:ZaD w vs p.states
 moves:Zby w vm p.moves
theorem ProAt.below {w w':World} {vs vm:Value} {p:Pro} (h:ProAt w vs vm p) (hb:Below w.heap.size w w'):ProAt w' vs vm p:=⟨h.name,h.states.below hb,h.moves.below hb⟩
abbrev ZaH (vs vm:Value) (p:Pro):Value:=.agg #[txt p.name,vs,vm]
end
section
open Go.RowKit Go.Maps
theorem ZcJ:Keyed Tryz.prog 9:=string_keyed Tryz.underlying9
theorem Zcr (w:World):(zeroValue 3).run Tryz.prog w=.ok (.int .i64 0) w:=by kernel_rfl
def Zao (w:World) (b:Nat) (L:List (List UInt8)):Prop:=
 ∃ D:DataW Unit,w.ownsMap Tryz.prog 9 (plainElem Tryz.prog 3) b L.length D/\IsMap D/\∀ s:List UInt8,D.atKey (.string s) (.lit (.int .i64 0))=.lit (.int .i64 (L.count s))
theorem Zao.made (w:World):Zao (w.alloc (.map #[] 0)) w.heap.size []:=⟨.map [],World.ownsMap_made _ _ _ _,isMap_empty,fun _=>rfl⟩
theorem Zao.lt {w:World} {b:Nat} {L:List (List UInt8)} (h:Zao w b L):b<w.heap.size:=by
 obtain ⟨D,h1,_⟩:=h
 exact h1.lt
theorem Zao.keepB {w w':World} {b B:Nat} {L:List (List UInt8)} (h:Zao w b L) (hb:Below B w w') (hlt:b<B):Zao w' b L:=by
 obtain ⟨D,⟨es,cl,h1,h2⟩,h3⟩:=h
 exact ⟨D,⟨es,cl,(hb.block b hlt).trans h1,h2⟩,h3⟩
theorem Zao.keep {w w':World} {b:Nat} {L:List (List UInt8)} (h:Zao w b L) (hb:Below w.heap.size w w'):Zao w' b L:=h.keepB hb h.lt
theorem Zao.grown {w w':World} {row:Option Nat} {b:Nat} {L:List (List UInt8)} (h:Zao w b L) (hg:w.grownBy w' row) (hne:row≠some b):Zao w' b L:=by
 have hlt:=h.lt
 obtain ⟨D,⟨es,cl,h1,h2⟩,h3⟩:=h
 exact ⟨D,⟨es,cl,(hg.block b hlt (fun e=>hne e.symm)).trans h1,h2⟩,h3⟩
theorem Zao.not_blk {w:World} {b c:Nat} {L:List (List UInt8)} {cs:Array Value} (h:Zao w b L) (k:Blk w c cs):b≠c:=by
 rintro rfl
 obtain ⟨D,⟨es,cl,h1,_⟩,_⟩:=h
 obtain ⟨ty,h2⟩:=k
 rw [h1] at h2
 cases h2
section
variable {w:World} {ops:Array Oper} {rest:List Oper} {o:Oper} {a:Act} {Q:Exit->Act->World->Prop}
theorem Zcp (m x:Operand) (t:TypeId) (hg:o.guard=none) (hop:o.op=Op.lookup t m x false) (ht:Tryz.prog.underlying t=some (.map 9 3)) (b:Nat) (L:List (List UInt8))
  (hm:a.eval m=.map (some b)) (h:Zao w b L) (s:List UInt8) (hx:a.eval x=txt s) (hk:s.length<=maxLen)
  (hK:wpList Tryz.prog ops Q rest (a.put o.dst (.int .i64 (L.count s))) w):wpList Tryz.prog ops Q (o::rest) a w:=by
 obtain ⟨D,h1,h2,h3⟩:=h
 refine wpList_lookup_own_int w hg m x t hop 9 3 .i64 ZcJ ht Tryz.underlying3 (Zcr w) b _ D hm h1 _ _ hx (WideMaps.keyOf_string_mk Tryz.underlying9 (by show s.toArray.size<=maxLen;rw [List.size_toArray];exact hk)) ?_
 intro c hat _
 have e:=(h3 s).symm.trans hat
 injection e with e
 injection e with _ e
 rw [<- e]
 exact hK
theorem ZfY (m x v:Operand) (t:TypeId) (hg:o.guard=none) (hop:o.op=Op.mapUpdate t m x v) (ht:Tryz.prog.underlying t=some (.map 9 3)) (b:Nat) (L:List (List UInt8))
  (hm:a.eval m=.map (some b)) (h:Zao w b L) (hn:L.length<maxLen) (s:List UInt8) (hx:a.eval x=txt s) (hv:a.eval v=.int .i64 ((L.count s:Int)+1)) (hk:s.length<=maxLen)
  (hK:∀ w',Zao w' b (s::L)->w.grownBy w' (some b)->wpList Tryz.prog ops Q rest (a.put o.dst undef) w'):wpList Tryz.prog ops Q (o::rest) a w:=by
 obtain ⟨D,h1,h2,h3⟩:=h
 have hc:L.count s<=L.length:=List.count_le_length
 refine wpList_mapUpdate_own w hg m x v t hop 9 3 ZcJ ht _ b _ D hm h1 hn _ _ _ hx hv (WideMaps.keyOf_string_mk Tryz.underlying9 (by show s.toArray.size<=maxLen;rw [List.size_toArray];exact hk)) (.lit (.int .i64 ((L.count s:Int)+1))) [] (plainElem_int Tryz.underlying3 (WalkArith.wf_i64 (by unfold maxLen at hn;omega))) ?_
 intro w' k1 k2
 refine hK w' ⟨_,k1,h2.put _ _,fun u=>?_⟩ k2
 by_cases e:s=u
 ·subst e
  rw [List.count_cons_self]
  exact atKey_put_same h2 (by trivial) _ _
 ·rw [List.count_cons_of_ne e]
  exact (atKey_put_other (by intro q;injection q with q;exact e q.symm) _ _).trans (h3 u)
end
def frF (bx:Nat):Value:=.func (.func 138) #[] #[.pointer (some ⟨bx,0,none⟩)]
structure FreS (w:World) (bx bm:Nat) (L:List (List UInt8)):Prop where
 box:Blk w bx #[.map (some bm)]
 map:Zao w bm L
theorem FreS.keep {w w':World} {bx bm:Nat} {L:List (List UInt8)} (h:FreS w bx bm L) (hb:Below w.heap.size w w'):FreS w' bx bm L:=⟨h.box.keep hb,h.map.keep hb⟩
theorem FreS.grown {w w':World} {row:Option Nat} {bx bm:Nat} {L:List (List UInt8)} (h:FreS w bx bm L) (hg:w.grownBy w' row) (h1:row≠some bx) (h2:row≠some bm):FreS w' bx bm L:=⟨h.box.grown hg h1,h.map.grown hg h2⟩
theorem ZdT (w:World):Calls Tryz.prog 108 #[] w fun e w'=>∃ bx bm,e=.returned (frF bx)/\FreS w' bx bm []/\w.heap.size<=bx/\w.heap.size<=bm/\Below w.heap.size w w':=by
 have hmm:=@run_makeMap Tryz.prog
 have hmf:∀ (fn:Fn) (first cap:Array Value) (w:World),(Instr.makeFunc fn first cap).run Tryz.prog w=.ok (.func fn first cap) w:=fun _ _ _ _=>rfl
 go_enter Tryz.func108,Tryz.ntmps108
 go_wp2_with fail
 go_ret
 have a1:=below_alloc1 w (.map #[] 0)
 have a2:=below_alloc1 (w.alloc (.map #[] 0)) (.cells #[.map (some w.heap.size)] 93)
 have b:=Blk.start (w.alloc (.map #[] 0)) #[.map (some w.heap.size)] 93
 rw [World.size_alloc] at b
 exact ⟨w.heap.size+1,w.heap.size,rfl,⟨b,(Zao.made w).keep a2⟩,Nat.le_succ _,Nat.le_refl _,a1.trans (a2.mono a1.size)⟩
theorem Zdh (w:World) (bx bm:Nat) (L:List (List UInt8)) (s:List UInt8) (h:FreS w bx bm L) (hn:L.length<1000000) (hs:s.length<=maxLen) :
  Calls Tryz.prog 138 #[txt s,.pointer (some ⟨bx,0,none⟩)] w fun e w'=>e=.returned (.bool (!L.contains s))/\FreS w' bx bm (s::L)/\w.grownBy w' (some bm):=by
 have c0:=h.box.cell 0
 have HH:=zh h
 have hc:L.count s<=L.length:=List.count_le_length
 have wk:IntKind.i64.wrap ((L.count s:Int)+1)=(L.count s:Int)+1:=IntWalk.i64_in _ (by omega)
 have hct:(L.contains s=true/\¬ ((L.count s:Int)+1=1))\/(L.contains s=false/\(L.count s:Int)+1=1):=by
  cases q:L.contains s with
  | true=>
   have:=List.count_pos_iff.mpr (List.contains_iff_mem.mp q)
   exact .inl ⟨rfl,by omega⟩
  | false=>
   have:=List.count_eq_zero.mpr (fun m=>by rw [List.contains_iff_mem.mpr m] at q;cases q)
   exact .inr ⟨rfl,by omega⟩
 simp only [List.getElem?_toArray,List.getElem?_cons_zero] at c0
 have K:=zh (zi hn hs)
 clear h hn hs hc
 generalize L.contains s=B at *
 have HT:=zh hct
 clear hct
 generalize hC:L.count s=C at *
 have HC:=zh hC
 clear hC
 go_enter Tryz.func138,Tryz.ntmps138
 go_upto_region 2 with (first
  | (at_lookup;refine Zcp _ _ _ rfl rfl Tryz.underlying93 bm L rfl HH.out.map s rfl K.out.2 ?_;rw [HC.out])
  | (at_mapUpdate;refine ZfY _ _ _ _ rfl rfl Tryz.underlying93 bm L rfl HH.out.map (by have:=K.out.1;unfold maxLen;omega) s rfl (by first | (rw [HC.out];rfl) | (rw [HC.out];simp [wk];done)) K.out.2 ?_;intro w1 hm1 hg1;have H1:=zh (zi hm1 hg1);clear hm1 hg1))
 have hb1:=HH.out.box.grown H1.out.2 (fun e=>by injection e with e;exact HH.out.map.not_blk HH.out.box e)
 have c1:=hb1.cell 0
 simp only [List.getElem?_toArray,List.getElem?_cons_zero] at c1
 have H2:=zh (zi (FreS.mk hb1 H1.out.1) H1.out.2)
 have HC2:=zh (show (s::L).count s=C+1 from by rw [List.count_cons_self,HC.out])
 clear hb1 H1
 go_wp2_with (at_lookup;refine Zcp _ _ _ rfl rfl Tryz.underlying93 bm (s::L) rfl H2.out.1.map s rfl K.out.2 ?_;rw [HC2.out])
 go_ret
 refine ⟨?_,H2.out⟩
 show Ending.returned (.bool ((C:Int)+1==1))=_
 rcases HT.out with ⟨q,i1⟩ | ⟨q,i1⟩
 ·rw [q,show ((C:Int)+1==1)=false from beq_eq_false_iff_ne.mpr i1]
  rfl
 ·rw [q,show ((C:Int)+1==1)=true from beq_iff_eq.mpr i1]
  rfl
end
end Go.Proofs.YtkgkmdhpnhmcpaaGreatDoor
