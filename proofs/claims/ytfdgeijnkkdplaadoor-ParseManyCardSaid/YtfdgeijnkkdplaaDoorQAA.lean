import Derived.Below
import Derived.Laws.OwnMore
import Derived.Deep.AppendLies
import Derived.Deep.Draws
import Derived.Maps.AppendAt
import Derived.RegionTactic
import Derived.OwnWalk
import Derived.Deep.RegionHeld
import Derived.Laws.Rows
import Derived.OneCell
import Derived.WalkKit
import Derived.BigRegion
import Derived.Deep.RegionHeld3
import Derived.OrdersHeld
set_option maxRecDepth 100000
set_option maxHeartbeats 8000000
namespace Go.Proofs.YtfdgeijnkkdplaaDoor
section
open Go.RowKit
theorem cl.{u} {α:Type u}:(∀ (xs:List α) (i:Nat) (h:i<xs.toArray.size),xs.toArray[i]=xs[i]'(by simpa using h))/\(∀ (a:α) (ys:List α) (i:Nat) (h:i+1<(a::ys).length),(a::ys)[i+1]=ys[i]'(Nat.lt_of_succ_lt_succ h))/\(∀ (a:α) (ys:List α) (h:0<(a::ys).length),(a::ys)[0]'h=a)/\(∀ (xs:List α) (i:Nat) (v:α),xs.toArray.setIfInBounds i v=(xs.set i v).toArray)/\(∀ (a v:α) (ys:List α),(a::ys).set 0 v=v::ys)/\∀ (a v:α) (ys:List α) (i:Nat),(a::ys).set (i+1) v=a::ys.set i v:=
 ⟨fun _ _ _=>List.getElem_toArray _,fun _ _ _ _=>rfl,fun _ _ _=>rfl,fun _ _ _=>List.setIfInBounds_toArray _ _ _,fun _ _ _=>rfl,fun _ _ _ _=>rfl⟩
section
variable {P:Program} {ops:Array Oper} {Q:Exit->Act->World->Prop} {md:Region.Mode} {S:World->Prop} {fuel:Nat} {listed:Array Bool} {a:Act} {w:World}
theorem tk (i:Nat) {oi:Oper} (hi:ops[i]? = some oi) {v:Value} (h:wpAnyH P md ops Q S fuel (listed.setIfInBounds i true) (a.put oi.dst v) w) (hy:∀ w':World,S w'->Sem.run P (execOp a.eval oi) w'=.ok (.value v) w':=by intro _ hS_;(try dsimp only at hS_);go_simp<;>with_reducible rfl)
  (hs:Region.noSelect ops=true:=by kernel_rfl) (hf:Region.free md ops listed i=true:=by kernel_rfl) (hr:(Region.ready md ops listed).contains i=true:=by kernel_rfl) (hQ:∀ c a w,Q (.panic c) (a.put oi.dst v) w->Q (.panic c) a w:=by exact fun _ _ _ h=>h) (hn:Region.wanted oi (yielded ops a.tmps)=true:=by rfl) (hS:S w:=by assumption):wpAnyH P md ops Q S (fuel+1) listed a w:=
 wpAnyH_take hi hs hf hr hQ (.inl ⟨hn,hy⟩) hS h
theorem rd (i:Nat) {o:Oper} (ho:ops[i]? = some o) (h:∀ K':Act->World->Prop,Shut (∀ a w,S w->(S w->wpAnyH P md ops Q S fuel (listed.setIfInBounds i true) a w)->K' a w)->if Region.wanted o (yielded ops a.tmps)=true then Oper.wp P o a w K' Q else K' (a.put o.dst undef) w)
  (hr:Region.ready md ops listed=[i]:=by kernel_rfl):wpAnyH P md ops Q S (fuel+1) listed a w:=wpAnyH_ready hr (by simp) (AllReadyH.cons ho h AllReadyH.nil)
theorem tx (i:Nat) {oi:Oper} (hi:ops[i]? = some oi) (h:wpAnyH P md ops Q S fuel (listed.setIfInBounds i true) (a.put oi.dst undef) w)
  (hs:Region.noSelect ops=true:=by kernel_rfl) (hf:Region.free md ops listed i=true:=by kernel_rfl) (hr:(Region.ready md ops listed).contains i=true:=by kernel_rfl) (hQ:∀ c a w,Q (.panic c) (a.put oi.dst undef) w->Q (.panic c) a w:=by exact fun _ _ _ h=>h) (hn:Region.wanted oi (yielded ops a.tmps)=false:=by rfl) (hS:S w:=by assumption):wpAnyH P md ops Q S (fuel+1) listed a w:=
 wpAnyH_take hi hs hf hr hQ (.inr ⟨hn,rfl⟩) hS h
end
theorem ZbB (a:Addr) (n:Nat):(a.add n).block=a.block:=by unfold Addr.add;split<;>rfl
theorem ZhM (a:Addr) (i j:Nat):(a.add i).add j=a.add (i+j):=by
 unfold Addr.add
 by_cases hi:i=0<;>by_cases hj:j=0<;>simp [hi,hj,Nat.add_assoc]
def ZT (w:World) (B size:Nat) (A:Option Addr) (n:Nat) (xs:List Value):Prop:=
 xs.length=n*size/\(0<n->∃ ad,A=some ad/\ad.block<B/\∀ j u,xs[j]? = some u->w.cell? (ad.add j)=some u)
section
variable {w w':World} {B B' size n:Nat} {A:Option Addr} {xs:List Value}
theorem ZT.none_:ZT w B size A 0 []:=⟨by simp,fun h=>absurd h (by omega)⟩
theorem ZT.at_ {k:Nat} (h:ZT w B 1 A n xs) (hk:k<n):∃ ad u,A=some ad/\ad.block<B/\xs[k]? = some u/\w.cell? (ad.add k)=some u:=by
 obtain ⟨ad,e,hb,hc⟩:=h.2 (by omega)
 have hl:k<xs.length:=by have:=h.1;omega
 exact ⟨ad,xs[k],e,hb,List.getElem?_eq_getElem hl,hc k _ (List.getElem?_eq_getElem hl)⟩
theorem ZT.keep (h:ZT w B size A n xs) (hk:∀ p:Addr,p.block<B->w'.cell? p=w.cell? p):ZT w' B size A n xs:=
 ⟨h.1,fun hn=>by
  obtain ⟨ad,e,hb,hc⟩:=h.2 hn
  exact ⟨ad,e,hb,fun j u hu=>(hk _ (by rw [ZbB];exact hb)).trans (hc j u hu)⟩⟩
theorem ZT.more (h:ZT w B size A n xs) (hB:B<=B'):ZT w B' size A n xs:=
 ⟨h.1,fun hn=>by
  obtain ⟨ad,e,hb,hc⟩:=h.2 hn
  exact ⟨ad,e,by omega,hc⟩⟩
theorem ZT.below (h:ZT w B size A n xs) (hb:Below B w w'):ZT w' B size A n xs:=h.keep fun _ hp=>hb.cell hp
theorem ZT.drew (h:ZT w B size A n xs):ZT w.drew B size A n xs:=h
theorem ZT.alloc (h:ZT w B size A n xs) (hB:B<=w.heap.size) (o:Obj):ZT (w.alloc o) B size A n xs:=h.keep fun p hp=>World.cell?_alloc_lt w o p (by omega)
theorem ZT.setCell (h:ZT w B size A n xs) {p:Addr} (hB:B<=p.block) (u:Value):ZT (w.setCell p u) B size A n xs:=
 h.keep fun q hq=>World.cell?_setCell_other w p q u (fun e=>by subst e;omega)
theorem ZT.grown (h:ZT w B size A n xs) {row:Option Nat} (hg:w.grownBy w' row) (hB:B<=w.heap.size) (hr:∀ g,row=some g->B<=g):ZT w' B size A n xs:=
 h.keep fun p hp=>World.cell?_of_block (hg.block p.block (by omega) (fun e=>by have:=hr _ e.symm;omega))
theorem ZT.of_own {base:Nat} {e:TypeId} {c:Nat} (h:w.ownsRow base e size (.slice A n c) n xs):ZT w w.heap.size size A n xs:=by
 refine ⟨h.1,fun hn=>?_⟩
 obtain ⟨g,cap,hv,_,hlt⟩:=h.form hn
 have hA:A=some ⟨g,0,none⟩:=by injection hv
 subst hA
 exact ⟨_,rfl,hlt,h.cells (g:=g) rfl⟩
end
section
variable {P:Program} (w:World)
theorem Zd5 (base:Nat) (t ty e:TypeId) (i:TypeInfo) (size:Nat) (ht:P.underlying t=some (.slice e)) (hi:P.info? e=some i)
  (v:Value) (n:Nat) (xs:List Value) (hown:w.ownsRow base e size v n xs) (c:Nat):(Builtin.append_ #[t,t] ty #[v,.slice none 0 c]).run P w=.ok v w:=by
 rcases hown.2 with ⟨rfl,rfl⟩ | ⟨g,cap,cur,rfl,_,_,hnc,_⟩
 ·simp [Builtin.append_,run_underlying ht,sizeOf,typeInfo,hi,Builtin.lenOf,Builtin.firstCells]
 ·simp [Builtin.append_,run_underlying ht,sizeOf,typeInfo,hi,Builtin.lenOf,Builtin.firstCells,hnc,storeCells]
theorem Ze1 (base:Nat) (t ty e:TypeId) (i:TypeInfo) (z:Value) (size bytes:Nat) (ht:P.underlying t=some (.slice e)) (hi:P.info? e=some i) (hz:i.zero=some z)
  (hsize:i.size=size) (hby:i.bytes=bytes) (hzs:z.cells.size=size) (hsz:0<size)
  (v:Value) (n:Nat) (xs:List Value) (hown:w.ownsRow base e size v n xs)
  (B:Nat) (A:Option Addr) (m c:Nat) (news:List Value) (hr:ZT w B size A m news) (h1:∀ u∈news,u.oneCell'=true)
  (h63:n+m<=maxLen) (hbytes:(n+m)*bytes<=140737488355328) (hbase:base<=w.heap.size) :
  ∃ v' w',(Builtin.append_ #[t,t] ty #[v,.slice A m c]).run P w=.ok v' w'/\w'.ownsRow base e size v' (n+m) (xs++news)/\w.grownBy w' v.ownBlock ∧
   (v'.ownBlock=v.ownBlock\/v'.ownBlock=some w.heap.size):=by
 rcases A with _ | ad
 ·have hm:m=0:=by
   rcases Nat.eq_zero_or_pos m with h0 | h0
   ·exact h0
   ·obtain ⟨ad,h,_⟩:=hr.2 h0
    cases h
  subst hm
  have hn:news=[]:=List.eq_nil_of_length_eq_zero (by simpa using hr.1)
  subst hn
  exact ⟨v,w,Zd5 w base t ty e i size ht hi v n xs hown c,by simpa using hown,World.grownBy.refl w _,.inl rfl⟩
 ·have hcells:∀ j u,news[j]? = some u->w.cell? (ad.add j)=some u:=by
   intro j u hu
   rcases Nat.eq_zero_or_pos m with h0 | h0
   ·subst h0
    have hn:news=[]:=List.eq_nil_of_length_eq_zero (by simpa using hr.1)
    subst hn
    simp at hu
   ·obtain ⟨ad',h,_,hc⟩:=hr.2 h0
    injection h with h
    subst h
    exact hc j u hu
  obtain ⟨v',w',hrun,h2,h3,_,h5⟩:=run_append_own_at (P:=P) w base t ty e i z size bytes ht hi hz hsize hby hzs hsz v n xs hown ad m c news hr.1 hcells h1 h63 hbytes hbase
  exact ⟨v',w',hrun,h2,h3,h5⟩
theorem ZdD {o:Oper} {a:Act} {K:Act->World->Prop} {Q:Exit->Act->World->Prop} (s x:Operand) (t:TypeId)
  (ho:o.op=.call { callee:=.builtin .append,args:=#[s,x],argTypes:=#[t,t] })
  (base:Nat) (e:TypeId) (i:TypeInfo) (z:Value) (size bytes:Nat) (ht:P.underlying t=some (.slice e)) (hi:P.info? e=some i) (hz:i.zero=some z)
  (hsize:i.size=size) (hby:i.bytes=bytes) (hzs:z.cells.size=size) (hsz:0<size)
  (v:Value) (n:Nat) (xs:List Value) (hs:a.eval s=v) (hown:w.ownsRow base e size v n xs)
  (B:Nat) (A:Option Addr) (m c:Nat) (news:List Value) (hx:a.eval x=.slice A m c) (hr:ZT w B size A m news) (h1:∀ u∈news,u.oneCell'=true)
  (h63:n+m<=maxLen) (hbytes:(n+m)*bytes<=140737488355328) (hbase:base<=w.heap.size)
  (h:∀ v' w',w'.ownsRow base e size v' (n+m) (xs++news)->w.grownBy w' v.ownBlock->(v'.ownBlock=v.ownBlock\/v'.ownBlock=some w.heap.size)->K (a.put o.dst v') w'):o.wp P a w K Q:=by
 obtain ⟨v',w',hrun,h2,h3,h4⟩:=Ze1 (P:=P) w base t o.type e i z size bytes ht hi hz hsize hby hzs hsz v n xs hown B A m c news hr h1 h63 hbytes hbase
 unfold Oper.wp execOp
 simp only [ho,resolve,invoke,builtin,Sem.run_bind,Sem.run_pure,Result.andThen_ok,List.map_toArray,List.map_cons,List.map_nil,hs,hx,hrun]
 exact h v' w' h2 h3 h4
theorem ZcA {ops:Array Oper} {rest:List Oper} {o:Oper} {a:Act} {Q:Exit->Act->World->Prop} (hgd:o.guard=none) (s x:Operand) (t:TypeId)
  (ho:o.op=.call { callee:=.builtin .append,args:=#[s,x],argTypes:=#[t,t] })
  (base:Nat) (e:TypeId) (i:TypeInfo) (z:Value) (size bytes:Nat) (ht:P.underlying t=some (.slice e)) (hi:P.info? e=some i) (hz:i.zero=some z)
  (hsize:i.size=size) (hby:i.bytes=bytes) (hzs:z.cells.size=size) (hsz:0<size)
  (v:Value) (n:Nat) (xs:List Value) (hs:a.eval s=v) (hown:w.ownsRow base e size v n xs)
  (B:Nat) (A:Option Addr) (m c:Nat) (news:List Value) (hx:a.eval x=.slice A m c) (hr:ZT w B size A m news) (h1:∀ u∈news,u.oneCell'=true)
  (h63:n+m<=maxLen) (hbytes:(n+m)*bytes<=140737488355328) (hbase:base<=w.heap.size)
  (h:∀ v' w',w'.ownsRow base e size v' (n+m) (xs++news)->w.grownBy w' v.ownBlock->(v'.ownBlock=v.ownBlock\/v'.ownBlock=some w.heap.size)->wpList P ops Q rest (a.put o.dst v') w'):wpList P ops Q (o::rest) a w:=
 wpList_plain hgd fun _ hK=>ZdD w s x t ho base e i z size bytes ht hi hz hsize hby hzs hsz v n xs hs hown B A m c news hx hr h1 h63 hbytes hbase fun v' w' h2 h3 h4=>hK _ _ (h v' w' h2 h3 h4)
theorem ZeN {ops:Array Oper} {o:Oper} {a:Act} {K:Act->World->Prop} {Q:Exit->Act->World->Prop} {E:Prop} (hgd:o.guard=none) (s x:Operand) (t:TypeId)
  (ho:o.op=.call { callee:=.builtin .append,args:=#[s,x],argTypes:=#[t,t] })
  (base:Nat) (e:TypeId) (i:TypeInfo) (z:Value) (size bytes:Nat) (ht:P.underlying t=some (.slice e)) (hi:P.info? e=some i) (hz:i.zero=some z)
  (hsize:i.size=size) (hby:i.bytes=bytes) (hzs:z.cells.size=size) (hsz:0<size)
  (v:Value) (n:Nat) (xs:List Value) (hs:a.eval s=v) (hown:w.ownsRow base e size v n xs)
  (B:Nat) (A:Option Addr) (m c:Nat) (news:List Value) (hx:a.eval x=.slice A m c) (hr:ZT w B size A m news) (h1:∀ u∈news,u.oneCell'=true)
  (h63:n+m<=maxLen) (hbytes:(n+m)*bytes<=140737488355328) (hbase:base<=w.heap.size)
  (h:∀ v' w',w'.ownsRow base e size v' (n+m) (xs++news)->w.grownBy w' v.ownBlock->(v'.ownBlock=v.ownBlock\/v'.ownBlock=some w.heap.size)->K (a.put o.dst v') w') :
  if Region.wanted o (yielded ops a.tmps)=true then Oper.wp P o a w K Q else E:=by
 have hw:Region.wanted o (yielded ops a.tmps)=true:=by simp [Region.wanted,hgd]
 rw [if_pos hw]
 exact ZdD w s x t ho base e i z size bytes ht hi hz hsize hby hzs hsz v n xs hs hown B A m c news hx hr h1 h63 hbytes hbase h
end
end
section
theorem zh {p:Prop} (h:p):Go.RowKit.Hid p:=h
theorem zi {a b:Prop} (h:a) (k:b):a/\b:=⟨h,k⟩
open Go.RowKit
def Blk (w:World) (b:Nat) (cs:Array Value):Prop:=∃ ty,w.heap[b]? = some (.cells cs ty (0,0))
section
variable {w w':World} {b:Nat} {cs:Array Value}
theorem Blk.cell (h:Blk w b cs) (i:Nat):w.cell? ⟨b,i,none⟩=cs[i]?:=by
 obtain ⟨ty,h⟩:=h
 simp [World.cell?,h]
theorem Blk.free (h:Blk w b cs) (i:Nat):w.frozen? ⟨b,i,none⟩=false:=by
 obtain ⟨ty,h⟩:=h
 simp [World.frozen?,h]
theorem Blk.lt (h:Blk w b cs):b<w.heap.size:=by
 obtain ⟨ty,h⟩:=h
 exact lt_of_block h
theorem Blk.start (w:World) (cs:Array Value) (ty:TypeId):Blk (w.alloc (.cells cs ty)) w.heap.size cs:=⟨ty,heap_alloc_new _ _⟩
theorem Blk.keepB {B:Nat} (h:Blk w b cs) (hb:Below B w w') (hlt:b<B):Blk w' b cs:=by
 obtain ⟨ty,h⟩:=h
 exact ⟨ty,(hb.block b hlt).trans h⟩
theorem Blk.keep (h:Blk w b cs) (hb:Below w.heap.size w w'):Blk w' b cs:=h.keepB hb h.lt
theorem Blk.grown {row:Option Nat} (h:Blk w b cs) (hg:w.grownBy w' row) (hne:row≠some b):Blk w' b cs:=by
 have hl:=h.lt
 obtain ⟨ty,h⟩:=h
 exact ⟨ty,(hg.block b hl (fun e=>hne e.symm)).trans h⟩
theorem Blk.other (h:Blk w b cs) {p:Addr} (hp:p.block≠b) (v:Value):Blk (w.setCell p v) b cs:=by
 obtain ⟨ty,h⟩:=h
 exact ⟨ty,by rw [Below.heap_setCell _ _ _ _ (fun e=>hp e.symm)];exact h⟩
theorem Blk.set (h:Blk w b cs) (i:Nat) (v:Value):Blk (w.setCell ⟨b,i,none⟩ v) b (cs.setIfInBounds i v):=by
 have hlt:=h.lt
 obtain ⟨ty,h⟩:=h
 refine ⟨ty,?_⟩
 have h':w.heap[b]=.cells cs ty (0,0):=by simpa [Array.getElem?_eq_getElem hlt] using h
 show (w.heap.modify b _)[b]? = _
 rw [Array.getElem?_eq_getElem (by simpa using hlt),Array.getElem_modify_self,h']
 rfl
theorem Blk.drew (h:Blk w b cs):Blk w.drew b cs:=h
end
end
section
open Go.RowKit
abbrev txt (s:List UInt8):Value:=.string ⟨s.toArray⟩
theorem ZbD {w w':World} (h:Below w.heap.size w w') (row:Option Nat):w.grownBy w' row:=⟨h.os,h.tape,h.output,h.size,fun k hk _=>h.block k hk⟩
theorem ZbH {w:World} {g j:Nat} {u:Value}:w.grownBy (w.setCell ⟨g,j,none⟩ u) (some g):=
 ⟨rfl,rfl,rfl,by simp [World.setCell],fun k _ hk=>Below.heap_setCell _ _ _ _ (fun e=>hk (by rw [e]))⟩
theorem below_alloc1 (w:World) (a:Obj):Below w.heap.size w (w.alloc a):=(Below.refl _ _).alloc (Nat.le_refl _) _
section
variable {P:Program} {ops:Array Oper} {Q:Exit->Act->World->Prop} {md:Region.Mode} {S:World->Prop} {fuel:Nat} {listed:Array Bool} {a:Act} {w:World}
end
end
section
open Go Go.RowKit
section
variable {P:Program} {ops:Array Oper} {Q:Exit->Act->World->Prop} {md:Region.Mode}
def Zdn (md:Region.Mode) (ops:Array Oper):Bool:=(List.range ops.size).all fun i=>match ops[i]? with | none=>true | some o=>o.after.all fun e=>!Region.binds md e||decide (e.on<i)
theorem ZdI (h:Zdn md ops=true) {i:Nat} {o:Oper} (ho:ops[i]? = some o):∀ e∈o.after,Region.binds md e=true->e.on<i:=by
 intro e he hb
 unfold Zdn at h
 rw [List.all_eq_true] at h
 have:=h i (List.mem_range.2 (Array.getElem?_eq_some_iff.1 ho).1)
 rw [ho] at this
 have:=Array.all_eq_true_iff_forall_mem.1 this e he
 rw [hb] at this
 simpa using this
theorem Zf7:∀ (l:List Bool) (i:Nat),l[i]? = some false->(l.set i true).count false+1=l.count false
 | [],i,h=>by simp at h
 | b::l,0,h=>by
  obtain rfl:b=false:=by simpa using h
  simp
 | b::l,i+1,h=>by
  have:=Zf7 l i (by simpa using h)
  rw [List.set_cons_succ,List.count_cons,List.count_cons]
  omega
theorem Zbk {listed:Array Bool} {i:Nat} (h:i<listed.size) (a b:Bool):listed.getD i a=listed.getD i b:=by
 simp [Array.getD,h]
theorem Zmi (hf:Zdn md ops=true) {listed:Array Bool} (hs:listed.size=ops.size) (hr:Region.ready md ops listed=[]):∀ n i,i<n->i<ops.size->listed.getD i true=true:=by
 intro n
 induction n with
 | zero=>intro i h;omega
 | succ n ih=>
  intro i hi hlt
  cases hq:listed.getD i true with
  | true=>rfl
  | false=>
   exfalso
   have:i∈Region.ready md ops listed:=mem_ready.2 ⟨hq,_,Array.getElem?_eq_getElem hlt,fun e he hb=>by
    have hlt2:=ZdI hf (Array.getElem?_eq_getElem hlt) e he hb
    rw [Zbk (by omega) false true]
    exact ih e.on (by omega) (by omega)⟩
   rw [hr] at this
   cases this
theorem Zk0 (G:Array Bool->Act->World->Prop) (hf:Zdn md ops=true)
  (hstep:∀ (i:Nat) (o:Oper),ops[i]? = some o->∀ listed a w,G listed a w->listed.getD i true=false->(∀ e∈o.after,Region.binds md e=true->listed.getD e.on false=true) ->
   ∀ K':Act->World->Prop,Shut (∀ a' w',G (listed.setIfInBounds i true) a' w'->K' a' w')->if Region.wanted o (yielded ops a.tmps)=true then Oper.wp P o a w K' Q else K' (a.put o.dst undef) w)
  (hend:∀ listed a w,G listed a w->(∀ i,i<ops.size->listed.getD i true=true)->Q .normal a w) :
  ∀ (fuel:Nat) (listed:Array Bool) (a:Act) (w:World),listed.size=ops.size->listed.toList.count false<=fuel->G listed a w->wpAny P md ops Q fuel listed a w:=by
 intro fuel
 induction fuel with
 | zero=>
  intro listed a w hs hc hG
  have hall:∀ i,i<ops.size->listed.getD i true=true:=fun i hi=>by
   cases hq:listed.getD i true with
   | true=>rfl
   | false=>
    exfalso
    have hi2:i<listed.size:=by omega
    have:false∈listed.toList:=by
     rw [show false=listed[i] by simpa [Array.getD,hi2] using hq.symm]
     simp
    have:=List.count_pos_iff.2 this
    omega
  refine ⟨List.eq_nil_iff_forall_not_mem.2 fun j hj=>?_,hend _ _ _ hG hall⟩
  obtain ⟨h0,o,ho,_⟩:=mem_ready.1 hj
  rw [hall j (Array.getElem?_eq_some_iff.1 ho).1] at h0
  cases h0
 | succ fuel ih=>
  intro listed a w hs hc hG
  refine ⟨fun hr=>hend _ _ _ hG (fun i hi=>Zmi hf hs hr (i+1) i (by omega) hi),fun i hi=>?_⟩
  obtain ⟨h0,o,ho,hd⟩:=mem_ready.1 hi
  refine wpOp_step ho fun K' hK=>hstep i o ho listed a w hG h0 hd K' (fun a' w' hg=>hK a' w' (ih _ a' w' (by simpa using hs) ?_ hg))
  have hlt:i<listed.size:=by have:=(Array.getElem?_eq_some_iff.1 ho).1;omega
  have:listed.toList[i]? = some false:=by
   rw [Array.getElem?_toList,Array.getElem?_eq_getElem hlt]
   congr 1
   simpa [Array.getD,hlt] using h0
  have:=Zf7 listed.toList i this
  rw [Array.toList_setIfInBounds]
  omega
theorem Zcb {id:Nat} {a:Act} {w:World} (G:Array Bool->Act->World->Prop) (hm:P.follows .mixedOrders=true) (hf:Zdn .any ops=true) (h0:G (Array.replicate ops.size false) a w.drew)
  (hstep:∀ (i:Nat) (o:Oper),ops[i]? = some o->∀ listed a w,G listed a w->listed.getD i true=false->(∀ e∈o.after,Region.binds .any e=true->listed.getD e.on false=true) ->
   ∀ K':Act->World->Prop,Shut (∀ a' w',G (listed.setIfInBounds i true) a' w'->K' a' w')->if Region.wanted o (yielded ops a.tmps)=true then Oper.wp P o a w K' Q else K' (a.put o.dst undef) w)
  (hend:∀ listed a w,G listed a w->(∀ i,i<ops.size->listed.getD i true=true)->Q .normal a w):(Code.region id ops true).wp P Q a w:=
 wp_region_any hm (Zk0 G hf hstep hend ops.size _ a _ (by simp) (by simp) h0)
theorem Zmg {id:Nat} {a:Act} {w:World} (A:(Nat->Value)->Act) (x0:Nat->Value) (R:Nat->Value->World->Prop) (hm:P.follows .mixedOrders=true) (hf:Zdn .any ops=true) (hA:a=A x0)
  (hput:∀ (i:Nat) (o:Oper),ops[i]? = some o->∀ x v,(A x).put o.dst v=A (fun j=>if j=i then v else x j))
  (hR:∀ j v w1 w2,Below w1.heap.size w1 w2->R j v w1->R j v w2)
  (hstep:∀ (i:Nat) (o:Oper),ops[i]? = some o->∀ x w1,Below w.heap.size w w1->(∀ e∈o.after,Region.binds .any e=true->R e.on (x e.on) w1) ->
   ∀ K':Act->World->Prop,Shut (∀ v w2,Below w1.heap.size w1 w2->R i v w2->K' ((A x).put o.dst v) w2)->if Region.wanted o (yielded ops (A x).tmps)=true then Oper.wp P o (A x) w1 K' Q else K' ((A x).put o.dst undef) w1)
  (hend:∀ x w1,Below w.heap.size w w1->(∀ i,i<ops.size->R i (x i) w1)->Q .normal (A x) w1):(Code.region id ops true).wp P Q a w:=by
 refine Zcb (fun listed a w1=>listed.size=ops.size/\∃ x,a=A x/\Below w.heap.size w w1/\∀ i,i<ops.size->listed.getD i true=true->R i (x i) w1) hm hf ⟨by simp,x0,hA,(Below.refl _ _).drew,fun i hi h=>?_⟩ ?_ ?_
 ·simp [Array.getD,hi] at h
 ·intro i o ho listed a w1 ⟨hs,x,ha,hb,hx⟩ h0 hd K' hK
  subst ha
  refine hstep i o ho x w1 hb (fun e he hbd=>?_) K' (fun v w2 hb2 hv=>hK _ _ ⟨by simpa using hs,_,hput i o ho x v,hb.trans (hb2.mono hb.size),fun j hj hl=>?_⟩)
  ·have hlt:=ZdI hf ho e he hbd
   have hi:=(Array.getElem?_eq_some_iff.1 ho).1
   exact hx e.on (by omega) (by rw [Zbk (by omega) true false];exact hd e he hbd)
  ·by_cases hji:j=i
   ·subst hji
    rw [if_pos rfl]
    exact hv
   ·rw [if_neg hji]
    refine hR j _ _ _ hb2 (hx j hj ?_)
    rwa [getD_set_ne true (show i≠j from fun e=>hji e.symm)] at hl
 ·intro listed a w1 ⟨hs,x,ha,hb,hx⟩ hall
  subst ha
  exact hend x w1 hb (fun i hi=>hx i hi (hall i hi))
end
end
end Go.Proofs.YtfdgeijnkkdplaaDoor
