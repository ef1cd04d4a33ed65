import Derived.Below
import Derived.Laws.OwnMore
import Derived.Deep.AppendLies
import Derived.Deep.Draws
import Derived.Maps.AppendAt
import Derived.RegionTactic
import Derived.OwnWalk
import Derived.Deep.RegionHeld
import Derived.Test.YtolookeddknmoaaGreatRows
import Derived.WalkKit
import Derived.WalkSpells
import Derived.WalkLawsBesides
import Derived.IntWalk
import Derived.Lib.Hide
import Derived.WalkSmall
import Derived.Deep.QuietTactic
import Derived.BigQuiet
import Derived.Deep.LoopGhost
set_option maxRecDepth 100000
set_option maxHeartbeats 8000000
namespace Go.Proofs.YtolookeddknmoaaGreat
section
open Go.RowKit
theorem cl.{u} {α:Type u}:(∀ (xs:List α) (i:Nat) (h:i<xs.toArray.size),xs.toArray[i]=xs[i]'(by simpa using h))/\(∀ (a:α) (ys:List α) (i:Nat) (h:i+1<(a::ys).length),(a::ys)[i+1]=ys[i]'(Nat.lt_of_succ_lt_succ h))/\(∀ (a:α) (ys:List α) (h:0<(a::ys).length),(a::ys)[0]'h=a)/\(∀ (xs:List α) (i:Nat) (v:α),xs.toArray.setIfInBounds i v=(xs.set i v).toArray)/\(∀ (a v:α) (ys:List α),(a::ys).set 0 v=v::ys)/\∀ (a v:α) (ys:List α) (i:Nat),(a::ys).set (i+1) v=a::ys.set i v:=
 ⟨fun _ _ _=>List.getElem_toArray _,fun _ _ _ _=>rfl,fun _ _ _=>rfl,fun _ _ _=>List.setIfInBounds_toArray _ _ _,fun _ _ _=>rfl,fun _ _ _ _=>rfl⟩
section
variable {P:Program} {ops:Array Oper} {Q:Exit->Act->World->Prop} {md:Region.Mode} {S:World->Prop} {fuel:Nat} {listed:Array Bool} {a:Act} {w:World}
theorem tk (i:Nat) {oi:Oper} (hi:ops[i]? = some oi) {v:Value} (h:wpAnyH P md ops Q S fuel (listed.setIfInBounds i true) (a.put oi.dst v) w) (hy:∀ w':World,S w'->Sem.run P (execOp a.eval oi) w'=.ok (.value v) w':=by intro _ hS_;(try dsimp only at hS_);go_simp<;>with_reducible rfl)
  (hs:Region.noSelect ops=true:=by kernel_rfl) (hf:Region.free md ops listed i=true:=by kernel_rfl) (hr:(Region.ready md ops listed).contains i=true:=by kernel_rfl) (hQ:∀ c a w,Q (.panic c) (a.put oi.dst v) w->Q (.panic c) a w:=by exact fun _ _ _ h=>h) (hn:Region.wanted oi (yielded ops a.tmps)=true:=by rfl) (hS:S w:=by assumption):wpAnyH P md ops Q S (fuel+1) listed a w:=
 wpAnyH_take hi hs hf hr hQ (.inl ⟨hn,hy⟩) hS h
theorem rd (i:Nat) {o:Oper} (ho:ops[i]? = some o) (h:∀ K':Act->World->Prop,Shut (∀ a w,S w->(S w->wpAnyH P md ops Q S fuel (listed.setIfInBounds i true) a w)->K' a w)->if Region.wanted o (yielded ops a.tmps)=true then Oper.wp P o a w K' Q else K' (a.put o.dst undef) w)
  (hr:Region.ready md ops listed=[i]:=by kernel_rfl):wpAnyH P md ops Q S (fuel+1) listed a w:=wpAnyH_ready hr (by simp) (AllReadyH.cons ho h AllReadyH.nil)
end
theorem ZL (a:Addr) (n:Nat):(a.add n).block=a.block:=by unfold Addr.add;split<;>rfl
theorem ZcE (a:Addr) (i j:Nat):(a.add i).add j=a.add (i+j):=by
 unfold Addr.add
 by_cases hi:i=0<;>by_cases hj:j=0<;>simp [hi,hj,Nat.add_assoc]
def ZB (w:World) (B size:Nat) (A:Option Addr) (n:Nat) (xs:List Value):Prop:=
 xs.length=n*size/\(0<n->∃ ad,A=some ad/\ad.block<B/\∀ j u,xs[j]? = some u->w.cell? (ad.add j)=some u)
section
variable {w w':World} {B B' size n:Nat} {A:Option Addr} {xs:List Value}
theorem ZB.none_:ZB w B size A 0 []:=⟨by simp,fun h=>absurd h (by omega)⟩
theorem ZB.at_ {k:Nat} (h:ZB w B 1 A n xs) (hk:k<n):∃ ad u,A=some ad/\ad.block<B/\xs[k]? = some u/\w.cell? (ad.add k)=some u:=by
 obtain ⟨ad,e,hb,hc⟩:=h.2 (by omega)
 have hl:k<xs.length:=by have:=h.1;omega
 exact ⟨ad,xs[k],e,hb,List.getElem?_eq_getElem hl,hc k _ (List.getElem?_eq_getElem hl)⟩
theorem ZB.keep (h:ZB w B size A n xs) (hk:∀ p:Addr,p.block<B->w'.cell? p=w.cell? p):ZB w' B size A n xs:=
 ⟨h.1,fun hn=>by
  obtain ⟨ad,e,hb,hc⟩:=h.2 hn
  exact ⟨ad,e,hb,fun j u hu=>(hk _ (by rw [ZL];exact hb)).trans (hc j u hu)⟩⟩
theorem ZB.more (h:ZB w B size A n xs) (hB:B<=B'):ZB w B' size A n xs:=
 ⟨h.1,fun hn=>by
  obtain ⟨ad,e,hb,hc⟩:=h.2 hn
  exact ⟨ad,e,by omega,hc⟩⟩
theorem ZB.below (h:ZB w B size A n xs) (hb:Below B w w'):ZB w' B size A n xs:=h.keep fun _ hp=>hb.cell hp
theorem ZB.drew (h:ZB w B size A n xs):ZB w.drew B size A n xs:=h
theorem ZB.drewN (h:ZB w B size A n xs) (k:Nat):ZB (w.drewN k) B size A n xs:=h
theorem ZB.alloc (h:ZB w B size A n xs) (hB:B<=w.heap.size) (o:Obj):ZB (w.alloc o) B size A n xs:=h.keep fun p hp=>World.cell?_alloc_lt w o p (by omega)
theorem ZB.setCell (h:ZB w B size A n xs) {p:Addr} (hB:B<=p.block) (u:Value):ZB (w.setCell p u) B size A n xs:=
 h.keep fun q hq=>World.cell?_setCell_other w p q u (fun e=>by subst e;omega)
theorem ZB.grown (h:ZB w B size A n xs) {row:Option Nat} (hg:w.grownBy w' row) (hB:B<=w.heap.size) (hr:∀ g,row=some g->B<=g):ZB w' B size A n xs:=
 h.keep fun p hp=>World.cell?_of_block (hg.block p.block (by omega) (fun e=>by have:=hr _ e.symm;omega))
theorem ZB.of_own {base:Nat} {e:TypeId} {c:Nat} (h:w.ownsRow base e size (.slice A n c) n xs):ZB w w.heap.size size A n xs:=by
 refine ⟨h.1,fun hn=>?_⟩
 obtain ⟨g,cap,hv,_,hlt⟩:=h.form hn
 have hA:A=some ⟨g,0,none⟩:=by injection hv
 subst hA
 exact ⟨_,rfl,hlt,h.cells (g:=g) rfl⟩
end
section
variable {P:Program} (w:World)
theorem ZhL (base:Nat) (t ty e:TypeId) (i:TypeInfo) (size:Nat) (ht:P.underlying t=some (.slice e)) (hi:P.info? e=some i)
  (v:Value) (n:Nat) (xs:List Value) (hown:w.ownsRow base e size v n xs) (c:Nat):(Builtin.append_ #[t,t] ty #[v,.slice none 0 c]).run P w=.ok v w:=by
 rcases hown.2 with ⟨rfl,rfl⟩ | ⟨g,cap,cur,rfl,_,_,hnc,_⟩
 ·simp [Builtin.append_,run_underlying ht,sizeOf,typeInfo,hi,Builtin.lenOf,Builtin.firstCells]
 ·simp [Builtin.append_,run_underlying ht,sizeOf,typeInfo,hi,Builtin.lenOf,Builtin.firstCells,hnc,storeCells]
theorem Zjm (base:Nat) (t ty e:TypeId) (i:TypeInfo) (z:Value) (size bytes:Nat) (ht:P.underlying t=some (.slice e)) (hi:P.info? e=some i) (hz:i.zero=some z)
  (hsize:i.size=size) (hby:i.bytes=bytes) (hzs:z.cells.size=size) (hsz:0<size)
  (v:Value) (n:Nat) (xs:List Value) (hown:w.ownsRow base e size v n xs)
  (B:Nat) (A:Option Addr) (m c:Nat) (news:List Value) (hr:ZB w B size A m news) (h1:∀ u∈news,u.oneCell'=true)
  (h63:n+m<=maxLen) (hbytes:(n+m)*bytes<=140737488355328) (hbase:base<=w.heap.size) :
  ∃ v' w',(Builtin.append_ #[t,t] ty #[v,.slice A m c]).run P w=.ok v' w'/\w'.ownsRow base e size v' (n+m) (xs++news)/\w.grownBy w' v.ownBlock ∧
   (v'.ownBlock=v.ownBlock\/v'.ownBlock=some w.heap.size):=by
 rcases A with _ | ad
 ·have hm:m=0:=by
   rcases Nat.eq_zero_or_pos m with h0 | h0
   ·exact h0
   ·obtain ⟨ad,h,_⟩:=hr.2 h0
    cases h
  subst hm
  have hn:news=[]:=List.eq_nil_of_length_eq_zero (by simpa using hr.1)
  subst hn
  exact ⟨v,w,ZhL w base t ty e i size ht hi v n xs hown c,by simpa using hown,World.grownBy.refl w _,.inl rfl⟩
 ·have hcells:∀ j u,news[j]? = some u->w.cell? (ad.add j)=some u:=by
   intro j u hu
   rcases Nat.eq_zero_or_pos m with h0 | h0
   ·subst h0
    have hn:news=[]:=List.eq_nil_of_length_eq_zero (by simpa using hr.1)
    subst hn
    simp at hu
   ·obtain ⟨ad',h,_,hc⟩:=hr.2 h0
    injection h with h
    subst h
    exact hc j u hu
  obtain ⟨v',w',hrun,h2,h3,_,h5⟩:=run_append_own_at (P:=P) w base t ty e i z size bytes ht hi hz hsize hby hzs hsz v n xs hown ad m c news hr.1 hcells h1 h63 hbytes hbase
  exact ⟨v',w',hrun,h2,h3,h5⟩
theorem ZgG {o:Oper} {a:Act} {K:Act->World->Prop} {Q:Exit->Act->World->Prop} (s x:Operand) (t:TypeId)
  (ho:o.op=.call { callee:=.builtin .append,args:=#[s,x],argTypes:=#[t,t] })
  (base:Nat) (e:TypeId) (i:TypeInfo) (z:Value) (size bytes:Nat) (ht:P.underlying t=some (.slice e)) (hi:P.info? e=some i) (hz:i.zero=some z)
  (hsize:i.size=size) (hby:i.bytes=bytes) (hzs:z.cells.size=size) (hsz:0<size)
  (v:Value) (n:Nat) (xs:List Value) (hs:a.eval s=v) (hown:w.ownsRow base e size v n xs)
  (B:Nat) (A:Option Addr) (m c:Nat) (news:List Value) (hx:a.eval x=.slice A m c) (hr:ZB w B size A m news) (h1:∀ u∈news,u.oneCell'=true)
  (h63:n+m<=maxLen) (hbytes:(n+m)*bytes<=140737488355328) (hbase:base<=w.heap.size)
  (h:∀ v' w',w'.ownsRow base e size v' (n+m) (xs++news)->w.grownBy w' v.ownBlock->(v'.ownBlock=v.ownBlock\/v'.ownBlock=some w.heap.size)->K (a.put o.dst v') w'):o.wp P a w K Q:=by
 obtain ⟨v',w',hrun,h2,h3,h4⟩:=Zjm (P:=P) w base t o.type e i z size bytes ht hi hz hsize hby hzs hsz v n xs hown B A m c news hr h1 h63 hbytes hbase
 unfold Oper.wp execOp
 simp only [ho,resolve,invoke,builtin,Sem.run_bind,Sem.run_pure,Result.andThen_ok,List.map_toArray,List.map_cons,List.map_nil,hs,hx,hrun]
 exact h v' w' h2 h3 h4
theorem Zm {ops:Array Oper} {rest:List Oper} {o:Oper} {a:Act} {Q:Exit->Act->World->Prop} (hgd:o.guard=none) (s x:Operand) (t:TypeId)
  (ho:o.op=.call { callee:=.builtin .append,args:=#[s,x],argTypes:=#[t,t] })
  (base:Nat) (e:TypeId) (i:TypeInfo) (z:Value) (size bytes:Nat) (ht:P.underlying t=some (.slice e)) (hi:P.info? e=some i) (hz:i.zero=some z)
  (hsize:i.size=size) (hby:i.bytes=bytes) (hzs:z.cells.size=size) (hsz:0<size)
  (v:Value) (n:Nat) (xs:List Value) (hs:a.eval s=v) (hown:w.ownsRow base e size v n xs)
  (B:Nat) (A:Option Addr) (m c:Nat) (news:List Value) (hx:a.eval x=.slice A m c) (hr:ZB w B size A m news) (h1:∀ u∈news,u.oneCell'=true)
  (h63:n+m<=maxLen) (hbytes:(n+m)*bytes<=140737488355328) (hbase:base<=w.heap.size)
  (h:∀ v' w',w'.ownsRow base e size v' (n+m) (xs++news)->w.grownBy w' v.ownBlock->(v'.ownBlock=v.ownBlock\/v'.ownBlock=some w.heap.size)->wpList P ops Q rest (a.put o.dst v') w'):wpList P ops Q (o::rest) a w:=
 wpList_plain hgd fun _ hK=>ZgG w s x t ho base e i z size bytes ht hi hz hsize hby hzs hsz v n xs hs hown B A m c news hx hr h1 h63 hbytes hbase fun v' w' h2 h3 h4=>hK _ _ (h v' w' h2 h3 h4)
theorem Zab {ops:Array Oper} {o:Oper} {a:Act} {K:Act->World->Prop} {Q:Exit->Act->World->Prop} {E:Prop} (hgd:o.guard=none) (s x:Operand) (t:TypeId)
  (ho:o.op=.call { callee:=.builtin .append,args:=#[s,x],argTypes:=#[t,t] })
  (base:Nat) (e:TypeId) (i:TypeInfo) (z:Value) (size bytes:Nat) (ht:P.underlying t=some (.slice e)) (hi:P.info? e=some i) (hz:i.zero=some z)
  (hsize:i.size=size) (hby:i.bytes=bytes) (hzs:z.cells.size=size) (hsz:0<size)
  (v:Value) (n:Nat) (xs:List Value) (hs:a.eval s=v) (hown:w.ownsRow base e size v n xs)
  (B:Nat) (A:Option Addr) (m c:Nat) (news:List Value) (hx:a.eval x=.slice A m c) (hr:ZB w B size A m news) (h1:∀ u∈news,u.oneCell'=true)
  (h63:n+m<=maxLen) (hbytes:(n+m)*bytes<=140737488355328) (hbase:base<=w.heap.size)
  (h:∀ v' w',w'.ownsRow base e size v' (n+m) (xs++news)->w.grownBy w' v.ownBlock->(v'.ownBlock=v.ownBlock\/v'.ownBlock=some w.heap.size)->K (a.put o.dst v') w') :
  if Region.wanted o (yielded ops a.tmps)=true then Oper.wp P o a w K Q else E:=by
 have hw:Region.wanted o (yielded ops a.tmps)=true:=by simp [Region.wanted,hgd]
 rw [if_pos hw]
 exact ZgG w s x t ho base e i z size bytes ht hi hz hsize hby hzs hsz v n xs hs hown B A m c news hx hr h1 h63 hbytes hbase h
end
end
section
open Go.RowKit
theorem Zjl {k:IntKind} {a b:Int} (h:a=b):Ending.returned (.int k a)=.returned (.int k b):=by rw [h]
abbrev Ze (n d:Int):Value:=.agg #[.int .i64 n,.int .i64 d]
theorem ZdX (n:Int) (w:World) (h1:-9223372036854775808<=n) (h2:n<=9223372036854775807) :
  Calls Tryz.prog 74 #[.int .i64 n] w fun e w'=>e=.returned (.int .u64 n.natAbs)/\w=w':=by
 by_cases h:n<0
 ·go_enter Tryz.func74,Tryz.ntmps74
  go_wp2
  go_ret
  exact ⟨Zjl (by rw [IntKind.wrap_u64,IntKind.wrap_u64];omega),rfl⟩
 ·go_enter Tryz.func74,Tryz.ntmps74
  go_wp2
  go_ret
  exact ⟨Zjl (by omega),rfl⟩
def Ziy (w:World) (v:Value) (e:Ending) (w':World):Prop:=e=.returned v/\∃ n,w'=w.drewN n
theorem Zdd (a b:Nat) (w:World) (h1:a<18446744073709551616) (h2:b<18446744073709551616) :
  Calls Tryz.prog 73 #[.int .u64 a,.int .u64 b] w (Ziy w (.int .u64 (Nat.gcd a b:Nat))):=by
 go_enter Tryz.func73,Tryz.ntmps73
 go_wp2
 go_loopw [0,1] (fun x y wr=>∃ p q n:Nat,p<18446744073709551616/\q<18446744073709551616/\x=.int .u64 p/\y=.int .u64 q/\Nat.gcd p q=Nat.gcd a b/\wr=w.drewN n) (fun _ y _=>(intOf y).toNat)
 case atStart=>exact ⟨a,b,0,h1,h2,rfl,rfl,rfl,rfl⟩
 case round=>
  obtain ⟨p,q,n,hp,hq,rfl,rfl,hg,rfl⟩:=hrel
  have HG:Hid (Nat.gcd p q=Nat.gcd a b):=hg
  clear hg
  by_cases hlt:q=0
  ·subst hlt
   go_wp2
   go_ret
   exact ⟨Zjl (by have:=HG.out;rw [<- this];simp),n,rfl⟩
  ·have hq0:(0:Int)<(q:Int):=by omega
   have hne:((q:Int)==0)=false:=by simpa using hlt
   have hne':((q:Int) != 0)=true:=by simpa using hlt
   go_wp2
   go_quiet (fail)
   go_wp2
   go_roundw
   case rel=>
    have e:(p:Int) % (q:Int)=((p % q:Nat):Int):=(Int.natCast_emod p q).symm
    exact ⟨q,p % q,_,hq,Nat.lt_trans (Nat.mod_lt p (by omega)) hq,rfl,by rw [e],by rw [<- HG.out,Nat.gcd_comm p q,Nat.gcd_rec q p,Nat.gcd_comm],by rw [World.drewN_drewN]⟩
   case measure=>
    have e:(p:Int) % (q:Int)=((p % q:Nat):Int):=(Int.natCast_emod p q).symm
    have:=Nat.mod_lt p (y:=q) (by omega)
    rw [e]
    simp only [intOf]
    omega
theorem Zfi (n d:Int) (w:World) (h1:-9223372036854775807<=n) (h2:n<=9223372036854775807) :
  Calls Tryz.prog 110 #[Ze n d] w fun e w'=>e=.returned (Ze (-n) d)/\w'=(w.alloc (.cells #[.int .i64 n,.int .i64 d] 25)).alloc (.cells #[.int .i64 (-n),.int .i64 d] 25):=by
 go_enter Tryz.func110,Tryz.ntmps110
 go_wp2
 exact bodyPost_ret (v:=Ze (-n) d) (by simp [results,Tryz.results110,go_sem]) rfl ⟨rfl,rfl⟩
def ZbP (n d:Nat):Int:=if n<=9223372036854775807/\d<=9223372036854775807 then 0 else 3
def ZbG (s:Bool) (n d:Nat):Int:=if n<=9223372036854775807/\d<=9223372036854775807 then (if s then -(n:Int) else n) else 0
def ZbU (n d:Nat):Int:=if n<=9223372036854775807/\d<=9223372036854775807 then d else 0
theorem Zmz (s:Bool) (n d:Nat) (w:World) (h1:n<18446744073709551616) (h2:d<18446744073709551616) :
  Calls Tryz.prog 101 #[.bool s,.int .u64 n,.int .u64 d] w fun e w'=>e=.returned (.tuple #[Ze (ZbG s n d) (ZbU n d),.int .i64 (ZbP n d)])/\Below w.heap.size w w':=by
 unfold ZbG ZbU ZbP
 by_cases h:n<=9223372036854775807/\d<=9223372036854775807
 ·simp only [if_pos h]
  obtain ⟨g1,g2⟩:=h
  cases s
  ·simp only [Bool.false_eq_true,if_false]
   go_enter Tryz.func101,Tryz.ntmps101
   go_wp2_with (go_at_call 110;refine (Zfi _ _ _ (by omega) (by omega)).mono ?_;rintro e w' ⟨rfl,rfl⟩)
   exact bodyPost_ret (v:=.tuple #[Ze n d,.int .i64 0]) (by simp [results,Tryz.results101,go_sem]) rfl ⟨rfl,((Below.refl _ _).alloc (Nat.le_refl _) _).alloc (by simp) _⟩
  ·simp only [if_true]
   go_enter Tryz.func101,Tryz.ntmps101
   go_wp2_with (go_at_call 110;refine (Zfi _ _ _ (by omega) (by omega)).mono ?_;rintro e w' ⟨rfl,rfl⟩)
   exact bodyPost_ret (v:=.tuple #[Ze (-(n:Int)) d,.int .i64 0]) (by simp [results,Tryz.results101,go_sem]) rfl ⟨rfl,(((Below.refl _ _).alloc (Nat.le_refl _) _).alloc (by simp) _ |>.alloc (by simp;omega) _).alloc (by simp;omega) _⟩
 ·simp only [if_neg h]
  by_cases g1:n<=9223372036854775807
  ·have g2:¬ d<=9223372036854775807:=fun g2=>h ⟨g1,g2⟩
   clear h
   go_enter Tryz.func101,Tryz.ntmps101
   go_wp2_with fail
   exact bodyPost_ret (v:=.tuple #[Ze 0 0,.int .i64 3]) (by simp [results,Tryz.results101,go_sem]) rfl ⟨rfl,(Below.refl _ _).alloc (Nat.le_refl _) _⟩
  ·clear h
   go_enter Tryz.func101,Tryz.ntmps101
   go_wp2_with fail
   exact bodyPost_ret (v:=.tuple #[Ze 0 0,.int .i64 3]) (by simp [results,Tryz.results101,go_sem]) rfl ⟨rfl,(Below.refl _ _).alloc (Nat.le_refl _) _⟩
end
section
def Zj:List Bool->Nat
 | []=>0
 | b::r=>b.toNat+2*Zj r
def Zc (n:Nat):List Bool:=if h:n=0 then [] else (n % 2==1)::Zc (n / 2)
termination_by n
decreasing_by omega
theorem ZaO:Zc 0=[]:=by rw [Zc];rfl
theorem Zbz {n:Nat} (h:n≠0):Zc n=(n % 2==1)::Zc (n / 2):=by rw [Zc,dif_neg h]
theorem ZcM (b:Bool):b.toNat<=1:=by cases b<;>decide
theorem Zae (n:Nat):Zj (Zc n)=n:=by
 induction n using Nat.strongRecOn with
 | ind n ih=>
  by_cases h:n=0
  ·subst h;rw [ZaO];rfl
  ·rw [Zbz h,Zj,ih (n / 2) (by omega)]
   rcases Nat.mod_two_eq_zero_or_one n with e | e<;>rw [e]<;>simp<;>omega
theorem Zg4 (a b:List Bool):Zj (a++b)=Zj a+2 ^ a.length*Zj b:=by
 induction a with
 | nil=>simp [Zj]
 | cons x r ih=>rw [List.cons_append,Zj,Zj,ih,List.length_cons,Nat.pow_succ,Nat.mul_add,<- Nat.mul_assoc,Nat.mul_comm 2 (2 ^ r.length)];omega
theorem ZdC (a:List Bool) (b:Bool):Zj (a++[b])=Zj a+2 ^ a.length*b.toNat:=by
 rw [Zg4];simp [Zj]
theorem Zb8 (l:List Bool):Zj l<2 ^ l.length:=by
 induction l with
 | nil=>simp [Zj]
 | cons b r ih=>rw [Zj,List.length_cons,Nat.pow_succ];have:=ZcM b;omega
theorem ZhK (a:List Bool):Zc (Zj (a++[true]))=a++[true]:=by
 induction a with
 | nil=>
  rw [List.nil_append,Zj,Zj,Zbz (by decide)]
  rw [show (true.toNat+2*0) / 2=0 by decide,ZaO];rfl
 | cons x r ih=>
  rw [List.cons_append,Zj]
  have hp:Zj (r++[true])≠0:=by
   rw [ZdC]
   have:=Nat.two_pow_pos r.length
   simp
  have hx:=ZcM x
  rw [Zbz (by omega)]
  rw [show (x.toNat+2*Zj (r++[true])) / 2=Zj (r++[true]) by omega,ih]
  have:((x.toNat+2*Zj (r++[true])) % 2==1)=x:=by
   rw [show (x.toNat+2*Zj (r++[true])) % 2=x.toNat by omega]
   cases x<;>rfl
  rw [this]
theorem ZbF (n k:Nat) (h:n<2 ^ k):(Zc n).length<=k:=by
 induction k generalizing n with
 | zero=>rw [show n=0 by simpa using h,ZaO];simp
 | succ k ih=>
  by_cases h0:n=0
  ·subst h0;rw [ZaO];simp
  ·rw [Zbz h0,List.length_cons]
   have:=ih (n / 2) (by rw [Nat.pow_succ] at h;omega)
   omega
theorem ZlN (n:Nat) (h:n≠0):∃ a,Zc n=a++[true]:=by
 induction n using Nat.strongRecOn with
 | ind n ih=>
  rw [Zbz h]
  by_cases h2:n / 2=0
  ·rw [h2,ZaO]
   have:n=1:=by omega
   subst this
   exact ⟨[],rfl⟩
  ·obtain ⟨a,ha⟩:=ih (n / 2) (by omega) h2
   exact ⟨(n % 2==1)::a,by rw [ha];rfl⟩
def Zag (l:List Bool) (i:Nat):Bool:=l.getD i false
theorem Zl1 (l:List Bool) (i:Nat):Zj l=Zj (l.take i)+2 ^ i*Zj (l.drop i):=by
 rcases Nat.le_total i l.length with h | h
 ·have:=Zg4 (l.take i) (l.drop i)
  rw [List.take_append_drop,List.length_take,Nat.min_eq_left h] at this
  exact this
 ·rw [List.take_of_length_le h,List.drop_eq_nil_of_le h];simp [Zj]
theorem ZbM (l:List Bool) (i:Nat):Zj (l.drop i)=(Zag l i).toNat+2*Zj (l.drop (i+1)):=by
 unfold Zag
 rcases Nat.lt_or_ge i l.length with h | h
 ·rw [List.drop_eq_getElem_cons h,Zj,List.getD_eq_getElem?_getD,List.getElem?_eq_getElem h];rfl
 ·rw [List.drop_eq_nil_of_le h,List.drop_eq_nil_of_le (by omega),List.getD_eq_getElem?_getD,List.getElem?_eq_none h];rfl
theorem Zg1 {a b:Nat} (h:(Zc a).length<(Zc b).length):a<b:=by
 rcases Nat.lt_or_ge a b with g | g
 ·exact g
 ·exfalso
  have h1:=Zb8 (Zc a)
  rw [Zae] at h1
  have hb:b≠0:=by intro hb;rw [hb,ZaO] at h;simp at h
  obtain ⟨x,hx⟩:=ZlN b hb
  have h2:Zj (Zc b)=b:=Zae b
  rw [hx,ZdC] at h2
  rw [hx,List.length_append] at h
  have h3:2 ^ (Zc a).length<=2 ^ x.length:=Nat.pow_le_pow_right (by decide) (by simpa using Nat.lt_succ_iff.1 h)
  simp at h2
  omega
theorem ZhT (l:List Bool) (i:Nat):Zj l=Zj (l.take i)+2 ^ i*((Zag l i).toNat+2*Zj (l.drop (i+1))):=by
 rw [<- ZbM];exact Zl1 l i
theorem Zri {l m:List Bool} (i:Nat) (hd:Zj (l.drop (i+1))=Zj (m.drop (i+1))) (hb:Zag l i≠Zag m i):decide (Zj l<Zj m)=Zag m i:=by
 have a:=ZhT l i
 have b:=ZhT m i
 have ha:=Zb8 (l.take i)
 have hb2:=Zb8 (m.take i)
 have h1:2 ^ (l.take i).length<=2 ^ i:=Nat.pow_le_pow_right (by decide) (List.length_take_le _ _)
 have h2:2 ^ (m.take i).length<=2 ^ i:=Nat.pow_le_pow_right (by decide) (List.length_take_le _ _)
 rw [hd] at a
 rw [Nat.mul_add] at a b
 generalize 2 ^ i*(2*Zj (m.drop (i+1)))=T at *
 generalize 2 ^ i=p at *
 cases hl:Zag l i<;>cases hm:Zag m i
 ·rw [hl,hm] at hb;exact absurd rfl hb
 ·rw [hl] at a;rw [hm] at b
  simp at a b
  exact decide_eq_true (by omega)
 ·rw [hl] at a;rw [hm] at b
  simp at a b
  exact decide_eq_false (by omega)
 ·rw [hl,hm] at hb;exact absurd rfl hb
theorem Zkj {l m:List Bool} {i:Nat} (hd:Zj (l.drop (i+1))=Zj (m.drop (i+1))) (hb:Zag l i=Zag m i):Zj (l.drop i)=Zj (m.drop i):=by
 rw [ZbM l i,ZbM m i,hd,hb]
end
section
open Go.RowKit
def Zk (w:World) (v:Value) (l:List Bool):Prop:=∃ A c,v=.slice A l.length c/\l.length<=c/\c<=maxLen/\ZB w w.heap.size 1 A l.length (l.map Value.bool)
theorem Zk.below {w w':World} {v:Value} {l:List Bool} (h:Zk w v l) (hb:Below w.heap.size w w'):Zk w' v l:=by
 obtain ⟨A,c,h1,h2,h3,h4⟩:=h
 exact ⟨A,c,h1,h2,h3,(h4.below hb).more hb.size⟩
theorem Zk.nil (w:World):Zk w (.slice none 0 0) []:=⟨none,0,rfl,Nat.le_refl _,by decide,ZB.none_⟩
theorem Zk.take {w:World} {A:Option Addr} {n c k:Nat} {l:List Bool} (h1:l.length=n) (h2:n<=c) (h3:c<=maxLen) (h4:ZB w w.heap.size 1 A n (l.map Value.bool)) (hk:k<=n):Zk w (.slice A k c) (l.take k):=by
 have e:(l.take k).length=k:=by rw [List.length_take];omega
 refine ⟨A,c,by rw [e],by omega,h3,?_⟩
 refine ⟨by rw [List.length_map,e,Nat.mul_one],fun hn=>?_⟩
 obtain ⟨ad,ha,hb,hc⟩:=h4.2 (by omega)
 refine ⟨ad,ha,hb,fun j u hu=>hc j u ?_⟩
 rw [List.map_take,List.getElem?_take] at hu
 split at hu
 ·exact hu
 ·cases hu
theorem Zk.bit {w:World} {A:Option Addr} {n:Nat} {l:List Bool} (h1:l.length=n) (h4:ZB w w.heap.size 1 A n (l.map Value.bool)) {k:Nat} (hk:k<n):∃ ad,A=some ad/\w.cell? (ad.add k)=some (.bool (Zag l k)):=by
 obtain ⟨ad,u,ha,_,hu,hc⟩:=h4.at_ hk
 refine ⟨ad,ha,?_⟩
 rw [hc,<- hu,List.getElem?_map]
 unfold Zag
 rw [List.getD_eq_getElem?_getD,List.getElem?_eq_getElem (by omega)]
 rfl
def Zp8 (w:World) (v:Value) (l:List Bool) (e:Ending) (w':World):Prop:=∃ v',e=.returned v'/\Zk w v' l/\w=w'/\v'.ownBlock=v.ownBlock
theorem ZoT {l:List Bool} {k:Nat} (hk:k<l.length) (hb:Zag l k=true):l.take (k+1)=l.take k++[true]:=by
 rw [List.take_succ_eq_append_getElem hk]
 unfold Zag at hb
 rw [List.getD_eq_getElem?_getD,List.getElem?_eq_getElem hk] at hb
 simp only [Option.getD_some] at hb
 rw [hb]
theorem Zjj {l:List Bool} {k:Nat} (hk:k<l.length) (hb:Zag l k=false):Zj (l.take (k+1))=Zj (l.take k):=by
 rw [List.take_succ_eq_append_getElem hk,ZdC]
 unfold Zag at hb
 rw [List.getD_eq_getElem?_getD,List.getElem?_eq_getElem hk] at hb
 simp only [Option.getD_some] at hb
 rw [hb];simp
theorem ZeV (w:World) (v:Value) (l:List Bool) (h:Zk w v l) :
  Calls Tryz.prog 99 #[v] w (Zp8 w v (Zc (Zj l))):=by
 obtain ⟨A,c,rfl,h2,h3,h4⟩:=h
 have h5:=h3
 unfold maxLen at h5
 obtain ⟨n,hn⟩:∃ n,n=l.length:=⟨_,rfl⟩
 rw [<- hn] at h2 h4 ⊢
 have HN:=Lib.hid hn
 clear hn
 have hn6:n<=9223372036854775807:=by omega
 go_enter Tryz.func99,Tryz.ntmps99
 go_wp2_with fail
 go_loopg [3] n (fun g v3 wx=>w=wx/\∃ k:Nat,k<=n/\g=k/\v3=.int .i64 k/\Zj (l.take k)=Zj l)
 case atStart=>exact ⟨rfl,n,Nat.le_refl _,rfl,rfl,by rw [List.take_of_length_le (by rw [HN.out];exact Nat.le_refl _)]⟩
 case round=>
  obtain ⟨rfl,k,hk,hg,rfl,ht⟩:=hrel
  have HT:=Lib.hid ht
  have HG:=Lib.hid hg
  clear ht hg
  by_cases hk0:k=0
  ·subst hk0
   have hc0:(0:Int)<=(c:Int):=by omega
   have hA:Zj l=0:=by rw [<- HT.out];rfl
   have fin:Zk w (.slice A 0 c) (Zc (Zj l)):=by rw [hA,ZaO];exact Zk.take HN.out.symm h2 h3 h4 (Nat.zero_le n)
   clear hA hc0
   go_wp2_with fail
   go_ret
   exact ⟨_,rfl,fin,rfl,by cases A<;>rfl⟩
  ·have hk1:(0:Int)<(k:Int):=by omega
   have hkl:k-1<l.length:=by have:=HN.out;omega
   have hs:k-1+1=k:=by omega
   have wk:IntKind.i64.wrap ((k:Int)-1)=((k-1:Nat):Int):=by rw [IntWalk.i64_in _ (by omega)];omega
   cases hb:Zag l (k-1)
   ·have low:=Zjj hkl hb
    rw [hs,HT.out] at low
    obtain ⟨ad,rfl,hc⟩:=Zk.bit HN.out.symm h4 (show k-1<n by omega)
    have hi1:((k-1:Nat):Int)<(n:Int):=by omega
    have hi0:(0:Int)<=((k-1:Nat):Int):=by omega
    rw [hb] at hc
    have HB:=Lib.hid hb
    have HL:=Lib.hid low
    have HS:=Lib.hid (And.intro hs hkl)
    clear hb low hs hkl
    go_wp2_with fail
    go_roundg (k-1)
    case measure=>have:=HG.out;omega
    case rel=>exact ⟨rfl,k-1,by omega,rfl,rfl,HL.out.symm⟩
   ·have last:=ZoT hkl hb
    rw [hs] at last
    have hA:Zc (Zj l)=l.take k:=by rw [<- HT.out,last,ZhK]
    have fin:Zk w (.slice A k c) (Zc (Zj l)):=by rw [hA];exact Zk.take HN.out.symm h2 h3 h4 hk
    obtain ⟨ad,rfl,hc⟩:=Zk.bit HN.out.symm h4 (show k-1<n by omega)
    have hi1:((k-1:Nat):Int)<(n:Int):=by omega
    have hi0:(0:Int)<=((k-1:Nat):Int):=by omega
    have hkc:(k:Int)<=(c:Int):=by omega
    rw [hb] at hc
    have FIN:=Lib.hid fin
    clear hb last hs hkl hA fin
    go_wp2_with fail
    go_ret
    exact ⟨_,rfl,FIN.out,rfl,rfl⟩
theorem Zhw (w:World) (v:Value) (l:List Bool) (h:Zk w v l) (i:Nat) :
  Calls Tryz.prog 116 #[v,.int .i64 i] w fun e w'=>e=.returned (.bool (Zag l i))/\w=w':=by
 obtain ⟨A,c,rfl,h2,h3,h4⟩:=h
 have h5:=h3
 unfold maxLen at h5
 by_cases hlt:i<l.length
 ·obtain ⟨ad,rfl,hc⟩:=Zk.bit rfl h4 hlt
  obtain ⟨n,hn⟩:∃ n,n=l.length:=⟨_,rfl⟩
  rw [<- hn] at hlt h2 h4 ⊢
  have d1:decide (i<n)=true:=decide_eq_true hlt
  have hli:(i:Int)<(n:Int):=by omega
  have HN:=Lib.hid hn
  generalize Zag l i=b at *
  clear hn h4 h5 h2 h3
  go_enter Tryz.func116,Tryz.ntmps116
  go_wp2_with fail
  go_ret
  exact ⟨rfl,rfl⟩
 ·have hb:Zag l i=false:=by
   unfold Zag
   rw [List.getD_eq_getElem?_getD,List.getElem?_eq_none (by omega)];rfl
  rw [hb]
  obtain ⟨n,hn⟩:∃ n,n=l.length:=⟨_,rfl⟩
  rw [<- hn] at hlt h2 h4 ⊢
  have d1:decide (i<n)=false:=decide_eq_false hlt
  clear hn h4 h5 h2 h3 hb
  go_enter Tryz.func116,Tryz.ntmps116
  go_wp2_with fail
  go_ret
  exact ⟨rfl,rfl⟩
end
end Go.Proofs.YtolookeddknmoaaGreat
