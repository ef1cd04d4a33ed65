import Derived.Test.YtbfnnolakggbfaaGreatDoorRows
import Derived.WalkKit
import Derived.WalkSpells
import Derived.WalkLawsBesides
import Derived.IntWalk
import Derived.Lib.Hide
import Derived.WalkSmall
import Derived.Deep.QuietTactic
import Derived.BigQuiet
import Derived.Below
import Derived.Laws.OwnMore
import Derived.Deep.AppendLies
import Derived.Deep.Draws
import Derived.Maps.AppendAt
import Derived.RegionTactic
import Derived.OwnWalk
import Derived.Deep.RegionHeld
import Derived.Deep.LoopGhost
set_option maxRecDepth 100000
set_option maxHeartbeats 8000000
open Option renaming some → Ya
open Go.Value renaming slice → Yc, int → Yd
open Go.IntKind renaming i64 → Yf
open Go renaming World → Yh, Value → Yi
namespace Go.Proofs.YtbfnnolakggbfaaGreatDoor
section
open Go.RowKit
theorem ZjH {k:IntKind} {a b:Int} (h:a=b):Ending.returned (.int k a)=.returned (.int k b):=by rw[h]
abbrev Zb (n d:Int):Yi:=.agg #[Yd Yf n,Yd Yf d]
theorem Zd5 (n:Int) (w:Yh) (a:-9223372036854775808<=n) (b:n<=9223372036854775807) :
  Calls Tryz.prog 56 #[Yd Yf n] w fun e w'=>e=.returned (.int .u64 n.natAbs)/\w=w':=by
 by_cases h:n<0
 ·go_enter Tryz.func56,Tryz.ntmps56;go_wp2;go_ret;exact⟨ZjH (by rw[IntKind.wrap_u64,IntKind.wrap_u64];omega),rfl⟩
 ·go_enter Tryz.func56,Tryz.ntmps56;go_wp2;go_ret;exact⟨ZjH (by omega),rfl⟩
def ZiM (w:Yh) (v:Yi) (e:Ending) (w':Yh):Prop:=e=.returned v/\∃n,w'=w.drewN n
theorem Zdi (a b:Nat) (w:Yh) (h:a<18446744073709551616) (i:b<18446744073709551616) :
  Calls Tryz.prog 55 #[.int .u64 a,.int .u64 b] w (ZiM w (.int .u64 (Nat.gcd a b:Nat))):=by
 go_enter Tryz.func55,Tryz.ntmps55;go_wp2;go_loopw [0,1] (fun x y wr=>∃p q n:Nat,p<18446744073709551616/\q<18446744073709551616/\x=.int .u64 p/\y=.int .u64 q/\Nat.gcd p q=Nat.gcd a b/\wr=w.drewN n) (fun _ y _=>(intOf y).toNat)
 case atStart=>exact⟨a,b,0,h,i,rfl,rfl,rfl,rfl⟩
 case round=>
  obtain⟨p,q,n,l,hq,rfl,rfl,f,rfl⟩:=hrel;have d:Hid (Nat.gcd p q=Nat.gcd a b):=f;clear f;by_cases c:q=0
  ·subst c;go_wp2;go_ret;exact⟨ZjH (by have:=d.out;rw[<-this];simp),n,rfl⟩
  ·have k:(0:Int)<(q:Int):=by omega
   have j:((q:Int)==0)=false:=by simpa using c
   have g:((q:Int) != 0)=true:=by simpa using c
   go_wp2;go_quiet (fail);go_wp2;go_roundw
   case rel=>
    have e:(p:Int) % (q:Int)=((p % q:Nat):Int):=(Int.natCast_emod p q).symm;exact⟨q,p % q,_,hq,Nat.lt_trans (Nat.mod_lt p (by omega)) hq,rfl,by rw[e],by rw[<-d.out,Nat.gcd_comm p q,Nat.gcd_rec q p,Nat.gcd_comm],by rw[World.drewN_drewN]⟩
   case measure=>
    have e:(p:Int) % (q:Int)=((p % q:Nat):Int):=(Int.natCast_emod p q).symm;have:=Nat.mod_lt p (y:=q) (by omega);rw[e];simp only[intOf];omega
theorem Zfz (n d:Int) (w:Yh) (a:-9223372036854775807<=n) (b:n<=9223372036854775807) :
  Calls Tryz.prog 43 #[Zb n d] w fun e w'=>e=.returned (Zb (-n) d)/\w'=(w.alloc (.cells #[Yd Yf n,Yd Yf d] 23)).alloc (.cells #[Yd Yf (-n),Yd Yf d] 23):=by
 go_enter Tryz.func43,Tryz.ntmps43;go_wp2;exact bodyPost_ret (v:=Zb (-n) d) (by simp[results,Tryz.results43,go_sem]) rfl ⟨rfl,rfl⟩
def ZbS (n d:Nat):Int:=if n<=9223372036854775807/\d<=9223372036854775807 then 0 else 3
def ZbH (s:Bool) (n d:Nat):Int:=if n<=9223372036854775807/\d<=9223372036854775807 then(if s then -(n:Int)else n)else 0
def Zb0 (n d:Nat):Int:=if n<=9223372036854775807/\d<=9223372036854775807 then d else 0
theorem Zm9 (s:Bool) (n d:Nat) (w:Yh) (c:n<18446744073709551616) (f:d<18446744073709551616) :
  Calls Tryz.prog 62 #[.bool s,.int .u64 n,.int .u64 d] w fun e w'=>e=.returned (.tuple #[Zb (ZbH s n d) (Zb0 n d),Yd Yf (ZbS n d)])/\Below w.heap.size w w':=by
 unfold ZbH Zb0 ZbS;by_cases h:n<=9223372036854775807/\d<=9223372036854775807
 ·simp only[if_pos h];obtain⟨b,a⟩:=h;cases s
  ·simp only[Bool.false_eq_true,if_false];go_enter Tryz.func62,Tryz.ntmps62;go_wp2_with (go_at_call 43;refine(Zfz _ _ _ (by omega) (by omega)).mono ?_;rintro e w' ⟨rfl,rfl⟩);exact bodyPost_ret (v:=.tuple #[Zb n d,Yd Yf 0]) (by simp[results,Tryz.results62,go_sem]) rfl ⟨rfl,((Below.refl _ _).alloc (Nat.le_refl _) _).alloc (by simp) _⟩
  ·simp only[if_true];go_enter Tryz.func62,Tryz.ntmps62;go_wp2_with (go_at_call 43;refine(Zfz _ _ _ (by omega) (by omega)).mono ?_;rintro e w' ⟨rfl,rfl⟩);exact bodyPost_ret (v:=.tuple #[Zb (-(n:Int)) d,Yd Yf 0]) (by simp[results,Tryz.results62,go_sem]) rfl ⟨rfl,(((Below.refl _ _).alloc (Nat.le_refl _) _).alloc (by simp) _|>.alloc (by simp;omega) _).alloc (by simp;omega) _⟩
 ·simp only[if_neg h];by_cases b:n<=9223372036854775807
  ·have a:¬d<=9223372036854775807:=fun a=>h ⟨b,a⟩;clear h;go_enter Tryz.func62,Tryz.ntmps62;go_wp2_with fail;exact bodyPost_ret (v:=.tuple #[Zb 0 0,Yd Yf 3]) (by simp[results,Tryz.results62,go_sem]) rfl ⟨rfl,(Below.refl _ _).alloc (Nat.le_refl _) _⟩
  ·clear h;go_enter Tryz.func62,Tryz.ntmps62;go_wp2_with fail;exact bodyPost_ret (v:=.tuple #[Zb 0 0,Yd Yf 3]) (by simp[results,Tryz.results62,go_sem]) rfl ⟨rfl,(Below.refl _ _).alloc (Nat.le_refl _) _⟩
end
section
open Go.RowKit
theorem cl.{u} {c:Type u}:(∀(d:List c) (i:Nat) (h:i<d.toArray.size),d.toArray[i]=d[i]'(by simpa using h))/\(∀(a:c) (b:List c) (i:Nat) (h:i+1<(a::b).length),(a::b)[i+1]=b[i]'(Nat.lt_of_succ_lt_succ h))/\(∀(a:c) (b:List c) (h:0<(a::b).length),(a::b)[0]'h=a)/\(∀(d:List c) (i:Nat) (v:c),d.toArray.setIfInBounds i v=(d.set i v).toArray)/\(∀(a v:c) (b:List c),(a::b).set 0 v=v::b)/\∀(a v:c) (b:List c) (i:Nat),(a::b).set (i+1) v=a::b.set i v:=
 ⟨fun _ _ _=>List.getElem_toArray _,fun _ _ _ _=>rfl,fun _ _ _=>rfl,fun _ _ _=>List.setIfInBounds_toArray _ _ _,fun _ _ _=>rfl,fun _ _ _ _=>rfl⟩
section
variable {P:Program} {ops:Array Oper} {Q:Exit->Act->Yh->Prop} {md:Region.Mode} {S:Yh->Prop} {fuel:Nat} {listed:Array Bool} {a:Act} {w:Yh}
theorem tk (i:Nat) {b:Oper} (j:ops[i]? = Ya b) {v:Yi} (h:wpAnyH P md ops Q S fuel (listed.setIfInBounds i true) (a.put b.dst v) w) (n:∀w':Yh,S w'->Sem.run P (execOp a.eval b) w'=.ok (.value v) w':=by intro _ d;(try dsimp only at d);go_simp<;>with_reducible rfl)
  (m:Region.noSelect ops=true:=by kernel_rfl) (g:Region.free md ops listed i=true:=by kernel_rfl) (l:(Region.ready md ops listed).contains i=true:=by kernel_rfl) (e:∀c a w,Q (.panic c) (a.put b.dst v) w->Q (.panic c) a w:=by exact fun _ _ _ h=>h) (k:Region.wanted b (yielded ops a.tmps)=true:=by rfl) (f:S w:=by assumption):wpAnyH P md ops Q S (fuel+1) listed a w:=
 wpAnyH_take j m g l e (.inl ⟨k,n⟩) f h
theorem rd (i:Nat) {o:Oper} (c:ops[i]? = Ya o) (h:∀b:Act->Yh->Prop,Shut (∀a w,S w->(S w->wpAnyH P md ops Q S fuel (listed.setIfInBounds i true) a w)->b a w)->if Region.wanted o (yielded ops a.tmps)=true then Oper.wp P o a w b Q else b (a.put o.dst undef) w)
  (d:Region.ready md ops listed=[i]:=by kernel_rfl):wpAnyH P md ops Q S (fuel+1) listed a w:=wpAnyH_ready d (by simp) (AllReadyH.cons c h AllReadyH.nil)
end
theorem ZJ (a:Addr) (n:Nat):(a.add n).block=a.block:=by unfold Addr.add;split<;>rfl
theorem ZcA (a:Addr) (i j:Nat):(a.add i).add j=a.add (i+j):=by unfold Addr.add;by_cases b:i=0<;>by_cases c:j=0<;>simp[b,c,Nat.add_assoc]
def Zw (w:Yh) (B size:Nat) (A:Option Addr) (n:Nat) (b:List Yi):Prop:=
 b.length=n*size/\(0<n->∃a,A=Ya a/\a.block<B/\∀j u,b[j]? = Ya u->w.cell? (a.add j)=Ya u)
section
variable {w w':Yh} {B B' size n:Nat} {A:Option Addr} {xs:List Yi}
theorem Zw.none_:Zw w B size A 0 []:=⟨by simp,fun h=>absurd h (by omega)⟩
theorem Zw.at_ {k:Nat} (h:Zw w B 1 A n xs) (d:k<n):∃a u,A=Ya a/\a.block<B/\xs[k]? = Ya u/\w.cell? (a.add k)=Ya u:=by
 obtain⟨a,e,c,hc⟩:=h.2 (by omega);have b:k<xs.length:=by have:=h.1;omega
 exact⟨a,xs[k],e,c,List.getElem?_eq_getElem b,hc k _ (List.getElem?_eq_getElem b)⟩
theorem Zw.keep (h:Zw w B size A n xs) (c:∀p:Addr,p.block<B->w'.cell? p=w.cell? p):Zw w' B size A n xs:=
 ⟨h.1,fun d=>by
  obtain⟨b,e,a,hc⟩:=h.2 d
  exact⟨b,e,a,fun j u hu=>(c _ (by rw[ZJ];exact a)).trans (hc j u hu)⟩⟩
theorem Zw.more (h:Zw w B size A n xs) (c:B<=B'):Zw w B' size A n xs:=
 ⟨h.1,fun b=>by
  obtain⟨a,e,d,hc⟩:=h.2 b
  exact⟨a,e,by omega,hc⟩⟩
theorem Zw.below (h:Zw w B size A n xs) (a:Below B w w'):Zw w' B size A n xs:=h.keep fun _ b=>a.cell b
theorem Zw.drew (h:Zw w B size A n xs):Zw w.drew B size A n xs:=h
theorem Zw.drewN (h:Zw w B size A n xs) (k:Nat):Zw (w.drewN k) B size A n xs:=h
theorem Zw.alloc (h:Zw w B size A n xs) (a:B<=w.heap.size) (o:Obj):Zw (w.alloc o) B size A n xs:=h.keep fun p b=>World.cell?_alloc_lt w o p (by omega)
theorem Zw.setCell (h:Zw w B size A n xs) {p:Addr} (a:B<=p.block) (u:Yi):Zw (w.setCell p u) B size A n xs:=
 h.keep fun q hq=>World.cell?_setCell_other w p q u (fun e=>by subst e;omega)
theorem Zw.grown (h:Zw w B size A n xs) {a:Option Nat} (b:w.grownBy w' a) (d:B<=w.heap.size) (c:∀g,a=Ya g->B<=g):Zw w' B size A n xs:=
 h.keep fun p f=>World.cell?_of_block (b.block p.block (by omega) (fun e=>by have:=c _ e.symm;omega))
theorem Zw.cut (h:Zw w B size A n xs) {k b:Nat} (e:k<=n) (hc:n<=b) :
  Zw w B size (if b=k then A else A.map (·.add (k*size))) (n-k) (xs.drop (k*size)):=by
 refine⟨by rw[List.length_drop,h.1,Nat.sub_mul],fun f=>?_⟩;obtain⟨c,rfl,d,a⟩:=h.2 (by omega);rw[if_neg (by omega)];refine⟨c.add (k*size),rfl,by rw[ZJ];exact d,fun j u hu=>?_⟩;rw[ZcA];exact a _ u (by rw[<-hu,List.getElem?_drop])
theorem Zw.of_own {base:Nat} {e:TypeId} {c:Nat} (h:w.ownsRow base e size (Yc A n c) n xs):Zw w w.heap.size size A n xs:=by
 refine⟨h.1,fun f=>?_⟩;obtain⟨g,b,i,_,a⟩:=h.form f;have d:A=Ya ⟨g,0,none⟩:=by injection i
 subst d;exact⟨_,rfl,a,h.cells (g:=g) rfl⟩
end
section
variable {P:Program} (w:Yh)
theorem ZhU (base:Nat) (t ty e:TypeId) (i:TypeInfo) (size:Nat) (f:P.underlying t=Ya (.slice e)) (d:P.info? e=Ya i)
  (v:Yi) (n:Nat) (k:List Yi) (a:w.ownsRow base e size v n k) (c:Nat):(Builtin.append_ #[t,t] ty #[v,Yc none 0 c]).run P w=.ok v w:=by
 rcases a.2 with⟨rfl,rfl⟩|⟨g,h,j,rfl,_,_,b,_⟩
 ·simp[Builtin.append_,run_underlying f,sizeOf,typeInfo,d,Builtin.lenOf,Builtin.firstCells]
 ·simp[Builtin.append_,run_underlying f,sizeOf,typeInfo,d,Builtin.lenOf,Builtin.firstCells,b,storeCells]
theorem ZjI (base:Nat) (t ty e:TypeId) (i:TypeInfo) (z:Yi) (size b:Nat) (I:P.underlying t=Ya (.slice e)) (H:P.info? e=Ya i) (O:i.zero=Ya z)
  (o:i.size=size) (D:i.bytes=b) (G:z.cells.size=size) (F:0<size)
  (v:Yi) (n:Nat) (x:List Yi) (d:w.ownsRow base e size v n x)
  (B:Nat) (A:Option Addr) (m c:Nat) (a:List Yi) (r:Zw w B size A m a) (K:∀u∈a,u.oneCell'=true)
  (C:n+m<=maxLen) (f:(n+m)*b<=140737488355328) (l:base<=w.heap.size) :
  ∃p w',(Builtin.append_ #[t,t] ty #[v,Yc A m c]).run P w=.ok p w'/\w'.ownsRow base e size p (n+m) (x++a)/\w.grownBy w' v.ownBlock ∧
   (p.ownBlock=v.ownBlock\/p.ownBlock=Ya w.heap.size):=by
 rcases A with _|y
 ·have hm:m=0:=by
   rcases Nat.eq_zero_or_pos m with k|k
   ·exact k
   ·obtain⟨y,h,_⟩:=r.2 k;cases h
  subst hm;have E:a=[]:=List.eq_nil_of_length_eq_zero (by simpa using r.1);subst E;exact⟨v,w,ZhU w base t ty e i size I H v n x d c,by simpa using d,World.grownBy.refl w _,.inl rfl⟩
 ·have g:∀j u,a[j]? = Ya u->w.cell? (y.add j)=Ya u:=by
   intro j u hu;rcases Nat.eq_zero_or_pos m with k|k
   ·subst k;have E:a=[]:=List.eq_nil_of_length_eq_zero (by simpa using r.1);subst E;simp at hu
   ·obtain⟨J,h,_,hc⟩:=r.2 k;injection h with h;subst h;exact hc j u hu
  obtain⟨p,w',s,L,M,_,N⟩:=run_append_own_at (P:=P) w base t ty e i z size b I H O o D G F v n x d y m c a r.1 g K C f l;exact⟨p,w',s,L,M,N⟩
theorem ZgS {o:Oper} {a:Act} {K:Act->Yh->Prop} {Q:Exit->Act->Yh->Prop} (s x:Operand) (t:TypeId)
  (L:o.op=.call { callee:=.builtin .append,args:=#[s,x],argTypes:=#[t,t] })
  (base:Nat) (e:TypeId) (i:TypeInfo) (z:Yi) (size b:Nat) (O:P.underlying t=Ya (.slice e)) (J:P.info? e=Ya i) (S:i.zero=Ya z)
  (j:i.size=size) (y:i.bytes=b) (D:z.cells.size=size) (C:0<size)
  (v:Yi) (n:Nat) (E:List Yi) (N:a.eval s=v) (l:w.ownsRow base e size v n E)
  (B:Nat) (A:Option Addr) (m c:Nat) (d:List Yi) (R:a.eval x=Yc A m c) (M:Zw w B size A m d) (F:∀u∈d,u.oneCell'=true)
  (r:n+m<=maxLen) (f:(n+m)*b<=140737488355328) (g:base<=w.heap.size)
  (h:∀k w',w'.ownsRow base e size k (n+m) (E++d)->w.grownBy w' v.ownBlock->(k.ownBlock=v.ownBlock\/k.ownBlock=Ya w.heap.size)->K (a.put o.dst k) w'):o.wp P a w K Q:=by
 obtain⟨k,w',p,G,H,I⟩:=ZjI (P:=P) w base t o.type e i z size b O J S j y D C v n E l B A m c d M F r f g;unfold Oper.wp execOp;simp only[L,resolve,invoke,builtin,Sem.run_bind,Sem.run_pure,Result.andThen_ok,List.map_toArray,List.map_cons,List.map_nil,N,R,p];exact h k w' G H I
theorem Zj {p:Array Oper} {rest:List Oper} {o:Oper} {a:Act} {Q:Exit->Act->Yh->Prop} (C:o.guard=none) (s x:Operand) (t:TypeId)
  (M:o.op=.call { callee:=.builtin .append,args:=#[s,x],argTypes:=#[t,t] })
  (base:Nat) (e:TypeId) (i:TypeInfo) (z:Yi) (size b:Nat) (R:P.underlying t=Ya (.slice e)) (L:P.info? e=Ya i) (T:i.zero=Ya z)
  (j:i.size=size) (y:i.bytes=b) (E:z.cells.size=size) (D:0<size)
  (v:Yi) (n:Nat) (F:List Yi) (O:a.eval s=v) (l:w.ownsRow base e size v n F)
  (B:Nat) (A:Option Addr) (m c:Nat) (d:List Yi) (S:a.eval x=Yc A m c) (N:Zw w B size A m d) (G:∀u∈d,u.oneCell'=true)
  (r:n+m<=maxLen) (f:(n+m)*b<=140737488355328) (g:base<=w.heap.size)
  (h:∀k w',w'.ownsRow base e size k (n+m) (F++d)->w.grownBy w' v.ownBlock->(k.ownBlock=v.ownBlock\/k.ownBlock=Ya w.heap.size)->wpList P p Q rest (a.put o.dst k) w'):wpList P p Q (o::rest) a w:=
 wpList_plain C fun _ K=>ZgS w s x t M base e i z size b R L T j y E D v n F O l B A m c d S N G r f g fun k w' H I J=>K _ _ (h k w' H I J)
theorem ZQ {l:Array Oper} {o:Oper} {a:Act} {K:Act->Yh->Prop} {Q:Exit->Act->Yh->Prop} {E:Prop} (C:o.guard=none) (s x:Operand) (t:TypeId)
  (J:o.op=.call { callee:=.builtin .append,args:=#[s,x],argTypes:=#[t,t] })
  (base:Nat) (e:TypeId) (i:TypeInfo) (z:Yi) (size b:Nat) (N:P.underlying t=Ya (.slice e)) (I:P.info? e=Ya i) (S:i.zero=Ya z)
  (j:i.size=size) (y:i.bytes=b) (F:z.cells.size=size) (D:0<size)
  (v:Yi) (n:Nat) (G:List Yi) (M:a.eval s=v) (k:w.ownsRow base e size v n G)
  (B:Nat) (A:Option Addr) (m c:Nat) (d:List Yi) (R:a.eval x=Yc A m c) (L:Zw w B size A m d) (H:∀u∈d,u.oneCell'=true)
  (r:n+m<=maxLen) (f:(n+m)*b<=140737488355328) (g:base<=w.heap.size)
  (h:∀p w',w'.ownsRow base e size p (n+m) (G++d)->w.grownBy w' v.ownBlock->(p.ownBlock=v.ownBlock\/p.ownBlock=Ya w.heap.size)->K (a.put o.dst p) w') :
  if Region.wanted o (yielded l a.tmps)=true then Oper.wp P o a w K Q else E:=by
 have O:Region.wanted o (yielded l a.tmps)=true:=by simp[Region.wanted,C]
 rw[if_pos O];exact ZgS w s x t J base e i z size b N I S j y F D v n G M k B A m c d R L H r f g h
end
end
section
def Zg:List Bool->Nat
 |[]=>0
 |b::r=>b.toNat+2*Zg r
def bitsOf (n:Nat):List Bool:=if h:n=0 then []else(n % 2==1)::bitsOf (n / 2)
termination_by n
decreasing_by omega
theorem ZaM:bitsOf 0=[]:=by rw[bitsOf];rfl
theorem Zbz {n:Nat} (h:n≠0):bitsOf n=(n % 2==1)::bitsOf (n / 2):=by rw[bitsOf,dif_neg h]
theorem ZcM (b:Bool):b.toNat<=1:=by cases b<;>decide
theorem Zab (n:Nat):Zg (bitsOf n)=n:=by
 induction n using Nat.strongRecOn with
 |ind n a=>
  by_cases h:n=0
  ·subst h;rw[ZaM];rfl
  ·rw[Zbz h,Zg,a (n / 2) (by omega)];rcases Nat.mod_two_eq_zero_or_one n with e|e<;>rw[e]<;>simp<;>omega
theorem Zhj (a b:List Bool):Zg (a++b)=Zg a+2 ^ a.length*Zg b:=by
 induction a with
 |nil=>simp[Zg]
 |cons x r c=>rw[List.cons_append,Zg,Zg,c,List.length_cons,Nat.pow_succ,Nat.mul_add,<-Nat.mul_assoc,Nat.mul_comm 2 (2 ^ r.length)];omega
theorem ZdG (a:List Bool) (b:Bool):Zg (a++[b])=Zg a+2 ^ a.length*b.toNat:=by rw[Zhj];simp[Zg]
theorem Zca (l:List Bool):Zg l<2 ^ l.length:=by
 induction l with
 |nil=>simp[Zg]
 |cons b r a=>rw[Zg,List.length_cons,Nat.pow_succ];have:=ZcM b;omega
theorem ZhT (a:List Bool):bitsOf (Zg (a++[true]))=a++[true]:=by
 induction a with
 |nil=>
  rw[List.nil_append,Zg,Zg,Zbz (by decide)];rw[show(true.toNat+2*0) / 2=0 by decide,ZaM];rfl
 |cons x r b=>
  rw[List.cons_append,Zg];have c:Zg (r++[true])≠0:=by rw[ZdG];have:=Nat.two_pow_pos r.length;simp
  have d:=ZcM x;rw[Zbz (by omega)];rw[show(x.toNat+2*Zg (r++[true])) / 2=Zg (r++[true])by omega,b];have:((x.toNat+2*Zg (r++[true])) % 2==1)=x:=by rw[show(x.toNat+2*Zg (r++[true])) % 2=x.toNat by omega];cases x<;>rfl
  rw[this]
theorem ZbG (n k:Nat) (h:n<2 ^ k):(bitsOf n).length<=k:=by
 induction k generalizing n with
 |zero=>rw[show n=0 by simpa using h,ZaM];simp
 |succ k b=>
  by_cases a:n=0
  ·subst a;rw[ZaM];simp
  ·rw[Zbz a,List.length_cons];have:=b (n / 2) (by rw[Nat.pow_succ]at h;omega);omega
theorem Zmk (n:Nat) (h:n≠0):∃a,bitsOf n=a++[true]:=by
 induction n using Nat.strongRecOn with
 |ind n d=>
  rw[Zbz h];by_cases b:n / 2=0
  ·rw[b,ZaM];have:n=1:=by omega
   subst this;exact⟨[],rfl⟩
  ·obtain⟨a,c⟩:=d (n / 2) (by omega) b;exact⟨(n % 2==1)::a,by rw[c];rfl⟩
def Zad (l:List Bool) (i:Nat):Bool:=l.getD i false
theorem Zmy (l:List Bool) (i:Nat):Zg l=Zg (l.take i)+2 ^ i*Zg (l.drop i):=by
 rcases Nat.le_total i l.length with h|h
 ·have:=Zhj (l.take i) (l.drop i);rw[List.take_append_drop,List.length_take,Nat.min_eq_left h]at this;exact this
 ·rw[List.take_of_length_le h,List.drop_eq_nil_of_le h];simp[Zg]
theorem ZbN (l:List Bool) (i:Nat):Zg (l.drop i)=(Zad l i).toNat+2*Zg (l.drop (i+1)):=by
 unfold Zad;rcases Nat.lt_or_ge i l.length with h|h
 ·rw[List.drop_eq_getElem_cons h,Zg,List.getD_eq_getElem?_getD,List.getElem?_eq_getElem h];rfl
 ·rw[List.drop_eq_nil_of_le h,List.drop_eq_nil_of_le (by omega),List.getD_eq_getElem?_getD,List.getElem?_eq_none h];rfl
theorem Zhf {a b:Nat} (h:(bitsOf a).length<(bitsOf b).length):a<b:=by
 rcases Nat.lt_or_ge a b with g|g
 ·exact g
 ·exfalso;have f:=Zca (bitsOf a);rw[Zab]at f;have c:b≠0:=by intro c;rw[c,ZaM]at h;simp at h
  obtain⟨x,e⟩:=Zmk b c;have d:Zg (bitsOf b)=b:=Zab b;rw[e,ZdG]at d;rw[e,List.length_append]at h;have i:2 ^ (bitsOf a).length<=2 ^ x.length:=Nat.pow_le_pow_right (by decide) (by simpa using Nat.lt_succ_iff.1 h);simp at d;omega
theorem Zh3 (l:List Bool) (i:Nat):Zg l=Zg (l.take i)+2 ^ i*((Zad l i).toNat+2*Zg (l.drop (i+1))):=by rw[<-ZbN];exact Zmy l i
theorem Zsb {l m:List Bool} (i:Nat) (e:Zg (l.drop (i+1))=Zg (m.drop (i+1))) (c:Zad l i≠Zad m i):decide (Zg l<Zg m)=Zad m i:=by
 have a:=Zh3 l i;have b:=Zh3 m i;have h:=Zca (l.take i);have d:=Zca (m.take i);have f:2 ^ (l.take i).length<=2 ^ i:=Nat.pow_le_pow_right (by decide) (List.length_take_le _ _);have g:2 ^ (m.take i).length<=2 ^ i:=Nat.pow_le_pow_right (by decide) (List.length_take_le _ _);rw[e]at a;rw[Nat.mul_add]at a b;generalize 2 ^ i*(2*Zg (m.drop (i+1)))=T at *;generalize 2 ^ i=p at *;cases hl:Zad l i<;>cases hm:Zad m i
 ·rw[hl,hm]at c;exact absurd rfl c
 ·rw[hl]at a;rw[hm]at b;simp at a b;exact decide_eq_true (by omega)
 ·rw[hl]at a;rw[hm]at b;simp at a b;exact decide_eq_false (by omega)
 ·rw[hl,hm]at c;exact absurd rfl c
theorem ZkM {l m:List Bool} {i:Nat} (b:Zg (l.drop (i+1))=Zg (m.drop (i+1))) (a:Zad l i=Zad m i):Zg (l.drop i)=Zg (m.drop i):=by rw[ZbN l i,ZbN m i,b,a]
end
section
open Go.RowKit
def Zi (w:Yh) (v:Yi) (l:List Bool):Prop:=∃A c,v=Yc A l.length c/\l.length<=c/\c<=maxLen/\Zw w w.heap.size 1 A l.length (l.map Value.bool)
theorem Zi.below {w w':Yh} {v:Yi} {l:List Bool} (h:Zi w v l) (a:Below w.heap.size w w'):Zi w' v l:=by obtain⟨A,c,b,d,e,f⟩:=h;exact⟨A,c,b,d,e,(f.below a).more a.size⟩
theorem Zi.nil (w:Yh):Zi w (Yc none 0 0) []:=⟨none,0,rfl,Nat.le_refl _,by decide,Zw.none_⟩
theorem Zi.take {w:Yh} {A:Option Addr} {n c k:Nat} {l:List Bool} (h:l.length=n) (i:n<=c) (b:c<=maxLen) (d:Zw w w.heap.size 1 A n (l.map Value.bool)) (m:k<=n):Zi w (Yc A k c) (l.take k):=by
 have e:(l.take k).length=k:=by rw[List.length_take];omega
 refine⟨A,c,by rw[e],by omega,b,?_⟩;refine⟨by rw[List.length_map,e,Nat.mul_one],fun o=>?_⟩;obtain⟨a,f,g,hc⟩:=d.2 (by omega);refine⟨a,f,g,fun j u hu=>hc j u ?_⟩;rw[List.map_take,List.getElem?_take]at hu
 split at hu
 ·exact hu
 ·cases hu
theorem Zi.bit {w:Yh} {A:Option Addr} {n:Nat} {l:List Bool} (e:l.length=n) (b:Zw w w.heap.size 1 A n (l.map Value.bool)) {k:Nat} (d:k<n):∃a,A=Ya a/\w.cell? (a.add k)=Ya (.bool (Zad l k)):=by obtain⟨a,u,c,_,hu,hc⟩:=b.at_ d;refine⟨a,c,?_⟩;rw[hc,<-hu,List.getElem?_map];unfold Zad;rw[List.getD_eq_getElem?_getD,List.getElem?_eq_getElem (by omega)];rfl
def Zq1 (w:Yh) (v:Yi) (l:List Bool) (e:Ending) (w':Yh):Prop:=∃a,e=.returned a/\Zi w a l/\w=w'/\a.ownBlock=v.ownBlock
theorem ZpG {l:List Bool} {k:Nat} (b:k<l.length) (a:Zad l k=true):l.take (k+1)=l.take k++[true]:=by rw[List.take_succ_eq_append_getElem b];unfold Zad at a;rw[List.getD_eq_getElem?_getD,List.getElem?_eq_getElem b]at a;simp only[Option.getD_some]at a;rw[a]
theorem ZjE {l:List Bool} {k:Nat} (b:k<l.length) (a:Zad l k=false):Zg (l.take (k+1))=Zg (l.take k):=by rw[List.take_succ_eq_append_getElem b,ZdG];unfold Zad at a;rw[List.getD_eq_getElem?_getD,List.getElem?_eq_getElem b]at a;simp only[Option.getD_some]at a;rw[a];simp
theorem Ze8 (w:Yh) (v:Yi) (l:List Bool) (h:Zi w v l) :
  Calls Tryz.prog 133 #[v] w (Zq1 w v (bitsOf (Zg l))):=by
 obtain⟨A,c,rfl,p,r,f⟩:=h;have F:=r;unfold maxLen at F;obtain⟨n,y⟩:∃n,n=l.length:=⟨_,rfl⟩
 rw[<-y]at p f⊢;have e:=Lib.hid y;clear y;have J:n<=9223372036854775807:=by omega
 go_enter Tryz.func133,Tryz.ntmps133;go_wp2_with fail;go_loopg [3] n (fun g v3 K=>w=K/\∃k:Nat,k<=n/\g=k/\v3=Yd Yf k/\Zg (l.take k)=Zg l)
 case atStart=>exact⟨rfl,n,Nat.le_refl _,rfl,rfl,by rw[List.take_of_length_le (by rw[e.out];exact Nat.le_refl _)]⟩
 case round=>
  obtain⟨rfl,k,G,z,rfl,B⟩:=hrel;have o:=Lib.hid B;have C:=Lib.hid z;clear B z;by_cases x:k=0
  ·subst x;have s:(0:Int)<=(c:Int):=by omega
   have i:Zg l=0:=by rw[<-o.out];rfl
   have d:Zi w (Yc A 0 c) (bitsOf (Zg l)):=by rw[i,ZaM];exact Zi.take e.out.symm p r f (Nat.zero_le n)
   clear i s;go_wp2_with fail;go_ret;exact⟨_,rfl,d,rfl,by cases A<;>rfl⟩
  ·have H:(0:Int)<(k:Int):=by omega
   have a:k-1<l.length:=by have:=e.out;omega
   have j:k-1+1=k:=by omega
   have N:IntKind.i64.wrap ((k:Int)-1)=((k-1:Nat):Int):=by rw[IntWalk.i64_in _ (by omega)];omega
   cases hb:Zad l (k-1)
   ·have low:=ZjE a hb;rw[j,o.out]at low;obtain⟨E,rfl,hc⟩:=Zi.bit e.out.symm f (show k-1<n by omega);have u:((k-1:Nat):Int)<(n:Int):=by omega
    have t:(0:Int)<=((k-1:Nat):Int):=by omega
    rw[hb]at hc;have L:=Lib.hid hb;have D:=Lib.hid low;have M:=Lib.hid (And.intro j a);clear hb low j a;go_wp2_with fail;go_roundg (k-1)
    case measure=>have:=C.out;omega
    case rel=>exact⟨rfl,k-1,by omega,rfl,rfl,D.out.symm⟩
   ·have b:=ZpG a hb;rw[j]at b;have i:bitsOf (Zg l)=l.take k:=by rw[<-o.out,b,ZhT]
    have d:Zi w (Yc A k c) (bitsOf (Zg l)):=by rw[i];exact Zi.take e.out.symm p r f G
    obtain⟨E,rfl,hc⟩:=Zi.bit e.out.symm f (show k-1<n by omega);have u:((k-1:Nat):Int)<(n:Int):=by omega
    have t:(0:Int)<=((k-1:Nat):Int):=by omega
    have I:(k:Int)<=(c:Int):=by omega
    rw[hb]at hc;have m:=Lib.hid d;clear hb b j a i d;go_wp2_with fail;go_ret;exact⟨_,rfl,m.out,rfl,rfl⟩
theorem ZhH (w:Yh) (v:Yi) (l:List Bool) (h:Zi w v l) (i:Nat) :
  Calls Tryz.prog 139 #[v,Yd Yf i] w fun e w'=>e=.returned (.bool (Zad l i))/\w=w':=by
 obtain⟨A,c,rfl,g,j,f⟩:=h;have k:=j;unfold maxLen at k;by_cases a:i<l.length
 ·obtain⟨r,rfl,hc⟩:=Zi.bit rfl f a;obtain⟨n,d⟩:∃n,n=l.length:=⟨_,rfl⟩
  rw[<-d]at a g f⊢;have d1:decide (i<n)=true:=decide_eq_true a;have o:(i:Int)<(n:Int):=by omega
  have p:=Lib.hid d;generalize Zad l i=b at *;clear d f k g j;go_enter Tryz.func139,Tryz.ntmps139;go_wp2_with fail;go_ret;exact⟨rfl,rfl⟩
 ·have m:Zad l i=false:=by unfold Zad;rw[List.getD_eq_getElem?_getD,List.getElem?_eq_none (by omega)];rfl
  rw[m];obtain⟨n,d⟩:∃n,n=l.length:=⟨_,rfl⟩
  rw[<-d]at a g f⊢;have d1:decide (i<n)=false:=decide_eq_false a;clear d f k g j m;go_enter Tryz.func139,Tryz.ntmps139;go_wp2_with fail;go_ret;exact⟨rfl,rfl⟩
end
end Go.Proofs.YtbfnnolakggbfaaGreatDoor
