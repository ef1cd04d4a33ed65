import Derived.Deep.DeepFit
import Derived.Test.YtbfnnolakggbfaaGreatDoorQAU
import Derived.Test.YtbfnnolakggbfaaGreatDoorQBB
import Derived.Test.YtbfnnolakggbfaaGreatDoorQBJ
import Derived.Test.YtbfnnolakggbfaaGreatDoorQBK
set_option maxRecDepth 100000
set_option maxHeartbeats 8000000
open Option renaming some → Ya, none → Yb
open Go.Value renaming slice → Yc, int → Yd
open Go.IntKind renaming i64 → Yf
open Go.Obj renaming cells → Yg
open Go renaming World → Yh, Value → Yi
namespace Go.Proofs.YtbfnnolakggbfaaGreatDoor
section
open Go.RowKit
def ZbQ (r:Rw):Rw:=(r.1,ZN r.2)
theorem ZpV {t u r:Trm} (a:TrmOk t) (hu:TrmOk u) (h:Zcc t u=Ya r):ZN r=r:=by
 unfold Zcc at h
 split at h
 ·rename_i g
  obtain rfl:=Option.some.inj h;obtain⟨_,_,_,_,_,_,P⟩:=Zdb a.ok.wide hu.ok.wide a.k.wide hu.k.wide g;unfold ZN;dsimp only;rw[P.own]
 ·cases h
theorem ZmN {t:Trm} {b:Int×Int} (c:TrmOk t) (a:OkR b):ZaW (ZN t) b=ZaW t b:=by unfold ZaW ZN;dsimp only;rw[Zjg c a]
def Za3:List (Trm×Int)->Trm->Option Trm
 |[],t=>Ya t
 |s::r,t=>(ZO s.1 s.2 t).bind (Za3 r)
theorem ZoN {p t u:Trm} {v:Int} (b:TrmOk p) (c:TrmOk t) (h:ZO p v (ZN t)=Ya u):ZN u=u:=by rw[ZjS b c,Option.map_eq_some_iff]at h;obtain⟨a,_,rfl⟩:=h;unfold ZN;dsimp only;rw[Zig]
theorem Zgn {x:Int×Int} (a:OkR x):ZP x (0,1)=((0,1),0):=ZhL a Zak Zak (by show 0*(x.2*1)=x.1*0*1;grind)
theorem Zqz {l:List (Int×Int)} {kx:Int×Int} (a:ZC l) (b:OkR kx):Za1 (Zt (0,1)) l [] kx (0,1)=([],(0,1),0):=by
 have hc:ZZ (Zt (0,1)) l [] (max l.length ([]:List (Int×Int)).length):=fun i _=>by unfold Zt;rw[Zgn (a.at i)]
 rw[ZjG (show Zt (0,1) kx (0,1)=((0,1),0)from Zgn b) hc];have c:ZC []:=fun x b=>by cases b
 rw[ZgF (ZcY (Zck Zak) a c hc) c fun k=>?_]
 ·rfl
 rw[ZeS];unfold Zt;rw[Zgn (a.at k),Zbr (l:=[]) (.inr (by simp))]
 split<;>rfl
theorem Zrk {l:List (Int×Int)} {kx:Int×Int} (a:ZC l) (b:OkR kx):Za1 Zl l [] kx (0,1)=(Zs l,kx,0):=by
 have d:ZC []:=fun x b=>by cases b
 have c:∀k:Nat,atL [] k=(0,1):=fun k=>Zbr (.inr (by simp));have hc:ZZ Zl l [] (max l.length ([]:List (Int×Int)).length):=fun i _=>by rw[c,Zde (a.at i)]
 rw[ZjG (Zde b) hc];rw[ZgF (ZcY Zbi a d hc) a fun k=>?_];rw[ZeS,c,Zde (a.at k)]
 split
 ·rfl
 ·rename_i g
  exact(Zbr (.inr (by simp at g;omega))).symm
theorem Zqp {x:Int×Int} (h:OkR x) (a:x.1=0):x=(0,1):=by obtain⟨n,d⟩:=x;obtain⟨e,rfl,v⟩:=h;dsimp only at a;subst a;have:=v.low;simp at this;subst this;rfl
theorem ZqJ {s:Trm} {v:Int} {t:Trm} (b:TrmOk s) (a:TrmOk t):((ZaW s (Zv (atL t.1 v))).bind fun m=>Zcc t m)=ZO s v (ZN t):=by
 by_cases c:(atL t.1 v).1=0
 ·have f:=Zqp (a.ok.at v) c;have h:ZaW s (0,1)=Ya ([],(0,1)):=by
   have q:Zh s.1 s.2 (0,1)=([],(0,1),0):=by unfold Zh;rw[Yo ⟨Zav b.len b.ok b.k,by decide⟩,Zqz b.ok b.k]
   unfold ZaW;rw[q];rfl
  have i:Zcc t ([],(0,1))=Ya (ZN t):=by
   have q:ZaO t.1 [] t.2 (0,1)=(Zs t.1,t.2,0):=by unfold ZaO;rw[Yo ⟨Zav a.len a.ok a.k,by decide⟩,Zrk a.ok a.k]
   unfold Zcc;dsimp only;rw[q];rfl
  have j:ZO s v (ZN t)=Ya (ZN t):=by have e:Zaq (ZN t).1 (ZN t).2 s.1 s.2 v=((ZN t).1,(ZN t).2,0):=Yo (by unfold ZN;rw[Zbo a.ok];exact c);unfold ZO;rw[e];rfl
  rw[f,show Zv (0,1)=(0,1)from rfl,h,j];exact i
 ·have n:OkR (Zv (atL t.1 v)):=ZbF (a.ok.at v);have d:=ZaP (l:=s.1) (kx:=s.2) (kb:=Zv (atL t.1 v)) b.ok.wide b.k.wide n.wide;unfold ZO Zaq ZN ZaW;dsimp only;rw[Zbo a.ok,Yn c];by_cases g:(Zh s.1 s.2 (Zv (atL t.1 v))).2.2=0
  ·rw[Yo g,Yo g,Option.bind_some,Zl3 a d.1 d.2];rfl
  ·rw[Yn g,Yn g,Yn g];rfl
theorem Zlu:∀(a:List (Trm×Int)) (t:Trm),(∀s∈a,TrmOk s.1)->TrmOk t->Za3 a (ZN t)=(Za0 a t).map ZN
 |[],t,_,_=>rfl
 |s::r,t,hs,ht=>by
  have e:=ZqJ (v:=s.2) (hs s (by simp)) ht;rw[Za3,Za0,<-e];cases h1:ZaW s.1 (Zv (atL t.1 s.2))with
  |none=>rfl
  |some m=>
   rw[h1]at e;simp only[Option.bind_some]at e⊢;cases h2:Zcc t m with
   |none=>rfl
   |some u=>
    rw[h2]at e;simp only[Option.bind_some];have b:=ZoN (hs s (by simp)) ht e.symm;obtain⟨k1,_⟩:=Zl1 (hs s (by simp)) ht h1 h2;rw[<-Zlu r u (fun y c=>hs y (List.mem_cons_of_mem _ c)) k1,b]
def ZaX (a:List (Trm×Int)):List Rw->Option (List Rw)
 |[]=>Ya []
 |r::l=>if r.1=0 then ZaX a l else(Za3 a (ZN r.2)).bind fun t=>(ZaX a l).map fun b=>(r.1,t)::b
theorem Zj6 (a:List (Trm×Int)) (b:∀s∈a,TrmOk s.1):∀(l:List Rw),(∀r∈l,TrmOk r.2)->ZaX a l=(Zbk a (Zbp l)).map (·.map ZbQ)
 |[],_=>rfl
 |r::l,hl=>by
  have c:=Zj6 a b l fun x d=>hl x (List.mem_cons_of_mem _ d);rw[ZaX];by_cases h:r.1=0
  ·rw[Yo h,c];unfold Zbp;rw[List.filter_cons_of_neg (by simp[h])]
  ·rw[Yn h,c,Zlu a r.2 b (hl r (by simp))];unfold Zbp;rw[List.filter_cons_of_pos (by simp[h]),Zbk];cases Za0 a r.2 with
   |none=>rfl
   |some t=>
    simp only[Option.map_some,Option.bind_some];cases Zbk a (l.filter fun r=>!(r.1==0))<;>rfl
def trimS (s:Za5):Za5:=(s.1.map ZbQ,s.2)
theorem Zol {v:Int} {s:Za5} {r:Rw} (a:TrmOk r.2):Zar v (trimS s) (ZbQ r)=(Zar v s r).map trimS:=by
 have b:atL (ZbQ r).2.1 v=atL r.2.1 v:=Zbo a.ok v;unfold Zar;rw[b];by_cases h:(atL r.2.1 v).1=0
 ·rw[Yo h,Yo h];simp[trimS]
 ·rw[Yn h,Yn h];have e:ZaW (ZbQ r).2 (ZbC (atL r.2.1 v))=ZaW r.2 (ZbC (atL r.2.1 v)):=ZmN a (Zgq (a.ok.at v) h);rw[e];cases ZaW r.2 (ZbC (atL r.2.1 v))with
  |none=>rfl
  |some t=>
   dsimp only
   split<;>rfl
theorem Zjb (v:Int):∀(l:List Rw) (s:Za5),(∀r∈l,TrmOk r.2)->ZW v (trimS s) (l.map ZbQ)=(ZW v s l).map trimS
 |[],s,_=>rfl
 |r::l,s,h=>by
  rw[List.map_cons,ZW,ZW,Zol (h r (by simp))];cases Zar v s r with
  |none=>rfl
  |some b=>exact Zjb v l b fun x a=>h x (List.mem_cons_of_mem _ a)
theorem Zn7 {a b t:Rw} (c:TrmOk a.2) (d:TrmOk b.2) (h:Zbt a b=Ya t):ZbQ t=t:=by unfold Zbt at h;rw[Option.map_eq_some_iff]at h;obtain⟨u,e,rfl⟩:=h;unfold ZbQ;dsimp only;rw[ZpV c d e]
theorem Zid {a:Rw} (d:TrmOk a.2):∀(up c:List Rw),(∀r∈up,TrmOk r.2)->Zap a (c.map ZbQ) up=(Zap a c up).map (·.map ZbQ)
 |[],c,_=>rfl
 |b::r,c,h=>by
  rw[Zap,Zap];cases e:Zbt a b with
  |none=>rfl
  |some t=>
   simp only[Option.bind_some];rw[<-Zid d r (c++[t]) fun x f=>h x (List.mem_cons_of_mem _ f),List.map_append,List.map_singleton,Zn7 d (h b (by simp)) e]
theorem Zie (up:List Rw) (hu:∀r∈up,TrmOk r.2):∀(d b:List Rw),(∀r∈d,TrmOk r.2)->ZaL (b.map ZbQ) d up=(ZaL b d up).map (·.map ZbQ)
 |[],b,_=>rfl
 |a::r,b,h=>by
  rw[ZaL,ZaL,Zid (h a (by simp)) up b hu];cases Zap a b up with
  |none=>rfl
  |some c=>exact Zie up hu r c fun x e=>h x (List.mem_cons_of_mem _ e)
theorem Zov {s:Za5} (a:∀r∈s.2.1,TrmOk r.2) (b:∀r∈s.2.2,TrmOk r.2):Za2 (trimS s)=(Za2 s).map (·.map ZbQ):=by
 unfold Za2 trimS;dsimp only;rw[List.length_map,Zie _ b _ _ a]
 split<;>rfl
theorem Zhv (a:Rw):∀(up c d:List Rw),Zap a c up=Ya d->d.length=c.length+up.length
 |[],c,d,h=>by
  obtain rfl:=Option.some.inj h;simp
 |b::r,c,d,h=>by
  rw[Zap,Option.bind_eq_some_iff]at h;obtain⟨t,_,h⟩:=h;have:=Zhv a r _ _ h;simp at this⊢;omega
theorem Zhw (up:List Rw):∀(d b c:List Rw),ZaL b d up=Ya c->c.length=b.length+d.length*up.length
 |[],b,c,h=>by
  obtain rfl:=Option.some.inj h;simp
 |a::r,b,c,h=>by
  rw[ZaL,Option.bind_eq_some_iff]at h;obtain⟨t,e,h⟩:=h;have f:=Zhv a _ _ _ e;have g:=Zhw up r _ _ h;rw[Yk,Nat.succ_mul];omega
theorem Zih {s:Za5} {a:List Rw} (h:Za2 s=Ya a):a.length<=400:=by
 unfold Za2 at h
 split at h
 ·cases h
 ·have:=Zhw _ _ _ _ h;omega
theorem Zkp {v:Int}:∀(l:List Rw) (s:Za5),(∀r∈l,(atL r.2.1 v).1=0)->ZW v s l=Ya (s.1++l,s.2)
 |[],s,_=>by simp[ZW]
 |r::l,s,h=>by
  rw[ZW,show Zar v s r=Ya (s.1++[r],s.2.1,s.2.2)from Yo (h r (by simp)),Option.bind_some,Zkp l _ fun x a=>h x (List.mem_cons_of_mem _ a)];simp
theorem ZpL {l:List Rw} (h:l.length<=400):Za2 (l,[],[])=Ya l:=by unfold Za2;rw[Yn (by show ¬400<l.length+0*0;omega)];rfl
abbrev Stg:=List Rw×List Rw
def ZbW (a:List Rw):Nat->Option (List Stg×List Rw)
 |0=>Ya ([],a)
 |k+1=>(ZbW a k).bind fun x=>(ZW k ([],[],[]) x.2).bind fun s=>(Za2 s).map fun r=>(x.1++[(s.2.1,s.2.2)],r)
theorem Zgh (v:Int):∀(c:List Int) (a:List Rw) (b:List Zby),ZaG (c++[v]) a b=(ZaG c a b).bind fun x=>(ZW v ([],[],[]) x.1).bind fun s=>(Za2 s).map fun r=>(r,x.2++[(v,s.2.1,s.2.2)])
 |[],a,b=>by
  rw[List.nil_append,ZaG,ZaG,Option.bind_some];cases ZW v ([],[],[]) a with
  |none=>rfl
  |some s=>
   simp only[Option.bind_some];cases Za2 s<;>rfl
 |u::c,a,b=>by
  rw[List.cons_append,ZaG,ZaG];cases ZW u ([],[],[]) a with
  |none=>rfl
  |some s=>
   simp only[Option.bind_some];cases Za2 s with
   |none=>rfl
   |some r=>exact Zgh v c r _
def ZcL (st:List Stg) (k:Nat):Stg:=(st[k]?).getD ([],[])
def chK (P:List Int) (st:List Stg):Nat->List Zby
 |0=>[]
 |k+1=>if P.contains (k:Int)=true then chK P st k else chK P st k++[((k:Int),(ZcL st k).1,(ZcL st k).2)]
theorem Zjt (P:List Int) (st:List Stg) (x:Stg):∀k:Nat,k<=st.length->chK P (st++[x]) k=chK P st k
 |0,_=>rfl
 |k+1,h=>by
  have e:ZcL (st++[x]) k=ZcL st k:=by unfold ZcL;rw[List.getElem?_append_left (by omega)]
  rw[chK,chK,Zjt P st x k (by omega),e]
theorem Zpy (st:List Stg) (x:Stg):ZcL (st++[x]) st.length=x:=by unfold ZcL;rw[List.getElem?_append_right (Nat.le_refl _),Nat.sub_self];rfl
theorem Zr6 {t:Trm} {v:Int} (h:TrmOk t):co t v=0↔(atL t.1 v).1=0:=ZlJ (h.ok.at v)
theorem ZhZ (P:List Int) {d:List Rw} (o:Good d) (z:d.length<=400) (A:∀v∈P,∀r∈d,co r.2 v=0):∀k:Nat,k<=8 ->
  (ZaG (ZaB P k) d []=Yb->ZbW (d.map ZbQ) k=Yb) ∧
  ∀c,ZaG (ZaB P k) d []=Ya c->c.1.length<=400/\∃st,ZbW (d.map ZbQ) k=Ya (st,c.1.map ZbQ)/\st.length=k/\c.2=chK P st k
 |0,_=>by
  refine⟨fun h=>(by cases h),fun c h=>?_⟩;obtain rfl:=Option.some.inj h;exact⟨z,[],rfl,rfl,rfl⟩
 |k+1,hk=>by
  obtain⟨j,l⟩:=ZhZ P o z A k (by omega)
  have w:∀v∈ZaB P k,∃n:Nat,v=n/\n<8:=fun v D=>by
   obtain⟨⟨n,a,b⟩,_⟩:=(ZeV P k v).1 D;exact⟨n,a,by omega⟩
  by_cases g:P.contains (k:Int)=true
  ·have e:ZaB P (k+1)=ZaB P k:=Yo g;rw[e];refine⟨fun h=>?_,fun c h=>?_⟩
   ·rw[ZbW,j h];rfl
   ·obtain⟨u,st,d1,d2,m⟩:=l c h;obtain⟨f,x,_⟩:=ZeT (ZaB P k) d [] c w o h
    have t:∀r∈c.1.map ZbQ,(atL r.2.1 (k:Int)).1=0:=fun r i=>by
     obtain⟨y,p,rfl⟩:=List.mem_map.1 i;have:=x k (.inr (A k (by simpa using g))) y p;have:=(Zr6 (f y p).1).1 this;show(atL (Zs y.2.1) (k:Int)).1=0;rw[Zbo (f y p).1.ok];exact this
    refine⟨u,st++[([],[])],?_,by rw[Yj,d2];rfl,?_⟩
    ·rw[ZbW,d1,Option.bind_some,Zkp _ _ t,Option.bind_some];simp only[List.nil_append];rw[ZpL (by rw[List.length_map];exact u)];rfl
    ·rw[chK,Yo g,Zjt P st _ k (by omega),m]
  ·have e:ZaB P (k+1)=ZaB P k++[(k:Int)]:=Yn g;rw[e,Zgh];cases i:ZaG (ZaB P k) d []with
   |none=>
    refine⟨fun _=>?_,fun c h=>by cases h⟩;rw[ZbW,j i];rfl
   |some c=>
    obtain⟨u,st,d1,d2,m⟩:=l c i;obtain⟨f,x,_⟩:=ZeT (ZaB P k) d [] c w o i;have C:ZW k ([],[],[]) (c.1.map ZbQ)=(ZW k ([],[],[]) c.1).map trimS:=Zjb k c.1 ([],[],[]) fun r h=>(f r h).1;rw[ZbW,d1,Option.bind_some,Option.bind_some];dsimp only;rw[C];cases hs:ZW k ([],[],[]) c.1 with
    |none=>exact⟨fun _=>rfl,fun _ h=>by cases h⟩
    |some s=>
     have I:=Zdx k c.1 _ s (fun r h=>(f r h).1) hs
     have E:∀r∈s.2.1,TrmOk r.2:=fun r h=>by
      rcases I.lo r h with a|⟨_,_,a,_⟩
      ·cases a
      ·exact a.2.1
     have F:∀r∈s.2.2,TrmOk r.2:=fun r h=>by
      rcases I.up r h with a|⟨_,_,a,_⟩
      ·cases a
      ·exact a.2.1
     rw[Option.map_some,Option.bind_some,Option.bind_some,Zov E F];cases hw:Za2 s with
     |none=>exact⟨fun _=>rfl,fun _ h=>by cases h⟩
     |some r=>
      refine⟨fun h=>(by cases h),fun B h=>?_⟩;obtain rfl:=Option.some.inj h;refine⟨Zih hw,st++[(s.2.1,s.2.2)],rfl,by rw[Yj,d2];rfl,?_⟩;rw[chK,Yn g,Zjt P st _ k (by omega),<-d2,Zpy,d2,m]
def ZdQ (P:List Int) (st:List Stg):Nat->List (Int×Int)->Option (List (Int×Int))
 |0,m=>Ya m
 |k+1,m=>if P.contains (k:Int)=true then ZdQ P st k m else(ZdC (ZcL st k).1 (ZcL st k).2 m).bind fun x=>ZdQ P st k (m.set k x)
theorem ZgJ (P:List Int) (st:List Stg) (rest:List Ch):∀(k:Nat) (m:List (Int×Int)),Zbe (((chK P st k).map Zcd).reverse++rest) m=(ZdQ P st k m).bind (Zbe rest)
 |0,m=>rfl
 |k+1,m=>by
  rw[chK,ZdQ]
  split
  ·exact ZgJ P st rest k m
  ·rw[List.map_append,List.reverse_append];show Zbe (Zcd ((k:Int),(ZcL st k).1,(ZcL st k).2)::(((chK P st k).map Zcd).reverse++rest)) m=_;rw[Zbe];show(ZdC (ZcL st k).1 (ZcL st k).2 m).bind _=_;cases ZdC (ZcL st k).1 (ZcL st k).2 m with
   |none=>rfl
   |some x=>
    simp only[Option.bind_some];exact ZgJ P st rest k (m.set k x)
def ZdR (r:Rw):Bool:=decide (r.2.2.1<0)||(r.1==2&&r.2.2.1==0)
def Ze2 (l:List Rw):List (Int×Int)×Int:=
 if 400<l.length\/l.any ZU=true then([],2)
 else if(Zy (ZR l)).2≠0 then([],(Zy (ZR l)).2)
 else match ZaX ((Zy (ZR l)).1.1.zip (Zy (ZR l)).1.2) l with
  |none=>([],2)
  |some a=>match ZbW a 8 with
   |none=>([],2)
   |some x=>if x.2.any ZdR=true then([],1)else match (ZdQ (Zy (ZR l)).1.2 x.1 8 m0).bind (Zbe (ZaI ((Zy (ZR l)).1.1.zip (Zy (ZR l)).1.2)))with
    |none=>([],2)
    |some m=>(m,0)
theorem Zq8 {r:Rw} (h:r.1=1\/r.1=2):ZdR (ZbQ r)=!ZeX r.1 r.2.2.1:=by
 unfold ZdR ZeX ZbQ ZN;dsimp only;generalize r.2.2.1=n;rcases h with e|e<;>rw[e]
 ·rcases(show n<0\/0<=n by omega)with g|g
  ·rw[decide_eq_true g,Yn (by decide),Yo rfl,decide_eq_false (by omega)];rfl
  ·rw[decide_eq_false (by omega),Yn (by decide),Yo rfl,decide_eq_true (by omega)];rfl
 ·rw[Yn (by decide),Yn (by decide),Yo rfl];rcases Int.lt_trichotomy n 0 with g|g|g
  ·rw[decide_eq_true g,decide_eq_false (by omega)];rfl
  ·subst g;rfl
  ·rw[decide_eq_false (by omega),decide_eq_true g,show(n==0)=false by simp;omega];rfl
theorem Zk7 {a:Type} {f g:a->Bool}:∀{l:List a},(∀x∈l,f x=g x)->l.any f=l.any g
 |[],_=>rfl
 |x::l,h=>by rw[List.any_cons,List.any_cons,h x (by simp),Zk7 fun y b=>h y (List.mem_cons_of_mem _ b)]
theorem ZlO {l:List Rw} (A:ZqR l):Ze2 l=ZcK l:=by
 unfold Ze2 ZcK Zeh;by_cases f:400<l.length\/l.any ZU=true
 ·rw[Yo f,Yo f]
 rw[Yn f,Yn f];by_cases g:(Zy (ZR l)).2≠0
 ·rw[Yo g,Yo g]
 rw[Yn g,Yn g];have x:l.any ZU=false:=by
  cases q:l.any ZU with
  |false=>rfl
  |true=>exact absurd (.inr q) f
 have k:∀r∈l,TrmOk r.2/\(r.1=0\/r.1=1\/r.1=2):=fun r k=>Zfm (A r k) (by
  have:=List.any_eq_false.1 x r k
  simpa using this)
 have w:∀t∈ZR l,Zz t.1/\Bd t.2:=fun t H=>by
  obtain⟨r,a,_,rfl⟩:=Zjy.1 H;exact A r a
 have G:Good (Zbp l):=fun r h=>by
  obtain⟨a,b⟩:=Zng.1 h;obtain⟨k1,k2⟩:=k r a;exact⟨k1,by rcases k2 with c|c|c;(· exact absurd c b);(· exact .inl c);(· exact .inr c)⟩
 cases hq:Zy (ZR l)with
 |mk B z=>
 obtain⟨a,p⟩:=B;rw[hq]at g;dsimp only at g⊢;obtain rfl:z=0:=by simpa using g
 have S:=Zko w hq;have o:∀s∈a.zip p,TrmOk s.1:=fun s o=>by obtain⟨j,f,_⟩:=ZhS o;exact S.ok _ (List.mem_of_getElem? f)
 rw[Zj6 _ o l fun r h=>(k r h).1];cases hsub:Zbk (a.zip p) (Zbp l)with
 |none=>rfl
 |some d=>
  obtain⟨y,K,F⟩:=ZjJ (a.zip p) o (Zbp l) d G hsub;have I:∀v∈p,∀r∈d,co r.2 v=0:=fun v u=>F v (ZqP S u) (Zrc S u);have i:d.length<=400:=by rw[Zgz _ _ _ hsub];have:=List.length_filter_le (fun r:Rw=>!(r.1==0)) l;unfold Zbp;omega
  obtain⟨d1,d2⟩:=ZhZ p y i I 8 (Nat.le_refl _);simp only[Option.map_some];cases he:ZaG (ZaB p 8) d []with
  |none=>rw[d1 he]
  |some e=>
   obtain⟨_,L,C,J,D⟩:=d2 e he;obtain⟨i1,_⟩:=ZeT (ZaB p 8) d [] e (fun v u=>by obtain⟨⟨n,a,b⟩,_⟩:=(ZeV p 8 v).1 u;exact⟨n,a,b⟩) y he;rw[C];dsimp only;have E:(e.1.map ZbQ).any ZdR=e.1.any fun r=>!ZeX r.1 r.2.2.1:=by rw[List.any_map];exact Zk7 fun r h=>Zq8 (i1 r h).2
   rw[E];by_cases m:(e.1.any fun r=>!ZeX r.1 r.2.2.1)=true
   ·rw[Yo m,Yo m]
   ·rw[Yn m,Yn m,D];dsimp only;rw[ZgJ];rfl
end
section
open Go.RowKit
def ZnO:Rw:=(2,[(1,1)],(0,1))
def ZqT:Rw:=(1,[(-1,1)],(1,1))
def ZqV:Rw:=(1,[(-1,1)],(0,1))
theorem rows_block {w:Yh} {b:Nat} {a:Array Yi} {ty:TypeId} {rs:List (Yi×Rw)} {ts:List Rw} {n:Nat} (h:w.heap[b]? = Ya (.cells a ty (0,0))) (e:a.toList=Zr rs) (f:ts.length=n) (d:n<=maxLen) (hm:rs.map (·.2)=ts) (g:∀x∈rs,Za w x.1 x.2.2.1):ZA w (Yc (Ya ⟨b,0,Yb⟩) n n) ts:=by
 subst f;have c:rs.length=ts.length:=by rw[<-hm,List.length_map]
 refine⟨Ya ⟨b,0,Yb⟩,ts.length,rs,rfl,Nat.le_refl _,d,hm,⟨by rw[Zfo,c],fun _=>⟨_,rfl,(Array.getElem?_eq_some_iff.1 h).1,fun j u hu=>?_⟩⟩,g⟩;rw[Addr.add_lit,Nat.zero_add,cell_of_row w b j a ty (0,0) h];rw[<-e]at hu;simpa using hu
structure AwS (w wr:Yh) (b:Nat):Prop where
 r3:Blk wr (b+1+1+1) #[Yd Yf 2,Yc (Ya ⟨b+1+1,0,Yb⟩) 1 1,Yd Yf 0,Yd Yf 1]
 r5:Blk wr (b+1+1+1+1+1) #[Yd Yf 1,Yc (Ya ⟨b+1+1+1+1,0,Yb⟩) 1 1,Yd Yf 1,Yd Yf 1]
 r7:Blk wr (b+1+1+1+1+1+1+1) #[Yd Yf 1,Yc (Ya ⟨b+1+1+1+1+1+1,0,Yb⟩) 1 1,Yd Yf 0,Yd Yf 1]
 l2:Za wr (Yc (Ya ⟨b+1+1,0,Yb⟩) 1 1) [(1,1)]
 l4:Za wr (Yc (Ya ⟨b+1+1+1+1,0,Yb⟩) 1 1) [(-1,1)]
 l6:Za wr (Yc (Ya ⟨b+1+1+1+1+1+1,0,Yb⟩) 1 1) [(-1,1)]
 below:Below w.heap.size w wr
theorem AwS.keep {w wr c:Yh} {b:Nat} (h:AwS w wr b) (a:Below wr.heap.size wr c):AwS w c b:=
 ⟨h.r3.keep a,h.r5.keep a,h.r7.keep a,h.l2.below a,h.l4.below a,h.l6.below a,h.below.trans (a.mono h.below.size)⟩
theorem AwS.one {w wr:Yh} {b:Nat} (h:AwS w wr b):ZA (wr.alloc (Yg #[Yd Yf 2,Yc (Ya ⟨b+1+1,0,Yb⟩) 1 1,Yd Yf 0,Yd Yf 1,Yd Yf 1,Yc (Ya ⟨b+1+1+1+1,0,Yb⟩) 1 1,Yd Yf 1,Yd Yf 1] 39)) (Yc (Ya ⟨wr.heap.size,0,Yb⟩) 2 2) [ZnO,ZqT]:=by
 have a:=below_alloc1 wr (Yg #[Yd Yf 2,Yc (Ya ⟨b+1+1,0,Yb⟩) 1 1,Yd Yf 0,Yd Yf 1,Yd Yf 1,Yc (Ya ⟨b+1+1+1+1,0,Yb⟩) 1 1,Yd Yf 1,Yd Yf 1] 39);refine rows_block (rs:=[(Yc (Ya ⟨b+1+1,0,Yb⟩) 1 1,ZnO),(Yc (Ya ⟨b+1+1+1+1,0,Yb⟩) 1 1,ZqT)]) (heap_alloc_new wr _) rfl rfl (by decide) rfl (fun x c=>?_);simp only[List.mem_cons,List.not_mem_nil,or_false]at c;rcases c with rfl|rfl
 ·exact h.l2.below a
 ·exact h.l4.below a
theorem AwS.two {w wr:Yh} {b:Nat} (h:AwS w wr b):ZA (wr.alloc (Yg #[Yd Yf 2,Yc (Ya ⟨b+1+1,0,Yb⟩) 1 1,Yd Yf 0,Yd Yf 1,Yd Yf 1,Yc (Ya ⟨b+1+1+1+1+1+1,0,Yb⟩) 1 1,Yd Yf 0,Yd Yf 1] 39)) (Yc (Ya ⟨wr.heap.size,0,Yb⟩) 2 2) [ZnO,ZqV]:=by
 have a:=below_alloc1 wr (Yg #[Yd Yf 2,Yc (Ya ⟨b+1+1,0,Yb⟩) 1 1,Yd Yf 0,Yd Yf 1,Yd Yf 1,Yc (Ya ⟨b+1+1+1+1+1+1,0,Yb⟩) 1 1,Yd Yf 0,Yd Yf 1] 39);refine rows_block (rs:=[(Yc (Ya ⟨b+1+1,0,Yb⟩) 1 1,ZnO),(Yc (Ya ⟨b+1+1+1+1+1+1,0,Yb⟩) 1 1,ZqV)]) (heap_alloc_new wr _) rfl rfl (by decide) rfl (fun x c=>?_);simp only[List.mem_cons,List.not_mem_nil,or_false]at c;rcases c with rfl|rfl
 ·exact h.l2.below a
 ·exact h.l6.below a
end
section
open Go.RowKit
theorem Znr {l:List Rw} (b:∀r∈l,Zac r):ZqR l:=fun r a=>⟨(b r a).1,(b r a).2.1⟩
theorem Zkn (l:List Rw):(ZcK l).2=0\/(ZcK l).2=1\/(ZcK l).2=2:=by
 unfold ZcK;cases h:Zeh l with
 |inl z=>
  dsimp only;unfold Zeh at h
  split at h
  ·injection h with h;exact .inr (.inr h.symm)
  ·split at h
   ·injection h with h;rcases ZmP (ZR l)with q|⟨q,_⟩|⟨q,_⟩
    ·rename_i g;exact absurd q g
    ·exact .inr (.inl (by rw[<-h,q]))
    ·exact .inr (.inr (by rw[<-h,q]))
   ·split at h
    ·injection h with h;exact .inr (.inr h.symm)
    ·split at h
     ·injection h with h;exact .inr (.inr h.symm)
     ·split at h
      ·injection h with h;exact .inr (.inl h.symm)
      ·cases h
 |inr f=>
  dsimp only
  split
  ·exact .inr (.inr rfl)
  ·exact .inl rfl
section
variable {wq wo:Yh} {A:Prop} {base:Nat}
theorem Zm8 (_:A/\Below wq.heap.size wq (wo.alloc (Yg #[] 39))) (h:wq.heap.size<=wo.heap.size):(wo.alloc (Yg #[] 39)).ownsRow wq.heap.size 39 4 (Yc (Ya ⟨wo.heap.size,0,Yb⟩) 0 0) 0 []:=ZdI (Zgr wo) h
theorem Zlh (_:A/\Below wq.heap.size wq (wo.alloc (Yg #[] 39)).drew) (h:wq.heap.size<=wo.heap.size):(wo.alloc (Yg #[] 39)).drew.ownsRow wq.heap.size 39 4 (Yc (Ya ⟨wo.heap.size,0,Yb⟩) 0 0) 0 []:=ZdI (Zgr wo) h
theorem ZeO {o:Obj} {v:Yi} {n:Nat} {a:List Yi} (_:A/\Below wq.heap.size wq (wo.alloc o)) (h:wo.ownsRow base 39 4 v n a):(wo.alloc o).ownsRow base 39 4 v n a:=h.kept (ZY (below_alloc1 _ _) Yb) (by cases hv:v.ownBlock<;>simp)
end
theorem size_drew (w:Yh):w.drew.heap.size=w.heap.size:=rfl
theorem ZlB {A:Prop} {a wo:Yh} {o:Obj} {c:Nat} {b:List Yi} (_:A/\Below a.heap.size a (wo.alloc o)) (h:Zbf wo 0 c b):Zbf (wo.alloc o) 0 c b:=h.keep (below_alloc1 _ _)
theorem Zgp {w w':Yh} {c:Nat} {d:List Yi} {a:Option Nat} (h:Zbf w 0 c d) (b:w.grownBy w' a) (f:a≠Ya c):Zbf w' 0 c d:=
 ⟨Nat.zero_le _,Nat.lt_of_lt_of_le h.2.1 b.size,fun j u hu=>b.cell (h.2.2 j u hu) (fun e=>f e.symm)⟩
end
section
open Go.RowKit
theorem ZfD {t:Trm} (h:TrmOk t):(Zh t.1 t.2 (-1,1)).2.2=0:=by
 have hc:ZZ (Zt (-1,1)) t.1 [] (max t.1.length ([]:List (Int×Int)).length):=fun i _=>by unfold Zt;rw[Zka (h.ok.at i)]
 unfold Zh;rw[Yo ⟨Zav h.len h.ok h.k,by decide⟩,ZjG (show Zt (-1,1) t.2 (0,1)=((-t.2.1,t.2.2),0)from Zka h.k) hc]
theorem Znf {r:Rw} {o:Int} (h:TrmOk r.2):TrmOk (ZbD o r).2:=by obtain⟨_,_,_,_,P⟩:=Zcm h.ok.wide h.k.wide Zb7 (ZfD h);exact⟨P.ok,P.okk,P.len⟩
theorem ZfE {r:Rw} (h:ZT r.2=true):(Zh r.2.1 r.2.2 (-1,1)).2.2≠0:=by unfold ZT at h;unfold Zh;rw[Yn (fun q=>by rw[q.1]at h;cases h)];decide
def Zbd (l:List Rw) (t:Trm) (op:Int):Int:=
 if(Zh t.1 t.2 (-1,1)).2.2≠0 then 2 else if(Ze2 (l++[ZbD op (op,t)])).2=2 then 2 else 1-(Ze2 (l++[ZbD op (op,t)])).2
def Zn0 (l:List Rw) (r:Rw):Int:=
 if r.1=1 then Zbd l r.2 2 else if r.1=2 then Zbd l r.2 1
 else if r.1=0 then(if Zbd l r.2 2≠0 then Zbd l r.2 2 else if(Zh r.2.1 r.2.2 (-1,1)).2.2≠0 then 2 else Zbd l (ZbD 1 r).2 2)
 else 2
theorem ZkF {l:List Rw} {s:Rw} (b:∀r∈l,Zac r) (a:Zac s):∀x∈l++[s],Zac x:=fun x c=>by
 rcases List.mem_append.1 c with q|q
 ·exact b x q
 ·rw[List.mem_singleton]at q;subst q;exact a
theorem Zh8 {o:Int} {t:Trm} (h:TrmOk t) (a:o=0\/o=1\/o=2):ZU (o,t)=false:=by
 unfold ZU ZT;rw[show ZM t.1 t.2.1 t.2.2=true from Zav h.len h.ok h.k];rcases a with rfl|rfl|rfl<;>rfl
theorem Zgo {l:List Rw} {t:Trm} {op o:Int} (d:∀r∈l,Zac r) (b:TrmOk t) (a:-9223372036854775808<=op/\op<=9223372036854775807) (c:-9223372036854775808<=o/\o<=9223372036854775807):Zbd l t op=Zfe (ZcK (l++[ZbD op (o,t)])).2:=by
 unfold Zbd;rw[Yn (fun q=>q (ZfD b))];have e:ZbD op (op,t)=ZbD op (o,t):=rfl;rw[e,ZlO (Znr (ZkF d (Zfr (r:=(o,t)) (op:=op) ⟨b.ok.wide,b.k.wide,c⟩ a)))];rcases Zkn (l++[ZbD op (o,t)])with h|h|h<;>rw[h]<;>rfl
theorem ZhI {l:List Rw} {r:Rw} (h:ZU r=false):Zdd l r=Zfe (ZcK (l++[ZbD (if r.1=1 then 2 else 1) r])).2:=by unfold Zdd;rw[h];rfl
theorem ZmF {l:List Rw} {r:Rw} (c:∀r∈l,Zac r) (b:Zac r):Zn0 l r=Zfw l r:=by
 unfold Zn0 Zfw;cases hwr:ZU r with
 |true=>
  rw[Yo rfl];by_cases f:r.1=1
  ·have:ZT r.2=true:=by unfold ZU at hwr;rw[f]at hwr;simpa using hwr
   rw[Yo f];unfold Zbd;rw[Yo (ZfE this)]
  ·rw[Yn f];by_cases i:r.1=2
   ·have:ZT r.2=true:=by unfold ZU at hwr;rw[i]at hwr;simpa using hwr
    rw[Yo i];unfold Zbd;rw[Yo (ZfE this)]
   ·rw[Yn i];by_cases e:r.1=0
    ·have:ZT r.2=true:=by unfold ZU at hwr;rw[e]at hwr;simpa using hwr
     rw[Yo e];unfold Zbd;rw[Yo (ZfE this)];rfl
    ·rw[Yn e]
 |false=>
  rw[Yn (show ¬(false=true)by decide)];obtain⟨a,j⟩:=Zfm ⟨b.1,b.2.1⟩ hwr;rcases j with h|h|h
  ·have d:¬r.1=1:=by rw[h];decide
   have p:¬r.1=2:=by rw[h];decide
   rw[Yn d,Yn p,Yo h,Yo h,Zgo (o:=1) c a (by decide) (by decide),Zgo (o:=1) c (Znf (o:=1) a) (by decide) (by decide),Yn (show ¬(Zh r.2.1 r.2.2 (-1,1)).2.2≠0 from fun q=>q (ZfD a)),
    ZhI (r:=(1,r.2)) (Zh8 a (by decide)),ZhI (r:=ZbD 1 r) (Zh8 (Znf (o:=1) a) (by decide))]
   have m:(if((1,r.2):Rw).1=1 then(2:Int)else 1)=2:=rfl;have n:(if(ZbD 1 r).1=1 then(2:Int)else 1)=2:=rfl;rw[m,n];by_cases g:Zfe (ZcK (l++[ZbD 2 (1,r.2)])).2=0
   ·rw[Yn (fun q=>q g),Yo g];rfl
   ·rw[Yo g,Yn g]
  ·have k:¬r.1=0:=by rw[h];decide
   rw[Yo h,Yn k,ZhI hwr,Yo h,Zgo (o:=r.1) c a (by decide) b.2.2]
  ·have k:¬r.1=0:=by rw[h];decide
   have d:¬r.1=1:=by rw[h];decide
   rw[Yn d,Yo h,Yn k,ZhI hwr,Yn d,Zgo (o:=r.1) c a (by decide) b.2.2]
end
section
open Go.RowKit
def ZgW:Prop:=∀(w:Yh) (v:Yi) (l:List Rw),ZA w v l->(∀r∈l,Zac r)->Calls Tryz.prog 50 #[v] w (ZbK w (Ze2 l))
theorem Zry {t:Trm} {op:Int} (a:Zz t.1) (b:Bd t.2) (c:op=1\/op=2):Zac (op,t):=⟨a,b,by
 show -9223372036854775808<=op/\op<=9223372036854775807
 omega⟩
theorem Zpp (ag:ZgW) (w:Yh) (v va:Yi) (l:List Rw) (t:Trm) (B:Int) (h:ZA w v l) (hw:∀r∈l,Zac r) (hl:l.length<=1000) (ha:Za w va t.1) (ht:Zz t.1) (hk:Bd t.2) (ax:B=1\/B=2) :
  Calls Tryz.prog 32 #[v,.agg #[va,Yd Yf t.2.1,Yd Yf t.2.2],Yd Yf B] w fun e w'=>e=.returned (Yd Yf (Zbd l t B))/\Below w.heap.size w w':=by
 obtain⟨iR,L,M,N,O⟩:=info_parts ZcP;have hm:Zac (ZbD B (B,t)):=Zfr (Zry ht hk ax) (by omega);have al:=ZkF hw hm;have sv:=fun(w':Yh) (v':Yi) (h':ZA w' v' (l++[ZbD B (B,t)]))=>ag w' v' (l++[ZbD B (B,t)]) h' al;have y:=Zkn (l++[ZbD B (B,t)]);rw[<-ZlO (Znr al)]at y;have td:=fun(w':Yh) (H:Below w.heap.size w w')=>Zdk w' va t.1 t.2 (-1,1) (ha.below H) ht hk Zb7;obtain⟨Z,hZ⟩:∃Z,Z=Zbd l t B:=⟨_,rfl⟩
 rw[<-hZ];unfold Zbd at hZ;have aw:ZbD B (B,t)=(B,(Zh t.1 t.2 (-1,1)).1,(Zh t.1 t.2 (-1,1)).2.1):=rfl;rw[aw]at sv y hZ;clear hm al aw;generalize Zh t.1 t.2 (-1,1)=P at *;obtain⟨xl,⟨I,J⟩,er⟩:=P;dsimp only at sv y hZ td;obtain⟨⟨cc,z2⟩,ay⟩:∃q,Ze2 (l++[(B,xl,I,J)])=q:=⟨_,rfl⟩
 rw[ay]at sv y hZ;dsimp only at y hZ;obtain⟨tl,kn,kd⟩:=t;dsimp only at *;obtain⟨At,ct,rfl⟩:=Zc ha;obtain⟨A,c,F,rfl,h2,h3,h4,h5,h6⟩:=h
 have az:∀u∈Zr F,u.oneCell'=true:=Ze3 F fun x hx=>by
  obtain⟨A',c',e⟩:=Zc (h6 x hx);exact⟨_,_,_,e⟩
 obtain⟨n,hn⟩:∃n,l.length=n:=⟨_,rfl⟩
 rw[hn]at h5 hl;have X:=zh (zi h5 (zi az (zi h4 h6)));have HN:=zh hn;have T:=zh (show n+1<=maxLen/\(n+1)*48<=140737488355328 from by unfold maxLen;omega);have SV:=zh sv;have TD:=zh td;have HZ:=zh (zi hZ y);have B0:=zh (zi (below_alloc1 w (Yg #[Yc At tl.length ct,Yd Yf kn,Yd Yf kd] 37)) (Blk.start w #[Yc At tl.length ct,Yd Yf kn,Yd Yf kd] 37));rw[hn];clear sv td y hZ h2 h3 h4 h5 h6 hw hl ay az hn ha ht hk ax;generalize tl.length=tn at *;go_enter Tryz.func32,Tryz.ntmps32;go_upto_region 1 with fail;generalize p:w.heap.size=b0 at *;generalize w.alloc (Yg #[Yc At tn ct,Yd Yf kn,Yd Yf kd] 37)=w1 at *;have y0:w1.cell? ⟨b0,0,Yb⟩=Ya (Yc At tn ct):=B0.out.2.cell 0;have y1:w1.cell? ⟨b0,1,Yb⟩=Ya (Yd Yf kn):=B0.out.2.cell 1;have y2:w1.cell? ⟨b0,2,Yb⟩=Ya (Yd Yf kd):=B0.out.2.cell 2;go_upto_region 2 with(go_at_call 33;go_fit (TD.out _ B0.out.1);rintro e5 w5 H5;have H6:∃A c,e5=.returned (.tuple #[.agg #[Yc A xl.length c,Yd Yf I,Yd Yf J],Yd Yf er])/\Za w5 (Yc A xl.length c) xl/\Below w1.heap.size w1 w5/\Zp w1.heap.size (Yc A xl.length c):=Zch H5;obtain⟨Ax,cx,rfl,ak,au,bp⟩:=H6)
 obtain⟨V,am⟩:∃V,xl.length=V:=⟨_,rfl⟩
 rw[am]at ak⊢;have a6:=below_alloc1 w5 (Yg #[Yc Ax V cx,Yd Yf I,Yd Yf J] 37);have B6:=zh (zi (ZF p (ZF p B0.out.1 au) a6) (Blk.start w5 #[Yc Ax V cx,Yd Yf I,Yd Yf J] 37));have HX:=zh (zi am (ak.below a6));clear y0 y1 y2 B0 H5 ak au bp a6 am;generalize w5.heap.size=U at *;generalize w5.alloc (Yg #[Yc Ax V cx,Yd Yf I,Yd Yf J] 37)=k at *;by_cases ge:er=0
 rotate_left
 ·have ne:(er != 0)=true:=by simpa using ge
  have Y:=zh (show Z=2 from by rw[HZ.out.1,Yo ge]);clear ge;go_wp2_with fail;go_ret;exact⟨by rw[Y.out];rfl,by first|exact B6.out.1|(rw[p];exact B6.out.1)⟩
 have Y:=zh (show Z=if z2=2 then 2 else 1-z2 from by rw[HZ.out.1,Yn (fun q=>q ge)]);subst ge;have r0:k.cell? ⟨U,0,Yb⟩=Ya (Yc Ax V cx):=B6.out.2.cell 0;have r1:k.cell? ⟨U,1,Yb⟩=Ya (Yd Yf I):=B6.out.2.cell 1;have r2:k.cell? ⟨U,2,Yb⟩=Ya (Yd Yf J):=B6.out.2.cell 2
 have R:=zh (show(∀w':Yh,Below k.heap.size k w'->Zw w' w.heap.size 4 A n (Zr F))/\(∀u∈Zr F,u.oneCell'=true)/\F.map (·.2)=l/\∀w':Yh,Below k.heap.size k w'->∀x∈F,Za w' x.1 x.2.2.1/\Off (fun b=>k.heap.size<=b) x.1 x.2.2.1 from
  ⟨fun w' H=>by have:=ZF p B6.out.1 H;exact(p▸X.out.1).below (by rw[p];exact this),X.out.2.1,X.out.2.2.1,fun w' H x hx=>⟨(X.out.2.2.2 x hx).below (by rw[p];exact ZF p B6.out.1 H),(ZfW (W:=w) (X.out.2.2.2 x hx)).mono fun b q=>by have:=B6.out.1.size;omega⟩⟩)
 go_upto_region 4 with fail;go_cut [9,10]from 11 to 35 (fun v9 b2 wx=>b2=Yd Yf z2/\Below k.heap.size k wx)
 case first=>
  have m:=zh (show ZcQ (fun w'=>((w'.cell? ⟨U,0,Yb⟩=Ya (Yc Ax V cx)/\(w'.cell? ⟨U,1,Yb⟩=Ya (Yd Yf I)/\w'.cell? ⟨U,2,Yb⟩=Ya (Yd Yf J))))/\Below k.heap.size k w')from Zx (Zx (Zu _ _) (Zx (Zu _ _) (Zu _ _))) (ZbO k));have SF:=zh (fun(w':Yh) (H:Below k.heap.size k w')=>show(fun w'=>((w'.cell? ⟨U,0,Yb⟩=Ya (Yc Ax V cx)/\(w'.cell? ⟨U,1,Yb⟩=Ya (Yd Yf I)/\w'.cell? ⟨U,2,Yb⟩=Ya (Yd Yf J))))/\Below k.heap.size k w') w' from m.out k w' H ⟨⟨r0,⟨r1,r2⟩⟩,Below.refl _ _⟩);have HS:=SF.out k.drew (Zn _);dsimp only at HS;clear r0 r1 r2;refine wp_region_noPanic ?_;refine wp_region_held_drew (S:=(fun w'=>((w'.cell? ⟨U,0,Yb⟩=Ya (Yc Ax V cx)/\(w'.cell? ⟨U,1,Yb⟩=Ya (Yd Yf I)/\w'.cell? ⟨U,2,Yb⟩=Ya (Yd Yf J))))/\Below k.heap.size k w')) (by kernel_rfl) HS (fun a=>?_);clear HS;refine tk 1 rfl ?_;refine tk 3 rfl ?_;refine tk 4 rfl ?_;refine tk 5 rfl ?_;(try simp only[cl,Act.put]);refine wpAnyH_ready (rs:=[0,6]) (by kernel_rfl) (by simp) ?_;refine AllReadyH.cons (o:=_) rfl (fun K i=>?_) ?_
  ·go_simp;have Q:=zh (ZG a).size
   (first|refine i.out _ _ (Zbh m.out (by with_reducible assumption)) (fun d=>?_)|refine i.out _ _ (m.out _ _ (below_alloc1 _ _) (by with_reducible assumption)) (fun d=>?_))
   clear i K;(try dsimp only at d)
   (first|have s:=Zm8 d Q.out|have s:=Zlh d Q.out)
   (try rw[size_drew]at s);(try rw[World.size_alloc]at s);have G:=zh s;clear s;(try (have D:=zh (ZlB d D.out)));clear a;have a:=d;clear d;(try simp only[cl,Act.put]);refine wpAnyH_ready (rs:=[2,6]) (by kernel_rfl) (by simp) ?_;refine AllReadyH.cons (o:=_) rfl (fun K i=>?_) ?_
   ·refine ZQ _ rfl _ _ 43 rfl k.heap.size 39 iR (.agg #[Yd Yf 0,Yc Yb 0 0,Yd Yf 0,Yd Yf 0]) 4 48 Tryz.underlying43 L M N O rfl (by decide) _ 0 [] rfl G.out w.heap.size A n c (Zr F) rfl (R.out.1 _ (ZG a)) R.out.2.1 (by have:=T.out;omega) (by have:=T.out;omega) (ZG a).size (fun ab ac g f z=>?_);have C:=zh (show ac.ownsRow k.heap.size 39 4 ab n (Zr F)from by simpa using g);have E:=(ZG a).grown f (ZG a).size (fun b q=>(World.ownsRow.lt G.out b q).1);(try (have D:=zh (Zgp D.out f (fun e=>by simp[Act.eval,Value.ownBlock]at e))));refine i.out _ _ (SF.out _ E) (fun d=>?_);(try dsimp only at d);clear i K a g f z E G;have a:=d;clear d;(try simp only[cl,Act.put]);refine rd 6 rfl fun K i=>?_;go_simp
    (first|refine i.out _ _ (Zbh m.out (by with_reducible assumption)) (fun d=>?_)|refine i.out _ _ (m.out _ _ (below_alloc1 _ _) (by with_reducible assumption)) (fun d=>?_))
    clear i K;(try dsimp only at d)
    (first|have j:=ZfT d|have j:=ZeY d)
    (try rw[size_drew]at j);(try rw[World.size_alloc]at j);have D:=zh j;clear j;(try (have C:=zh (ZeO d C.out)));(try (have G:=zh (ZeO d G.out)));clear a;have a:=d;clear d;(try simp only[cl,Act.put]);refine rd 7 rfl fun K i=>?_;refine ZQ _ rfl _ _ 43 rfl k.heap.size 39 iR (.agg #[Yd Yf 0,Yc Yb 0 0,Yd Yf 0,Yd Yf 0]) 4 48 Tryz.underlying43 L M N O rfl (by decide) _ n (Zr F) rfl C.out _ (Ya _) 1 1 [Yd Yf B,Yc Ax V cx,Yd Yf I,Yd Yf J] rfl (D.out.reads rfl) (Zb2 _ _ _ _ _ _) (by have:=T.out;omega) (by have:=T.out;omega) (ZG a).size (fun a7 a8 g f z=>?_);have RA:=zh (Zdj (ts:=l) (t:=(B,xl,I,J)) (S:=fun b=>k.heap.size<=b) (fun b q=>q) R.out.2.2.1 (fun b q=>(World.ownsRow.lt C.out b q).1) (R.out.2.2.2 _ (ZG a)) (by rw[HN.out];exact g) f HX.out.2 (ZG a));have E:=(ZG a).grown f (ZG a).size (fun b q=>(World.ownsRow.lt C.out b q).1);refine i.out _ _ (SF.out _ E) (fun d=>?_);(try dsimp only at d);clear i K a g f z E D C;have a:=d;clear d;(try simp only[cl,Act.put]);refine rd 8 rfl fun K i=>?_;go_simp;(go_at_call 50;go_fit (SV.out _ _ RA.out);rintro e6 w6 ⟨A6,c6,rfl,_,_,H⟩);go_wp2_with fail;refine i.out _ _ (m.out _ _ H (by with_reducible assumption)) (fun d=>?_);clear i K a H;have a:=d;clear d;(try simp only[cl,Act.put]);refine tk 9 rfl ?_;refine tk 10 rfl ?_;refine tk 11 rfl ?_;refine tk 12 rfl ?_;refine tk 13 rfl ?_;(try simp only[cl,Act.put]);refine wpAnyH_done (by kernel_rfl) ?_ _;refine NoPanic.normal ?_;go_wp2_with fail;go_meet
    case rel=>exact⟨rfl,a.2⟩
   refine AllReadyH.cons (o:=_) rfl (fun K i=>?_) AllReadyH.nil;go_simp
   (first|refine i.out _ _ (Zbh m.out (by with_reducible assumption)) (fun d=>?_)|refine i.out _ _ (m.out _ _ (below_alloc1 _ _) (by with_reducible assumption)) (fun d=>?_))
   clear i K;(try dsimp only at d)
   (first|have j:=ZfT d|have j:=ZeY d)
   (try rw[size_drew]at j);(try rw[World.size_alloc]at j);have D:=zh j;clear j;(try (have C:=zh (ZeO d C.out)));(try (have G:=zh (ZeO d G.out)));clear a;have a:=d;clear d;(try simp only[cl,Act.put]);refine rd 2 rfl fun K i=>?_;refine ZQ _ rfl _ _ 43 rfl k.heap.size 39 iR (.agg #[Yd Yf 0,Yc Yb 0 0,Yd Yf 0,Yd Yf 0]) 4 48 Tryz.underlying43 L M N O rfl (by decide) _ 0 [] rfl G.out w.heap.size A n c (Zr F) rfl (R.out.1 _ (ZG a)) R.out.2.1 (by have:=T.out;omega) (by have:=T.out;omega) (ZG a).size (fun ab ac g f z=>?_);have C:=zh (show ac.ownsRow k.heap.size 39 4 ab n (Zr F)from by simpa using g);have E:=(ZG a).grown f (ZG a).size (fun b q=>(World.ownsRow.lt G.out b q).1);(try (have D:=zh (Zgp D.out f (fun e=>by simp[Act.eval,Value.ownBlock]at e))));refine i.out _ _ (SF.out _ E) (fun d=>?_);(try dsimp only at d);clear i K a g f z E G;have a:=d;clear d;(try simp only[cl,Act.put]);refine rd 7 rfl fun K i=>?_;refine ZQ _ rfl _ _ 43 rfl k.heap.size 39 iR (.agg #[Yd Yf 0,Yc Yb 0 0,Yd Yf 0,Yd Yf 0]) 4 48 Tryz.underlying43 L M N O rfl (by decide) _ n (Zr F) rfl C.out _ (Ya _) 1 1 [Yd Yf B,Yc Ax V cx,Yd Yf I,Yd Yf J] rfl (D.out.reads rfl) (Zb2 _ _ _ _ _ _) (by have:=T.out;omega) (by have:=T.out;omega) (ZG a).size (fun a7 a8 g f z=>?_);have RA:=zh (Zdj (ts:=l) (t:=(B,xl,I,J)) (S:=fun b=>k.heap.size<=b) (fun b q=>q) R.out.2.2.1 (fun b q=>(World.ownsRow.lt C.out b q).1) (R.out.2.2.2 _ (ZG a)) (by rw[HN.out];exact g) f HX.out.2 (ZG a));have E:=(ZG a).grown f (ZG a).size (fun b q=>(World.ownsRow.lt C.out b q).1);refine i.out _ _ (SF.out _ E) (fun d=>?_);(try dsimp only at d);clear i K a g f z E D C;have a:=d;clear d;(try simp only[cl,Act.put]);refine rd 8 rfl fun K i=>?_;go_simp;(go_at_call 50;go_fit (SV.out _ _ RA.out);rintro e6 w6 ⟨A6,c6,rfl,_,_,H⟩);go_wp2_with fail;refine i.out _ _ (m.out _ _ H (by with_reducible assumption)) (fun d=>?_);clear i K a H;have a:=d;clear d;(try simp only[cl,Act.put]);refine tk 9 rfl ?_;refine tk 10 rfl ?_;refine tk 11 rfl ?_;refine tk 12 rfl ?_;refine tk 13 rfl ?_;(try simp only[cl,Act.put]);refine wpAnyH_done (by kernel_rfl) ?_ _;refine NoPanic.normal ?_;go_wp2_with fail;go_meet
   case rel=>exact⟨rfl,a.2⟩
  refine AllReadyH.cons (o:=_) rfl (fun K i=>?_) AllReadyH.nil;go_simp
  (first|refine i.out _ _ (Zbh m.out (by with_reducible assumption)) (fun d=>?_)|refine i.out _ _ (m.out _ _ (below_alloc1 _ _) (by with_reducible assumption)) (fun d=>?_))
  clear i K;(try dsimp only at d)
  (first|have j:=ZfT d|have j:=ZeY d)
  (try rw[size_drew]at j);(try rw[World.size_alloc]at j);have D:=zh j;clear j;(try (have C:=zh (ZeO d C.out)));(try (have G:=zh (ZeO d G.out)));clear a;have a:=d;clear d;(try simp only[cl,Act.put]);refine rd 0 rfl fun K i=>?_;go_simp;have Q:=zh (ZG a).size
  (first|refine i.out _ _ (Zbh m.out (by with_reducible assumption)) (fun d=>?_)|refine i.out _ _ (m.out _ _ (below_alloc1 _ _) (by with_reducible assumption)) (fun d=>?_))
  clear i K;(try dsimp only at d)
  (first|have s:=Zm8 d Q.out|have s:=Zlh d Q.out)
  (try rw[size_drew]at s);(try rw[World.size_alloc]at s);have G:=zh s;clear s;(try (have D:=zh (ZlB d D.out)));clear a;have a:=d;clear d;(try simp only[cl,Act.put]);refine rd 2 rfl fun K i=>?_;refine ZQ _ rfl _ _ 43 rfl k.heap.size 39 iR (.agg #[Yd Yf 0,Yc Yb 0 0,Yd Yf 0,Yd Yf 0]) 4 48 Tryz.underlying43 L M N O rfl (by decide) _ 0 [] rfl G.out w.heap.size A n c (Zr F) rfl (R.out.1 _ (ZG a)) R.out.2.1 (by have:=T.out;omega) (by have:=T.out;omega) (ZG a).size (fun ab ac g f z=>?_);have C:=zh (show ac.ownsRow k.heap.size 39 4 ab n (Zr F)from by simpa using g);have E:=(ZG a).grown f (ZG a).size (fun b q=>(World.ownsRow.lt G.out b q).1);(try (have D:=zh (Zgp D.out f (fun e=>by simp[Act.eval,Value.ownBlock]at e))));refine i.out _ _ (SF.out _ E) (fun d=>?_);(try dsimp only at d);clear i K a g f z E G;have a:=d;clear d;(try simp only[cl,Act.put]);refine rd 7 rfl fun K i=>?_;refine ZQ _ rfl _ _ 43 rfl k.heap.size 39 iR (.agg #[Yd Yf 0,Yc Yb 0 0,Yd Yf 0,Yd Yf 0]) 4 48 Tryz.underlying43 L M N O rfl (by decide) _ n (Zr F) rfl C.out _ (Ya _) 1 1 [Yd Yf B,Yc Ax V cx,Yd Yf I,Yd Yf J] rfl (D.out.reads rfl) (Zb2 _ _ _ _ _ _) (by have:=T.out;omega) (by have:=T.out;omega) (ZG a).size (fun a7 a8 g f z=>?_);have RA:=zh (Zdj (ts:=l) (t:=(B,xl,I,J)) (S:=fun b=>k.heap.size<=b) (fun b q=>q) R.out.2.2.1 (fun b q=>(World.ownsRow.lt C.out b q).1) (R.out.2.2.2 _ (ZG a)) (by rw[HN.out];exact g) f HX.out.2 (ZG a));have E:=(ZG a).grown f (ZG a).size (fun b q=>(World.ownsRow.lt C.out b q).1);refine i.out _ _ (SF.out _ E) (fun d=>?_);(try dsimp only at d);clear i K a g f z E D C;have a:=d;clear d;(try simp only[cl,Act.put]);refine rd 8 rfl fun K i=>?_;go_simp;(go_at_call 50;go_fit (SV.out _ _ RA.out);rintro e6 w6 ⟨A6,c6,rfl,_,_,H⟩);go_wp2_with fail;refine i.out _ _ (m.out _ _ H (by with_reducible assumption)) (fun d=>?_);clear i K a H;have a:=d;clear d;(try simp only[cl,Act.put]);refine tk 9 rfl ?_;refine tk 10 rfl ?_;refine tk 11 rfl ?_;refine tk 12 rfl ?_;refine tk 13 rfl ?_;(try simp only[cl,Act.put]);refine wpAnyH_done (by kernel_rfl) ?_ _;refine NoPanic.normal ?_;go_wp2_with fail;go_meet
  case rel=>exact⟨rfl,a.2⟩
 case rest=>
  obtain⟨rfl,av⟩:=hcut;have Q:=zh (ZF p B6.out.1 av);clear r0 r1 r2 av;rcases HZ.out.2 with q|q|q
  ·have aa:=zh (show Z=1 from by rw[Y.out,q];rfl);subst q;go_wp2_with fail;go_ret;exact⟨by rw[aa.out];rfl,by first|exact Q.out|(rw[p];exact Q.out)⟩
  ·have aa:=zh (show Z=0 from by rw[Y.out,q];rfl);subst q;go_wp2_with fail;go_ret;exact⟨by rw[aa.out];rfl,by first|exact Q.out|(rw[p];exact Q.out)⟩
  ·have aa:=zh (show Z=2 from by rw[Y.out,q];rfl);subst q;go_wp2_with fail;go_ret;exact⟨by rw[aa.out];rfl,by first|exact Q.out|(rw[p];exact Q.out)⟩
end
end Go.Proofs.YtbfnnolakggbfaaGreatDoor
