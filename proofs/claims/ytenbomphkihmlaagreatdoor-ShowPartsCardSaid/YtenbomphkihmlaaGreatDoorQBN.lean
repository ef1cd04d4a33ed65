import Derived.Lib.ItoaLen
import Derived.Test.YtenbomphkihmlaaGreatDoorQAB
import Derived.Test.YtenbomphkihmlaaGreatDoorQAS
import Derived.Test.YtenbomphkihmlaaGreatDoorQBH
set_option maxRecDepth 100000
set_option maxHeartbeats 8000000
namespace Go.Proofs.YtenbomphkihmlaaGreatDoor
section
open Go.RowKit
def ZM (ns:List Nd) (ks:List Int) (P:Nd->Prop):Prop:=∀ k∈ks,0<=k/\k<(ns.length:Int)/\P (Ze ns k)
theorem ZM.mono {ns:List Nd} {ks:List Int} {P Q:Nd->Prop} (h:ZM ns ks P) (g:∀ n,P n->Q n):ZM ns ks Q:=fun k hk=>⟨(h k hk).1,(h k hk).2.1,g _ (h k hk).2.2⟩
def ZbZ (n:Nd):Prop:=0<n.words.length/\∃ g r,n.nums=g::r/\0<=g/\g<=2
def Za0 (x:Int):Prop:=0<=x/\x<1000000000000000000
def Zch (ns:List Nd) (f:Nat) (n:Nd):Prop:=(n.kind=15/\∃ s r,n.words=s::r)\/(n.kind≠15/\ZX ns f n)
def Za8 (ns:List Nd) (P:Nd->Prop) (m:Nd):Prop:=ZM ns m.kids P
def Zj8 (ns:List Nd) (P:Nd->Prop) (n:Nd):Prop:=(∃ s r,n.words=s::r)/\∃ k,n.kids=[k]/\ZM ns [k] (Za8 ns P)
def ZaM (ns:List Nd):Nat->Nd->Prop
 | 0,_=>False
 | f+1,n=>
  ((n.kind=8\/n.kind=9)/\(∃ s,n.words=[s])/\∃ k,n.kids=[k]/\ZM ns [k] (ZX ns f)) ∨
  (n.kind=10/\(∃ a b,n.words=[a,b])/\(∃ j k,n.kids=[j,k])/\ZM ns n.kids (Za8 ns fun x=>ZaM ns f x)) ∨
  (n.kind=11/\(∃ a b,n.words=[a,b])/\ZM ns n.kids (Zj8 ns fun x=>ZaM ns f x)) ∨
  (n.kind=13/\(∃ a b,n.words=[a,b])/\(∃ p q r,n.nums=[p,q,r]/\0<=p/\p<=4/\Za0 q/\Za0 r)/\∃ l k,n.kids=l++[k]/\ZM ns l ZbZ/\ZM ns [k] (Za8 ns fun x=>ZaM ns f x)) ∨
  (n.kind=14/\((∃ a,n.words=[a])\/∃ a b,n.words=[a,b])/\ZM ns n.kids (Zch ns f)) ∨
  (n.kind=16/\∃ k r,n.kids=k::r/\r≠[]/\ZM ns [k] (ZX ns f)/\ZM ns r (Za8 ns fun x=>ZaM ns f x)) ∨
  (n.kind=17/\∃ j k,n.kids=[j,k]/\ZM ns [j] (ZX ns f)/\ZM ns [k] (Za8 ns fun x=>ZaM ns f x)) ∨
  (n.kind=18/\∃ k,n.kids=[k]/\ZM ns [k] (ZX ns f)) ∨
  n.kind=19
def Zd3 (n:Nd):Prop:=(n.kind=3/\∃ a b r,n.words=a::b::r/\r.length % 2=0/\2<=r.length)\/(n.kind=2/\(∃ s,n.words=[s])/\∃ x,n.nums=[x]/\0<=x/\x<=1)
def Zdx (ns:List Nd) (n:Nd):Prop:=(∃ s,n.words=[s])\/((∃ a b,n.words=[a,b])/\(∃ p q r,n.nums=[p,q,r]/\0<=p/\p<=4/\Za0 q/\Za0 r)/\ZM ns n.kids ZbZ)
def Zd2 (ns:List Nd) (f:Nat) (n:Nd):Prop:=
 (n.kind=1/\(∃ s,n.words=[s])/\ZM ns n.kids Zd3)\/(n.kind=4/\(∃ s,n.words=[s])/\∃ l k,n.kids=l++[k]/\ZM ns l (Zdx ns)/\ZM ns [k] (Za8 ns fun x=>ZaM ns f x))
structure RightP (ns:List Nd):Prop where
 some_:0<ns.length
 len:ns.length<=1500
 root:Zq ns 0=0
 kids:∀ (i:Nat) (d:Nd),ns[i]? = some d->∀ k∈d.kids,(i:Int)<k/\k<(ns.length:Int)
 node:∀ (i:Nat) (d:Nd),ns[i]? = some d->Zbr d.words=true/\ZaK d.nums=true/\Zl ns d=true
theorem ZbL {ns:List Nd} (h:ZaI ns=true):RightP ns:=by
 cases hp:ZaL ns with
 | none=>rw [ZcI hp] at h;cases h
 | some p=>
  rw [ZdF hp,Bool.and_eq_true,Bool.and_eq_true] at h
  obtain ⟨⟨h0,_⟩,hv⟩:=h
  have hl:0<ns.length/\ns.length<=1500:=by
   unfold ZaL at hp
   split at hp
   ·cases hp
   ·omega
  refine ⟨hl.1,hl.2,by simpa using h0,fun i d hd=>ZdA hp hd,fun i d hd=>?_⟩
  have:=List.all_eq_true.mp hv d (List.mem_of_getElem? hd)
  unfold Zw at this
  rw [Bool.and_eq_true,Bool.and_eq_true] at this
  exact ⟨this.1.1,this.1.2,this.2⟩
theorem Zfx {ns:List Nd} {i:Nat} {d:Nd} (R:RightP ns) (hd:ns[i]? = some d) {k:Int} (hk:k∈d.kids):∃ (m:Nat) (e:Nd),k=m/\i<m/\m<ns.length/\ns[m]? = some e/\Ze ns k=e/\Zq ns k=e.kind:=by
 obtain ⟨a,b⟩:=R.kids i d hd k hk
 obtain ⟨m,rfl⟩:∃ m:Nat,k=m:=⟨k.toNat,by omega⟩
 have hm:m<ns.length:=by omega
 have he:ns[m]? = some ns[m]:=List.getElem?_eq_getElem hm
 exact ⟨m,ns[m],rfl,by omega,hm,he,Zah he,Zbi he⟩
theorem Zar {n:Nd} {a b:Nat} (h:Zo n a b=true):n.words.length=a/\n.nums.length=b:=by
 unfold Zo at h
 rw [Bool.and_eq_true,decide_eq_true_eq,decide_eq_true_eq] at h
 exact h
theorem Zbz {α:Type} {l:List α} (h:l.length=1):∃ a,l=[a]:=by
 match l,h with
 | [a],_=>exact ⟨a,rfl⟩
theorem Zeb {α:Type} {l:List α} (h:l.length=2):∃ a b,l=[a,b]:=by
 match l,h with
 | [a,b],_=>exact ⟨a,b,rfl⟩
theorem ZgB {α:Type} {l:List α} (h:l.length=3):∃ a b c,l=[a,b,c]:=by
 match l,h with
 | [a,b,c],_=>exact ⟨a,b,c,rfl⟩
theorem ZdL {ns:List Nd} {ks:List Int} {f:Int->Bool} (h:Zk ns ks [f]=true):∃ k,ks=[k]/\f (Zq ns k)=true:=by
 match ks,h with
 | [],h=>simp [Zk] at h
 | [k],h=>exact ⟨k,rfl,by simpa [Zk] using h⟩
 | _::_::_,h=>simp [Zk] at h
theorem Zfk {ns:List Nd} {ks:List Int} {f g:Int->Bool} (h:Zk ns ks [f,g]=true):∃ j k,ks=[j,k]/\f (Zq ns j)=true/\g (Zq ns k)=true:=by
 match ks,h with
 | [],h=>simp [Zk] at h
 | [_],h=>simp [Zk] at h
 | [j,k],h=>exact ⟨j,k,rfl,by simpa [Zk] using h⟩
 | _::_::_::_,h=>simp [Zk] at h
theorem Zkz {ns:List Nd} {ks:List Int} {f g e:Int->Bool} (h:Zk ns ks [f,g,e]=true):∃ j k l,ks=[j,k,l]/\f (Zq ns j)=true/\g (Zq ns k)=true/\e (Zq ns l)=true:=by
 match ks,h with
 | [],h=>simp [Zk] at h
 | [_],h=>simp [Zk] at h
 | [_,_],h=>simp [Zk] at h
 | [j,k,l],h=>exact ⟨j,k,l,rfl,by simpa [Zk,and_assoc] using h⟩
 | _::_::_::_::_,h=>simp [Zk] at h
theorem ZbA {ns:List Nd} {ks:List Int} {f:Int->Bool} (h:ZQ ns ks f=true) {k:Int} (hk:k∈ks):f (Zq ns k)=true:=by
 unfold ZQ at h
 exact List.all_eq_true.mp h k hk
theorem Zbh {k a:Int} (h:isB [a] k=true):k=a:=by simpa [isB] using h
theorem ZhZ {k a b:Int} (h:isB [a,b] k=true):k=a\/k=b:=by simpa [isB] using h
theorem Zbt {l:List Int} (h:ZaK l=true) {x:Int} (hx:x∈l):Za0 x:=by
 have:=List.all_eq_true.mp h x hx
 simpa [Za0] using this
theorem Zkb {α:Type} (l:List α) (h:l≠[]):∃ a b,l=a++[b]:=⟨l.dropLast,l.getLast h,(List.dropLast_concat_getLast h).symm⟩
theorem ZcW {ns:List Nd} (R:RightP ns):∀ (f i:Nat) (d:Nd),ns[i]? = some d->ns.length<=i+f->ZE d.kind=true->ZX ns f d
 | 0,i,d,hd,hf,_=>by have:=(List.getElem?_eq_some_iff.1 hd).1;omega
 | f+1,i,d,hd,hf,hk=>by
  obtain ⟨_,hu,hl⟩:=R.node i d hd
  have kk:∀ k∈d.kids,ZE (Zq ns k)=true->∃ m:Nat,k=m/\m<ns.length/\ZX ns f (Ze ns k):=fun k h1 h2=>by
   obtain ⟨m,e,e1,e2,e3,e4,e5,e6⟩:=Zfx R hd h1
   refine ⟨m,e1,e3,?_⟩
   rw [e5]
   exact ZcW R f m e e4 (by omega) (by rw [<- e6];exact h2)
  have hc:d.kind=20\/d.kind=21\/d.kind=22\/d.kind=23:=by
   unfold ZE at hk
   rw [Bool.and_eq_true,decide_eq_true_eq,decide_eq_true_eq] at hk
   omega
  rw [ZX]
  rcases hc with e | e | e | e
  ·simp [Zl,e] at hl
   obtain ⟨n1,n2⟩:=Zar hl.1
   obtain ⟨v,hv⟩:=Zbz n2
   have:=Zbt hu (x:=v) (by rw [hv];simp)
   unfold Za0 at this
   exact ⟨fun h=>by rw [e] at h;exact absurd h (by decide),.inl ⟨e,v,[],hv,by omega,by omega⟩⟩
  ·simp [Zl,e] at hl
   obtain ⟨n1,n2⟩:=Zar hl.1
   obtain ⟨s,hs⟩:=Zbz n1
   exact ⟨fun h=>by rw [e] at h;exact absurd h (by decide),.inr (.inl ⟨e,s,[],hs⟩)⟩
  ·simp [Zl,e] at hl
   obtain ⟨⟨h1,h2⟩,h3⟩:=hl
   obtain ⟨n1,n2⟩:=Zar h1
   obtain ⟨v,hv⟩:=Zbz n2
   have:=Zbt hu (x:=v) (by rw [hv];simp)
   unfold Za0 at this
   have hv5:v<=5:=by simpa [num,hv] using h2
   obtain ⟨j,k,hks,a,b⟩:=Zfk h3
   obtain ⟨j',rfl,j1,j2⟩:=kk j (by rw [hks];simp) a
   obtain ⟨k',rfl,k1,k2⟩:=kk k (by rw [hks];simp) b
   exact ⟨fun _=>⟨v,[],hv,this.1,hv5⟩,.inr (.inr (.inr ⟨e,j',k',by rw [hks];rfl,j1,j2,by rw [hks];rfl,k1,k2⟩))⟩
  ·simp [Zl,e] at hl
   obtain ⟨k,hks,a⟩:=ZdL hl.2
   obtain ⟨k',rfl,k1,k2⟩:=kk k (by rw [hks];simp) a
   exact ⟨fun h=>by rw [e] at h;exact absurd h (by decide),.inr (.inr (.inl ⟨e,k',by rw [hks];rfl,k1,k2⟩))⟩
theorem ZdD {ns:List Nd} (R:RightP ns) {i:Nat} {d:Nd} (hd:ns[i]? = some d) (e:d.kind=6):ZbZ d:=by
 obtain ⟨_,hu,hl⟩:=R.node i d hd
 simp [Zl,e] at hl
 obtain ⟨⟨⟨h1,h2⟩,h3⟩,_⟩:=hl
 obtain ⟨_,n2⟩:=Zar h2
 obtain ⟨v,hv⟩:=Zbz n2
 have:=Zbt hu (x:=v) (by rw [hv];simp)
 exact ⟨by omega,v,[],hv,this.1,by simpa [num,hv] using h3⟩
theorem ZaG {ns:List Nd} (R:RightP ns) {i:Nat} {d:Nd} (hd:ns[i]? = some d) {ks:List Int} (hs:∀ k∈ks,k∈d.kids) {P:Nd->Prop} (h:∀ (m:Nat) (e:Nd),i<m->ns[m]? = some e->(m:Int)∈ks->Zq ns m=e.kind->P e):ZM ns ks P:=fun k hk=>by
 obtain ⟨m,e,rfl,e2,e3,e4,e5,e6⟩:=Zfx R hd (hs k hk)
 refine ⟨by omega,by omega,?_⟩
 rw [e5]
 exact h m e e2 e4 hk e6
theorem Zeo {ns:List Nd} (R:RightP ns):∀ (f i:Nat) (d:Nd),ns[i]? = some d->ns.length<=i+f->Zbk d.kind=true->ZaM ns f d
 | 0,i,d,hd,hf,_=>by have:=(List.getElem?_eq_some_iff.1 hd).1;omega
 | f+1,i,d,hd,hf,hk=>by
  obtain ⟨hw,hu,hl⟩:=R.node i d hd
  have blk:∀ (m:Nat) (e:Nd),i<m->ns[m]? = some e->e.kind=7->Za8 ns (fun x=>ZaM ns f x) e:=fun m e hm he e7=>by
   obtain ⟨_,_,hl⟩:=R.node m e he
   simp [Zl,e7] at hl
   refine ZaG R he (fun k hk=>hk) fun q g hq hg hin hkd=>Zeo R f q g hg (by omega) (by rw [<- hkd];exact ZbA hl.2 hin)
  have ex:∀ k,k∈d.kids->ZE (Zq ns k)=true->ZM ns [k] (ZX ns f):=fun k h1 h2=>
   ZaG R hd (fun y hy=>by rw [List.mem_singleton.1 hy];exact h1) fun m e hm he hin hkd=>ZcW R f m e he (by omega) (by rw [<- hkd];rw [List.mem_singleton.1 hin];exact h2)
  have b1:∀ k,k∈d.kids->Zq ns k=7->ZM ns [k] (Za8 ns fun x=>ZaM ns f x):=fun k h1 h2=>
   ZaG R hd (fun y hy=>by rw [List.mem_singleton.1 hy];exact h1) fun m e hm he hin hkd=>blk m e hm he (by rw [<- hkd];rw [List.mem_singleton.1 hin];exact h2)
  have hc:d.kind=8\/d.kind=9\/d.kind=10\/d.kind=11\/d.kind=13\/d.kind=14\/d.kind=16\/d.kind=17\/d.kind=18\/d.kind=19:=by
   unfold Zbk at hk
   simp at hk
   omega
  rw [ZaM]
  rcases hc with e | e | e | e | e | e | e | e | e | e
  ·simp [Zl,e] at hl
   obtain ⟨k,hks,a⟩:=ZdL hl.2
   exact .inl ⟨.inl e,Zbz (Zar hl.1).1,k,hks,ex k (by rw [hks];simp) a⟩
  ·simp [Zl,e] at hl
   obtain ⟨k,hks,a⟩:=ZdL hl.2
   exact .inl ⟨.inr e,Zbz (Zar hl.1).1,k,hks,ex k (by rw [hks];simp) a⟩
  ·simp [Zl,e] at hl
   obtain ⟨j,k,hks,a,b⟩:=Zfk hl.2
   refine .inr (.inl ⟨e,Zeb (Zar hl.1).1,⟨j,k,hks⟩,fun y hy=>?_⟩)
   have hy7:Zq ns y=7:=by
    rw [hks] at hy
    rcases List.mem_cons.1 hy with rfl | hy
    ·exact Zbh a
    ·rw [List.mem_singleton.1 hy];exact Zbh b
   exact b1 y hy hy7 y (by simp)
  ·simp [Zl,e] at hl
   refine .inr (.inr (.inl ⟨e,Zeb (Zar hl.1).1,ZaG R hd (fun k hk=>hk) fun m g hm hg hin hkd=>?_⟩))
   have g12:g.kind=12:=by rw [<- hkd];exact Zbh (ZbA hl.2 hin)
   obtain ⟨_,_,hl2⟩:=R.node m g hg
   simp [Zl,g12] at hl2
   obtain ⟨k,hks,a⟩:=ZdL hl2.2
   obtain ⟨s,hs⟩:=Zbz (Zar hl2.1).1
   exact ⟨⟨s,[],hs⟩,k,hks,ZaG R hg (fun y hy=>by rw [List.mem_singleton.1 hy,hks];simp) fun q u hq hu hin hkd=>blk q u (by omega) hu (by rw [<- hkd];rw [List.mem_singleton.1 hin];exact Zbh a)⟩
  ·simp [Zl,e] at hl
   obtain ⟨h1,h2⟩:=hl
   obtain ⟨p,q,r,hn⟩:=ZgB (Zar h1).2
   have np:=Zbt hu (x:=p) (by rw [hn];simp)
   have nq:=Zbt hu (x:=q) (by rw [hn];simp)
   have nr:=Zbt hu (x:=r) (by rw [hn];simp)
   unfold Zcp at h2
   simp at h2
   obtain ⟨⟨⟨_,h4⟩,_⟩,h5⟩:=h2
   have p4:p<=4:=by simpa [num,hn] using h4
   refine .inr (.inr (.inr (.inl ⟨e,Zeb (Zar h1).1,⟨p,q,r,hn,np.1,p4,nq,nr⟩,?_⟩)))
   rcases h5 with h5 | ⟨h5,_⟩
   ·obtain ⟨k,hks,a⟩:=ZdL h5
    exact ⟨[],k,hks,(fun y hy=>nomatch hy),b1 k (by rw [hks];simp) (Zbh a)⟩
   ·obtain ⟨j,k,hks,a,b⟩:=Zfk h5
    exact ⟨[j],k,hks,ZaG R hd (fun y hy=>by rw [List.mem_singleton.1 hy,hks];simp) fun m g hm hg hin hkd=>ZdD R hg (by rw [<- hkd];rw [List.mem_singleton.1 hin];exact Zbh a),b1 k (by rw [hks];simp) (Zbh b)⟩
  ·simp [Zl,e] at hl
   refine .inr (.inr (.inr (.inr (.inl ⟨e,?_,ZaG R hd (fun k hk=>hk) fun m g hm hg hin hkd=>?_⟩))))
   ·rcases hl.1 with h | h
    ·exact .inl (Zbz (Zar h).1)
    ·exact .inr (Zeb (Zar h).1)
   ·have ha:=ZbA hl.2 hin
    rw [hkd] at ha
    unfold ZbF at ha
    by_cases g15:g.kind=15
    ·obtain ⟨_,_,hl2⟩:=R.node m g hg
     simp [Zl,g15] at hl2
     obtain ⟨s,hs⟩:=Zbz (Zar hl2.1).1
     exact .inl ⟨g15,s,[],hs⟩
    ·exact .inr ⟨g15,ZcW R f m g hg (by omega) (by simpa [g15] using ha)⟩
  ·simp [Zl,e] at hl
   refine .inr (.inr (.inr (.inr (.inr (.inl ⟨e,?_⟩)))))
   rcases hl.2 with h | h
   ·obtain ⟨j,k,hks,a,b⟩:=Zfk h
    exact ⟨j,[k],hks,by simp,ex j (by rw [hks];simp) a,b1 k (by rw [hks];simp) (Zbh b)⟩
   ·obtain ⟨j,k,l,hks,a,b,c⟩:=Zkz h
    refine ⟨j,[k,l],hks,by simp,ex j (by rw [hks];simp) a,fun y hy=>?_⟩
    have hy7:Zq ns y=7:=by
     rcases List.mem_cons.1 hy with rfl | hy
     ·exact Zbh b
     ·rw [List.mem_singleton.1 hy];exact Zbh c
    exact b1 y (by rw [hks];exact List.mem_cons_of_mem _ hy) hy7 y (by simp)
  ·simp [Zl,e] at hl
   obtain ⟨j,k,hks,a,b⟩:=Zfk hl.2
   exact .inr (.inr (.inr (.inr (.inr (.inr (.inl ⟨e,j,k,hks,ex j (by rw [hks];simp) a,b1 k (by rw [hks];simp) (Zbh b)⟩))))))
  ·simp [Zl,e] at hl
   obtain ⟨k,hks,a⟩:=ZdL hl.2
   exact .inr (.inr (.inr (.inr (.inr (.inr (.inr (.inl ⟨e,k,hks,ex k (by rw [hks];simp) a⟩)))))))
  ·exact .inr (.inr (.inr (.inr (.inr (.inr (.inr (.inr e)))))))
theorem Zc0 {ns:List Nd} (R:RightP ns):ZM ns (Ze ns 0).kids (Zd2 ns ns.length):=by
 have h0:ns[0]? = some (ns[0]'R.some_):=List.getElem?_eq_getElem R.some_
 have e0:=Zah (k:=0) h0
 have k0:=Zbi (k:=0) h0
 rw [show ((0:Nat):Int)=0 from rfl] at e0 k0
 obtain ⟨_,_,hl⟩:=R.node 0 _ h0
 have z:(ns[0]'R.some_).kind=0:=by rw [<- k0];exact R.root
 simp [Zl,z] at hl
 rw [e0]
 refine ZaG R h0 (fun k hk=>hk) fun m d hm hd hin hkd=>?_
 obtain ⟨_,hu,hl2⟩:=R.node m d hd
 rcases ZhZ (ZbA hl.2 hin) with e | e
 ·rw [hkd] at e
  simp [Zl,e] at hl2
  refine .inl ⟨e,Zbz (Zar hl2.1).1,ZaG R hd (fun k hk=>hk) fun q g hq hg hin hkd=>?_⟩
  obtain ⟨_,hu3,hl3⟩:=R.node q g hg
  rcases ZhZ (ZbA hl2.2 hin) with e3 | e3
  ·rw [hkd] at e3
   simp [Zl,e3] at hl3
   obtain ⟨⟨h1,h2⟩,_⟩:=hl3
   obtain ⟨v,hv⟩:=Zbz (Zar h1).2
   have:=Zbt hu3 (x:=v) (by rw [hv];simp)
   exact .inr ⟨e3,Zbz (Zar h1).1,v,hv,this.1,by simpa [num,hv] using h2⟩
  ·rw [hkd] at e3
   simp [Zl,e3] at hl3
   obtain ⟨⟨⟨h1,h2⟩,_⟩,_⟩:=hl3
   match hg2:g.words with
   | []=>rw [hg2] at h1;simp at h1
   | [_]=>rw [hg2] at h1;simp at h1
   | a::b::r=>exact .inl ⟨e3,a,b,r,hg2,by rw [hg2] at h2;simp at h2;omega,by rw [hg2] at h1;simp at h1;omega⟩
 ·rw [hkd] at e
  simp [Zl,e] at hl2
  obtain ⟨⟨h1,h2⟩,h3⟩:=hl2
  obtain ⟨k,hks,a⟩:=ZdL h3
  have hne:d.kids≠[]:=fun q=>by rw [q] at hks;simp at hks
  obtain ⟨l,k',hk'⟩:=Zkb d.kids hne
  have el:d.kids.take (d.kids.length-1)=l:=by rw [hk'];simp
  have ek:k=k':=by rw [hk'] at hks;simpa using hks.symm
  rw [el] at h2
  subst ek
  refine .inr ⟨e,Zbz (Zar h1).1,l,k,hk',ZaG R hd (fun y hy=>by rw [hk'];simp [hy]) fun q g hq hg hin hkd=>?_,ZaG R hd (fun y hy=>by rw [hk',List.mem_singleton.1 hy];simp) fun q g hq hg hin hkd=>?_⟩
  ·have g5:g.kind=5:=by rw [<- hkd];exact Zbh (ZbA h2 hin)
   obtain ⟨_,hu3,hl3⟩:=R.node q g hg
   simp [Zl,g5] at hl3
   rcases hl3 with h | ⟨h,hc⟩
   ·exact .inl (Zbz (Zar h.1).1)
   ·obtain ⟨p,q',r,hn⟩:=ZgB (Zar h).2
    have np:=Zbt hu3 (x:=p) (by rw [hn];simp)
    have nq:=Zbt hu3 (x:=q') (by rw [hn];simp)
    have nr:=Zbt hu3 (x:=r) (by rw [hn];simp)
    unfold Za7 at hc
    simp at hc
    obtain ⟨⟨⟨h4,_⟩,h5⟩,_⟩:=hc
    refine .inr ⟨Zeb (Zar h).1,⟨p,q',r,hn,np.1,by simpa [num,hn] using h4,nq,nr⟩,ZaG R hg (fun k hk=>hk) fun q2 g2 hq2 hg2 hin2 hkd2=>ZdD R hg2 (by rw [<- hkd2];exact Zbh (ZbA h5 hin2))⟩
  ·have g7:g.kind=7:=by rw [<- hkd,List.mem_singleton.1 hin];exact Zbh a
   obtain ⟨_,_,hl3⟩:=R.node q g hg
   simp [Zl,g7] at hl3
   exact ZaG R hg (fun k hk=>hk) fun q2 g2 hq2 hg2 hin2 hkd2=>Zeo R _ q2 g2 hg2 (by omega) (by rw [<- hkd2];exact ZbA hl3.2 hin2)
end
section
def ZcJ:UInt8->Txt->Option UInt8
 | p,[]=>some p
 | p,c::r=>if c=9\/127<=c\/(c=10/\(p=32\/p=10)) then none else ZcJ c r
theorem ZdY:∀ (a b:Txt) (p:UInt8),ZcJ p (a++b)=(ZcJ p a).bind fun q=>ZcJ q b
 | [],_,_=>rfl
 | c::r,b,p=>by
  rw [List.cons_append,ZcJ,ZcJ]
  split
  ·rfl
  ·exact ZdY r b c
def Any (x:Txt):Prop:=∀ p,∃ q,ZcJ p x=some q
def Zeq (x:Txt):Prop:=∀ p,∃ q,ZcJ p x=some q/\33<=q
theorem Zeq.any {x:Txt} (h:Zeq x):Any x:=fun p=>by
 obtain ⟨q,h,_⟩:=h p
 exact ⟨q,h⟩
theorem Any.ends {x y:Txt} (h:Any x) (k:Zeq y):Zeq (x++y):=fun p=>by
 obtain ⟨q,h⟩:=h p
 obtain ⟨r,k,v⟩:=k q
 exact ⟨r,by rw [ZdY,h];exact k,v⟩
theorem Zeq.line {x:Txt} (h:Zeq x):Any (x++[10]):=fun p=>by
 obtain ⟨q,h,v⟩:=h p
 refine ⟨10,?_⟩
 rw [ZdY,h]
 show ZcJ q [10]=some 10
 have a:q≠32:=fun e=>by rw [e] at v;exact absurd v (by decide)
 have b:q≠10:=fun e=>by rw [e] at v;exact absurd v (by decide)
 simp [ZcJ,a,b]
def Zeg (c:UInt8):Bool:=decide (32<=c)&&decide (c<127)
def ZkB (ns:List Nd):Prop:=∀ n∈ns,∀ w∈n.words,w.all Zeg=true
end
section
open Go.RowKit
theorem Zh3 {c:UInt8} (h:ZaV c=true):Zeg c=true:=by
 have all:∀ k:Fin 256,ZaV (UInt8.ofNat k.val)=true->Zeg (UInt8.ofNat k.val)=true:=by decide +kernel
 have:=all ⟨c.toNat,c.toNat_lt⟩
 simp only [UInt8.ofNat_toNat] at this
 exact this h
theorem ZfX {f:UInt8->Bool}:∀ (l:List UInt8),Za1 f l=l.length->l.all f=true
 | [],_=>rfl
 | c::r,h=>by
  unfold Za1 at h
  rw [List.all_cons]
  cases hc:f c
  ·simp [hc] at h
  ·simp [hc] at h ⊢
   simpa using ZfX r h
theorem Zg8 {w:Txt} (h:ZaR w=true):w.all Zeg=true/\w.length<=16:=by
 unfold ZaR at h
 simp only [Bool.and_eq_true,decide_eq_true_eq] at h
 obtain ⟨⟨⟨_,h16⟩,hs⟩,_⟩:=h
 refine ⟨List.all_eq_true.mpr fun c hc=>Zh3 (List.all_eq_true.mp (ZfX _ hs) c hc),h16⟩
end
section
open Go.RowKit
def szN (ns:List Nd):Nat->Nd->Nat
 | 0,_=>1
 | g+1,n=>1+(n.kids.map fun k=>szN ns g (Ze ns k)).sum
theorem Zf0 (ns:List Nd):∀ g n,1<=szN ns g n
 | 0,_=>Nat.le_refl _
 | g+1,n=>by rw [szN];omega
theorem ZiC (ns:List Nd):∀ g k,(Zcd ns g k).length=szN ns g (Ze ns k)
 | 0,k=>by rw [Zcd,szN];rfl
 | g+1,k=>by
  rw [Zcd,szN,List.length_cons,List.length_flatMap]
  have e:((Ze ns k).kids.map fun a=>(Zcd ns g a).length)=(Ze ns k).kids.map fun k=>szN ns g (Ze ns k):=List.map_congr_left fun a _=>ZiC ns g a
  rw [e]
  omega
theorem ZbH:∀ (ks:List Int) (F G:Int->Nat) (C:Nat),(∀ k∈ks,F k<=C*G k)->(ks.map F).sum<=C*(ks.map G).sum
 | [],_,_,C,_=>by simp
 | k::r,F,G,C,h=>by
  have h1:=h k (by simp)
  have h2:=ZbH r F G C fun x hx=>h x (by simp [hx])
  simp only [List.map_cons,List.sum_cons,Nat.mul_add]
  omega
theorem Ze5 (ls:List Txt) (s c:Nat) (h:∀ x∈ls,x.length<=c):(ls.map fun x=>x.length+s).sum<=ls.length*(c+s):=by
 induction ls with
 | nil=>simp
 | cons x r ih=>
  have h1:=h x (by simp)
  have h2:=ih fun y hy=>h y (by simp [hy])
  simp only [List.map_cons,List.sum_cons,List.length_cons,Nat.add_mul]
  omega
theorem Zgy (d:Nat):(ZbG d).length=2*d:=by unfold ZbG;rw [List.length_replicate]
theorem ZeP (d:Nat) (ls:List Txt):(Zav d ls).length=(ls.map fun x=>2*d+x.length+1).sum:=by
 unfold Zav
 rw [List.length_flatten,List.map_map]
 congr 1
 refine List.map_congr_left fun x _=>?_
 simp only [Function.comp,List.length_append,Zgy,List.length_cons,List.length_nil]
theorem ZcU (d:Nat) (ls:List Txt):(ZA d ls).length<=(ls.map fun x=>2*(d+1)+x.length+1).sum+2*d+4:=by
 unfold ZA
 split
 ·simp
 ·simp only [List.length_append,ZeP,Zgy,List.length_cons,List.length_nil]
  omega
theorem Zb5 (s:Txt):∀ (ls:List Txt),(ZS s ls).length<=(ls.map fun x=>x.length+s.length).sum
 | []=>by simp [ZS]
 | [x]=>by simp [ZS]
 | x::y::r=>by
  have:=Zb5 s (y::r)
  rw [ZS]
  simp only [List.length_append,List.map_cons,List.sum_cons] at this ⊢
  omega
def WF (n:Nd):Prop:=(∀ w∈n.words,w.length<=16)/\n.words.length<=1000/\∀ x∈n.nums,Za0 x
theorem Zku:WF nd0:=⟨(fun w hw=>nomatch hw),by decide,(fun w hw=>nomatch hw)⟩
theorem Zbm {n:Nd} (h:WF n) (k:Nat):(ZD n k).length<=16:=by
 unfold ZD
 cases e:n.words[k]? with
 | none=>simp
 | some w=>exact h.1 w (List.mem_of_getElem? e)
theorem Zet {n:Nd} (h:WF n) (k:Nat):(ZbT (num n k)).length<=21:=by
 have:Za0 (num n k):=by
  unfold num
  cases e:n.nums[k]? with
  | none=>exact ⟨by decide,by decide⟩
  | some x=>exact h.2.2 x (List.mem_of_getElem? e)
 unfold Za0 at this
 exact Lib.itoa_length_le _ (by omega) (by omega)
theorem Zfy (k:Int):(Zaz k).length<=6:=by unfold Zaz;repeat' split<;>try decide
theorem Zji (k:Int):(Zaq k).length<=4:=by unfold Zaq;repeat' split<;>try decide
theorem ZiZ (k:Int):(Zbd k).length<=4:=by unfold Zbd;repeat' split<;>try decide
theorem Zib {n:Nd} (h:WF n):(Zai n).length<=17004:=by
 unfold Zai
 have h1:=ZiZ (num n 0)
 have h2:(ZS [124] n.words).length<=(n.words.map fun x:Txt=>x.length+1).sum:=Zb5 [124] n.words
 have h3:(n.words.map fun x:Txt=>x.length+1).sum<=n.words.length*(16+1):=Ze5 n.words 1 16 h.1
 have:=h.2.1
 simp only [List.length_append]
 have:n.words.length*(16+1)<=17000:=by omega
 omega
theorem Zfv {n:Nd} (h:WF n) (i j:Nat):(Zbo (num n i) (num n j)).length<=43:=by
 unfold Zbo
 have h1:=Zet h i
 have h2:=Zet h j
 simp only [List.length_append,List.length_cons,List.length_nil]
 omega
theorem ZeT:∀ (l:List Txt),(∀ w∈l,w.length<=16)->(Zap l).length<=l.length/\∀ x∈Zap l,x.length<=33
 | [],_=>⟨by simp [Zap],fun x hx=>by simp [Zap] at hx⟩
 | [a],_=>⟨by simp [Zap],fun x hx=>by simp [Zap] at hx⟩
 | a::b::r,h=>by
  obtain ⟨i1,i2⟩:=ZeT r fun w hw=>h w (by simp [hw])
  have ha:=h a (by simp)
  have hb:=h b (by simp)
  rw [Zap]
  refine ⟨by simp only [List.length_cons];omega,fun x hx=>?_⟩
  rcases List.mem_cons.1 hx with rfl | hx
  ·simp only [List.length_append,List.length_cons,List.length_nil];omega
  ·exact i2 x hx
theorem Zje {n:Nd} (h:WF n):(ZaX n).length<=40000:=by
 have w0:=Zbm h 0
 have w1:=Zbm h 1
 obtain ⟨p1,p2⟩:=ZeT (n.words.drop 2) fun w hw=>h.1 w (List.mem_of_mem_drop hw)
 have p3:(ZS [44,32] (Zap (n.words.drop 2))).length<=((Zap (n.words.drop 2)).map fun x:Txt=>x.length+2).sum:=Zb5 [44,32] (Zap (n.words.drop 2))
 have p4:=Ze5 _ 2 33 p2
 have:=h.2.1
 have p5:(Zap (n.words.drop 2)).length<=1000:=by rw [List.length_drop] at p1;omega
 have p6:(Zap (n.words.drop 2)).length*(33+2)<=35000:=by omega
 unfold ZaX
 split
 ·simp only [List.length_append,List.length_cons,List.length_nil];omega
 ·split<;>simp only [List.length_append,List.length_cons,List.length_nil]<;>omega
section
variable {ns:List Nd} (hw:∀ k,WF (Ze ns k))
include hw
theorem Zi6 (ks:List Int) (g:Nat):(ks.map fun k=>(Zai (Ze ns k)).length).sum<=50000*(ks.map fun k=>szN ns g (Ze ns k)).sum:=
 ZbH ks _ _ _ fun k _=>by
  have:=Zib (hw k)
  have:=Zf0 ns g (Ze ns k)
  omega
theorem ZeM (ks:List Int) (g:Nat):((ks.map fun k=>Zai (Ze ns k)).flatten).length<=50000*(ks.map fun k=>szN ns g (Ze ns k)).sum:=by
 rw [List.length_flatten,List.map_map]
 exact Zi6 hw ks g
theorem Zb2:∀ (f g:Nat) (n:Nd),WF n->ZX ns f n->f<=g->(Zu ns f n).length+100<=50000*szN ns g n
 | 0,_,_,_,h,_=>h.elim
 | f+1,g,n,hn,h,hg=>by
  obtain ⟨g,rfl⟩:∃ g',g=g'+1:=⟨g-1,by omega⟩
  have op:∀ (m:Nd) (l:Nat),WF m->ZX ns f m->(if l<=ZO m then Zu ns f m else [40]++Zu ns f m++[41]).length+90<=50000*szN ns g m:=fun m l hm hx=>by
   have:=Zb2 f g m hm hx (by omega)
   split
   ·omega
   ·simp only [List.length_append,List.length_cons,List.length_nil];omega
  obtain ⟨_,⟨hk,_⟩ | ⟨hk,_⟩ | ⟨hk,k,hi,hkn,hv⟩ | ⟨hk,j,k,hi,hjn,hv,hi2,hkn,hv2⟩⟩:=h
  ·have e:Zu ns (f+1) n=ZbT (num n 0):=by simp [Zu,hk]
   have:=Zet hn 0
   rw [e,szN]
   omega
  ·have e:Zu ns (f+1) n=ZD n 0:=by simp [Zu,hk]
   have:=Zbm hn 0
   rw [e,szN]
   omega
  ·obtain ⟨r,hr⟩:∃ r,n.kids=(k:Int)::r:=by
    cases hks:n.kids with
    | nil=>rw [hks] at hi;simp at hi
    | cons a r=>rw [hks] at hi;simp at hi;exact ⟨r,by rw [hi]⟩
   have e:Zu ns (f+1) n=[45]++(if 3<=ZO (Ze ns k) then Zu ns f (Ze ns k) else [40]++Zu ns f (Ze ns k)++[41]):=by
    have e0:ZP ns n 0=Ze ns k:=by unfold ZP atI;rw [hr];rfl
    simp [Zu,hk,e0]
   have:=op _ 3 (hw k) hv
   rw [e,szN,hr]
   simp only [List.map_cons,List.sum_cons,List.length_append,List.length_cons,List.length_nil] at this ⊢
   omega
  ·obtain ⟨r,hr⟩:∃ r,n.kids=(j:Int)::(k:Int)::r:=by
    match hks:n.kids with
    | []=>rw [hks] at hi;simp at hi
    | [a]=>rw [hks] at hi2;simp at hi2
    | a::b::r=>rw [hks] at hi hi2;simp at hi hi2;exact ⟨r,by rw [hi,hi2]⟩
   have e:Zu ns (f+1) n=(if max (ZO n) 1<=ZO (Ze ns j) then Zu ns f (Ze ns j) else [40]++Zu ns f (Ze ns j)++[41])++Zaq (num n 0)++(if ZO n+1<=ZO (Ze ns k) then Zu ns f (Ze ns k) else [40]++Zu ns f (Ze ns k)++[41]):=by
    have e0:ZP ns n 0=Ze ns j:=by unfold ZP atI;rw [hr];rfl
    have e1:ZP ns n 1=Ze ns k:=by unfold ZP atI;rw [hr];rfl
    simp [Zu,hk,e0,e1]
   have h1:=op _ (max (ZO n) 1) (hw j) hv
   have h2:=op _ (ZO n+1) (hw k) hv2
   have h3:=Zji (num n 0)
   rw [e,szN,hr]
   simp only [List.map_cons,List.sum_cons,List.length_append] at h1 h2 ⊢
   omega
theorem Zjz (f g:Nat) (n:Nd) (hn:WF n) (h:Zch ns f n) (hg:f<=g):(ZaU ns f n).length+10<=50000*szN ns g n:=by
 have:=Zbm hn 0
 have:=Zf0 ns g n
 rcases h with ⟨hk,_⟩ | ⟨hk,hv⟩
 ·unfold ZaU
  rw [if_pos hk]
  simp only [List.length_append,List.length_cons,List.length_nil];omega
 ·unfold ZaU
  rw [if_neg hk]
  have:=Zb2 hw f g n hn hv hg
  omega
theorem Zih (g:Nat) (n:Nd) (hn:WF n):(ZaS ns n).length+10<=50000*szN ns (g+1) n:=by
 have w0:=Zbm hn 0
 have w1:=Zbm hn 1
 have h1:=Zfy (num n 0)
 have h2:=Zfv hn 1 2
 have h3:=ZeM hw n.kids g
 unfold ZaS
 rw [szN]
 split
 ·simp only [List.length_append,List.length_nil];omega
 ·split<;>simp only [List.length_append,List.length_cons,List.length_nil]<;>omega
theorem ZeG (f g d:Nat) (P:Nd->Prop) (m:Nd) (hm:ZM ns m.kids P) (hd:d<=3100) (h:∀ n,WF n->P n->(Zi ns f (d+1) n).length+2*(d+1)+10<=50000*szN ns g n):(ZA d (m.kids.map fun k=>Zi ns f (d+1) (Ze ns k))).length+40000<=50000*szN ns (g+1) m:=by
 have h1:=ZcU d (m.kids.map fun k=>Zi ns f (d+1) (Ze ns k))
 rw [List.map_map] at h1
 have h2:=ZbH m.kids (fun k=>2*(d+1)+(Zi ns f (d+1) (Ze ns k)).length+1) (fun k=>szN ns g (Ze ns k)) 50000 fun k hk=>by
  have:=h _ (hw k) (hm k hk).2.2
  omega
 have e:((fun x:Txt=>2*(d+1)+x.length+1) ∘ fun k=>Zi ns f (d+1) (Ze ns k))=fun k=>2*(d+1)+(Zi ns f (d+1) (Ze ns k)).length+1:=rfl
 rw [e] at h1
 rw [szN]
 omega
theorem ZfZ:∀ (f g d:Nat) (n:Nd),WF n->ZaM ns f n->3*f<=g->d+2*f<=3100->(Zi ns f d n).length+2*d+10<=50000*szN ns g n
 | 0,_,_,_,_,hk,_,_=>hk.elim
 | f+1,g,d,n,hn,hk,hg,hd=>by
  obtain ⟨g,rfl⟩:∃ g',g=g'+3:=⟨g-3,by omega⟩
  have blk:∀ (e h h2:Nat) (m:Nd),h2=h+1->g<=h->e<=d+1->Za8 ns (fun x=>ZaM ns f x) m->(ZA e (m.kids.map fun k=>Zi ns f (e+1) (Ze ns k))).length+40000<=50000*szN ns h2 m:=fun e h h2 m e2 hh he hm=>by
   subst e2
   exact ZeG hw f h e _ m hm (by omega) fun n hn hs=>ZfZ f h (e+1) n hn hs (by omega) (by omega)
  have w0:=Zbm hn 0
  have w1:=Zbm hn 1
  rw [ZaM] at hk
  rcases hk with ⟨hk,_,k,hks,hv⟩ | ⟨hk,_,⟨j,k,hks⟩,hok⟩ | ⟨hk,_,hok⟩ | ⟨hk,_,_,l,k,hks,hol,hok⟩ | ⟨hk,_,hok⟩ | ⟨hk,k,r,hks,hr,hv,hok⟩ | ⟨hk,j,k,hks,hv,hok⟩ | ⟨hk,k,hks,hv⟩ | hk
  ·have e0:ZP ns n 0=Ze ns k:=by unfold ZP atI;rw [hks];rfl
   have h1:=Zb2 hw f (g+2) _ (hw k) (hv k (by simp)).2.2 (by omega)
   rcases hk with hk | hk
   ·have e:Zi ns (f+1) d n=[108,101,116,32]++(ZD n 0++[32,61,32]++Zu ns f (Ze ns k)++[59]):=by simp [Zi,hk,Zcf,e0]
    rw [e,szN,hks]
    simp only [List.map_cons,List.map_nil,List.sum_cons,List.sum_nil,List.length_append,List.length_cons,List.length_nil]
    omega
   ·have e:Zi ns (f+1) d n=(ZD n 0++[32,61,32]++Zu ns f (Ze ns k)++[59]):=by simp [Zi,hk,Zcf,e0]
    rw [e,szN,hks]
    simp only [List.map_cons,List.map_nil,List.sum_cons,List.sum_nil,List.length_append,List.length_cons,List.length_nil]
    omega
  ·have e:Zi ns (f+1) d n=[111,112,101,110,32]++ZD n 0++[32]++ZD n 1++ZS [32,101,108,115,101] (n.kids.map fun k=>ZA d ((Ze ns k).kids.map fun k=>Zi ns f (d+1) (Ze ns k))):=by simp [Zi,hk]
   have h1:=Zb5 [32,101,108,115,101] (n.kids.map fun k=>ZA d ((Ze ns k).kids.map fun k=>Zi ns f (d+1) (Ze ns k)))
   rw [List.map_map] at h1
   have h2:=ZbH n.kids (fun k=>(ZA d ((Ze ns k).kids.map fun k=>Zi ns f (d+1) (Ze ns k))).length+5) (fun k=>szN ns (g+2) (Ze ns k)) 50000 fun k hk=>by
    have:=blk d (g+1) (g+2) _ rfl (by omega) (by omega) (hok k hk).2.2
    omega
   have h3:(ZS [32,101,108,115,101] (n.kids.map fun k=>ZA d ((Ze ns k).kids.map fun k=>Zi ns f (d+1) (Ze ns k)))).length<=50000*(n.kids.map fun k=>szN ns (g+2) (Ze ns k)).sum:=Nat.le_trans h1 h2
   rw [e,szN]
   simp only [List.length_append,List.length_cons,List.length_nil]
   omega
  ·have e:Zi ns (f+1) d n=[100,111,32]++ZD n 0++[46]++ZD n 1++(if n.kids=[] then [59] else ZA d (n.kids.map fun k=>ZD (Ze ns k) 0++ZA (d+1) ((ZP ns (Ze ns k) 0).kids.map fun k=>Zi ns f (d+1+1) (Ze ns k)))):=by simp [Zi,hk]
   have h1:=ZcU d (n.kids.map fun k=>ZD (Ze ns k) 0++ZA (d+1) ((ZP ns (Ze ns k) 0).kids.map fun k=>Zi ns f (d+1+1) (Ze ns k)))
   rw [List.map_map] at h1
   have h2:=ZbH n.kids (fun k=>2*(d+1)+(ZD (Ze ns k) 0++ZA (d+1) ((ZP ns (Ze ns k) 0).kids.map fun k=>Zi ns f (d+1+1) (Ze ns k))).length+1) (fun k=>szN ns (g+2) (Ze ns k)) 50000 fun k hk=>by
    obtain ⟨_,k',hk',hb⟩:=(hok k hk).2.2
    have e0:ZP ns (Ze ns k) 0=Ze ns k':=by unfold ZP atI;rw [hk'];rfl
    rw [e0]
    have:=blk (d+1) g (g+1) _ rfl (by omega) (by omega) (hb k' (by simp)).2.2
    have:=Zbm (hw k) 0
    rw [szN,hk']
    simp only [List.map_cons,List.map_nil,List.sum_cons,List.sum_nil,List.length_append]
    omega
   have h3:(ZA d (n.kids.map fun k=>ZD (Ze ns k) 0++ZA (d+1) ((ZP ns (Ze ns k) 0).kids.map fun k=>Zi ns f (d+1+1) (Ze ns k)))).length<=50000*(n.kids.map fun k=>szN ns (g+2) (Ze ns k)).sum+2*d+4:=Nat.le_trans h1 (by have:=h2;simp only [Function.comp_def];omega)
   rw [e,szN]
   split
   ·simp only [List.length_append,List.length_cons,List.length_nil];omega
   ·simp only [List.length_append,List.length_cons,List.length_nil];omega
  ·have e:Zi ns (f+1) d n=[115,112,108,105,116,32]++ZD n 0++[32,61,32]++ZD n 1++[32]++Zaz (num n 0)++[32]++Zbo (num n 1) (num n 2)++((l).map fun k=>Zai (Ze ns k)).flatten++ZA d ((Ze ns k).kids.map fun k=>Zi ns f (d+1) (Ze ns k)):=by
    have e0:ZP ns n (n.kids.length-1)=Ze ns k:=by
     unfold ZP atI
     rw [hks]
     simp
    have e1:n.kids.take (n.kids.length-1)=l:=by rw [hks];simp
    have e3:Zi ns (f+1) d n=[115,112,108,105,116,32]++ZD n 0++[32,61,32]++ZD n 1++[32]++Zaz (num n 0)++[32]++Zbo (num n 1) (num n 2)++((n.kids.take (n.kids.length-1)).map fun k=>Zai (Ze ns k)).flatten++ZA d ((ZP ns n (n.kids.length-1)).kids.map fun k=>Zi ns f (d+1) (Ze ns k)):=by simp [Zi,hk]
    rw [e3,e0,e1]
   have h1:=Zfy (num n 0)
   have h2:=Zfv hn 1 2
   have h3:=ZeM hw l (g+2)
   have h4:=blk d (g+1) (g+2) _ rfl (by omega) (by omega) (hok k (by simp)).2.2
   rw [e,szN,hks]
   simp only [List.map_append,List.sum_append,List.map_cons,List.map_nil,List.sum_cons,List.sum_nil,List.length_append,List.length_cons,List.length_nil] at h3 ⊢
   omega
  ·have e:Zi ns (f+1) d n=[99,97,108,108,32]++(if n.words.length=2 then ZD n 1++[32,61,32] else [])++ZD n 0++[40]++ZS [44,32] (n.kids.map fun k=>ZaU ns f (Ze ns k))++[41,59]:=by simp [Zi,hk]
   have h1:=Zb5 [44,32] (n.kids.map fun k=>ZaU ns f (Ze ns k))
   rw [List.map_map] at h1
   have h2:=ZbH n.kids (fun k=>(ZaU ns f (Ze ns k)).length+2) (fun k=>szN ns (g+2) (Ze ns k)) 50000 fun k hk=>by
    have:=Zjz hw f (g+2) _ (hw k) (hok k hk).2.2 (by omega)
    omega
   have h3:(ZS [44,32] (n.kids.map fun k=>ZaU ns f (Ze ns k))).length<=50000*(n.kids.map fun k=>szN ns (g+2) (Ze ns k)).sum:=Nat.le_trans h1 h2
   rw [e,szN]
   split<;>simp only [List.length_append,List.length_cons,List.length_nil]<;>omega
  ·have e:Zi ns (f+1) d n=[105,102,32]++Zu ns f (Ze ns k)++ZS [32,101,108,115,101] (r.map fun k=>ZA d ((Ze ns k).kids.map fun k=>Zi ns f (d+1) (Ze ns k))):=by
    have e0:ZP ns n 0=Ze ns k:=by unfold ZP atI;rw [hks];rfl
    have e1:n.kids.drop 1=r:=by rw [hks];rfl
    have e3:Zi ns (f+1) d n=[105,102,32]++Zu ns f (ZP ns n 0)++ZS [32,101,108,115,101] ((n.kids.drop 1).map fun k=>ZA d ((Ze ns k).kids.map fun k=>Zi ns f (d+1) (Ze ns k))):=by simp [Zi,hk]
    rw [e3,e0,e1]
   have h0:=Zb2 hw f (g+2) _ (hw k) (hv k (by simp)).2.2 (by omega)
   have h1:=Zb5 [32,101,108,115,101] (r.map fun k=>ZA d ((Ze ns k).kids.map fun k=>Zi ns f (d+1) (Ze ns k)))
   rw [List.map_map] at h1
   have h2:=ZbH r (fun k=>(ZA d ((Ze ns k).kids.map fun k=>Zi ns f (d+1) (Ze ns k))).length+5) (fun k=>szN ns (g+2) (Ze ns k)) 50000 fun k hk=>by
    have:=blk d (g+1) (g+2) _ rfl (by omega) (by omega) (hok k hk).2.2
    omega
   have h3:(ZS [32,101,108,115,101] (r.map fun k=>ZA d ((Ze ns k).kids.map fun k=>Zi ns f (d+1) (Ze ns k)))).length<=50000*(r.map fun k=>szN ns (g+2) (Ze ns k)).sum:=Nat.le_trans h1 h2
   rw [e,szN,hks]
   simp only [List.map_cons,List.sum_cons,List.length_append,List.length_cons,List.length_nil]
   omega
  ·have e:Zi ns (f+1) d n=[119,104,105,108,101,32]++Zu ns f (Ze ns j)++ZA d ((Ze ns k).kids.map fun k=>Zi ns f (d+1) (Ze ns k)):=by
    have e0:ZP ns n 0=Ze ns j:=by unfold ZP atI;rw [hks];rfl
    have e1:ZP ns n 1=Ze ns k:=by unfold ZP atI;rw [hks];rfl
    simp [Zi,hk,e0,e1]
   have h0:=Zb2 hw f (g+2) _ (hw j) (hv j (by simp)).2.2 (by omega)
   have h4:=blk d (g+1) (g+2) _ rfl (by omega) (by omega) (hok k (by simp)).2.2
   rw [e,szN,hks]
   simp only [List.map_cons,List.map_nil,List.sum_cons,List.sum_nil,List.length_append,List.length_cons,List.length_nil]
   omega
  ·have e:Zi ns (f+1) d n=[114,101,116,117,114,110,32]++Zu ns f (Ze ns k)++[59]:=by
    have e0:ZP ns n 0=Ze ns k:=by unfold ZP atI;rw [hks];rfl
    simp [Zi,hk,e0]
   have h0:=Zb2 hw f (g+2) _ (hw k) (hv k (by simp)).2.2 (by omega)
   rw [e,szN,hks]
   simp only [List.map_cons,List.map_nil,List.sum_cons,List.sum_nil,List.length_append,List.length_cons,List.length_nil]
   omega
  ·have e:Zi ns (f+1) d n=[101,120,105,116,59]:=by simp [Zi,hk]
   rw [e,szN]
   simp only [List.length_cons,List.length_nil]
   omega
theorem Zi4 (f:Nat) (hf:f<=1500) (n:Nd) (hn:WF n) (h:Zd2 ns f n):(ZaE ns f n).length+1<=50000*szN ns (3*f+2) n:=by
 have w0:=Zbm hn 0
 rcases h with ⟨hk,_,hok⟩ | ⟨hk,_,l,k,hks,hol,hok⟩
 ·have h1:=ZcU 0 (n.kids.map fun k=>ZaX (Ze ns k))
  rw [List.map_map] at h1
  have h2:=ZbH n.kids (fun k=>2*(0+1)+(ZaX (Ze ns k)).length+1) (fun k=>szN ns (3*f+1) (Ze ns k)) 50000 fun k hk=>by
   have:=Zje (hw k)
   have:=Zf0 ns (3*f+1) (Ze ns k)
   omega
  have h3:(ZA 0 (n.kids.map fun k=>ZaX (Ze ns k))).length<=50000*(n.kids.map fun k=>szN ns (3*f+1) (Ze ns k)).sum+4:=Nat.le_trans h1 (by have:=h2;simp only [Function.comp_def];omega)
  unfold ZaE
  rw [if_pos hk,szN]
  simp only [List.length_append,List.length_cons,List.length_nil]
  omega
 ·have e0:ZP ns n (n.kids.length-1)=Ze ns k:=by
   unfold ZP atI
   rw [hks]
   simp
  have e1:n.kids.take (n.kids.length-1)=l:=by rw [hks];simp
  have h1:=Zb5 [44,32] (l.map fun k=>ZaS ns (Ze ns k))
  rw [List.map_map] at h1
  have h2:=ZbH l (fun k=>(ZaS ns (Ze ns k)).length+2) (fun k=>szN ns (3*f+1) (Ze ns k)) 50000 fun k hk=>by
   have:=Zih hw (3*f) _ (hw k)
   omega
  have h3:(ZS [44,32] (l.map fun k=>ZaS ns (Ze ns k))).length<=50000*(l.map fun k=>szN ns (3*f+1) (Ze ns k)).sum:=Nat.le_trans h1 h2
  have h4:(ZA 0 ((Ze ns k).kids.map fun k=>Zi ns f 1 (Ze ns k))).length+40000<=50000*szN ns (3*f+1) (Ze ns k):=ZeG hw f (3*f) 0 _ (Ze ns k) (hok k (by simp)).2.2 (by omega) fun n hn hs=>ZfZ hw f (3*f) 1 n hn hs (by omega) (by omega)
  unfold ZaE
  rw [if_neg (by rw [hk];decide),e0,e1,szN,hks]
  simp only [List.map_append,List.sum_append,List.map_cons,List.map_nil,List.sum_cons,List.sum_nil,List.length_append,List.length_cons,List.length_nil] at h4 ⊢
  omega
end
theorem Zju {ns:List Nd} (R:RightP ns) (hf:∀ d∈ns,d.words.length<=1000) (k:Int):WF (Ze ns k):=by
 unfold Ze
 cases e:ns[k.toNat]? with
 | none=>exact Zku
 | some n=>
  obtain ⟨h1,h2,_⟩:=R.node _ n e
  exact ⟨fun w hw=>(Zg8 (List.all_eq_true.mp h1 w hw)).2,hf n (List.mem_of_getElem? e),fun x hx=>Zbt h2 hx⟩
theorem Zd1 {ns:List Nd} (hf:∀ d∈ns,d.words.length<=1000):(ZaT ns).length<=75000000:=by
 cases hr:ZaI ns
 ·unfold ZaT
  rw [hr]
  simp
 ·have R:=ZbL hr
  have hw:=Zju R hf
  cases hp:ZaL ns with
  | none=>rw [ZcI hp] at hr;cases hr
  | some p=>
   have L:=ZbE hp
   have h1:=ZjP L (3*ns.length+3) 0 R.some_
   rw [ZiC] at h1
   have e0:ZaT ns=Zav 0 ((Ze ns 0).kids.map fun k=>ZaE ns ns.length (Ze ns k)):=by unfold ZaT;rw [hr];rfl
   rw [e0,ZeP,List.map_map]
   have h2:=ZbH (Ze ns 0).kids (fun k=>2*0+(ZaE ns ns.length (Ze ns k)).length+1) (fun k=>szN ns (3*ns.length+2) (Ze ns k)) 50000 fun k hk=>by
    have:=Zi4 hw ns.length R.len _ (hw k) (Zc0 R k hk).2.2
    omega
   have h3:szN ns (3*ns.length+3) (Ze ns ((0:Nat):Int))=1+((Ze ns ((0:Nat):Int)).kids.map fun k=>szN ns (3*ns.length+2) (Ze ns k)).sum:=by rw [szN]
   rw [h3] at h1
   rw [show ((0:Nat):Int)=0 from rfl] at h1
   have:=R.len
   have h4:((fun x:Txt=>2*0+x.length+1) ∘ fun k=>ZaE ns ns.length (Ze ns k))=fun k=>2*0+(ZaE ns ns.length (Ze ns k)).length+1:=rfl
   rw [h4]
   omega
end
end Go.Proofs.YtenbomphkihmlaaGreatDoor
