import Derived.Test.YtkongcicmajolaaGreatDoorQAG
import Derived.Test.YtkongcicmajolaaGreatDoorQAM
set_option maxRecDepth 100000
set_option maxHeartbeats 8000000
namespace Go.Proofs.YtkongcicmajolaaGreatDoor
section
open Go.RowKit
def Zaa (ns:List Nd) (ks:List Int) (P:Nd->Prop):Prop:=∀ k∈ks,0<=k/\k<(ns.length:Int)/\P (Za ns k)
theorem Zaa.mono {ns:List Nd} {ks:List Int} {P Q:Nd->Prop} (h:Zaa ns ks P) (g:∀ n,P n->Q n):Zaa ns ks Q:=fun k hk=>⟨(h k hk).1,(h k hk).2.1,g _ (h k hk).2.2⟩
def ZeB (n:Nd):Prop:=0<n.words.length/\∃ g r,n.nums=g::r/\0<=g/\g<=2
def ZaI (x:Int):Prop:=0<=x/\x<1000000000000000000
def ZfE (ns:List Nd) (f:Nat) (n:Nd):Prop:=(n.kind=15/\∃ s r,n.words=s::r)\/(n.kind≠15/\ZP ns f n)
def Zck (ns:List Nd) (P:Nd->Prop) (m:Nd):Prop:=Zaa ns m.kids P
def CaseOk (ns:List Nd) (P:Nd->Prop) (n:Nd):Prop:=(∃ s r,n.words=s::r)/\∃ k,n.kids=[k]/\Zaa ns [k] (Zck ns P)
def Zbk (ns:List Nd):Nat->Nd->Prop
 | 0,_=>False
 | f+1,n=>
  ((n.kind=8\/n.kind=9)/\(∃ s,n.words=[s])/\∃ k,n.kids=[k]/\Zaa ns [k] (ZP ns f)) ∨
  (n.kind=10/\(∃ a b,n.words=[a,b])/\(∃ j k,n.kids=[j,k])/\Zaa ns n.kids (Zck ns fun x=>Zbk ns f x)) ∨
  (n.kind=11/\(∃ a b,n.words=[a,b])/\Zaa ns n.kids (CaseOk ns fun x=>Zbk ns f x)) ∨
  (n.kind=13/\(∃ a b,n.words=[a,b])/\(∃ p q r,n.nums=[p,q,r]/\0<=p/\p<=4/\ZaI q/\ZaI r)/\∃ l k,n.kids=l++[k]/\Zaa ns l ZeB/\Zaa ns [k] (Zck ns fun x=>Zbk ns f x)) ∨
  (n.kind=14/\((∃ a,n.words=[a])\/∃ a b,n.words=[a,b])/\Zaa ns n.kids (ZfE ns f)) ∨
  (n.kind=16/\∃ k r,n.kids=k::r/\r≠[]/\Zaa ns [k] (ZP ns f)/\Zaa ns r (Zck ns fun x=>Zbk ns f x)) ∨
  (n.kind=17/\∃ j k,n.kids=[j,k]/\Zaa ns [j] (ZP ns f)/\Zaa ns [k] (Zck ns fun x=>Zbk ns f x)) ∨
  (n.kind=18/\∃ k,n.kids=[k]/\Zaa ns [k] (ZP ns f)) ∨
  n.kind=19
def Zfo (n:Nd):Prop:=(n.kind=3/\∃ a b r,n.words=a::b::r/\r.length % 2=0/\2<=r.length)\/(n.kind=2/\(∃ s,n.words=[s])/\∃ x,n.nums=[x]/\0<=x/\x<=1)
def Zgz (ns:List Nd) (n:Nd):Prop:=(∃ s,n.words=[s])\/((∃ a b,n.words=[a,b])/\(∃ p q r,n.nums=[p,q,r]/\0<=p/\p<=4/\ZaI q/\ZaI r)/\Zaa ns n.kids ZeB)
def Zfn (ns:List Nd) (f:Nat) (n:Nd):Prop:=
 (n.kind=1/\(∃ s,n.words=[s])/\Zaa ns n.kids Zfo)\/(n.kind=4/\(∃ s,n.words=[s])/\∃ l k,n.kids=l++[k]/\Zaa ns l (Zgz ns)/\Zaa ns [k] (Zck ns fun x=>Zbk ns f x))
structure RightP (ns:List Nd):Prop where
 some_:0<ns.length
 len:ns.length<=1500
 root:ZJ ns 0=0
 kids:∀ (i:Nat) (d:Nd),ns[i]? = some d->∀ k∈d.kids,(i:Int)<k/\k<(ns.length:Int)
 node:∀ (i:Nat) (d:Nd),ns[i]? = some d->ZcF d.words=true/\ZbW d.nums=true/\Zn ns d=true
theorem Zey {ns:List Nd} (h:Zcw ns=true):RightP ns:=by
 cases hp:Zcg ns with
 | none=>rw [ZdT hp] at h;cases h
 | some p=>
  rw [Zfk hp,Bool.and_eq_true,Bool.and_eq_true] at h
  obtain ⟨⟨h0,_⟩,hv⟩:=h
  have hl:0<ns.length/\ns.length<=1500:=by
   unfold Zcg at hp
   split at hp
   ·cases hp
   ·omega
  refine ⟨hl.1,hl.2,by simpa using h0,fun i d hd=>ZmH hp hd,fun i d hd=>?_⟩
  have:=List.all_eq_true.mp hv d (List.mem_of_getElem? hd)
  unfold Zc5 at this
  rw [Bool.and_eq_true,Bool.and_eq_true] at this
  exact ⟨this.1.1,this.1.2,this.2⟩
theorem Zf8 {ns:List Nd} {i:Nat} {d:Nd} (R:RightP ns) (hd:ns[i]? = some d) {k:Int} (hk:k∈d.kids):∃ (m:Nat) (e:Nd),k=m/\i<m/\m<ns.length/\ns[m]? = some e/\Za ns k=e/\ZJ ns k=e.kind:=by
 obtain ⟨a,b⟩:=R.kids i d hd k hk
 obtain ⟨m,rfl⟩:∃ m:Nat,k=m:=⟨k.toNat,by omega⟩
 have hm:m<ns.length:=by omega
 have he:ns[m]? = some ns[m]:=List.getElem?_eq_getElem hm
 exact ⟨m,ns[m],rfl,by omega,hm,he,Zb2 he,Zgm he⟩
theorem Zab {n:Nd} {a b:Nat} (h:ZF n a b=true):n.words.length=a/\n.nums.length=b:=by
 unfold ZF at h
 rw [Bool.and_eq_true,decide_eq_true_eq,decide_eq_true_eq] at h
 exact h
theorem Zcf {α:Type} {l:List α} (h:l.length=1):∃ a,l=[a]:=by
 match l,h with
 | [a],_=>exact ⟨a,rfl⟩
theorem Zfh {α:Type} {l:List α} (h:l.length=2):∃ a b,l=[a,b]:=by
 match l,h with
 | [a,b],_=>exact ⟨a,b,rfl⟩
theorem ZhW {α:Type} {l:List α} (h:l.length=3):∃ a b c,l=[a,b,c]:=by
 match l,h with
 | [a,b,c],_=>exact ⟨a,b,c,rfl⟩
theorem Zhl {ns:List Nd} {ks:List Int} (h:Zp ns ks []=true):ks=[]:=by
 cases ks with
 | nil=>rfl
 | cons a r=>simp [Zp] at h
theorem Zeu {ns:List Nd} {ks:List Int} {f:Int->Bool} (h:Zp ns ks [f]=true):∃ k,ks=[k]/\f (ZJ ns k)=true:=by
 match ks,h with
 | [],h=>simp [Zp] at h
 | [k],h=>exact ⟨k,rfl,by simpa [Zp] using h⟩
 | _::_::_,h=>simp [Zp] at h
theorem Zf0 {ns:List Nd} {ks:List Int} {f g:Int->Bool} (h:Zp ns ks [f,g]=true):∃ j k,ks=[j,k]/\f (ZJ ns j)=true/\g (ZJ ns k)=true:=by
 match ks,h with
 | [],h=>simp [Zp] at h
 | [_],h=>simp [Zp] at h
 | [j,k],h=>exact ⟨j,k,rfl,by simpa [Zp] using h⟩
 | _::_::_::_,h=>simp [Zp] at h
theorem Zr4 {ns:List Nd} {ks:List Int} {f g e:Int->Bool} (h:Zp ns ks [f,g,e]=true):∃ j k l,ks=[j,k,l]/\f (ZJ ns j)=true/\g (ZJ ns k)=true/\e (ZJ ns l)=true:=by
 match ks,h with
 | [],h=>simp [Zp] at h
 | [_],h=>simp [Zp] at h
 | [_,_],h=>simp [Zp] at h
 | [j,k,l],h=>exact ⟨j,k,l,rfl,by simpa [Zp,and_assoc] using h⟩
 | _::_::_::_::_,h=>simp [Zp] at h
theorem Zci {ns:List Nd} {ks:List Int} {f:Int->Bool} (h:ZbM ns ks f=true) {k:Int} (hk:k∈ks):f (ZJ ns k)=true:=by
 unfold ZbM at h
 exact List.all_eq_true.mp h k hk
theorem ZbF {k a:Int} (h:isB [a] k=true):k=a:=by simpa [isB] using h
theorem ZiV {k a b:Int} (h:isB [a,b] k=true):k=a\/k=b:=by simpa [isB] using h
theorem ZaR {l:List Int} (h:ZbW l=true) {x:Int} (hx:x∈l):ZaI x:=by
 have:=List.all_eq_true.mp h x hx
 simpa [ZaI] using this
theorem ZoQ {α:Type} (l:List α) (h:l≠[]):∃ a b,l=a++[b]:=⟨l.dropLast,l.getLast h,(List.dropLast_concat_getLast h).symm⟩
theorem ZgX {ns:List Nd} (R:RightP ns):∀ (f i:Nat) (d:Nd),ns[i]? = some d->ns.length<=i+f->Zat d.kind=true->ZP ns f d
 | 0,i,d,hd,hf,_=>by have:=(List.getElem?_eq_some_iff.1 hd).1;omega
 | f+1,i,d,hd,hf,hk=>by
  obtain ⟨_,hu,hl⟩:=R.node i d hd
  have kk:∀ k∈d.kids,Zat (ZJ ns k)=true->∃ m:Nat,k=m/\m<ns.length/\ZP ns f (Za ns k):=fun k h1 h2=>by
   obtain ⟨m,e,e1,e2,e3,e4,e5,e6⟩:=Zf8 R hd h1
   refine ⟨m,e1,e3,?_⟩
   rw [e5]
   exact ZgX R f m e e4 (by omega) (by rw [<- e6];exact h2)
  have hc:d.kind=20\/d.kind=21\/d.kind=22\/d.kind=23:=by
   unfold Zat at hk
   rw [Bool.and_eq_true,decide_eq_true_eq,decide_eq_true_eq] at hk
   omega
  rw [ZP]
  rcases hc with e | e | e | e
  ·simp [Zn,e] at hl
   obtain ⟨n1,n2⟩:=Zab hl.1
   obtain ⟨v,hv⟩:=Zcf n2
   have:=ZaR hu (x:=v) (by rw [hv];simp)
   unfold ZaI at this
   exact ⟨fun h=>by rw [e] at h;exact absurd h (by decide),.inl ⟨e,v,[],hv,by omega,by omega⟩⟩
  ·simp [Zn,e] at hl
   obtain ⟨n1,n2⟩:=Zab hl.1
   obtain ⟨s,hs⟩:=Zcf n1
   exact ⟨fun h=>by rw [e] at h;exact absurd h (by decide),.inr (.inl ⟨e,s,[],hs⟩)⟩
  ·simp [Zn,e] at hl
   obtain ⟨⟨h1,h2⟩,h3⟩:=hl
   obtain ⟨n1,n2⟩:=Zab h1
   obtain ⟨v,hv⟩:=Zcf n2
   have:=ZaR hu (x:=v) (by rw [hv];simp)
   unfold ZaI at this
   have hv5:v<=5:=by simpa [num,hv] using h2
   obtain ⟨j,k,hks,a,b⟩:=Zf0 h3
   obtain ⟨j',rfl,j1,j2⟩:=kk j (by rw [hks];simp) a
   obtain ⟨k',rfl,k1,k2⟩:=kk k (by rw [hks];simp) b
   exact ⟨fun _=>⟨v,[],hv,this.1,hv5⟩,.inr (.inr (.inr ⟨e,j',k',by rw [hks];rfl,j1,j2,by rw [hks];rfl,k1,k2⟩))⟩
  ·simp [Zn,e] at hl
   obtain ⟨k,hks,a⟩:=Zeu hl.2
   obtain ⟨k',rfl,k1,k2⟩:=kk k (by rw [hks];simp) a
   exact ⟨fun h=>by rw [e] at h;exact absurd h (by decide),.inr (.inr (.inl ⟨e,k',by rw [hks];rfl,k1,k2⟩))⟩
theorem Zfi {ns:List Nd} (R:RightP ns) {i:Nat} {d:Nd} (hd:ns[i]? = some d) (e:d.kind=6):ZeB d:=by
 obtain ⟨_,hu,hl⟩:=R.node i d hd
 simp [Zn,e] at hl
 obtain ⟨⟨⟨h1,h2⟩,h3⟩,_⟩:=hl
 obtain ⟨_,n2⟩:=Zab h2
 obtain ⟨v,hv⟩:=Zcf n2
 have:=ZaR hu (x:=v) (by rw [hv];simp)
 exact ⟨by omega,v,[],hv,this.1,by simpa [num,hv] using h3⟩
theorem ZbY {ns:List Nd} (R:RightP ns) {i:Nat} {d:Nd} (hd:ns[i]? = some d) {ks:List Int} (hs:∀ k∈ks,k∈d.kids) {P:Nd->Prop} (h:∀ (m:Nat) (e:Nd),i<m->ns[m]? = some e->(m:Int)∈ks->ZJ ns m=e.kind->P e):Zaa ns ks P:=fun k hk=>by
 obtain ⟨m,e,rfl,e2,e3,e4,e5,e6⟩:=Zf8 R hd (hs k hk)
 refine ⟨by omega,by omega,?_⟩
 rw [e5]
 exact h m e e2 e4 hk e6
theorem Zjk {ns:List Nd} (R:RightP ns):∀ (f i:Nat) (d:Nd),ns[i]? = some d->ns.length<=i+f->ZcL d.kind=true->Zbk ns f d
 | 0,i,d,hd,hf,_=>by have:=(List.getElem?_eq_some_iff.1 hd).1;omega
 | f+1,i,d,hd,hf,hk=>by
  obtain ⟨hw,hu,hl⟩:=R.node i d hd
  have blk:∀ (m:Nat) (e:Nd),i<m->ns[m]? = some e->e.kind=7->Zck ns (fun x=>Zbk ns f x) e:=fun m e hm he e7=>by
   obtain ⟨_,_,hl⟩:=R.node m e he
   simp [Zn,e7] at hl
   refine ZbY R he (fun k hk=>hk) fun q g hq hg hin hkd=>Zjk R f q g hg (by omega) (by rw [<- hkd];exact Zci hl.2 hin)
  have ex:∀ k,k∈d.kids->Zat (ZJ ns k)=true->Zaa ns [k] (ZP ns f):=fun k h1 h2=>
   ZbY R hd (fun y hy=>by rw [List.mem_singleton.1 hy];exact h1) fun m e hm he hin hkd=>ZgX R f m e he (by omega) (by rw [<- hkd];rw [List.mem_singleton.1 hin];exact h2)
  have b1:∀ k,k∈d.kids->ZJ ns k=7->Zaa ns [k] (Zck ns fun x=>Zbk ns f x):=fun k h1 h2=>
   ZbY R hd (fun y hy=>by rw [List.mem_singleton.1 hy];exact h1) fun m e hm he hin hkd=>blk m e hm he (by rw [<- hkd];rw [List.mem_singleton.1 hin];exact h2)
  have hc:d.kind=8\/d.kind=9\/d.kind=10\/d.kind=11\/d.kind=13\/d.kind=14\/d.kind=16\/d.kind=17\/d.kind=18\/d.kind=19:=by
   unfold ZcL at hk
   simp at hk
   omega
  rw [Zbk]
  rcases hc with e | e | e | e | e | e | e | e | e | e
  ·simp [Zn,e] at hl
   obtain ⟨k,hks,a⟩:=Zeu hl.2
   exact .inl ⟨.inl e,Zcf (Zab hl.1).1,k,hks,ex k (by rw [hks];simp) a⟩
  ·simp [Zn,e] at hl
   obtain ⟨k,hks,a⟩:=Zeu hl.2
   exact .inl ⟨.inr e,Zcf (Zab hl.1).1,k,hks,ex k (by rw [hks];simp) a⟩
  ·simp [Zn,e] at hl
   obtain ⟨j,k,hks,a,b⟩:=Zf0 hl.2
   refine .inr (.inl ⟨e,Zfh (Zab hl.1).1,⟨j,k,hks⟩,fun y hy=>?_⟩)
   have hy7:ZJ ns y=7:=by
    rw [hks] at hy
    rcases List.mem_cons.1 hy with rfl | hy
    ·exact ZbF a
    ·rw [List.mem_singleton.1 hy];exact ZbF b
   exact b1 y hy hy7 y (by simp)
  ·simp [Zn,e] at hl
   refine .inr (.inr (.inl ⟨e,Zfh (Zab hl.1).1,ZbY R hd (fun k hk=>hk) fun m g hm hg hin hkd=>?_⟩))
   have g12:g.kind=12:=by rw [<- hkd];exact ZbF (Zci hl.2 hin)
   obtain ⟨_,_,hl2⟩:=R.node m g hg
   simp [Zn,g12] at hl2
   obtain ⟨k,hks,a⟩:=Zeu hl2.2
   obtain ⟨s,hs⟩:=Zcf (Zab hl2.1).1
   exact ⟨⟨s,[],hs⟩,k,hks,ZbY R hg (fun y hy=>by rw [List.mem_singleton.1 hy,hks];simp) fun q u hq hu hin hkd=>blk q u (by omega) hu (by rw [<- hkd];rw [List.mem_singleton.1 hin];exact ZbF a)⟩
  ·simp [Zn,e] at hl
   obtain ⟨h1,h2⟩:=hl
   obtain ⟨p,q,r,hn⟩:=ZhW (Zab h1).2
   have np:=ZaR hu (x:=p) (by rw [hn];simp)
   have nq:=ZaR hu (x:=q) (by rw [hn];simp)
   have nr:=ZaR hu (x:=r) (by rw [hn];simp)
   unfold Zer at h2
   simp at h2
   obtain ⟨⟨⟨_,h4⟩,_⟩,h5⟩:=h2
   have p4:p<=4:=by simpa [num,hn] using h4
   refine .inr (.inr (.inr (.inl ⟨e,Zfh (Zab h1).1,⟨p,q,r,hn,np.1,p4,nq,nr⟩,?_⟩)))
   rcases h5 with h5 | ⟨h5,_⟩
   ·obtain ⟨k,hks,a⟩:=Zeu h5
    exact ⟨[],k,hks,(fun y hy=>nomatch hy),b1 k (by rw [hks];simp) (ZbF a)⟩
   ·obtain ⟨j,k,hks,a,b⟩:=Zf0 h5
    exact ⟨[j],k,hks,ZbY R hd (fun y hy=>by rw [List.mem_singleton.1 hy,hks];simp) fun m g hm hg hin hkd=>Zfi R hg (by rw [<- hkd];rw [List.mem_singleton.1 hin];exact ZbF a),b1 k (by rw [hks];simp) (ZbF b)⟩
  ·simp [Zn,e] at hl
   refine .inr (.inr (.inr (.inr (.inl ⟨e,?_,ZbY R hd (fun k hk=>hk) fun m g hm hg hin hkd=>?_⟩))))
   ·rcases hl.1 with h | h
    ·exact .inl (Zcf (Zab h).1)
    ·exact .inr (Zfh (Zab h).1)
   ·have ha:=Zci hl.2 hin
    rw [hkd] at ha
    unfold Zef at ha
    by_cases g15:g.kind=15
    ·obtain ⟨_,_,hl2⟩:=R.node m g hg
     simp [Zn,g15] at hl2
     obtain ⟨s,hs⟩:=Zcf (Zab hl2.1).1
     exact .inl ⟨g15,s,[],hs⟩
    ·exact .inr ⟨g15,ZgX R f m g hg (by omega) (by simpa [g15] using ha)⟩
  ·simp [Zn,e] at hl
   refine .inr (.inr (.inr (.inr (.inr (.inl ⟨e,?_⟩)))))
   rcases hl.2 with h | h
   ·obtain ⟨j,k,hks,a,b⟩:=Zf0 h
    exact ⟨j,[k],hks,by simp,ex j (by rw [hks];simp) a,b1 k (by rw [hks];simp) (ZbF b)⟩
   ·obtain ⟨j,k,l,hks,a,b,c⟩:=Zr4 h
    refine ⟨j,[k,l],hks,by simp,ex j (by rw [hks];simp) a,fun y hy=>?_⟩
    have hy7:ZJ ns y=7:=by
     rcases List.mem_cons.1 hy with rfl | hy
     ·exact ZbF b
     ·rw [List.mem_singleton.1 hy];exact ZbF c
    exact b1 y (by rw [hks];exact List.mem_cons_of_mem _ hy) hy7 y (by simp)
  ·simp [Zn,e] at hl
   obtain ⟨j,k,hks,a,b⟩:=Zf0 hl.2
   exact .inr (.inr (.inr (.inr (.inr (.inr (.inl ⟨e,j,k,hks,ex j (by rw [hks];simp) a,b1 k (by rw [hks];simp) (ZbF b)⟩))))))
  ·simp [Zn,e] at hl
   obtain ⟨k,hks,a⟩:=Zeu hl.2
   exact .inr (.inr (.inr (.inr (.inr (.inr (.inr (.inl ⟨e,k,hks,ex k (by rw [hks];simp) a⟩)))))))
  ·exact .inr (.inr (.inr (.inr (.inr (.inr (.inr (.inr e)))))))
theorem ZfJ {ns:List Nd} (R:RightP ns):Zaa ns (Za ns 0).kids (Zfn ns ns.length):=by
 have h0:ns[0]? = some (ns[0]'R.some_):=List.getElem?_eq_getElem R.some_
 have e0:=Zb2 (k:=0) h0
 have k0:=Zgm (k:=0) h0
 rw [show ((0:Nat):Int)=0 from rfl] at e0 k0
 obtain ⟨_,_,hl⟩:=R.node 0 _ h0
 have z:(ns[0]'R.some_).kind=0:=by rw [<- k0];exact R.root
 simp [Zn,z] at hl
 rw [e0]
 refine ZbY R h0 (fun k hk=>hk) fun m d hm hd hin hkd=>?_
 obtain ⟨_,hu,hl2⟩:=R.node m d hd
 rcases ZiV (Zci hl.2 hin) with e | e
 ·rw [hkd] at e
  simp [Zn,e] at hl2
  refine .inl ⟨e,Zcf (Zab hl2.1).1,ZbY R hd (fun k hk=>hk) fun q g hq hg hin hkd=>?_⟩
  obtain ⟨_,hu3,hl3⟩:=R.node q g hg
  rcases ZiV (Zci hl2.2 hin) with e3 | e3
  ·rw [hkd] at e3
   simp [Zn,e3] at hl3
   obtain ⟨⟨h1,h2⟩,_⟩:=hl3
   obtain ⟨v,hv⟩:=Zcf (Zab h1).2
   have:=ZaR hu3 (x:=v) (by rw [hv];simp)
   exact .inr ⟨e3,Zcf (Zab h1).1,v,hv,this.1,by simpa [num,hv] using h2⟩
  ·rw [hkd] at e3
   simp [Zn,e3] at hl3
   obtain ⟨⟨⟨h1,h2⟩,_⟩,_⟩:=hl3
   match hg2:g.words with
   | []=>rw [hg2] at h1;simp at h1
   | [_]=>rw [hg2] at h1;simp at h1
   | a::b::r=>exact .inl ⟨e3,a,b,r,hg2,by rw [hg2] at h2;simp at h2;omega,by rw [hg2] at h1;simp at h1;omega⟩
 ·rw [hkd] at e
  simp [Zn,e] at hl2
  obtain ⟨⟨h1,h2⟩,h3⟩:=hl2
  obtain ⟨k,hks,a⟩:=Zeu h3
  have hne:d.kids≠[]:=fun q=>by rw [q] at hks;simp at hks
  obtain ⟨l,k',hk'⟩:=ZoQ d.kids hne
  have el:d.kids.take (d.kids.length-1)=l:=by rw [hk'];simp
  have ek:k=k':=by rw [hk'] at hks;simpa using hks.symm
  rw [el] at h2
  subst ek
  refine .inr ⟨e,Zcf (Zab h1).1,l,k,hk',ZbY R hd (fun y hy=>by rw [hk'];simp [hy]) fun q g hq hg hin hkd=>?_,ZbY R hd (fun y hy=>by rw [hk',List.mem_singleton.1 hy];simp) fun q g hq hg hin hkd=>?_⟩
  ·have g5:g.kind=5:=by rw [<- hkd];exact ZbF (Zci h2 hin)
   obtain ⟨_,hu3,hl3⟩:=R.node q g hg
   simp [Zn,g5] at hl3
   rcases hl3 with h | ⟨h,hc⟩
   ·exact .inl (Zcf (Zab h.1).1)
   ·obtain ⟨p,q',r,hn⟩:=ZhW (Zab h).2
    have np:=ZaR hu3 (x:=p) (by rw [hn];simp)
    have nq:=ZaR hu3 (x:=q') (by rw [hn];simp)
    have nr:=ZaR hu3 (x:=r) (by rw [hn];simp)
    unfold ZcK at hc
    simp at hc
    obtain ⟨⟨⟨h4,_⟩,h5⟩,_⟩:=hc
    refine .inr ⟨Zfh (Zab h).1,⟨p,q',r,hn,np.1,by simpa [num,hn] using h4,nq,nr⟩,ZbY R hg (fun k hk=>hk) fun q2 g2 hq2 hg2 hin2 hkd2=>Zfi R hg2 (by rw [<- hkd2];exact ZbF (Zci h5 hin2))⟩
  ·have g7:g.kind=7:=by rw [<- hkd,List.mem_singleton.1 hin];exact ZbF a
   obtain ⟨_,_,hl3⟩:=R.node q g hg
   simp [Zn,g7] at hl3
   exact ZbY R hg (fun k hk=>hk) fun q2 g2 hq2 hg2 hin2 hkd2=>Zjk R _ q2 g2 hg2 (by omega) (by rw [<- hkd2];exact Zci hl3.2 hin2)
end
section
open Go.RowKit
theorem ZmN (w0 w:World) (bp dp f:Nat) (t:Txt) (vn:Value) (ns:List Nd) (x:NdV×Nd) (h:PrS w0 w bp t dp vn) (hN:Zs w0 vn ns) (hx:ZaW w0 x) (hE:Zbp w0 ns f) (s:Txt) (r:List Txt) (k:Nat) (hn:x.2.words=s::r) (hi:x.2.kids[0]? = some (k:Int)) (hkn:k<ns.length) (hv:ZP ns f (Za ns k)) (hl:t.length+(Zfa ns f x.2).length+100<=140737488355328) :
  Calls Tryz.prog 90 #[.pointer (some ⟨bp,0,none⟩),ndX x] w fun e w'=>e=.returned (.tuple #[])/\PrS w0 w' bp (t++Zfa ns f x.2) dp vn/\Fr w w' bp:=by
 have hq:=hx
 obtain ⟨⟨vw,vu,vk⟩,kd,ws,nums,ks,ps⟩:=x
 obtain ⟨hw,hu,hkk⟩:=hx
 dsimp only at hn hi hw hu hkk hl ⊢
 obtain ⟨Aw,cw,rfl,hwl,hwm,hW,hWl⟩:=hw
 obtain ⟨Au,cu,rfl,hul,hum,hU⟩:=hu
 obtain ⟨Ak,ck,rfl,hkl,hkm,hK⟩:=hkk
 have a1:=below_alloc1 w (.cells #[.int .i64 kd,.slice Aw ws.length cw,.slice Au nums.length cu,.slice Ak ks.length ck,.int .i64 ps] 37)
 have B1:Zh _ _ _ _:=Zh.start w #[.int .i64 kd,.slice Aw ws.length cw,.slice Au nums.length cu,.slice Ak ks.length ck,.int .i64 ps] 37
 have p1:=h.keep a1
 obtain ⟨z,hz⟩:∃ z,ns[k]? = some z:=⟨_,List.getElem?_eq_getElem hkn⟩
 have he:Zfa ns f ⟨kd,ws,nums,ks,ps⟩=s++[32,61,32]++Zx ns f z++[59]:=by
  unfold Zfa word
  rw [ZbU (n:=⟨kd,ws,nums,ks,ps⟩) hi hz]
  dsimp only
  rw [hn]
  rfl
 rw [ZbC hz] at hv
 rw [he] at hl ⊢
 simp only [List.length_append,List.length_cons,List.length_nil] at hl
 obtain ⟨c0,c1,c2,c3,c4⟩:=Zg (x:=((.slice Aw ws.length cw,.slice Au nums.length cu,.slice Ak ks.length ck),⟨kd,ws,nums,ks,ps⟩)) (B1)
 dsimp only at c0 c1 c2 c3 c4
 generalize hw1:w.alloc (.cells #[.int .i64 kd,.slice Aw ws.length cw,.slice Au nums.length cu,.slice Ak ks.length ck,.int .i64 ps] 37)=w1 at *
 obtain ⟨au,rfl,u0⟩:=Zcl (k:=0) (x:=s) hW (p1.keep (Zj w1)).below (by rw [hn];rfl) (by rw [hn];exact Nat.succ_pos _)
 have u1:w1.drew.cell? au=some (txt s):=u0
 have u2:w1.cell? au=some (txt s):=u0
 have hl2:0<ws.length:=by rw [hn];exact Nat.succ_pos _
 obtain ⟨d0,d1,d2,d3,d4⟩:=Zg (x:=((.slice (some au) ws.length cw,.slice Au nums.length cu,.slice Ak ks.length ck),⟨kd,ws,nums,ks,ps⟩)) (B1.keep (Zj w1))
 dsimp only at d0 d1 d2 d3 d4
 have AD:=zh (Zds w0 w1.drew bp dp t vn s [32,61,32] (p1.keep (Zj w1)) (by simp only [List.length_cons,List.length_nil];omega))
 have HX:=zh (zi a1 (zi (B1.keep (Zj w1)) (zi hq (zi hN (zi hE (zi hl (p1.keep (Zj w1))))))))
 have HI:=zh (zi hi (zi hkn (zi hz hv)))
 clear p1 B1 a1 hq hwl hwm hW hWl hul hum hU hkl hkm hK h hl he u0 hn hi hkn hz hv hE hN
 go_enter Tryz.func90,Tryz.ntmps90
 go_upto_region 1 with fail
 go_region_with (go_at_call 36;(refine AD.out.mono ?_);rintro e w3 ⟨rfl,hp,hf⟩;have H3:=zh (zi hp hf);clear hp hf)
 have K3:=H3.out.2.at_ _ _ _ (ZcV HX.out.2.2.2.2.2.2 HX.out.2.1) (by decide) HX.out.2.1
 obtain ⟨b0,b1,b2,b3,b4⟩:=Zg (x:=((.slice (some au) ws.length cw,.slice Au nums.length cu,.slice Ak ks.length ck),⟨kd,ws,nums,ks,ps⟩)) (K3)
 dsimp only at b0 b1 b2 b3 b4
 have KI:=zh (ZbB w0 w3 bp dp _ vn ns _ 0 k ⟨H3.out.1,HX.out.2.2.2.1⟩ HX.out.2.2.1 HI.out.1 HI.out.2.1)
 clear K3
 go_upto_region 3 with (first
  | (go_at_call 42;(refine KI.out.mono ?_);rintro e w4 ⟨y,rfl,hy,hy2,hb⟩;have ey:y.2=z:=Option.some.inj (hy.symm.trans HI.out.2.2.1);have H4:=zh (zi hy2 (zi hb ey));clear hy hy2 hb ey;have EX:=zh (HX.out.2.2.2.2.1 w4 bp dp _ vn y (H3.out.1.keep H4.out.2.1) HX.out.2.2.2.1 H4.out.1 (H4.out.2.2▸HI.out.2.2.2) (by rw [H4.out.2.2];have:=HX.out.2.2.2.2.2.1;simp only [List.length_append,List.length_cons,List.length_nil];omega)))
  | (go_at_call 23;(refine EX.out.mono ?_);rintro e w5 ⟨rfl,hp,hf⟩;have H5:=zh (zi (show PrS w0 w5 bp (t++(s++[32,61,32])++Zx ns f z) dp vn from H4.out.2.2▸hp) hf);clear hp hf))
 have AE:=zh (Zaf w0 w5 bp dp _ vn [59] H5.out.1 (by have:=HX.out.2.2.2.2.2.1;simp only [List.length_append,List.length_cons,List.length_nil];omega))
 go_wp2_with (go_at_call 36;(refine AE.out.mono ?_);rintro e w6 ⟨rfl,hp,hf⟩;have H6:=zh (zi hp hf);clear hp hf)
 go_end0
 refine ⟨rfl,?_,(((((Fr.of_below bp (hw1▸HX.out.1)).trans (Fr.of_below bp (Zj w1))).trans H3.out.2).trans (Fr.of_below bp H4.out.2.1)).trans H5.out.2).trans H6.out.2⟩
 have:=H6.out.1
 simp only [List.append_assoc] at this ⊢
 exact this
theorem ZeM (s x:Txt) (r:List Txt):Zal s (x::r)=x++Lib.joinTail s r:=by
 induction r generalizing x with
 | nil=>simp [Zal,Lib.joinTail]
 | cons y r ih=>rw [Zal,ih y];simp [Lib.joinTail,List.append_assoc]
theorem Zkg (s:Txt) (l:List Txt):Zal s l=Lib.join l s:=by
 cases l with
 | nil=>rfl
 | cons x r=>rw [ZeM,Lib.join_cons]
theorem Ziy (s:Txt) (hs:0<s.length) (l:List Txt):l.length<=(Zal s l).length+1:=by
 cases l with
 | nil=>simp
 | cons x r=>
  rw [ZeM,List.length_append,List.length_cons]
  have:r.length<=(Lib.joinTail s r).length:=by
   unfold Lib.joinTail
   induction r with
   | nil=>simp
   | cons y r ih=>simp only [List.map_cons,List.flatten_cons,List.length_append,List.length_cons];omega
  omega
theorem ZjA {w:World} {A:Option Addr} {n:Nat} {l:List Int} {x:Int} (h4:ZM w w.heap.size 1 A n (l.map (Value.int .i64))) (hx:l[0]? = some x) (hn:0<n):∃ ad,A=some ad/\∀ W:World,Below w.heap.size w W->W.cell? ad=some (.int .i64 x):=by
 obtain ⟨ad,e,hbk,hc⟩:=h4.2 hn
 exact ⟨ad,e,fun W hb=>(hb.cell (p:=ad) hbk).trans (hc 0 _ (by rw [List.getElem?_map,hx];rfl))⟩
theorem ZeA {w0 W:World} {g k:Nat} {l:List Txt} {s:Txt} (h:Zay w0 g l) (hb:Below w0.heap.size w0 W) (hk:l[k]? = some s):W.cell? ⟨g,k,none⟩=some (txt s):=by
 obtain ⟨t,fr,e⟩:=h.below hb
 simp [World.cell?,e,hk]
theorem Zn6 {w:World} {A:Option Addr} {l:List Txt} (h:ZM w w.heap.size 1 A l.length (l.map txt)) (hl:0<l.length):∃ b o,A=some ⟨b,o,none⟩/\b<w.heap.size/\∀ j s,l[j]? = some s->w.cell? ⟨b,o+j,none⟩=some (txt s):=by
 obtain ⟨⟨b,o,sp⟩,e,hb,hc⟩:=h.2 hl
 have h0:=hc 0 (txt l[0]) (by rw [List.getElem?_map,List.getElem?_eq_getElem hl];rfl)
 have hsp:sp=none:=by
  cases sp with
  | none=>rfl
  | some v=>
   exfalso
   unfold World.cell? Addr.add at h0
   simp at h0
   split at h0<;>simp at h0
 subst hsp
 refine ⟨b,o,e,hb,fun j s hj=>?_⟩
 have:=hc j (txt s) (by rw [List.getElem?_map,hj];rfl)
 unfold Addr.add at this
 by_cases hz:j=0
 ·subst hz;simpa using this
 ·rw [if_neg hz] at this;exact this
theorem Zin (w0 W:World) (A:Option Addr) (c:Nat) (l:List Txt) (h:ZM w0 w0.heap.size 1 A l.length (l.map txt)) (hl:0<l.length) (hlm:l.length<=140737488355328) (hc:l.length<=c) (hb:Below w0.heap.size w0 W) (hm:(Zal [124] l).length<=140737488355328) :
  Calls Tryz.prog 89 #[.slice A l.length c,.string ⟨#[124]⟩] W fun e w'=>e=.returned (txt (Zal [124] l))/\Below W.heap.size W w':=by
 obtain ⟨b,o,rfl,hlt,hcs⟩:=Zn6 h hl
 have hm2:(l.map fun s=>(⟨s.toArray⟩:ByteArray)).map (·.data.toList)=l:=by rw [List.map_map];exact List.map_id'' (fun _=>rfl) l
 have k:=Tryz.strings_Join b o c (l.map fun s=>(⟨s.toArray⟩:ByteArray)) ⟨#[124]⟩ W (fun j x hj=>by
  rw [List.getElem?_map] at hj
  cases e:l[j]? with
  | none=>rw [e] at hj;cases hj
  | some s=>
   rw [e] at hj
   obtain rfl:=Option.some.inj hj
   exact (hb.cell (p:=⟨b,o+j,none⟩) hlt).trans (hcs j s e)) (Nat.lt_of_lt_of_le hlt hb.size) (by rw [List.length_map];exact hlm) (by rw [List.length_map];exact hc) (by rw [hm2];rw [Zkg] at hm;exact hm)
 rw [List.length_map] at k
 refine k.mono fun e w' he=>⟨?_,he.2⟩
 rw [he.1,hm2,Zkg]
def Zcm:List Txt:=[Zc0 0,Zc0 1,Zc0 2]
end
section
open Go.RowKit
theorem ZlO (d:Nat) (l:List Txt) (x:Txt):Zbq d (l++[x])=Zbq d l++(Zdi d++x++[10]):=by
 unfold Zbq
 rw [List.map_append,List.flatten_append]
 simp
theorem ZjV (d:Nat) (l:List Txt) (k:Nat) (x:Txt) (h:l[k]? = some x):Zbq d (l.take (k+1))=Zbq d (l.take k)++(Zdi d++x++[10]):=by
 rw [List.take_add_one,h]
 exact ZlO d _ x
theorem ZoW (d:Nat) (l:List Txt) (k:Nat):(Zbq d (l.take k)).length<=(Zbq d l).length:=by
 have e:Zbq d l=Zbq d (l.take k)++Zbq d (l.drop k):=by
  unfold Zbq
  rw [<- List.flatten_append,<- List.map_append,List.take_append_drop]
 rw [e,List.length_append]
 omega
def Enters (F:Nat):Prop:=∀ (args:Array Value) (w:World),Sem.run Tryz.prog (callFunc F args) w=.ok (.enter F args) w
def Zc1 (F:Nat) (w0:World) (ns:List Nd) (dp:Nat) (Ok:Nd->Prop) (T:Nd->Txt):Prop:=
 ∀ (w:World) (bp:Nat) (t:Txt) (vn:Value) (x:NdV×Nd),PrS w0 w bp t dp vn->Zs w0 vn ns->ZaW w0 x->Ok x.2->t.length+(T x.2).length+10000<=140737488355328 ->
  Calls Tryz.prog F #[.pointer (some ⟨bp,0,none⟩),ndX x] w fun e w'=>e=.returned (.tuple #[])/\PrS w0 w' bp (t++T x.2) dp vn/\Fr w w' bp
theorem ZjW (F:Nat) (hF:Enters F) (w0 w:World) (bp dp:Nat) (t:Txt) (vn:Value) (ns:List Nd) (A:Option Addr) (c:Nat) (ks:List Int) (Ok:Nd->Prop) (T:Nd->Txt) (h:PrS w0 w bp t dp vn) (hN:Zs w0 vn ns) (hd:dp<=4000)
  (hK:ZM w0 w0.heap.size 1 A ks.length (ks.map (Value.int .i64))) (hkl:ks.length<=maxLen) (hok:Zaa ns ks Ok) (hE:Zc1 F w0 ns dp Ok T) (hl:t.length+(Zbq dp (ks.map fun k=>T (Za ns k))).length+10000<=140737488355328) :
  Calls Tryz.prog 17 #[.pointer (some ⟨bp,0,none⟩),.slice A ks.length c,.func (.func F) #[.pointer (some ⟨bp,0,none⟩)] #[]] w fun e w'=>e=.returned (.tuple #[])/\PrS w0 w' bp (t++Zbq dp (ks.map fun k=>T (Za ns k))) dp vn/\Fr w w' bp:=by
 obtain ⟨An,cn,rs,rfl,_,hcn,hm,hR,hNd⟩:=id hN
 generalize hL:(ks.map fun k=>T (Za ns k))=L at *
 have HS:=zh (zi h (zi hN (zi hd (zi hK (zi hkl (zi hok (zi hE (zi hl hL))))))))
 have HR:=zh (zi hcn (zi hm (zi hR hNd)))
 clear h hN hd hK hkl hok hE hl hL hcn hm hR hNd
 go_enter Tryz.func17,Tryz.ntmps17
 go_wp2_with fail
 go_loopg [10] ks.length (fun g v10 wr=>∃ k:Nat,v10=.int .i64 k/\k<=ks.length/\g=ks.length-k/\PrS w0 wr bp (t++Zbq dp (L.take k)) dp (.slice An ns.length cn)/\Fr w wr bp)
 case atStart=>exact ⟨0,rfl,Nat.zero_le _,rfl,by simpa [Zbq] using HS.out.1,Fr.refl _ _⟩
 case round=>
  obtain ⟨k,rfl,hk,hg,hS,hF⟩:=hrel
  by_cases hkn:k=ks.length
  ·have j1:decide (k<ks.length)=false:=decide_eq_false (by omega)
   have j2:¬ ((k:Int)<(ks.length:Int)):=by omega
   have FIN:=zh (zi (show PrS w0 wr bp (t++Zbq dp L) dp (.slice An ns.length cn) by rw [show L.take k=L by rw [<- HS.out.2.2.2.2.2.2.2.2,hkn,List.take_of_length_le];rw [List.length_map];exact Nat.le_refl _] at hS;exact hS) hF)
   clear hk hg hS hF hkn
   go_wp2_with fail
   go_end0
   exact ⟨rfl,FIN.out⟩
  ·have hlt:k<ks.length:=by omega
   obtain ⟨y,hy⟩:∃ y,ks[k]? = some y:=⟨_,List.getElem?_eq_getElem hlt⟩
   obtain ⟨hy0,hyn,hyo⟩:=HS.out.2.2.2.2.2.1 y (List.mem_of_getElem? hy)
   obtain ⟨n,rfl⟩:=Int.eq_ofNat_of_zero_le hy0
   have hnl:n<ns.length:=by omega
   obtain ⟨r,hr⟩:∃ r,rs[n]? = some r:=⟨_,List.getElem?_eq_getElem (by rw [<- HR.out.2.1,List.length_map] at hnl;exact hnl)⟩
   have hrn:ns[n]? = some r.2:=by rw [<- HR.out.2.1,List.getElem?_map,hr];rfl
   have hL1:L[k]? = some (T r.2):=by rw [<- HS.out.2.2.2.2.2.2.2.2,List.getElem?_map,hy];exact congrArg some (congrArg T (ZbC hrn))
   obtain ⟨ak,rfl,q0⟩:=ints_at HS.out.2.2.2.1 hS.below hy (by omega)
   have j1:(k:Int)<(ks.length:Int):=by omega
   have j0:(0:Int)<=(k:Int):=by omega
   have wk:IntKind.i64.wrap ((k:Int)+1)=(k:Int)+1:=IntWalk.i64_in _ (by have:=HS.out.2.2.2.2.1;have e:maxLen=9223372036854775807:=rfl;omega)
   have i0:(0:Int)<=(n:Int):=by omega
   have i1:(n:Int)<(ns.length:Int):=by omega
   have hlen:t.length+(Zbq dp (L.take k)).length+(Zdi dp).length+(T r.2).length+1+10000<=140737488355328:=by
    have e1:=ZjV dp L k _ hL1
    have e2:=ZoW dp L (k+1)
    have e3:=HS.out.2.2.2.2.2.2.2.1
    rw [e1] at e2
    simp only [List.length_append,List.length_cons,List.length_nil] at e2
    omega
   have IN:=zh (ZiT w0 wr bp dp _ _ hS HS.out.2.2.1 (by rw [List.length_append];omega))
   have HK:=zh (zi hlt (zi hg (zi hF (zi hr (zi hL1 (zi hlen ((ZbC hrn)▸hyo)))))))
   clear hkn hlt hk hg hF hS hy hy0 hyn hyo hnl hrn hL1 hlen
   obtain ⟨⟨yw,yu,yk⟩,kd2,ws2,nums2,ks2,ps2⟩:=r
   have HY:=zh (HR.out.2.2.2 _ (List.mem_of_getElem? HK.out.2.2.2.1))
   obtain ⟨h61,h62,h63⟩:=HY.out
   dsimp only at h61 h62 h63
   obtain ⟨Bw,dw,rfl,_⟩:=h61
   obtain ⟨Bu,du,rfl,_⟩:=h62
   obtain ⟨Bk,dk,rfl,_⟩:=h63
   go_upto_region 4 with (go_at_call 35;(refine IN.out.mono ?_);rintro e w1 ⟨rfl,hp,hf⟩;have H1:=zh (zi hp hf);clear hp hf)
   obtain ⟨an,rfl,n0,n1,n2,n3,n4⟩:=ZbA HR.out.2.2.1 H1.out.1.below HK.out.2.2.2.1 (by omega)
   dsimp only at n0 n1 n2 n3 n4
   obtain ⟨v,hv,_⟩:=H1.out.1.box
   have c2:=hv.blk.cell 2
   simp only [List.getElem?_toArray,List.getElem?_cons_zero,List.getElem?_cons_succ] at c2
   clear hv
   have EC:=zh (HS.out.2.2.2.2.2.2.1 w1 bp _ _ _ H1.out.1 HS.out.2.1 HY.out HK.out.2.2.2.2.2.2 (by have:=HK.out.2.2.2.2.2.1;simp only [List.length_append];omega))
   unfold ndX at EC
   dsimp only at EC
   have door:=hF
   unfold Enters at door
   go_upto_region 5 with (with_reducible refine EC.out.mono ?_;rintro e w2 ⟨rfl,hp,hf⟩;have H2:=zh (zi hp hf);clear hp hf)
   have AD:=zh (Zaf w0 w2 bp dp _ _ [10] H2.out.1 (by have:=HK.out.2.2.2.2.2.1;simp only [List.length_append,List.length_cons,List.length_nil];omega))
   go_wp2_with (go_at_call 36;(refine AD.out.mono ?_);rintro e w3 ⟨rfl,hp,hf⟩;have H3:=zh (zi hp hf);clear hp hf)
   go_roundg (ks.length-(k+1))
   case measure=>have:=HK.out.1;have:=HK.out.2.1;omega
   case rel=>
    refine ⟨k+1,by push_cast;rfl,HK.out.1,rfl,?_,((HK.out.2.2.1.trans H1.out.2).trans H2.out.2).trans H3.out.2⟩
    rw [ZjV dp L k _ HK.out.2.2.2.2.1]
    have:=H3.out.1
    simp only [List.append_assoc] at this ⊢
    exact this
end
section
open Go.RowKit
theorem Znz (w0 w:World) (bp dp:Nat) (t:Txt) (vn:Value) (x:NdV×Nd) (h:PrS w0 w bp t dp vn) (hx:ZaW w0 x) (ht:Zay w0 2 Zcm) (r:List Int) (hn:x.2.nums=1::r) (hw0:0<x.2.words.length) (hl:t.length+(ZaT x.2).length+100<=140737488355328) :
  Calls Tryz.prog 68 #[.pointer (some ⟨bp,0,none⟩),ndX x] w fun e w'=>e=.returned (.tuple #[])/\PrS w0 w' bp (t++ZaT x.2) dp vn/\Fr w w' bp:=by
 have hq:=hx
 obtain ⟨⟨vw,vu,vk⟩,kd,ws,nums,ks,ps⟩:=x
 obtain ⟨hw,hu,hkk⟩:=hx
 dsimp only at hn hw0 hw hu hkk hl ⊢
 obtain ⟨Aw,cw,rfl,hwl,hwm,hW,hWl⟩:=hw
 obtain ⟨Au,cu,rfl,hul,hum,hU⟩:=hu
 obtain ⟨Ak,ck,rfl,hkl,hkm,hK⟩:=hkk
 have a1:=below_alloc1 w (.cells #[.int .i64 kd,.slice Aw ws.length cw,.slice Au nums.length cu,.slice Ak ks.length ck,.int .i64 ps] 37)
 have B1:Zh _ _ _ _:=Zh.start w #[.int .i64 kd,.slice Aw ws.length cw,.slice Au nums.length cu,.slice Ak ks.length ck,.int .i64 ps] 37
 have p1:=h.keep a1
 have he:ZaT ⟨kd,ws,nums,ks,ps⟩=Zc0 1++Zal [124] ws:=by
  unfold ZaT num
  dsimp only
  rw [hn]
  rfl
 rw [he] at hl ⊢
 simp only [List.length_append] at hl
 have hwc:ws.length<=140737488355328:=by have:=Ziy [124] (by decide) ws;omega
 generalize hw1:w.alloc (.cells #[.int .i64 kd,.slice Aw ws.length cw,.slice Au nums.length cu,.slice Ak ks.length ck,.int .i64 ps] 37)=w1 at *
 have P1:=zh (p1.keep (Zj w1))
 have JN:=zh (Zin w0 w1.drew Aw cw ws hW hw0 hwc hwl P1.out.below (by omega))
 obtain ⟨au,rfl,u0⟩:=ZjA (x:=1) hU (by rw [hn];rfl) (by rw [hn];exact Nat.succ_pos _)
 have u1:w1.drew.cell? au=some (.int .i64 1):=u0 _ P1.out.below
 have v1:w1.drew.cell? ⟨2,1,none⟩=some (txt (Zc0 1)):=ZeA (k:=1) ht P1.out.below rfl
 have hl2:0<nums.length:=by rw [hn];exact Nat.succ_pos _
 obtain ⟨d0,d1,d2,d3,d4⟩:=Zg (x:=((.slice Aw ws.length cw,.slice (some au) nums.length cu,.slice Ak ks.length ck),⟨kd,ws,nums,ks,ps⟩)) (B1.keep (Zj w1))
 dsimp only at d0 d1 d2 d3 d4
 have HX:=zh (zi a1 (zi (B1.keep (Zj w1)) (zi hl (zi u0 ht))))
 clear p1 B1 a1 hq hwl hwm hW hWl hul hum hU hkl hkm hK h hl he u0 hn ht hwc hw0
 go_enter Tryz.func68,Tryz.ntmps68
 go_upto_region 1 with fail
 go_region_with (first
  | (go_at_call 89;(refine JN.out.mono ?_);rintro e w3 ⟨rfl,hb⟩;have HB:=zh hb;clear hb;obtain ⟨b0,b1,b2,b3,b4⟩:=Zg (x:=((.slice Aw ws.length cw,.slice (some au) nums.length cu,.slice Ak ks.length ck),⟨kd,ws,nums,ks,ps⟩)) (HX.out.2.1.keep HB.out);dsimp only at b0 b1 b2 b3 b4;have u3:=HX.out.2.2.2.1 _ (P1.out.keep HB.out).below;have v3:w3.cell? ⟨2,1,none⟩=some (txt (Zc0 1)):=ZeA (k:=1) HX.out.2.2.2.2 (P1.out.keep HB.out).below rfl;have AD:=zh (Zds w0 w3 bp dp t vn (Zc0 1) (Zal [124] ws) (P1.out.keep HB.out) (by have:=HX.out.2.2.1;omega)))
  | (go_at_call 36;(refine AD.out.mono ?_);rintro e w4 ⟨rfl,hp,hf⟩;have H4:=zh (zi hp hf);clear hp hf))
 all_goals
  go_wp2_with fail
  go_end0
  exact ⟨rfl,H4.out.1,(((Fr.of_below bp (hw1▸HX.out.1)).trans (Fr.of_below bp (Zj w1))).trans (Fr.of_below bp HB.out)).trans H4.out.2⟩
end
end Go.Proofs.YtkongcicmajolaaGreatDoor
