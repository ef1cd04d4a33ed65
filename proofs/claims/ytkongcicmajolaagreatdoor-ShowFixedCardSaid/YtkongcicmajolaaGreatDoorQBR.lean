import Derived.Test.YtkongcicmajolaaGreatDoorQAN
import Derived.Test.YtkongcicmajolaaGreatDoorQAY
import Derived.Test.YtkongcicmajolaaGreatDoorQBQ
set_option maxRecDepth 100000
set_option maxHeartbeats 8000000
namespace Go.Proofs.YtkongcicmajolaaGreatDoor
section
open Go.RowKit
theorem ZhC:∀ (r:List Int) (y:Int),y<=r.foldl max y/\∀ x∈r,x<=r.foldl max y
 | [],y=>⟨Int.le_refl _,fun x h=>by simp at h⟩
 | z::r,y=>by
  obtain ⟨a,b⟩:=ZhC r (max y z)
  rw [List.foldl_cons]
  refine ⟨by omega,fun x hx=>?_⟩
  rcases List.mem_cons.1 hx with rfl | hx
  ·omega
  ·exact b x hx
theorem ZrC {l:List Int} {x:Int} (h:x∈l):x<=Zgd l:=by
 cases l with
 | nil=>simp at h
 | cons y r=>
  rcases List.mem_cons.1 h with rfl | h
  ·exact (ZhC r _).1
  ·exact (ZhC r y).2 x h
theorem Zju {p:List Int}:∀ (j k:Nat),k<j->(Zc2 p j)[k]? = some (if 0<=atI p k then 1+atI (Zc2 p k) (atI p k) else 1)
 | 0,k,h=>absurd h (Nat.not_lt_zero _)
 | j+1,k,h=>by
  rw [Zc2]
  rcases Nat.lt_or_ge k j with h1 | h1
  ·rw [List.getElem?_append_left (by rw [Zb7];exact h1)]
   exact Zju j k h1
  ·obtain rfl:k=j:=by omega
   rw [List.getElem?_append_right (by rw [Zb7];exact Nat.le_refl _),Zb7,Nat.sub_self]
   rfl
structure DepP (ns:List Nd) (dep:Nat->Nat):Prop where
 root:dep 0=1
 kid:∀ (i:Nat) (d:Nd),ns[i]? = some d->∀ m:Nat,(m:Int)∈d.kids->dep m=dep i+1
 top:∀ i:Nat,i<ns.length->dep i<=24
theorem Zph {ns:List Nd} (h:Zcw ns=true):∃ dep,DepP ns dep:=by
 cases hp:Zcg ns with
 | none=>rw [ZdT hp] at h;cases h
 | some p=>
  rw [Zfk hp,Bool.and_eq_true,Bool.and_eq_true,decide_eq_true_eq] at h
  obtain ⟨⟨_,hm⟩,_⟩:=h
  have L:=ZfL hp
  obtain ⟨f1,f2,f3,f4⟩:=ZfK hp
  have len:(Zb8 p).length=ns.length:=by unfold Zb8;rw [Zb7,f3]
  have at_:∀ k:Nat,k<ns.length->atI (Zb8 p) k=if 0<=atI p k then 1+atI (Zc2 p k) (atI p k) else 1:=fun k hk=>by
   rw [ZcY]
   unfold Zb8
   rw [Zju _ k (by rw [f3];exact hk)]
   rfl
  have low:∀ k:Nat,k<ns.length->1<=atI (Zb8 p) k/\atI (Zb8 p) k<=24:=fun k hk=>by
   obtain ⟨x,hx⟩:∃ x,(Zb8 p)[k]? = some x:=⟨_,List.getElem?_eq_getElem (by rw [len];exact hk)⟩
   have e:atI (Zb8 p) k=x:=by rw [ZcY,hx];rfl
   have h1:=(ZgU f4 p.length (Nat.le_refl _) k x hx).1
   have h2:=ZrC (List.mem_of_getElem? hx)
   omega
  refine ⟨fun k=>(atI (Zb8 p) (k:Int)).toNat,?_,fun i d hd m hk=>?_,fun i hi=>?_⟩
  ·have:=at_ 0 (by omega)
   have n0:¬ 0<=atI p ((0:Nat):Int):=fun q=>by
    have:=Zi2 L q
    omega
   rw [if_neg n0] at this
   rw [this]
   rfl
  ·obtain ⟨b1,b2,b3⟩:=ZfW L hd hk
   have hi:i<ns.length:=(List.getElem?_eq_some_iff.1 hd).1
   have e1:=at_ m (by omega)
   rw [if_pos (by rw [b3];omega),b3] at e1
   have e2:atI (Zc2 p m) (i:Int)=atI (Zb8 p) (i:Int):=by
    rw [at_ i hi,ZcY,Zju m i (by omega)]
    rfl
   have:=(low i hi).1
   have:=(low m (by omega)).1
   rw [e1,e2]
   omega
  ·have:=low i hi
   omega
theorem Zct {ns:List Nd} {dep:Nat->Nat} (R:RightP ns) (D:DepP ns dep) {i:Nat} {d:Nd} (hd:ns[i]? = some d) {ks:List Int} (hs:∀ k∈ks,k∈d.kids) {P:Nd->Prop} (h:∀ (m:Nat) (e:Nd),dep m=dep i+1->ns[m]? = some e->(m:Int)∈ks->ZJ ns m=e.kind->P e):Zaa ns ks P:=
 ZbY R hd hs fun m e _ he hin hk=>h m e (D.kid i d hd m (hs _ hin)) he hin hk
theorem Zhu {ns:List Nd} {dep:Nat->Nat} (R:RightP ns) (D:DepP ns dep):∀ (f i:Nat) (d:Nd),ns[i]? = some d->24<dep i+f->Zat d.kind=true->ZP ns f d
 | 0,i,d,hd,hf,_=>by have:=D.top i (List.getElem?_eq_some_iff.1 hd).1;omega
 | f+1,i,d,hd,hf,hk=>by
  obtain ⟨_,hu,hl⟩:=R.node i d hd
  have kk:∀ k∈d.kids,Zat (ZJ ns k)=true->∃ m:Nat,k=m/\m<ns.length/\ZP ns f (Za ns k):=fun k h1 h2=>by
   obtain ⟨m,e,e1,_,e3,e4,e5,e6⟩:=Zf8 R hd h1
   have e2:=D.kid i d hd m (by rw [<- e1];exact h1)
   refine ⟨m,e1,e3,?_⟩
   rw [e5]
   exact Zhu R D f m e e4 (by omega) (by rw [<- e6];exact h2)
  have hc:d.kind=20\/d.kind=21\/d.kind=22\/d.kind=23:=by
   unfold Zat at hk
   rw [Bool.and_eq_true,decide_eq_true_eq,decide_eq_true_eq] at hk
   omega
  rw [ZP]
  rcases hc with e | e | e | e
  ·simp [Zn,e] at hl
   obtain ⟨n1,n2⟩:=Zab hl.1
   obtain ⟨v,hv⟩:=Zcf n2
   have:=ZaR hu (x:=v) (by rw [hv];simp)
   unfold ZaI at this
   exact ⟨fun h=>by rw [e] at h;exact absurd h (by decide),.inl ⟨e,v,[],hv,by omega,by omega⟩⟩
  ·simp [Zn,e] at hl
   obtain ⟨n1,n2⟩:=Zab hl.1
   obtain ⟨s,hs⟩:=Zcf n1
   exact ⟨fun h=>by rw [e] at h;exact absurd h (by decide),.inr (.inl ⟨e,s,[],hs⟩)⟩
  ·simp [Zn,e] at hl
   obtain ⟨⟨h1,h2⟩,h3⟩:=hl
   obtain ⟨n1,n2⟩:=Zab h1
   obtain ⟨v,hv⟩:=Zcf n2
   have:=ZaR hu (x:=v) (by rw [hv];simp)
   unfold ZaI at this
   have hv5:v<=5:=by simpa [num,hv] using h2
   obtain ⟨j,k,hks,a,b⟩:=Zf0 h3
   obtain ⟨j',rfl,j1,j2⟩:=kk j (by rw [hks];simp) a
   obtain ⟨k',rfl,k1,k2⟩:=kk k (by rw [hks];simp) b
   exact ⟨fun _=>⟨v,[],hv,this.1,hv5⟩,.inr (.inr (.inr ⟨e,j',k',by rw [hks];rfl,j1,j2,by rw [hks];rfl,k1,k2⟩))⟩
  ·simp [Zn,e] at hl
   obtain ⟨k,hks,a⟩:=Zeu hl.2
   obtain ⟨k',rfl,k1,k2⟩:=kk k (by rw [hks];simp) a
   exact ⟨fun h=>by rw [e] at h;exact absurd h (by decide),.inr (.inr (.inl ⟨e,k',by rw [hks];rfl,k1,k2⟩))⟩
theorem Zkj {ns:List Nd} {dep:Nat->Nat} (R:RightP ns) (D:DepP ns dep):∀ (f i:Nat) (d:Nd),ns[i]? = some d->24<dep i+f->ZcL d.kind=true->Zbk ns f d
 | 0,i,d,hd,hf,_=>by have:=D.top i (List.getElem?_eq_some_iff.1 hd).1;omega
 | f+1,i,d,hd,hf,hk=>by
  obtain ⟨hw,hu,hl⟩:=R.node i d hd
  have blk:∀ (m:Nat) (e:Nd),dep i<dep m->ns[m]? = some e->e.kind=7->Zck ns (fun x=>Zbk ns f x) e:=fun m e hm he e7=>by
   obtain ⟨_,_,hl⟩:=R.node m e he
   simp [Zn,e7] at hl
   refine Zct R D he (fun k hk=>hk) fun q g hq hg hin hkd=>Zkj R D f q g hg (by omega) (by rw [<- hkd];exact Zci hl.2 hin)
  have ex:∀ k,k∈d.kids->Zat (ZJ ns k)=true->Zaa ns [k] (ZP ns f):=fun k h1 h2=>
   Zct R D hd (fun y hy=>by rw [List.mem_singleton.1 hy];exact h1) fun m e hm he hin hkd=>Zhu R D f m e he (by omega) (by rw [<- hkd];rw [List.mem_singleton.1 hin];exact h2)
  have b1:∀ k,k∈d.kids->ZJ ns k=7->Zaa ns [k] (Zck ns fun x=>Zbk ns f x):=fun k h1 h2=>
   Zct R D hd (fun y hy=>by rw [List.mem_singleton.1 hy];exact h1) fun m e hm he hin hkd=>blk m e (by omega) he (by rw [<- hkd];rw [List.mem_singleton.1 hin];exact h2)
  have hc:d.kind=8\/d.kind=9\/d.kind=10\/d.kind=11\/d.kind=13\/d.kind=14\/d.kind=16\/d.kind=17\/d.kind=18\/d.kind=19:=by
   unfold ZcL at hk
   simp at hk
   omega
  rw [Zbk]
  rcases hc with e | e | e | e | e | e | e | e | e | e
  ·simp [Zn,e] at hl
   obtain ⟨k,hks,a⟩:=Zeu hl.2
   exact .inl ⟨.inl e,Zcf (Zab hl.1).1,k,hks,ex k (by rw [hks];simp) a⟩
  ·simp [Zn,e] at hl
   obtain ⟨k,hks,a⟩:=Zeu hl.2
   exact .inl ⟨.inr e,Zcf (Zab hl.1).1,k,hks,ex k (by rw [hks];simp) a⟩
  ·simp [Zn,e] at hl
   obtain ⟨j,k,hks,a,b⟩:=Zf0 hl.2
   refine .inr (.inl ⟨e,Zfh (Zab hl.1).1,⟨j,k,hks⟩,fun y hy=>?_⟩)
   have hy7:ZJ ns y=7:=by
    rw [hks] at hy
    rcases List.mem_cons.1 hy with rfl | hy
    ·exact ZbF a
    ·rw [List.mem_singleton.1 hy];exact ZbF b
   exact b1 y hy hy7 y (by simp)
  ·simp [Zn,e] at hl
   refine .inr (.inr (.inl ⟨e,Zfh (Zab hl.1).1,Zct R D hd (fun k hk=>hk) fun m g hm hg hin hkd=>?_⟩))
   have g12:g.kind=12:=by rw [<- hkd];exact ZbF (Zci hl.2 hin)
   obtain ⟨_,_,hl2⟩:=R.node m g hg
   simp [Zn,g12] at hl2
   obtain ⟨k,hks,a⟩:=Zeu hl2.2
   obtain ⟨s,hs⟩:=Zcf (Zab hl2.1).1
   exact ⟨⟨s,[],hs⟩,k,hks,Zct R D hg (fun y hy=>by rw [List.mem_singleton.1 hy,hks];simp) fun q u hq hu hin hkd=>blk q u (by omega) hu (by rw [<- hkd];rw [List.mem_singleton.1 hin];exact ZbF a)⟩
  ·simp [Zn,e] at hl
   obtain ⟨h1,h2⟩:=hl
   obtain ⟨p,q,r,hn⟩:=ZhW (Zab h1).2
   have np:=ZaR hu (x:=p) (by rw [hn];simp)
   have nq:=ZaR hu (x:=q) (by rw [hn];simp)
   have nr:=ZaR hu (x:=r) (by rw [hn];simp)
   unfold Zer at h2
   simp at h2
   obtain ⟨⟨⟨_,h4⟩,_⟩,h5⟩:=h2
   have p4:p<=4:=by simpa [num,hn] using h4
   refine .inr (.inr (.inr (.inl ⟨e,Zfh (Zab h1).1,⟨p,q,r,hn,np.1,p4,nq,nr⟩,?_⟩)))
   rcases h5 with h5 | ⟨h5,_⟩
   ·obtain ⟨k,hks,a⟩:=Zeu h5
    exact ⟨[],k,hks,(fun y hy=>nomatch hy),b1 k (by rw [hks];simp) (ZbF a)⟩
   ·obtain ⟨j,k,hks,a,b⟩:=Zf0 h5
    exact ⟨[j],k,hks,Zct R D hd (fun y hy=>by rw [List.mem_singleton.1 hy,hks];simp) fun m g hm hg hin hkd=>Zfi R hg (by rw [<- hkd];rw [List.mem_singleton.1 hin];exact ZbF a),b1 k (by rw [hks];simp) (ZbF b)⟩
  ·simp [Zn,e] at hl
   refine .inr (.inr (.inr (.inr (.inl ⟨e,?_,Zct R D hd (fun k hk=>hk) fun m g hm hg hin hkd=>?_⟩))))
   ·rcases hl.1 with h | h
    ·exact .inl (Zcf (Zab h).1)
    ·exact .inr (Zfh (Zab h).1)
   ·have ha:=Zci hl.2 hin
    rw [hkd] at ha
    unfold Zef at ha
    by_cases g15:g.kind=15
    ·obtain ⟨_,_,hl2⟩:=R.node m g hg
     simp [Zn,g15] at hl2
     obtain ⟨s,hs⟩:=Zcf (Zab hl2.1).1
     exact .inl ⟨g15,s,[],hs⟩
    ·exact .inr ⟨g15,Zhu R D f m g hg (by omega) (by simpa [g15] using ha)⟩
  ·simp [Zn,e] at hl
   refine .inr (.inr (.inr (.inr (.inr (.inl ⟨e,?_⟩)))))
   rcases hl.2 with h | h
   ·obtain ⟨j,k,hks,a,b⟩:=Zf0 h
    exact ⟨j,[k],hks,by simp,ex j (by rw [hks];simp) a,b1 k (by rw [hks];simp) (ZbF b)⟩
   ·obtain ⟨j,k,l,hks,a,b,c⟩:=Zr4 h
    refine ⟨j,[k,l],hks,by simp,ex j (by rw [hks];simp) a,fun y hy=>?_⟩
    have hy7:ZJ ns y=7:=by
     rcases List.mem_cons.1 hy with rfl | hy
     ·exact ZbF b
     ·rw [List.mem_singleton.1 hy];exact ZbF c
    exact b1 y (by rw [hks];exact List.mem_cons_of_mem _ hy) hy7 y (by simp)
  ·simp [Zn,e] at hl
   obtain ⟨j,k,hks,a,b⟩:=Zf0 hl.2
   exact .inr (.inr (.inr (.inr (.inr (.inr (.inl ⟨e,j,k,hks,ex j (by rw [hks];simp) a,b1 k (by rw [hks];simp) (ZbF b)⟩))))))
  ·simp [Zn,e] at hl
   obtain ⟨k,hks,a⟩:=Zeu hl.2
   exact .inr (.inr (.inr (.inr (.inr (.inr (.inr (.inl ⟨e,k,hks,ex k (by rw [hks];simp) a⟩)))))))
  ·exact .inr (.inr (.inr (.inr (.inr (.inr (.inr (.inr e)))))))
theorem ZoJ {ns:List Nd} {dep:Nat->Nat} (R:RightP ns) (D:DepP ns dep):Zaa ns (Za ns 0).kids (Zfn ns 24):=by
 have h0:ns[0]? = some (ns[0]'R.some_):=List.getElem?_eq_getElem R.some_
 have e0:=Zb2 (k:=0) h0
 have k0:=Zgm (k:=0) h0
 rw [show ((0:Nat):Int)=0 from rfl] at e0 k0
 obtain ⟨_,_,hl⟩:=R.node 0 _ h0
 have z:(ns[0]'R.some_).kind=0:=by rw [<- k0];exact R.root
 simp [Zn,z] at hl
 rw [e0]
 refine Zct R D h0 (fun k hk=>hk) fun m d hm hd hin hkd=>?_
 obtain ⟨_,hu,hl2⟩:=R.node m d hd
 rcases ZiV (Zci hl.2 hin) with e | e
 ·rw [hkd] at e
  simp [Zn,e] at hl2
  refine .inl ⟨e,Zcf (Zab hl2.1).1,Zct R D hd (fun k hk=>hk) fun q g hq hg hin hkd=>?_⟩
  obtain ⟨_,hu3,hl3⟩:=R.node q g hg
  rcases ZiV (Zci hl2.2 hin) with e3 | e3
  ·rw [hkd] at e3
   simp [Zn,e3] at hl3
   obtain ⟨⟨h1,h2⟩,_⟩:=hl3
   obtain ⟨v,hv⟩:=Zcf (Zab h1).2
   have:=ZaR hu3 (x:=v) (by rw [hv];simp)
   exact .inr ⟨e3,Zcf (Zab h1).1,v,hv,this.1,by simpa [num,hv] using h2⟩
  ·rw [hkd] at e3
   simp [Zn,e3] at hl3
   obtain ⟨⟨⟨h1,h2⟩,_⟩,_⟩:=hl3
   match hg2:g.words with
   | []=>rw [hg2] at h1;simp at h1
   | [_]=>rw [hg2] at h1;simp at h1
   | a::b::r=>exact .inl ⟨e3,a,b,r,hg2,by rw [hg2] at h2;simp at h2;omega,by rw [hg2] at h1;simp at h1;omega⟩
 ·rw [hkd] at e
  simp [Zn,e] at hl2
  obtain ⟨⟨h1,h2⟩,h3⟩:=hl2
  obtain ⟨k,hks,a⟩:=Zeu h3
  have hne:d.kids≠[]:=fun q=>by rw [q] at hks;simp at hks
  obtain ⟨l,k',hk'⟩:=ZoQ d.kids hne
  have el:d.kids.take (d.kids.length-1)=l:=by rw [hk'];simp
  have ek:k=k':=by rw [hk'] at hks;simpa using hks.symm
  rw [el] at h2
  subst ek
  refine .inr ⟨e,Zcf (Zab h1).1,l,k,hk',Zct R D hd (fun y hy=>by rw [hk'];simp [hy]) fun q g hq hg hin hkd=>?_,Zct R D hd (fun y hy=>by rw [hk',List.mem_singleton.1 hy];simp) fun q g hq hg hin hkd=>?_⟩
  ·have g5:g.kind=5:=by rw [<- hkd];exact ZbF (Zci h2 hin)
   obtain ⟨_,hu3,hl3⟩:=R.node q g hg
   simp [Zn,g5] at hl3
   rcases hl3 with h | ⟨h,hc⟩
   ·exact .inl (Zcf (Zab h.1).1)
   ·obtain ⟨p,q',r,hn⟩:=ZhW (Zab h).2
    have np:=ZaR hu3 (x:=p) (by rw [hn];simp)
    have nq:=ZaR hu3 (x:=q') (by rw [hn];simp)
    have nr:=ZaR hu3 (x:=r) (by rw [hn];simp)
    unfold ZcK at hc
    simp at hc
    obtain ⟨⟨⟨h4,_⟩,h5⟩,_⟩:=hc
    refine .inr ⟨Zfh (Zab h).1,⟨p,q',r,hn,np.1,by simpa [num,hn] using h4,nq,nr⟩,Zct R D hg (fun k hk=>hk) fun q2 g2 hq2 hg2 hin2 hkd2=>Zfi R hg2 (by rw [<- hkd2];exact ZbF (Zci h5 hin2))⟩
  ·have g7:g.kind=7:=by rw [<- hkd,List.mem_singleton.1 hin];exact ZbF a
   obtain ⟨_,_,hl3⟩:=R.node q g hg
   simp [Zn,g7] at hl3
   exact Zct R D hg (fun k hk=>hk) fun q2 g2 hq2 hg2 hin2 hkd2=>Zkj R D 24 q2 g2 hg2 (by omega) (by rw [<- hkd2];exact Zci hl3.2 hin2)
end
section
open Go.RowKit
mutual
def Zgv (ms:List Nd):Tr->Nat->Prop
 | .mk k ws us _ ks,a=>∃ x:Nd,ms[a]? = some x/\x.kind=k/\x.words=ws/\x.nums=us/\ZeQ ms ks x.kids
def ZeQ (ms:List Nd):List Tr->List Int->Prop
 | [],c=>c=[]
 | t::r,c=>∃ (b:Nat) (c':List Int),c=(b:Int)::c'/\Zgv ms t b/\ZeQ ms r c'
end
theorem Zk4 (ts:List Tr) (a:Nat) (out:List Nd):out.length<=(ZcE ts a out).length:=by rw [ZhB];omega
theorem ZrB (t:Tr) (out:List Nd):out.length<=(Zcj t out).length:=by rw [Zd1];omega
mutual
theorem ZjS:∀ (t:Tr) (out ms:List Nd),(∀ j,out.length<=j->j<(Zcj t out).length->ms[j]? = (Zcj t out)[j]?)->Zgv ms t out.length
 | .mk k ws us p ks,out,ms,h=>by
  rw [Zcj] at h
  have hx:(out++[(⟨k,ws,us,[],p⟩:Nd)])[out.length]? = some ⟨k,ws,us,[],p⟩:=by simp
  obtain ⟨cs,h1,h2⟩:=ZiZ ks out.length (out++[⟨k,ws,us,[],p⟩]) _ hx
  have hl:=Zk4 ks out.length (out++[⟨k,ws,us,[],p⟩])
  rw [List.length_append,List.length_singleton] at hl
  rw [Zgv]
  refine ⟨_,(h out.length (Nat.le_refl _) (by omega)).trans h1,rfl,rfl,rfl,?_⟩
  dsimp only
  rw [List.nil_append]
  exact h2 ms fun j j1 j2=>h j (by rw [List.length_append,List.length_singleton] at j1;omega) j2
theorem ZiZ:∀ (ts:List Tr) (a:Nat) (out:List Nd) (x:Nd),out[a]? = some x->∃ cs:List Int,(ZcE ts a out)[a]? = some ⟨x.kind,x.words,x.nums,x.kids++cs,x.pos⟩/\∀ ms:List Nd,(∀ j,out.length<=j->j<(ZcE ts a out).length->ms[j]? = (ZcE ts a out)[j]?)->ZeQ ms ts cs
 | [],a,out,x,hx=>⟨[],by rw [ZcE,hx,List.append_nil],fun ms _=>by rw [ZeQ]⟩
 | t::r,a,out,x,hx=>by
  have ha:=(List.getElem?_eq_some_iff.1 hx).1
  have e1:(Zcj t (Zet out a (out.length:Int)))[a]? = some ⟨x.kind,x.words,x.nums,x.kids++[(out.length:Int)],x.pos⟩:=by
   rw [ZhA t _ a (by rw [ZdF];exact ha),Zmi hx]
  obtain ⟨cs,h1,h2⟩:=ZiZ r a _ _ e1
  have hg:=ZrB t (Zet out a (out.length:Int))
  have hg2:=Zk4 r a (Zcj t (Zet out a (out.length:Int)))
  rw [ZdF] at hg
  refine ⟨(out.length:Int)::cs,by rw [ZcE,h1];simp,fun ms hms=>?_⟩
  rw [ZcE] at hms
  rw [ZeQ]
  refine ⟨out.length,cs,rfl,?_,h2 ms fun j j1 j2=>hms j (by omega) j2⟩
  have:=ZjS t (Zet out a (out.length:Int)) ms fun j j1 j2=>by
   rw [ZdF] at j1
   rw [hms j j1 (by omega),Zg1 r a _ j j2 (by omega)]
  rw [ZdF] at this
  exact this
end
theorem Zk1 (t:Tr):Zgv (Zcj t []) t 0:=ZjS t [] _ fun _ _ _=>rfl
theorem Zk2 (ms:List Nd):∀ (ts:List Tr) (cs:List Int),ZeQ ms ts cs->cs.length=ts.length/\∀ (q:Nat) (t:Tr) (c:Int),ts[q]? = some t->cs[q]? = some c->∃ b:Nat,c=b/\Zgv ms t b
 | [],cs,h=>by
  rw [ZeQ] at h
  subst h
  exact ⟨rfl,fun q t c h=>by simp at h⟩
 | t::r,cs,h=>by
  rw [ZeQ] at h
  obtain ⟨b,c',rfl,h1,h2⟩:=h
  obtain ⟨i1,i2⟩:=Zk2 ms r c' h2
  refine ⟨by simp [i1],fun q u c hu hc=>?_⟩
  cases q with
  | zero=>
   injection hu with hu
   injection hc with hc
   subst hu hc
   exact ⟨b,rfl,h1⟩
  | succ q=>exact i2 q u c hu hc
def ZiC (ns ms:List Nd):Nat->Int->Int->Prop
 | 0,_,_=>False
 | f+1,i,k=>∃ (a b:Nat) (x y:Nd),i=a/\k=b/\ns[a]? = some x/\ms[b]? = some y/\x.kind=y.kind/\x.words=y.words/\x.nums=y.nums/\x.kids.length=y.kids.length ∧
   ∀ (q:Nat) (c e:Int),x.kids[q]? = some c->y.kids[q]? = some e->ZiC ns ms f c e
theorem ZmE {ns ms:List Nd} (R:RightP ns):∀ (f a:Nat) (n:Nd) (t:Tr) (b:Nat),ns[a]? = some n->Zt ns f n t->Zgv ms t b->ZiC ns ms f a b
 | 0,_,_,_,_,_,h,_=>h.elim
 | f+1,a,n,.mk k w u p ks,b,hn,h,hl=>by
  rw [Zt] at h
  rw [Zgv] at hl
  obtain ⟨h1,h2,h3,h4,h5⟩:=h
  obtain ⟨y,e1,e2,e3,e4,e5⟩:=hl
  obtain ⟨l1,l2⟩:=Zk2 ms ks y.kids e5
  rw [ZiC]
  refine ⟨a,b,n,y,rfl,rfl,hn,e1,by rw [e2,h1],by rw [e3,h2],by rw [e4,h3],by rw [l1,h4],fun q c e hc he=>?_⟩
  have hq:q<ks.length:=by rw [<- l1];exact (List.getElem?_eq_some_iff.1 he).1
  have ht:ks[q]? = some ks[q]:=List.getElem?_eq_getElem hq
  obtain ⟨b',rfl,hb⟩:=l2 q _ e ht he
  obtain ⟨m,d,rfl,_,_,hd,ed,_⟩:=Zf8 R hn (List.mem_of_getElem? hc)
  have hs:=h5 q _ _ ht hc
  rw [ed] at hs
  exact ZmE R f m d _ b' hd hs hb
theorem ZmV {ns:List Nd} {f:Nat}:∀ (ks:List Tr) (cs:List Int),ks.length=cs.length->(∀ (i:Nat) (t:Tr) (c:Int),ks[i]? = some t->cs[i]? = some c->szT t<=(Zd4 ns f c).length)->Zaq ks<=(cs.flatMap (Zd4 ns f)).length
 | [],cs,_,_=>by rw [Zaq];exact Nat.zero_le _
 | t::r,[],h,_=>by simp at h
 | t::r,c::cs,h,g=>by
  have i1:=ZmV (ns:=ns) (f:=f) r cs (by simpa using h) fun i t c ht hc=>g (i+1) t c ht hc
  have i2:=g 0 t c rfl rfl
  rw [Zaq,List.flatMap_cons,List.length_append]
  omega
theorem ZpE {ns:List Nd} (R:RightP ns):∀ (f a:Nat) (n:Nd) (t:Tr),ns[a]? = some n->Zt ns (f+1) n t->szT t<=(Zd4 ns f (a:Int)).length
 | 0,a,n,.mk k w u p ks,hn,h=>by
  rw [Zt] at h
  obtain ⟨_,_,_,h4,h5⟩:=h
  cases ks with
  | nil=>rw [szT,Zaq,Zd4];exact Nat.le_refl _
  | cons t r=>
   cases hc:n.kids with
   | nil=>rw [hc] at h4;simp at h4
   | cons c cs=>exact (h5 0 t c rfl (by rw [hc];rfl)).elim
 | f+1,a,n,.mk k w u p ks,hn,h=>by
  rw [Zt] at h
  obtain ⟨_,_,_,h4,h5⟩:=h
  rw [szT,Zd4,Zb2 hn,List.length_cons]
  have:=ZmV (ns:=ns) (f:=f) ks n.kids h4 fun i t c ht hc=>by
   obtain ⟨m,d,rfl,_,_,hd,ed,_⟩:=Zf8 R hn (List.mem_of_getElem? hc)
   have hs:=h5 i t _ ht hc
   rw [ed] at hs
   exact ZpE R f m d t hd hs
  omega
theorem Zh3:∀ (ks:List Tr) (a:Int),(∀ t∈ks,ZbK t a=-1)->ZdQ ks a=-1
 | [],a,_=>by rw [ZdQ]
 | t::r,a,h=>by
  rw [ZdQ,if_neg (by rw [h t List.mem_cons_self];decide)]
  exact Zh3 r a fun u hu=>h u (List.mem_cons_of_mem _ hu)
theorem ZiH {ns:List Nd} {dep:Nat->Nat} (R:RightP ns) (D:DepP ns dep):∀ (f a:Nat) (n:Nd) (t:Tr),ns[a]? = some n->Zt ns f n t->ZbK t (dep a:Nat)=-1
 | 0,_,_,_,_,h=>h.elim
 | f+1,a,n,.mk k w u p ks,hn,h=>by
  rw [Zt] at h
  obtain ⟨_,_,_,h4,h5⟩:=h
  have:=D.top a (List.getElem?_eq_some_iff.1 hn).1
  rw [ZbK,if_neg (by omega)]
  refine Zh3 ks _ fun t ht=>?_
  obtain ⟨i,hi⟩:=List.mem_iff_getElem?.1 ht
  have hlt:=(List.getElem?_eq_some_iff.1 hi).1
  obtain ⟨c,hc⟩:∃ c,n.kids[i]? = some c:=⟨_,List.getElem?_eq_getElem (by rw [<- h4];exact hlt)⟩
  obtain ⟨m,d,rfl,_,_,hd,ed,_⟩:=Zf8 R hn (List.mem_of_getElem? hc)
  have hs:=h5 i t _ hi hc
  rw [ed] at hs
  have e:=ZiH R D f m d t hd hs
  rw [D.kid a n hn m (List.mem_of_getElem? hc)] at e
  rw [<- e]
  congr 1
end
section
theorem Zlt {ns:List Nd} (R:RightP ns):∀ (f g i:Nat) (n:Nd),ns[i]? = some n->Zbk ns f n->f<=g->ZL ns g n=ZL ns f n
 | 0,_,_,_,_,h,_=>h.elim
 | _+1,0,_,_,_,_,hg=>absurd hg (by omega)
 | f+1,g+1,i,n,hn,h,hg=>by
  have E:∀ k∈n.kids,ZP ns f (Za ns k)->ZS ns g (Za ns k)=ZS ns f (Za ns k):=fun k hk hE=>by
   obtain ⟨j,hj⟩:=ZaB R hn hk
   exact ZkO R f g j _ hj hE (by omega)
  have blk:∀ (m:Nd) (j:Nat),ns[j]? = some m->Zck ns (fun x=>Zbk ns f x) m->(m.kids.map fun c=>ZL ns g (Za ns c))=m.kids.map fun c=>ZL ns f (Za ns c):=fun m j hj hB=>List.map_congr_left fun c hc=>by
   obtain ⟨j',hj'⟩:=ZaB R hj hc
   exact Zlt R f g j' _ hj' (hB c hc).2.2 (by omega)
  have B:∀ k∈n.kids,Zck ns (fun x=>Zbk ns f x) (Za ns k)->((Za ns k).kids.map fun c=>ZL ns g (Za ns c))=(Za ns k).kids.map fun c=>ZL ns f (Za ns c):=fun k hk hB=>by
   obtain ⟨j,hj⟩:=ZaB R hn hk
   exact blk _ j hj hB
  rcases h with ⟨hk,-,k,hks,hE⟩ | ⟨hk,-,-,hB⟩ | ⟨hk,-,hC⟩ | ⟨hk,-,-,l,k,hks,-,hB⟩ | ⟨hk,-,hA⟩ | ⟨hk,k,r,hks,-,hE,hB⟩ | ⟨hk,j,k,hks,hE,hB⟩ | ⟨hk,k,hks,hE⟩ | hk
  ·have e2:Zw ns n 0=Za ns k:=Za2 (by rw [hks];rfl)
   have e:=E k (by rw [hks];simp) (hE k (by simp)).2.2
   rcases hk with hk | hk
   ·rw [ks8 hk,ks8 hk,e2,e]
   ·rw [ks9 hk,ks9 hk,e2,e]
  ·rw [Zns hk,Zns hk,List.map_congr_left fun c hc=>by rw [B c hc (hB c hc).2.2]]
  ·have e:(n.kids.map fun k=>[((0:Nat),word (Za ns k) 0)]++Zaw ((Zw ns (Za ns k) 0).kids.map fun k=>ZL ns g (Za ns k)))=n.kids.map fun k=>[((0:Nat),word (Za ns k) 0)]++Zaw ((Zw ns (Za ns k) 0).kids.map fun k=>ZL ns f (Za ns k)):=List.map_congr_left fun c hc=>by
    obtain ⟨j,hj⟩:=ZaB R hn hc
    obtain ⟨-,k,hk1,hB⟩:=(hC c hc).2.2
    have e2:Zw ns (Za ns c) 0=Za ns k:=Za2 (by rw [hk1];rfl)
    obtain ⟨j2,hj2⟩:=ZaB R hj (k:=k) (by rw [hk1];simp)
    rw [e2,blk _ j2 hj2 (hB k (by simp)).2.2]
   rw [ZkY hk,ZkY hk,e]
  ·have hkid:Zw ns n (n.kids.length-1)=Za ns k:=Za2 (by rw [hks];simp)
   rw [Znt hk,Znt hk,hkid,B k (by rw [hks];simp) (hB k (by simp)).2.2]
  ·have e:(n.kids.map fun k=>Zeg ns g (Za ns k))=n.kids.map fun k=>Zeg ns f (Za ns k):=List.map_congr_left fun c hc=>by
    rcases (hA c hc).2.2 with ⟨h15,-⟩ | ⟨h15,hE⟩
    ·simp [Zeg,h15]
    ·simp [Zeg,h15,E c hc hE]
   rw [ZkZ hk,ZkZ hk,e]
  ·have e2:Zw ns n 0=Za ns k:=Za2 (by rw [hks];rfl)
   have e:((n.kids.drop 1).map fun k=>Zaw ((Za ns k).kids.map fun k=>ZL ns g (Za ns k)))=(n.kids.drop 1).map fun k=>Zaw ((Za ns k).kids.map fun k=>ZL ns f (Za ns k)):=List.map_congr_left fun c hc=>by
    rw [B c (List.mem_of_mem_drop hc) (hB c (by rw [hks] at hc;simpa using hc)).2.2]
   rw [Zk0 hk,Zk0 hk,e2,e,E k (by rw [hks];simp) (hE k (by simp)).2.2]
  ·have e2:Zw ns n 0=Za ns j:=Za2 (by rw [hks];rfl)
   have e3:Zw ns n 1=Za ns k:=Za2 (by rw [hks];rfl)
   rw [Zqi hk,Zqi hk,e2,e3,E j (by rw [hks];simp) (hE j (by simp)).2.2,B k (by rw [hks];simp) (hB k (by simp)).2.2]
  ·have e2:Zw ns n 0=Za ns k:=Za2 (by rw [hks];rfl)
   rw [Zqj hk,Zqj hk,e2,E k (by rw [hks];simp) (hE k (by simp)).2.2]
  ·rw [Zqk hk,Zqk hk]
theorem ZkU {ns:List Nd} (R:RightP ns) {f g i:Nat} {n:Nd} (hn:ns[i]? = some n) (h:Zfn ns f n) (hg:f<=g):ZcD ns g n=ZcD ns f n:=by
 rcases h with ⟨hk,-⟩ | ⟨hk,-,l,k,hks,-,hB⟩
 ·simp [ZcD,hk]
 ·have hkid:Zw ns n (n.kids.length-1)=Za ns k:=Za2 (by rw [hks];simp)
  obtain ⟨j,hj⟩:=ZaB R hn (k:=k) (by rw [hks];simp)
  have e:((Za ns k).kids.map fun c=>ZL ns g (Za ns c))=(Za ns k).kids.map fun c=>ZL ns f (Za ns c):=List.map_congr_left fun c hc=>by
   obtain ⟨j',hj'⟩:=ZaB R hj hc
   exact Zlt R f g j' _ hj' ((hB k (by simp)).2.2 c hc).2.2 hg
  unfold ZcD
  rw [hkid,e]
end
section
open Go.RowKit
theorem Zn4 {ns:List Nd} (hr:Zcw ns=true) (hlen:(ZbG ns).length<=6000):∃ t:Tr,ZdR (ZbG ns)=(Zcj t [],0,0)/\Zt ns 76 (Za ns 0) t:=by
 have R:=Zey hr
 obtain ⟨dep,D⟩:=Zph hr
 have hI:=ZoJ R D
 have h0:ns[0]? = some (Za ns 0):=by
  have h0:ns[0]? = some (ns[0]'R.some_):=List.getElem?_eq_getElem R.some_
  rw [h0,<- Zb2 (k:=0) h0]
  rfl
 have eK:Zn3 ns=((Za ns 0).kids.map fun c=>ZcD ns 24 (Za ns c)).flatten:=by
  unfold Zn3
  congr 1
  refine List.map_congr_left fun c hc=>?_
  obtain ⟨j,hj⟩:=ZaB R h0 hc
  rcases Nat.le_total ns.length 24 with h | h
  ·exact (ZkU R hj (ZfJ R c hc).2.2 h).symm
  ·exact ZkU R hj (hI c hc).2.2 h
 obtain ⟨us,e1,e2⟩:=Zpw hr
 obtain ⟨L,hL⟩:∃ L:List Tok,L=us++[(3,[],(ZbG ns).length)]:=⟨_,rfl⟩
 have eL:L.map kt=((Za ns 0).kids.map fun c=>ZcD ns 24 (Za ns c)).flatten++[(3,[])]:=by
  rw [hL,List.map_append,e1,eK]
  rfl
 obtain ⟨ts,p1,p2⟩:=ZnN R (f:=24) (by decide) (fun c hc=>(hI c hc).2.2) eL
 have res:Zes (ZbG ns)=(L,0,0):=by rw [hL];exact ZhJ hlen e2
 have er:(Zda L).2.err=0:=by rw [p1];rfl
 have hz:(Za ns 0).kind=0:=R.root
 have hl:=(R.node 0 _ h0).2.2
 have el:Zn ns (Za ns 0)=(ZF (Za ns 0) 0 0&&ZbM ns (Za ns 0).kids (isB [1,4])):=by simp [Zn,hz]
 rw [el,Bool.and_eq_true] at hl
 obtain ⟨w0,u0⟩:=ZaL hl.1
 have shape:Zt ns 76 (Za ns 0) (Zdh L):=by
  show Zt ns 76 (Za ns 0) (.mk 0 [] [] (Ze L s07) (Zda L).1)
  rw [p1,Zt]
  exact ⟨hz.symm,(List.length_eq_zero_iff.1 w0).symm,(List.length_eq_zero_iff.1 u0).symm,p2.1,fun i t c ht hc=>p2.2 i t c ht hc⟩
 have sz:¬ 1500<(Zcj (Zdh L) []).length:=by
  have h1:=ZpE R 75 0 _ _ h0 shape
  rw [Zd1,List.length_nil,Nat.zero_add]
  have hp:∃ p,Zcg ns=some p:=by
   cases hp:Zcg ns with
   | none=>rw [ZdT hp] at hr;cases hr
   | some p=>exact ⟨p,rfl⟩
  obtain ⟨p,hp⟩:=hp
  have h2:=ZmI (ZfL hp) 75 0 R.some_
  have:=R.len
  omega
 have dp:¬ 0<=ZbK (Zdh L) 1:=by
  have e:=ZiH R D 76 0 _ _ h0 shape
  rw [D.root] at e
  rw [show (1:Int)=((1:Nat):Int) from rfl,e]
  decide
 refine ⟨Zdh L,?_,shape⟩
 unfold ZdR
 rw [res]
 dsimp only
 rw [if_neg (by simp),if_neg (by simp [er]),if_neg sz,if_neg dp]
end
end Go.Proofs.YtkongcicmajolaaGreatDoor
