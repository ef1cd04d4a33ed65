import Derived.Test.YtenbomphkihmlaaGreatDoorQAB
import Derived.Test.YtenbomphkihmlaaGreatDoorQAG
import Derived.Test.YtenbomphkihmlaaGreatDoorQAH
import Derived.Test.YtenbomphkihmlaaGreatDoorQAI
import Derived.Test.YtenbomphkihmlaaGreatDoorQAJ
import Derived.Test.YtenbomphkihmlaaGreatDoorQAK
import Derived.Test.YtenbomphkihmlaaGreatDoorQAL
import Derived.Test.YtenbomphkihmlaaGreatDoorQAM
import Derived.Test.YtenbomphkihmlaaGreatDoorQAN
import Derived.Test.YtenbomphkihmlaaGreatDoorQAO
import Derived.Test.YtenbomphkihmlaaGreatDoorQAR
set_option maxRecDepth 100000
set_option maxHeartbeats 8000000
namespace Go.Proofs.YtenbomphkihmlaaGreatDoor
section
open Go.RowKit
theorem Za9 (p:List Int) (m:Nat):atI p (m:Int)=(p[m]?).getD (-1):=by unfold atI;rw [Int.toNat_natCast]
theorem Zb9 {p:List Int} {j m:Nat} (a:Int) (h:j≠m):atI (p.set j a) (m:Int)=atI p m:=by
 rw [Za9,Za9,List.getElem?_set_ne h]
theorem ZhF {p:List Int} {m:Nat} (a:Int) (h:m<p.length):atI (p.set m a) (m:Int)=a:=by
 rw [Za9,List.getElem?_set_self h];rfl
theorem Zea (n a:Nat):∀ (x:List Int) (p q:List Int),p.length=n->ZaD n a x p=some q ->
  (∀ m:Nat,0<=atI p m->atI q m=atI p m)/\(∀ k∈x,atI p k<0/\atI q k=a)/\x.Nodup/\(∀ m:Nat,(m:Int) ∉ x->atI q m=atI p m)
 | [],p,q,hn,h=>by
  rw [ZaD] at h
  injection h with h
  subst h
  exact ⟨fun _ _=>rfl,(fun k hk=>absurd hk List.not_mem_nil),List.nodup_nil,fun _ _=>rfl⟩
 | k::r,p,q,hn,h=>by
  rw [ZaD] at h
  split at h
  ·cases h
  ·rename_i hb
   obtain ⟨m,rfl⟩:∃ m:Nat,k=m:=⟨k.toNat,by omega⟩
   rw [Int.toNat_natCast] at h
   have hm:m<p.length:=by omega
   obtain ⟨i1,i2,i3,i4⟩:=Zea n a r (p.set m a) q (by rw [List.length_set];exact hn) h
   have ea:atI (p.set m a) (m:Int)=a:=ZhF _ hm
   have eq:atI q (m:Int)=a:=by rw [i1 m (by rw [ea];omega),ea]
   have nr:(m:Int) ∉ r:=fun hr=>by have:=(i2 _ hr).1;rw [ea] at this;omega
   have hin:=Zc1 n a _ _ _ h
   refine ⟨fun j hj=>?_,fun y hy=>?_,List.nodup_cons.mpr ⟨nr,i3⟩,fun j hj=>?_⟩
   ·have ne:m≠j:=fun e=>by subst e;omega
    rw [i1 j (by rw [Zb9 _ ne];exact hj),Zb9 _ ne]
   ·rcases List.mem_cons.mp hy with e | e
    ·subst e
     exact ⟨by omega,eq⟩
    ·obtain ⟨y',rfl⟩:∃ y':Nat,y=y':=⟨y.toNat,by have:=hin y e;omega⟩
     have:=i2 _ e
     refine ⟨?_,this.2⟩
     have ne:m≠y':=fun e'=>nr (by rw [e'];exact e)
     rw [Zb9 _ ne] at this
     exact this.1
   ·have ne:m≠j:=fun e=>hj (by rw [e];exact List.mem_cons_self)
    rw [i4 j (fun e=>hj (List.mem_cons_of_mem _ e)),Zb9 _ ne]
structure Links (ns:List Nd) (j:Nat) (p:List Int):Prop where
 len:p.length=ns.length
 of:∀ (i:Nat) (d:Nd),i<j->ns[i]? = some d->d.kids.Nodup/\∀ k∈d.kids,(i:Int)<k/\k<(ns.length:Int)/\atI p k=i
 at_:∀ m:Nat,0<=atI p m->∃ (i:Nat) (d:Nd),i<j/\ns[i]? = some d/\atI p m=i/\(m:Int)∈d.kids
 each:∀ m:Nat,0<m->m<j->0<=atI p m
theorem Zco (ns:List Nd):∀ (j:Nat) (p:List Int),j<=ns.length->ZaO ns j=some p->Links ns j p
 | 0,p,hj,h=>by
  rw [ZaO] at h
  injection h with h
  subst h
  refine ⟨List.length_replicate,fun i d hi=>absurd hi (Nat.not_lt_zero _),fun m hm=>?_,fun m _ h=>absurd h (Nat.not_lt_zero _)⟩
  rw [Za9,List.getElem?_replicate] at hm
  split at hm<;>simp at hm
 | j+1,p,hj,h=>by
  rw [ZaO] at h
  cases hq:ZaO ns j with
  | none=>rw [hq] at h;cases h
  | some q=>
   rw [hq,Option.bind_some] at h
   have L:=Zco ns j q (by omega) hq
   split at h
   ·cases h
   ·rename_i hz
    obtain ⟨d,hd⟩:∃ d,ns[j]? = some d:=⟨_,List.getElem?_eq_getElem (by omega)⟩
    rw [Zah hd] at h
    obtain ⟨i1,i2,i3,i4⟩:=Zea _ _ _ _ _ L.len h
    have hin:=Zc1 _ _ _ _ _ h
    refine ⟨(ZcB _ _ _ _ _ h).trans L.len,fun i e hi he=>?_,fun m hm=>?_,fun m h0 h1=>?_⟩
    ·by_cases e':i=j
     ·subst e'
      obtain rfl:d=e:=Option.some.inj (hd.symm.trans he)
      exact ⟨i3,fun k hk=>⟨(hin k hk).1,(hin k hk).2,(i2 k hk).2⟩⟩
     ·obtain ⟨a,b⟩:=L.of i e (by omega) he
      refine ⟨a,fun k hk=>?_⟩
      obtain ⟨b1,b2,b3⟩:=b k hk
      obtain ⟨k',rfl⟩:∃ k':Nat,k=k':=⟨k.toNat,by omega⟩
      exact ⟨b1,b2,by rw [i1 k' (by omega)];exact b3⟩
    ·by_cases e':(m:Int)∈d.kids
     ·exact ⟨j,d,by omega,hd,(i2 _ e').2,e'⟩
     ·rw [i4 m e'] at hm ⊢
      obtain ⟨i,d',a,b,c⟩:=L.at_ m hm
      exact ⟨i,d',by omega,b,c⟩
    ·by_cases e':m=j
     ·have:0<=atI q (j:Int):=by omega
      rw [e',i1 j this]
      exact this
     ·have:=L.each m h0 (by omega)
      rw [i1 m this]
      exact this
theorem ZbE {ns:List Nd} {p:List Int} (h:ZaL ns=some p):Links ns ns.length p:=by
 unfold ZaL at h
 split at h
 ·cases h
 ·exact Zco ns _ p (Nat.le_refl _) h
def up (p:List Int):Nat->Int->Int
 | 0,x=>x
 | j+1,x=>up p j (atI p x)
theorem Zf2 (p:List Int):∀ (a b:Nat) (x:Int),up p (a+b) x=up p b (up p a x)
 | 0,b,x=>by rw [Nat.zero_add];rfl
 | a+1,b,x=>by rw [show a+1+b=(a+b)+1 by omega];exact Zf2 p a b (atI p x)
section
variable {ns:List Nd} {p:List Int}
theorem ZbP (L:Links ns ns.length p) {i:Nat} {d:Nd} (hd:ns[i]? = some d) {k:Int} (hk:k∈d.kids):(i:Int)<k/\k<(ns.length:Int)/\atI p k=i:=
 (L.of i d (List.getElem?_eq_some_iff.mp hd).1 hd).2 k hk
theorem Zds (L:Links ns ns.length p):∀ (d k:Nat),k<ns.length->∀ x∈Zcd ns d (k:Int),(k:Int)<=x/\x<(ns.length:Int)/\∃ j,up p j x=(k:Int)
 | 0,k,hk,x,hx=>by
  rw [Zcd] at hx
  obtain rfl:x=k:=by simpa using hx
  exact ⟨Int.le_refl _,by omega,0,rfl⟩
 | d+1,k,hk,x,hx=>by
  rw [Zcd] at hx
  rcases List.mem_cons.mp hx with e | e
  ·subst e
   exact ⟨Int.le_refl _,by omega,0,rfl⟩
  ·obtain ⟨c,hc,hx⟩:=List.mem_flatMap.mp e
   have hd:ns[k]? = some ns[k]:=List.getElem?_eq_getElem hk
   rw [Zah hd] at hc
   obtain ⟨b1,b2,b3⟩:=ZbP L hd hc
   obtain ⟨c',rfl⟩:∃ c':Nat,c=c':=⟨c.toNat,by omega⟩
   obtain ⟨a1,a2,j,a3⟩:=Zds L d c' (by omega) x hx
   refine ⟨by omega,a2,j+1,?_⟩
   rw [Zf2,a3]
   exact b3
theorem ZfI (L:Links ns ns.length p) {m:Nat} (h:0<=atI p m):atI p m<(m:Int):=by
 obtain ⟨i,d,hi,hd,e,hm⟩:=L.at_ m h
 have:=ZbP L hd hm
 omega
theorem Zjw (L:Links ns ns.length p):∀ (j:Nat) (x:Nat),0<=up p j x->up p j x<=(x:Int)
 | 0,x,h=>Int.le_refl _
 | j+1,x,h=>by
  show up p j (atI p x)<=(x:Int)
  by_cases hx:0<=atI p x
  ·obtain ⟨y,hy⟩:∃ y:Nat,atI p x=y:=⟨(atI p x).toNat,by omega⟩
   have l1:=ZfI L hx
   have h':0<=up p j (atI p x):=h
   rw [hy] at h' l1 ⊢
   have:=Zjw L j y h'
   omega
  ·exact absurd h (by
    show ¬ 0<=up p j (atI p x)
    exact up_neg L j _ (by omega))
where
 up_neg (L:Links ns ns.length p):∀ (j:Nat) (x:Int),x<0->¬ 0<=up p j x
  | 0,x,h=>by show ¬ 0<=x;omega
  | j+1,x,h=>by
   show ¬ 0<=up p j (atI p x)
   have e:atI p x=atI p ((0:Nat):Int):=by unfold atI;rw [show x.toNat=0 by omega];rfl
   have:atI p ((0:Nat):Int)<0:=Int.not_le.mp fun q=>by
    have:=ZfI L q
    omega
   exact up_neg L j _ (by omega)
theorem ZgY (L:Links ns ns.length p) {i:Nat} {d:Nd} (hd:ns[i]? = some d) {c1 c2:Int} (h1:c1∈d.kids) (h2:c2∈d.kids) {x:Int} {j1 j2:Nat} (u1:up p j1 x=c1) (u2:up p j2 x=c2):c1=c2:=by
 have one:∀ (c1 c2:Int) (j1 j2:Nat),c1∈d.kids->c2∈d.kids->up p j1 x=c1->up p j2 x=c2->j1<j2->False:=fun c1 c2 j1 j2 h1 h2 u1 u2 hlt=>by
  obtain ⟨m,rfl⟩:∃ m,j2=j1+(m+1):=⟨j2-j1-1,by omega⟩
  obtain ⟨a1,_,a3⟩:=ZbP L hd h1
  obtain ⟨b1,_,b3⟩:=ZbP L hd h2
  rw [Zf2,u1] at u2
  have u2:up p m (atI p c1)=c2:=u2
  rw [a3] at u2
  have:=Zjw L m i (by omega)
  omega
 rcases Nat.lt_trichotomy j1 j2 with h | h | h
 ·exact (one _ _ _ _ h1 h2 u1 u2 h).elim
 ·subst h
  exact u1.symm.trans u2
 ·exact (one _ _ _ _ h2 h1 u2 u1 h).elim
theorem ZeV (L:Links ns ns.length p):∀ (d k:Nat),k<ns.length->(Zcd ns d (k:Int)).Nodup
 | 0,k,hk=>by rw [Zcd];exact List.nodup_cons.mpr ⟨by simp,List.nodup_nil⟩
 | d+1,k,hk=>by
  rw [Zcd]
  have hd:ns[k]? = some ns[k]:=List.getElem?_eq_getElem hk
  rw [Zah hd]
  have nat:∀ c∈ns[k].kids,∃ c':Nat,c=c'/\c'<ns.length/\(k:Int)<c:=fun c hc=>by
   have:=ZbP L hd hc
   exact ⟨c.toNat,by omega,by omega,by omega⟩
  refine List.nodup_cons.mpr ⟨fun hx=>?_,?_⟩
  ·obtain ⟨c,hc,hx⟩:=List.mem_flatMap.mp hx
   obtain ⟨c',rfl,h1,h2⟩:=nat c hc
   have:=(Zds L d c' h1 _ hx).1
   omega
  ·refine List.pairwise_flatMap.mpr ⟨fun c hc=>?_,?_⟩
   ·obtain ⟨c',rfl,h1,h2⟩:=nat c hc
    exact ZeV L d c' h1
   ·refine List.Pairwise.imp_of_mem (R:=fun a b=>a≠b) (fun {a b} ha hb hne x hx y hy e=>hne ?_) (L.of k _ hk hd).1
    obtain ⟨a',rfl,h1,_⟩:=nat a ha
    obtain ⟨b',rfl,h2,_⟩:=nat b hb
    subst e
    obtain ⟨_,_,j1,u1⟩:=Zds L d a' h1 x hx
    obtain ⟨_,_,j2,u2⟩:=Zds L d b' h2 x hy
    exact ZgY L hd ha hb u1 u2
theorem ZjP (L:Links ns ns.length p) (d k:Nat) (hk:k<ns.length):(Zcd ns d (k:Int)).length<=ns.length:=by
 have:=List.Nodup.length_le_of_subset (l₂:=(List.range ns.length).map (fun i:Nat=>(i:Int))) (ZeV L d k hk) (fun x hx=>by
  obtain ⟨a,b,_⟩:=Zds L d k hk x hx
  exact List.mem_map.mpr ⟨x.toNat,List.mem_range.mpr (by omega),by omega⟩)
 simpa using this
end
end
section
open Go.RowKit
theorem Zg0 (w:World) (v:Value) (ns:List Nd) (x:NdV×Nd) (hN:Zf w v ns) (hx:Zv w x) (hk:Zz x.2.kids ns.length) :
  Calls Tryz.prog 41 #[v,ndV x] w fun e w'=>e=.returned (.bool (Zl ns x.2))/\Below w.heap.size w w':=by
 obtain ⟨⟨va,vb,vc⟩,kd,ws,nums,ks,ps⟩:=x
 by_cases q0:kd=0
 ·subst q0
  exact Zez w v ns va vb vc ws nums ks ps hN hx hk
 by_cases q1:kd=1
 ·subst q1
  exact ZfD w v ns va vb vc ws nums ks ps hN hx hk
 by_cases q2:kd=2
 ·subst q2
  exact ZfF w v ns va vb vc ws nums ks ps hN hx hk
 by_cases q3:kd=3
 ·subst q3
  exact Zh8 w v ns va vb vc ws nums ks ps hN hx hk
 by_cases q4:kd=4
 ·subst q4
  exact Zh6 w v ns va vb vc ws nums ks ps hN hx hk
 by_cases q5:kd=5
 ·subst q5
  exact ZfC w v ns va vb vc ws nums ks ps hN hx hk
 by_cases q6:kd=6
 ·subst q6
  exact ZfA w v ns va vb vc ws nums ks ps hN hx hk
 by_cases q7:kd=7
 ·subst q7
  exact Zfz w v ns va vb vc ws nums ks ps hN hx hk
 by_cases q8:kd=8
 ·subst q8
  exact Zg2 w v ns va vb vc ws nums ks ps hN hx hk
 by_cases q9:kd=9
 ·subst q9
  exact Zg6 w v ns va vb vc ws nums ks ps hN hx hk
 by_cases q10:kd=10
 ·subst q10
  exact Zgb w v ns va vb vc ws nums ks ps hN hx hk
 by_cases q11:kd=11
 ·subst q11
  exact Zh5 w v ns va vb vc ws nums ks ps hN hx hk
 by_cases q12:kd=12
 ·subst q12
  exact Zf9 w v ns va vb vc ws nums ks ps hN hx hk
 by_cases q13:kd=13
 ·subst q13
  exact ZfE w v ns va vb vc ws nums ks ps hN hx hk
 by_cases q14:kd=14
 ·subst q14
  exact Zf8 w v ns va vb vc ws nums ks ps hN hx hk
 by_cases q15:kd=15
 ·subst q15
  exact Zfa w v ns va vb vc ws nums ks ps hN hx hk
 by_cases q16:kd=16
 ·subst q16
  exact Zh7 w v ns va vb vc ws nums ks ps hN hx hk
 by_cases q17:kd=17
 ·subst q17
  exact ZfG w v ns va vb vc ws nums ks ps hN hx hk
 by_cases q18:kd=18
 ·subst q18
  exact Zfb w v ns va vb vc ws nums ks ps hN hx hk
 by_cases q19:kd=19
 ·subst q19
  exact Zga w v ns va vb vc ws nums ks ps hN hx hk
 by_cases q20:kd=20
 ·subst q20
  exact Zg5 w v ns va vb vc ws nums ks ps hN hx hk
 by_cases q21:kd=21
 ·subst q21
  exact Zg7 w v ns va vb vc ws nums ks ps hN hx hk
 by_cases q22:kd=22
 ·subst q22
  exact Zg1 w v ns va vb vc ws nums ks ps hN hx hk
 by_cases q23:kd=23
 ·subst q23
  exact Zg4 w v ns va vb vc ws nums ks ps hN hx hk
 exact ZfB w v ns va vb vc kd ws nums ks ps hN hx hk (by simpa using q0) (by simpa using q1) (by simpa using q2) (by simpa using q3) (by simpa using q4) (by simpa using q5) (by simpa using q6) (by simpa using q7) (by simpa using q8) (by simpa using q9) (by simpa using q10) (by simpa using q11) (by simpa using q12) (by simpa using q13) (by simpa using q14) (by simpa using q15) (by simpa using q16) (by simpa using q17) (by simpa using q18) (by simpa using q19) (by simpa using q20) (by simpa using q21) (by simpa using q22) (by simpa using q23)
theorem ZiH:Zd4:=by
 intro w v ns x ht hN hx hk
 have nm:=ZeQ
 have LI:=Lib.hid (fun (wr:World) (hb:Below w.heap.size w wr)=>Zg0 wr v ns x (hN.below hb) (hx.below hb) hk)
 have NA:=Lib.hid (fun (wr:World) (hb:Below w.heap.size w wr)=>ZeQ wr x.1.1 x.2.words (hx.1.below hb) (ht.below hb))
 have NU:=Lib.hid (fun (wr:World) (hb:Below w.heap.size w wr)=>Zgc wr x.1.2.1 x.2.nums (hx.2.1.below hb))
 unfold Zw
 obtain ⟨h1,h2,h3⟩:=id hx
 obtain ⟨⟨va,vb,vc⟩,kd,ws,nums,ks,ps⟩:=x
 dsimp only at h1 h2 h3 NA NU hk
 obtain ⟨A1,c1,rfl,_⟩:=h1
 obtain ⟨A2,c2,rfl,_⟩:=h2
 obtain ⟨A3,c3,rfl,_⟩:=h3
 unfold ndV at LI ⊢
 dsimp only at LI ⊢
 generalize Zbr ws=X at *
 generalize ZaK nums=Y at *
 generalize Zl ns ⟨kd,ws,nums,ks,ps⟩=Z at *
 have HB:=Lib.hid (Zb w (.cells #[.int .i64 kd,.slice A1 ws.length c1,.slice A2 nums.length c2,.slice A3 ks.length c3,.int .i64 ps] 29))
 clear ht hN hx hk nm
 have g0:=(Blk.start w #[.int .i64 kd,.slice A1 ws.length c1,.slice A2 nums.length c2,.slice A3 ks.length c3,.int .i64 ps] 29).cell 0
 cases X
 ·go_enter Tryz.func24,Tryz.ntmps24
  go_wp2_with (go_at_call 39;(with_reducible refine (NA.out _ HB.out).mono ?_);rintro e6 w6 ⟨rfl,rfl⟩)
  go_ret
  exact ⟨rfl,HB.out⟩
 ·cases Y
  ·go_enter Tryz.func24,Tryz.ntmps24
   go_wp2_with (first
    | (go_at_call 39;(with_reducible refine (NA.out _ HB.out).mono ?_);rintro e6 w6 ⟨rfl,rfl⟩)
    | (go_at_call 40;(with_reducible refine (NU.out _ HB.out).mono ?_);rintro e7 w7 ⟨rfl,rfl⟩))
   go_ret
   exact ⟨rfl,HB.out⟩
  ·go_enter Tryz.func24,Tryz.ntmps24
   go_wp2_with (first
    | (go_at_call 39;(with_reducible refine (NA.out _ HB.out).mono ?_);rintro e6 w6 ⟨rfl,rfl⟩)
    | (go_at_call 40;(with_reducible refine (NU.out _ HB.out).mono ?_);rintro e7 w7 ⟨rfl,rfl⟩)
    | (go_at_call 41;(with_reducible refine (LI.out _ HB.out).mono ?_);rintro e8 w8 ⟨rfl,hb8⟩;have B8:=Lib.hid (HB.out.trans (hb8.mono HB.out.size));clear hb8))
   go_ret
   exact ⟨rfl,B8.out⟩
end
section
open Go.RowKit
theorem Zic (w:World) (rs:List (NdV×Nd)) (ty:TypeId) (hm:rs.length<=maxLen) (h:∀ x∈rs,Zv (w.alloc (.cells (ZL rs).toArray ty)) x) :
  Zf (w.alloc (.cells (ZL rs).toArray ty)) (.slice (some ⟨w.heap.size,0,none⟩) rs.length rs.length) (rs.map (·.2)):=by
 refine ⟨_,rs.length,rs,by rw [List.length_map],by rw [List.length_map];exact Nat.le_refl _,hm,rfl,?_,h⟩
 rw [List.length_map]
 exact ⟨ZbK rs,fun _=>⟨_,rfl,(Blk.start w _ ty).lt,fun j u hj=>ZdM w _ ty j u (by simpa using hj)⟩⟩
end
section
open Go.RowKit
theorem ZeF:∀ {l:List Nat} {i a:Nat},l[i]? = some a->a<=l.sum
 | x::r,0,a,h=>by
  obtain rfl:x=a:=by simpa using h
  rw [List.sum_cons];omega
 | x::r,i+1,a,h=>by
  have:=ZeF (l:=r) (by simpa using h)
  rw [List.sum_cons];omega
theorem ZgK:∀ {l:List Nat} {i j a b:Nat},i<j->l[i]? = some a->l[j]? = some b->a+b<=l.sum
 | x::r,0,j+1,a,b,_,h,k=>by
  obtain rfl:x=a:=by simpa using h
  have:=ZeF (l:=r) (by simpa using k)
  rw [List.sum_cons];omega
 | x::r,i+1,j+1,a,b,hlt,h,k=>by
  have:=ZgK (l:=r) (i:=i) (j:=j) (by omega) (by simpa using h) (by simpa using k)
  rw [List.sum_cons];omega
theorem ZgJ:∀ {l:List Nat},0<l.sum->∃ i a:Nat,l[i]? = some a/\0<a
 | [],h=>by simp at h
 | x::r,h=>by
  rw [List.sum_cons] at h
  by_cases q:0<x
  ·exact ⟨0,x,rfl,q⟩
  ·obtain ⟨i,a,h1,h2⟩:=ZgJ (l:=r) (by omega)
   exact ⟨i+1,a,by simpa using h1,h2⟩
def Zcb (ns:List Nd) (k:Int):Nat:=(ns.map fun d=>d.kids.count k).sum
def ZbY (ns:List Nd):Prop:=0<ns.length/\∀ (i:Nat) (d:Nd),ns[i]? = some d->Zcb ns i=(if i=0 then 0 else 1)/\∀ k∈d.kids,(i:Int)<k/\k<(ns.length:Int)
theorem ZjD {ns:List Nd} {k:Int} {i j:Nat} {d e:Nd} (hlt:i<j) (hd:ns[i]? = some d) (he:ns[j]? = some e):d.kids.count k+e.kids.count k<=Zcb ns k:=
 ZgK hlt (by rw [List.getElem?_map,hd];rfl) (by rw [List.getElem?_map,he];rfl)
theorem ZjC {ns:List Nd} {k:Int} {i:Nat} {d:Nd} (hd:ns[i]? = some d):d.kids.count k<=Zcb ns k:=ZeF (i:=i) (by rw [List.getElem?_map,hd];rfl)
theorem ZjB {ns:List Nd} {k:Int} (h:0<Zcb ns k):∃ (i:Nat) (d:Nd),ns[i]? = some d/\k∈d.kids:=by
 obtain ⟨i,a,h1,h2⟩:=ZgJ h
 rw [List.getElem?_map] at h1
 cases hd:ns[i]? with
 | none=>rw [hd] at h1;simp at h1
 | some d=>
  rw [hd] at h1
  obtain rfl:d.kids.count k=a:=by simpa using h1
  exact ⟨i,d,hd,List.count_pos_iff.mp h2⟩
theorem ZdV (n a:Nat):∀ (x:List Int) (p:List Int),p.length=n->x.Nodup->(∀ k∈x,(a:Int)<k/\k<(n:Int)/\atI p k<0)->∃ q,ZaD n a x p=some q
 | [],p,_,_,_=>⟨p,by rw [ZaD]⟩
 | k::r,p,hn,hd,h=>by
  obtain ⟨h1,h2,h3⟩:=h k List.mem_cons_self
  obtain ⟨m,rfl⟩:∃ m:Nat,k=m:=⟨k.toNat,by omega⟩
  obtain ⟨hd1,hd2⟩:=List.nodup_cons.mp hd
  rw [ZaD,if_neg (by omega),Int.toNat_natCast]
  refine ZdV n a r _ (by rw [List.length_set];exact hn) hd2 (fun y hy=>?_)
  obtain ⟨b1,b2,b3⟩:=h y (List.mem_cons_of_mem _ hy)
  obtain ⟨y',rfl⟩:∃ y':Nat,y=y':=⟨y.toNat,by omega⟩
  exact ⟨b1,b2,by rw [Zb9 _ (fun e=>hd1 (by rw [e];exact hy))];exact b3⟩
theorem ZgE {ns:List Nd} (h:ZbY ns):∀ j,j<=ns.length->∃ p,ZaO ns j=some p
 | 0,_=>⟨_,rfl⟩
 | j+1,hj=>by
  obtain ⟨p,hp⟩:=ZgE h j (by omega)
  have L:=Zco ns j p (by omega) hp
  have hd:ns[j]? = some ns[j]:=List.getElem?_eq_getElem (by omega)
  obtain ⟨c,r⟩:=h.2 j _ hd
  rw [ZaO,hp,Option.bind_some,Zah hd]
  have ne:¬ (0<j/\atI p (j:Int)<0):=fun ⟨a,b⟩=>by
   rw [if_neg (by omega)] at c
   obtain ⟨i,d,hi,hm⟩:=ZjB (ns:=ns) (k:=(j:Int)) (by omega)
   have:=(h.2 i d hi).2 _ hm
   have:=((L.of i d (by omega) hi).2 _ hm).2.2
   omega
  rw [if_neg ne]
  have one:∀ k∈ns[j].kids,Zcb ns k<=1:=fun k hk=>by
   obtain ⟨a,b⟩:=r k hk
   obtain ⟨m,rfl⟩:∃ m:Nat,k=m:=⟨k.toNat,by omega⟩
   obtain ⟨c,_⟩:=h.2 m _ (List.getElem?_eq_getElem (by omega))
   rw [c];split<;>omega
  refine ZdV _ _ _ _ L.len (List.nodup_iff_count.mpr fun k=>?_) (fun k hk=>⟨(r k hk).1,(r k hk).2,?_⟩)
  ·by_cases hk:k∈ns[j].kids
   ·exact Nat.le_trans (ZjC hd) (one k hk)
   ·rw [List.count_eq_zero_of_not_mem hk];omega
  ·refine Int.not_le.mp fun q=>?_
   obtain ⟨a,b⟩:=r k hk
   obtain ⟨m,rfl⟩:∃ m:Nat,k=m:=⟨k.toNat,by omega⟩
   obtain ⟨i,d,hi,hdi,_,hm⟩:=L.at_ m q
   have:=ZjD (k:=(m:Int)) hi hdi hd
   have:=one _ hk
   have:=List.count_pos_iff.mpr hm
   have:=List.count_pos_iff.mpr hk
   omega
theorem ZjN {ns:List Nd} (h:ZbY ns) (hl:ns.length<=1500):∃ p,ZaL ns=some p:=by
 have:=h.1
 unfold ZaL
 rw [if_neg (by omega)]
 exact ZgE h _ (Nat.le_refl _)
def Zc4 (l:List Int):Int:=l.foldl max 0
theorem ZbB:∀ (l:List Int) (a x:Int),x<=a->x<=l.foldl max a
 | [],a,x,h=>h
 | y::r,a,x,h=>ZbB r (max a y) x (by omega)
theorem Zdh:∀ (l:List Int) (a x:Int),x∈l->x<=l.foldl max a
 | y::r,a,x,h=>by
  rcases List.mem_cons.mp h with rfl | h
  ·exact ZbB r _ _ (by omega)
  ·exact Zdh r _ _ h
theorem Zcv:∀ (l:List Int) (a b:Int),a<=b->(∀ x∈l,x<=b)->l.foldl max a<=b
 | [],a,b,h,_=>h
 | y::r,a,b,h,k=>Zcv r (max a y) b (by have:=k y List.mem_cons_self;omega) (fun x hx=>k x (List.mem_cons_of_mem _ hx))
def htF (ns:List Nd):Nat->Int->Int
 | 0,_=>1
 | d+1,k=>Zc4 ((Ze ns k).kids.map (htF ns d))+1
theorem Zew (ns:List Nd):∀ d k,1<=htF ns d k
 | 0,_=>Int.le_refl _
 | d+1,k=>by
  rw [htF]
  have:=ZbB ((Ze ns k).kids.map (htF ns d)) 0 0 (Int.le_refl _)
  unfold Zc4
  omega
theorem ZjH {ns:List Nd} {i:Nat} {d:Nd} (hd:ns[i]? = some d) {k:Int} (hk:k∈d.kids) (f:Nat):htF ns f k+1<=htF ns (f+1) i:=by
 rw [htF,Zah hd]
 have:=Zdh (d.kids.map (htF ns f)) 0 _ (List.mem_map.mpr ⟨k,hk,rfl⟩)
 unfold Zc4
 omega
section
variable {ns:List Nd} {p:List Int}
theorem Zb8 (p:List Int):∀ (j:Nat) (k:Nat),k<j->(Zbq p j)[k]? = (Zbq p (k+1))[k]?
 | j+1,k,h=>by
  by_cases e:k=j
  ·subst e;rfl
  ·rw [Zbq,List.getElem?_append_left (by rw [ZaW];omega)]
   exact Zb8 p j k (by omega)
theorem Zgw {k:Nat} (hk:k<p.length):atI (Zay p) k=if 0<=atI p k then 1+atI (Zbq p k) (atI p k) else 1:=by
 rw [Za9]
 unfold Zay
 rw [Zb8 p _ k hk,Zbq,List.getElem?_append_right (by rw [ZaW];omega),ZaW,Nat.sub_self]
 rfl
theorem Zfo {j k:Nat} (hj:j<=p.length) (hk:k<j):atI (Zbq p j) (k:Int)=atI (Zay p) k:=by
 rw [Za9,Za9]
 unfold Zay
 rw [Zb8 p _ k hk,Zb8 p p.length k (by omega)]
theorem Zfr (L:Links ns ns.length p):∀ (x:Nat),x<ns.length->1<=atI (Zay p) x/\atI (Zay p) x<=(x:Int)+1/\∃ f:Nat,(f:Int)+atI (Zay p) x=(ns.length:Int)+1/\atI (Zay p) x+htF ns f x<=1+htF ns ns.length 0:=by
 intro x
 induction x using Nat.strongRecOn with
 | ind x ih=>
  intro hx
  rw [Zgw (by rw [L.len];exact hx)]
  by_cases hp:0<=atI p x
  ·rw [if_pos hp]
   obtain ⟨i,d,hi,hd,e,hm⟩:=L.at_ x hp
   have lt:=ZfI L hp
   rw [e] at lt ⊢
   obtain ⟨a1,a2,f,a3,a4⟩:=ih i (by omega) hi
   rw [Zfo (by rw [L.len];omega) (by omega)]
   obtain ⟨g,rfl⟩:∃ g,f=g+1:=⟨f-1,by omega⟩
   have:=ZjH hd hm g
   exact ⟨by omega,by omega,g,by omega,by omega⟩
  ·rw [if_neg hp]
   have:x=0:=Classical.byContradiction fun q=>hp (L.each x (by omega) hx)
   subst this
   exact ⟨Int.le_refl _,by omega,ns.length,by omega,Int.le_refl _⟩
theorem ZhK (L:Links ns ns.length p):ZbV (Zay p)<=htF ns ns.length 0:=by
 have all:∀ y∈Zay p,y<=htF ns ns.length 0:=fun y hy=>by
  obtain ⟨k,hk⟩:=List.mem_iff_getElem?.mp hy
  have hlt:k<ns.length:=by
   have:=(List.getElem?_eq_some_iff.mp hk).1
   unfold Zay at this
   rw [ZaW,L.len] at this
   exact this
  have e:atI (Zay p) k=y:=ZaQ hk
  obtain ⟨_,_,f,_,h⟩:=Zfr L k hlt
  have:=Zew ns f k
  omega
 cases h:Zay p with
 | nil=>exact Int.le_trans (by decide) (Zew ns ns.length 0)
 | cons a r=>
  rw [h] at all
  exact Zcv r a _ (all a List.mem_cons_self) (fun x hx=>all x (List.mem_cons_of_mem _ hx))
end
theorem Zjg {ns:List Nd} (h:ZbY ns) (hl:ns.length<=1500) (h0:Zq ns 0=0) (hd:htF ns ns.length 0<=24) (hv:∀ d∈ns,Zw ns d=true):ZaI ns=true:=by
 obtain ⟨p,hp⟩:=ZjN h hl
 unfold ZaI
 rw [hp]
 dsimp only
 have:=ZhK (ZbE hp)
 rw [h0,decide_eq_true (by omega),List.all_eq_true.mpr hv]
 rfl
end
section
open Go.RowKit
def Zt (n:Nd) (a b:Int):Bool:=Zbr n.words&&decide (a<=(n.words.length:Int))&&decide ((n.words.length:Int)<=b)
def ZJ (n:Nd):Bool:=decide (n.nums.length=0)
def Zbn (n:Nd):Bool:=decide (1<=num n 1)&&decide (num n 1<1000000000000000000)&&decide (1<=num n 2)&&decide (num n 2<1000000000000000000)
def kdR (ns:List Nd) (n:Nd) (i:Nat):Int:=Zq ns (atI n.kids i)
theorem Zbj (w:World) (k:Int):Calls Tryz.prog 18 #[.int .i64 k] w fun e w'=>e=.returned (.bool (ZE k))/\w=w':=by
 unfold ZE
 by_cases q:20<=k
 ·by_cases q2:k<=23
  ·have Q:=Lib.hid (And.intro q q2)
   go_enter Tryz.func18,Tryz.ntmps18
   go_wp2_with fail
   go_ret
   exact ⟨by first | rfl | (have:=Q.out;simp;omega) | (have:=Q.out;simp;intros;omega) | (have:=Q.out;simp_all),rfl⟩
  ·have q2':23<k:=by omega
   have Q:=Lib.hid (And.intro q q2)
   go_enter Tryz.func18,Tryz.ntmps18
   go_wp2_with fail
   go_ret
   exact ⟨by first | rfl | (have:=Q.out;simp;omega) | (have:=Q.out;simp;intros;omega) | (have:=Q.out;simp_all),rfl⟩
 ·have q':k<20:=by omega
  have Q:=Lib.hid q
  go_enter Tryz.func18,Tryz.ntmps18
  go_wp2_with fail
  go_ret
  exact ⟨by first | rfl | (have:=Q.out;simp;omega) | (have:=Q.out;simp;intros;omega) | (have:=Q.out;simp_all),rfl⟩
theorem Ziz (w:World) (k:Int):Calls Tryz.prog 35 #[.int .i64 k] w fun e w'=>e=.returned (.bool (Zbk k))/\w=w':=by
 unfold Zbk
 by_cases q:8<=k
 ·by_cases q2:k<=19
  ·cases q3:(k==12)
   ·have q3':(k != 12)=true:=by rw [bne,q3];rfl
    cases q4:(k==15)
    ·have q4':(k != 15)=true:=by rw [bne,q4];rfl
     have Q:=Lib.hid (And.intro q q2)
     go_enter Tryz.func35,Tryz.ntmps35
     go_wp2_with fail
     go_ret
     exact ⟨by first | rfl | (rw [decide_eq_true Q.out.1,decide_eq_true Q.out.2];rfl) | (have:=Q.out;simp;intros;omega) | (have:=Q.out;simp_all),rfl⟩
    ·have q4':(k != 15)=false:=by rw [bne,q4];rfl
     have Q:=Lib.hid (And.intro q q2)
     go_enter Tryz.func35,Tryz.ntmps35
     go_wp2_with fail
     go_ret
     exact ⟨by first | rfl | (rw [decide_eq_true Q.out.1,decide_eq_true Q.out.2];rfl) | (have:=Q.out;simp;intros;omega) | (have:=Q.out;simp_all),rfl⟩
   ·have q3':(k != 12)=false:=by rw [bne,q3];rfl
    have Q:=Lib.hid (And.intro q q2)
    go_enter Tryz.func35,Tryz.ntmps35
    go_wp2_with fail
    go_ret
    exact ⟨by first | rfl | (rw [decide_eq_true Q.out.1,decide_eq_true Q.out.2];rfl) | (have:=Q.out;simp;intros;omega) | (have:=Q.out;simp_all),rfl⟩
  ·have q2':19<k:=by omega
   have Q:=Lib.hid (And.intro q q2)
   go_enter Tryz.func35,Tryz.ntmps35
   go_wp2_with fail
   go_ret
   exact ⟨by first | rfl | (rw [decide_eq_true Q.out.1,decide_eq_false Q.out.2];rfl) | (have:=Q.out;simp;intros;omega) | (have:=Q.out;simp_all),rfl⟩
 ·have q':k<8:=by omega
  have Q:=Lib.hid q
  go_enter Tryz.func35,Tryz.ntmps35
  go_wp2_with fail
  go_ret
  exact ⟨by first | rfl | (rw [decide_eq_false Q.out];rfl) | (have:=Q.out;simp;intros;omega) | (have:=Q.out;simp_all),rfl⟩
theorem Zaa (w:World) (v:Value) (ns:List Nd) (x:NdV×Nd) (i:Nat) (hN:Zf w v ns) (h:Zv w x) (hk:Zz x.2.kids ns.length) (hi:i<x.2.kids.length) :
  Calls Tryz.prog 19 #[v,ndV x,.int .i64 i] w fun e w'=>e=.returned (.int .i64 (kdR ns x.2 i))/\Below w.heap.size w w':=by
 obtain ⟨⟨A1,c1,e1,_⟩,⟨A2,c2,e2,_⟩,A3,c3,e3,k2,k3,k4⟩:=h
 obtain ⟨A,c,rs,rfl,g2,g3,g4,g5,g6⟩:=hN
 obtain ⟨⟨v1,v2,v3⟩,kd,ws,nums,ks,ps⟩:=x
 dsimp only at e1 e2 e3 k2 k4 hi hk
 subst e1 e2 e3
 obtain ⟨z,hz⟩:∃ z,ks[i]? = some z:=⟨_,List.getElem?_eq_getElem hi⟩
 have hin:=hk z (List.mem_of_getElem? hz)
 obtain ⟨q,rfl⟩:∃ q:Nat,z=q:=⟨z.toNat,by omega⟩
 have hb:=Zb w (.cells #[.int .i64 kd,.slice A1 ws.length c1,.slice A2 nums.length c2,.slice A3 ks.length c3,.int .i64 ps] 29)
 obtain ⟨y,hy⟩:∃ y,rs[q]? = some y:=⟨_,List.getElem?_eq_getElem (by have:=congrArg List.length g4;rw [List.length_map] at this;omega)⟩
 have hd:ns[q]? = some y.2:=by rw [<- g4,List.getElem?_map,hy];rfl
 obtain ⟨n,hn⟩:∃ n,n=ns.length:=⟨_,rfl⟩
 rw [<- hn] at g5 hin
 obtain ⟨ad,rfl,d0,_⟩:=ZK g5 hb hy (by omega)
 obtain ⟨ak,rfl,dk⟩:=Zp k4 hb hz (by omega)
 have FIN:=Lib.hid (show y.2.kind=kdR ns ⟨kd,ws,nums,ks,ps⟩ i from by
  unfold kdR
  dsimp only
  rw [ZaQ hz,Zbi hd])
 rw [<- FIN.out]
 have HB:=Lib.hid hb
 unfold ndV
 dsimp only
 rw [<- hn]
 have i1:(i:Int)<(ks.length:Int):=by omega
 have i2:(0:Int)<=(i:Int):=by omega
 have i3:(q:Int)<(n:Int):=by omega
 have i4:(0:Int)<=(q:Int):=by omega
 clear g2 g3 g4 g5 g6 k2 k3 k4 hy hz hd hin hk hi hn hb FIN
 go_enter Tryz.func19,Tryz.ntmps19
 go_wp2_with fail
 go_ret
 exact ⟨rfl,HB.out⟩
theorem ZU (w:World) (x:NdV×Nd) (h:Zv w x) :
  Calls Tryz.prog 17 #[ndV x] w fun e w'=>e=.returned (.bool (ZJ x.2))/\Below w.heap.size w w':=by
 obtain ⟨⟨A1,c1,e1,_⟩,⟨A2,c2,e2,_⟩,A3,c3,e3,_⟩:=h
 obtain ⟨⟨v1,v2,v3⟩,kd,ws,nums,ks,ps⟩:=x
 dsimp only at e1 e2 e3
 subst e1 e2 e3
 have HB:=Lib.hid (Zb w (.cells #[.int .i64 kd,.slice A1 ws.length c1,.slice A2 nums.length c2,.slice A3 ks.length c3,.int .i64 ps] 29))
 unfold ndV ZJ
 dsimp only
 by_cases q:nums.length=0
 ·have t:((nums.length:Int)==0)=true:=by rw [q];rfl
  have Q:=Lib.hid (decide_eq_true q)
  clear q
  go_enter Tryz.func17,Tryz.ntmps17
  go_wp2_with fail
  go_ret
  exact ⟨by first | (rw [Q.out];rfl) | (have:=Q.out;simp_all),HB.out⟩
 ·have t:((nums.length:Int)==0)=false:=by simpa using fun e=>q (by simpa using e)
  have Q:=Lib.hid (decide_eq_false q)
  clear q
  go_enter Tryz.func17,Tryz.ntmps17
  go_wp2_with fail
  go_ret
  exact ⟨by first | (rw [Q.out];rfl) | (have:=Q.out;simp_all),HB.out⟩
theorem ZT (w:World) (x:NdV×Nd) (h:Zv w x) (h3:x.2.nums.length=3) :
  Calls Tryz.prog 37 #[ndV x] w fun e w'=>e=.returned (.bool (Zbn x.2))/\Below w.heap.size w w':=by
 obtain ⟨⟨A,c,e1,_⟩,⟨A2,c2,e2,g1,g2,g3⟩,A3,c3,e3,_⟩:=h
 obtain ⟨⟨v1,v2,v3⟩,kd,ws,ns,ks,ps⟩:=x
 dsimp only at e1 e2 e3 h3 g1 g2 g3
 subst e1 e2 e3
 obtain ⟨y1,hy1⟩:∃ y,ns[1]? = some y:=⟨_,List.getElem?_eq_getElem (by omega)⟩
 obtain ⟨y2,hy2⟩:∃ y,ns[2]? = some y:=⟨_,List.getElem?_eq_getElem (by omega)⟩
 unfold Zbn
 rw [Zbs (n:=(⟨kd,ws,ns,ks,ps⟩:Nd)) hy1,Zbs (n:=(⟨kd,ws,ns,ks,ps⟩:Nd)) hy2]
 have hb:=Zb w (.cells #[.int .i64 kd,.slice A ws.length c,.slice A2 ns.length c2,.slice A3 ks.length c3,.int .i64 ps] 29)
 obtain ⟨ad,rfl,a1⟩:=Zp (k:=1) g3 hb hy1 (by omega)
 obtain ⟨ad',ea,a2⟩:=Zp (k:=2) g3 hb hy2 (by omega)
 injection ea with ea
 subst ea
 rw [show ad.add 1=⟨ad.block,ad.off+1,none⟩ by unfold Addr.add;simp] at a1
 rw [show ad.add 2=⟨ad.block,ad.off+2,none⟩ by unfold Addr.add;simp] at a2
 have HB:=Lib.hid hb
 unfold ndV
 dsimp only
 rw [h3] at *
 clear g1 g2 g3 hy1 hy2 hb
 by_cases q1:1<=y1
 ·by_cases q2:y1<1000000000000000000
  ·by_cases q3:1<=y2
   ·by_cases q4:y2<1000000000000000000
    ·rw [decide_eq_true q1,decide_eq_true q2,decide_eq_true q3,decide_eq_true q4]
     go_enter Tryz.func37,Tryz.ntmps37
     go_wp2_with fail
     go_ret
     exact ⟨rfl,HB.out⟩
    ·have q4':1000000000000000000<=y2:=by omega
     rw [decide_eq_true q1,decide_eq_true q2,decide_eq_true q3,decide_eq_false q4]
     go_enter Tryz.func37,Tryz.ntmps37
     go_wp2_with fail
     go_ret
     exact ⟨rfl,HB.out⟩
   ·have q3':y2<1:=by omega
    rw [decide_eq_true q1,decide_eq_true q2,decide_eq_false q3]
    go_enter Tryz.func37,Tryz.ntmps37
    go_wp2_with fail
    go_ret
    exact ⟨rfl,HB.out⟩
  ·have q2':1000000000000000000<=y1:=by omega
   rw [decide_eq_true q1,decide_eq_false q2]
   go_enter Tryz.func37,Tryz.ntmps37
   go_wp2_with fail
   go_ret
   exact ⟨rfl,HB.out⟩
 ·have q1':y1<1:=by omega
  rw [decide_eq_false q1]
  go_enter Tryz.func37,Tryz.ntmps37
  go_wp2_with fail
  go_ret
  exact ⟨rfl,HB.out⟩
end
end Go.Proofs.YtenbomphkihmlaaGreatDoor
