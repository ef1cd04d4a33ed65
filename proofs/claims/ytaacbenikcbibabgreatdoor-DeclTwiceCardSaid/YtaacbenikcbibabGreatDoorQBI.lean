import Derived.BigQuiet
import Derived.Deep.QuietTactic
import Derived.Test.YtaacbenikcbibabGreatDoorQBF
import Derived.Test.YtaacbenikcbibabGreatDoorQBH
set_option maxRecDepth 100000
set_option maxHeartbeats 8000000
namespace Go.Proofs.YtaacbenikcbibabGreatDoor
section
open Go.RowKit
theorem ZgA {ns:List Nd} {k:Nat} {d:Nd} (h:ns[k]? = some d) (h0:d.nums=[]):Zan ns k=-1:=by
 unfold Zan
 rw [Zb1 h,h0]
theorem Zfy {ns:List Nd} {k:Nat} {d:Nd} {x:Int} {r:List Int} (h:ns[k]? = some d) (h0:d.nums=x::r):Zan ns k=x:=by
 unfold Zan
 rw [Zb1 h,h0]
theorem ZdY (w:World) (v:Value) (ns:List Nd) (k:Nat) (h:Zo w v ns) (hk:k<ns.length) :
  Calls Tryz.prog 93 #[v,.int .i64 k] w fun e w'=>e=.returned (.int .i64 (Zan ns k))/\w=w':=by
 obtain ⟨A,cp,rs,rfl,h2,h3,h4,h5,h6⟩:=h
 obtain ⟨x,hx⟩:∃ x,rs[k]? = some x:=⟨_,List.getElem?_eq_getElem (by have:=congrArg List.length h4;rw [List.length_map] at this;omega)⟩
 have hd:ns[k]? = some x.2:=by rw [<- h4,List.getElem?_map,hx];rfl
 obtain ⟨ad,rfl,d0,d1,d2,d3,d4⟩:=ZW h5 (Below.refl _ _) hx (by omega)
 obtain ⟨_,⟨A2,c2,ev2,k2,k3,k4⟩,_⟩:=h6 x (List.mem_of_getElem? hx)
 obtain ⟨⟨va,vb,vc⟩,kd,ws,nums,ks,ps⟩:=x
 dsimp only at d0 d1 d2 d3 d4 ev2 k2 k3 k4 hd
 subst ev2
 obtain ⟨n,hn⟩:∃ n,n=ns.length:=⟨_,rfl⟩
 rw [<- hn] at hk ⊢
 have i1:(k:Int)<(n:Int):=by omega
 have i2:(0:Int)<=(k:Int):=by omega
 clear h2 h3 h4 h5 h6 hx hk hn d0 d1 d3 d4
 cases nums with
 | nil=>
  have t1:((0:Int)==0)=true:=rfl
  have FIN:=Lib.hid (ZgA hd rfl)
  simp only [List.length_nil] at d2 k2 k4
  clear hd k2 k3 k4
  go_enter Tryz.func93,Tryz.ntmps93
  go_wp2_with fail
  go_ret
  exact ⟨by rw [FIN.out];rfl,rfl⟩
 | cons y r=>
  obtain ⟨ad2,rfl,e0⟩:=ZC (k:=0) (x:=y) k4 (Below.refl _ _) rfl (by simp)
  rw [show ad2.add 0=ad2 by unfold Addr.add;simp] at e0
  have FIN:=Lib.hid (Zfy hd rfl)
  obtain ⟨m,hm⟩:∃ m,m=(y::r).length:=⟨_,rfl⟩
  rw [<- hm] at d2
  have t1:((m:Int)==0)=false:=by
   have:m=r.length+1:=hm
   simpa using fun e=>by omega
  have i3:(0:Int)<(m:Int):=by
   have:m=r.length+1:=hm
   omega
  clear hd k2 k3 k4 hm
  go_enter Tryz.func93,Tryz.ntmps93
  go_wp2_with fail
  go_ret
  exact ⟨by rw [FIN.out];rfl,rfl⟩
theorem ZaN {n:Nd} {k:Nat} {x:Int} (h:n.nums[k]? = some x):num n k=x:=by
 unfold num
 rw [h]
 rfl
theorem Zcw (w:World) (x:NdV×Nd) (h:ZO w x) (h3:x.2.nums.length=3) :
  Calls Tryz.prog 91 #[ndV x] w fun e w'=>e=.returned (.bool (Zbl x.2))/\Below w.heap.size w w':=by
 obtain ⟨⟨A,c,e1,_⟩,⟨A2,c2,e2,g1,g2,g3⟩,A3,c3,e3,_⟩:=h
 obtain ⟨⟨v1,v2,v3⟩,kd,ws,ns,ks,ps⟩:=x
 dsimp only at e1 e2 e3 h3 g1 g2 g3
 subst e1 e2 e3
 obtain ⟨y1,hy1⟩:∃ y,ns[1]? = some y:=⟨_,List.getElem?_eq_getElem (by omega)⟩
 obtain ⟨y2,hy2⟩:∃ y,ns[2]? = some y:=⟨_,List.getElem?_eq_getElem (by omega)⟩
 unfold Zbl
 rw [ZaN (n:=(⟨kd,ws,ns,ks,ps⟩:Nd)) hy1,ZaN (n:=(⟨kd,ws,ns,ks,ps⟩:Nd)) hy2]
 have hb:=Za w (.cells #[.int .i64 kd,.slice A ws.length c,.slice A2 ns.length c2,.slice A3 ks.length c3,.int .i64 ps] 27)
 obtain ⟨ad,rfl,a1⟩:=ZC (k:=1) g3 hb hy1 (by omega)
 obtain ⟨ad',ea,a2⟩:=ZC (k:=2) g3 hb hy2 (by omega)
 injection ea with ea
 subst ea
 rw [show ad.add 1=⟨ad.block,ad.off+1,none⟩ by unfold Addr.add;simp] at a1
 rw [show ad.add 2=⟨ad.block,ad.off+2,none⟩ by unfold Addr.add;simp] at a2
 have HB:=Lib.hid hb
 unfold ndV
 dsimp only
 rw [h3] at *
 clear g1 g2 g3 hy1 hy2 hb
 by_cases q1:1<=y1
 ·by_cases q2:1<=y2
  ·have Q:=Lib.hid (And.intro q1 q2)
   go_enter Tryz.func91,Tryz.ntmps91
   go_wp2_with fail
   go_ret
   exact ⟨by first | rfl | (have:=Q.out;simp;omega) | (have:=Q.out;simp_all),HB.out⟩
  ·have q2':y2<1:=by omega
   have Q:=Lib.hid (And.intro q1 q2)
   go_enter Tryz.func91,Tryz.ntmps91
   go_wp2_with fail
   go_ret
   exact ⟨by first | rfl | (have:=Q.out;simp;omega) | (have:=Q.out;simp_all),HB.out⟩
 ·have q1':y1<1:=by omega
  have Q:=Lib.hid q1
  go_enter Tryz.func91,Tryz.ntmps91
  go_wp2_with fail
  go_ret
  exact ⟨by first | rfl | (have:=Q.out;simp;omega) | (have:=Q.out;simp_all),HB.out⟩
end
section
open Go.RowKit
theorem Zdn (ns:List Nd):∀ (l:List Int) (a b:Int),ZV ns (l++[a,b])=(ZV ns (l++[a])&&decide (Zan ns a<Zan ns b))
 | [],a,b=>by simp [ZV]
 | [x],a,b=>by simp [ZV,Bool.and_comm]
 | x::y::r,a,b=>by
  have:=Zdn ns (y::r) a b
  simp only [List.cons_append] at this ⊢
  rw [ZV,ZV,this,Bool.and_assoc]
theorem Zh7 {l:List Int} {k:Nat} {a b:Int} (ha:l[k]? = some a) (hb:l[k+1]? = some b):l.take (k+1)=l.take k++[a]/\l.take (k+1+1)=l.take k++[a,b]:=by
 have e1:l.take (k+1)=l.take k++[a]:=by rw [List.take_add_one,ha];rfl
 exact ⟨e1,by rw [List.take_add_one,hb,e1,List.append_assoc];rfl⟩
theorem Zgp {ns:List Nd} {l:List Int} {k:Nat} {a b:Int} (ha:l[k]? = some a) (hb:l[k+1]? = some b) (h:ZV ns (l.take (k+1))=true):ZV ns (l.take (k+1+1))=decide (Zan ns a<Zan ns b):=by
 obtain ⟨e1,e2⟩:=Zh7 ha hb
 rw [e2,Zdn,<- e1,h,Bool.true_and]
theorem ZdV (ns:List Nd):∀ (l m:List Int),ZV ns l=false->ZV ns (l++m)=false
 | [],m,h=>by simp [ZV] at h
 | [x],m,h=>by simp [ZV] at h
 | x::y::r,m,h=>by
  rw [ZV] at h
  simp only [List.cons_append]
  rw [ZV]
  rcases Bool.and_eq_false_iff.mp h with h | h
  ·rw [h,Bool.false_and]
  ·rw [show (y::(r++m))=(y::r)++m from rfl,ZdV ns (y::r) m h,Bool.and_false]
theorem Zha {ns:List Nd} {l:List Int} {k:Nat} (h:ZV ns (l.take k)=false):ZV ns l=false:=by
 rw [<- List.take_append_drop k l]
 exact ZdV ns _ _ h
theorem ZdB (w:World) (v vk:Value) (ns:List Nd) (ks:List Int) (h:Zo w v ns) (hk:ZL w vk ks) (hi:ZA ks ns.length) :
  Calls Tryz.prog 92 #[v,vk] w fun e w'=>e=.returned (.bool (ZV ns ks))/\Below w.heap.size w w':=by
 have WH:=Lib.hid (fun (wr:World) (hb:Below w.heap.size w wr) (k:Nat) (q:k<ns.length)=>(ZdY wr v ns k (h.below hb) q).mono (fun _ _ q=>(⟨q.1,q.2.symm⟩:_/\_)))
 obtain ⟨A,cp,rfl,h2,h3,h4⟩:=hk
 obtain ⟨n,hn⟩:∃ n,n=ks.length:=⟨_,rfl⟩
 have hmx:n<=9223372036854775807:=by unfold maxLen at h3;omega
 rw [<- hn] at h2 h4 ⊢
 have HN:=Lib.hid (And.intro hn (And.intro hmx hi))
 have H4:=Lib.hid h4
 clear hn h2 h3 h4 hmx hi h
 go_enter Tryz.func92,Tryz.ntmps92
 go_wp2_with fail
 go_loopg [5] (n-1) (fun g v5 wr=>∃ k:Nat,v5=.int .i64 ((k:Int)+1)/\(k+1<=n\/k=0)/\g=n-(k+1)/\ZV ns (ks.take (k+1))=true/\Below w.heap.size w wr)
 case atStart=>exact ⟨0,rfl,.inr rfl,rfl,by cases ks<;>rfl,Below.refl _ _⟩
 case round=>
  obtain ⟨k,rfl,hk,hg,hr,hb⟩:=hrel
  by_cases hlt:k+1<n
  ·obtain ⟨a,ha⟩:∃ a,ks[k]? = some a:=⟨_,List.getElem?_eq_getElem (by have:=HN.out.1;omega)⟩
   obtain ⟨b,hb2⟩:∃ b,ks[k+1]? = some b:=⟨_,List.getElem?_eq_getElem (by have:=HN.out.1;omega)⟩
   have ka:=HN.out.2.2 a (List.mem_of_getElem? ha)
   have kb:=HN.out.2.2 b (List.mem_of_getElem? hb2)
   obtain ⟨an,rfl⟩:∃ an:Nat,a=an:=⟨a.toNat,by omega⟩
   obtain ⟨bn,rfl⟩:∃ bn:Nat,b=bn:=⟨b.toNat,by omega⟩
   obtain ⟨ad,rfl,da⟩:=ZC H4.out hb ha (by omega)
   obtain ⟨ad',ea,db⟩:=ZC H4.out hb hb2 (by omega)
   injection ea with ea
   subst ea
   have nx:=Zgp ha hb2 hr
   have NX:=Lib.hid (And.intro nx (fun q=>Zha (nx.trans q)))
   have WA:=Lib.hid (fun d=>WH.out (wr.drewN d) (below_drewN hb d) an (by omega))
   have WB:=Lib.hid (fun d=>WH.out (wr.drewN d) (below_drewN hb d) bn (by omega))
   obtain ⟨j,hj⟩:∃ j,j=k+1:=⟨_,rfl⟩
   have ej:(k:Int)+1=(j:Int):=by omega
   rw [ej]
   rw [<- hj] at db
   have i1:(j:Int)<(n:Int):=by omega
   have i2:(0:Int)<=(j:Int):=by omega
   have i3:(k:Int)<(n:Int):=by omega
   have i4:(0:Int)<=(k:Int):=by omega
   have u1:IntKind.i64.wrap ((j:Int)-1)=(k:Int):=by rw [IntWalk.i64_in _ (by have:=HN.out;omega)];omega
   have u2:IntKind.i64.wrap ((j:Int)+1)=(j:Int)+1:=IntWalk.i64_in _ (by have:=HN.out;omega)
   have HK:=Lib.hid (And.intro hlt (And.intro hg (And.intro hj hb)))
   clear hlt hg hj ej nx ha hb2 hk hr hb ka kb
   generalize Zan ns (an:Int)=X at *
   generalize Zan ns (bn:Int)=Y at *
   go_upto_region 4 with fail
   go_quiet (first
    | (go_at_call 93;with_reducible exact Calls.quiet_of_same (WA.out _))
    | (go_at_call 93;with_reducible exact Calls.quiet_of_same (WB.out _)))
   by_cases q:X<Y
   ·have nq:¬ Y<=X:=by omega
    have RN:=Lib.hid (NX.out.1.trans (decide_eq_true q))
    go_wp2_with fail
    go_roundg (n-(k+1+1))
    case measure=>have:=HK.out;omega
    case rel=>exact ⟨k+1,by rw [HK.out.2.2.1],by have:=HK.out;omega,rfl,RN.out,below_drewN HK.out.2.2.2 _⟩
   ·have nq:Y<=X:=by omega
    have FIN:=Lib.hid (NX.out.2 (decide_eq_false q))
    clear q
    go_wp2_with fail
    go_ret
    exact ⟨by rw [FIN.out];rfl,below_drewN HK.out.2.2.2 _⟩
  ·have e:ks.take (k+1)=ks:=List.take_of_length_le (by have:=HN.out.1;omega)
   rw [e] at hr
   have i1:¬ (k:Int)+1<(n:Int):=by omega
   have FIN:=Lib.hid (And.intro hr hb)
   clear hk hg hr hb hlt e
   go_wp2_with fail
   go_ret
   exact ⟨by rw [FIN.out.1];rfl,FIN.out.2⟩
end
section
open Go.RowKit
theorem ZeA (n a:Nat):∀ (x:List Int) (p q:List Int),Zag n a x p=some q->∀ k∈x,(a:Int)<k/\k<(n:Int)
 | [],p,q,h,k,hk=>by cases hk
 | y::r,p,q,h,k,hk=>by
  rw [Zag] at h
  split at h
  ·cases h
  ·rename_i hb
   rcases List.mem_cons.mp hk with e | e
   ·subst e
    omega
   ·exact ZeA n a r _ q h k e
theorem ZfJ (ns:List Nd):∀ (j:Nat) (p:List Int),Zaq ns j=some p->∀ (i:Nat) (d:Nd),i<j->ns[i]? = some d->∀ k∈d.kids,(i:Int)<k/\k<(ns.length:Int)
 | 0,p,h,i,d,hi,hd=>absurd hi (Nat.not_lt_zero _)
 | j+1,p,h,i,d,hi,hd=>by
  rw [Zaq] at h
  cases hq:Zaq ns j with
  | none=>rw [hq] at h;cases h
  | some q=>
   rw [hq,Option.bind_some] at h
   split at h
   ·cases h
   ·by_cases e:i=j
    ·subst e
     rw [Zb1 hd] at h
     exact ZeA _ _ _ _ _ h
    ·exact ZfJ ns j q hq i d (by omega) hd
theorem ZiK {ns:List Nd} {p:List Int} (h:Zaw ns=some p) {i:Nat} {d:Nd} (hd:ns[i]? = some d):∀ k∈d.kids,(i:Int)<k/\k<(ns.length:Int):=by
 have hi:=(List.getElem?_eq_some_iff.mp hd).1
 unfold Zaw at h
 split at h
 ·cases h
 ·exact ZfJ ns _ p h i d hi hd
theorem Zg7 {ns:List Nd} {p:List Int} (h:Zaw ns=some p) {i:Nat} {d:Nd} (hd:ns[i]? = some d):ZA d.kids ns.length:=fun k hk=>by
 have:=ZiK h hd k hk
 omega
def Zc3:Prop:=∀ (w:World) (v:Value) (ns:List Nd) (x:NdV×Nd),Zad w 0 Zh->Zo w v ns->ZO w x->ZA x.2.kids ns.length ->
 Calls Tryz.prog 22 #[v,ndV x] w fun e w'=>e=.returned (.bool (Zbj ns x.2))/\Below w.heap.size w w'
theorem Zfq {ns:List Nd} (h:Zaw ns=none):ZbG ns=false:=by
 unfold ZbG
 rw [h]
theorem Zfr {ns:List Nd} {p:List Int} (h:Zaw ns=some p):ZbG ns=(ZN ns 0==0&&decide (Zce (Zbt p)<=24)&&ns.all (Zbj ns)):=by
 unfold ZbG
 rw [h]
theorem ZgU {ns:List Nd} {k:Nat} {d:Nd} (h:ns[k]? = some d):ZN ns k=d.kind:=by
 unfold ZN
 rw [Zb1 h]
theorem ZhZ (hV:Zc3) (w:World) (v:Value) (ns:List Nd) (h:Zo w v ns) (ht:Zad w 0 Zh) :
  Calls Tryz.prog 9 #[v] w fun e w'=>e=.returned (.bool (ZbG ns))/\Below w.heap.size w w':=by
 cases hp:Zaw ns with
 | none=>
  have pn:=ZeS h hp
  rw [Zfq hp]
  clear h hp ht hV
  go_enter Tryz.func9,Tryz.ntmps9
  go_wp2_with (go_at_call 19;(with_reducible refine pn.mono ?_);rintro e w1 ⟨rfl,hb⟩;have HB:=Lib.hid hb;clear hb)
  go_ret
  exact ⟨rfl,HB.out⟩
 | some p=>
  have pn:=ZeT h hp
  have hr:=Zfr hp
  obtain ⟨f1,f2,_,_⟩:=Zci hp
  have de:=fun w g c=>ZgH (w:=w) (g:=g) (c:=c) hp
  have mx:=fun w g c=>Zi1 (w:=w) (g:=g) (c:=c) hp
  have hv:=(fun (w':World) (hb:Below w.heap.size w w') (i:Nat) (x:NdV×Nd) (hx:ZO w x) (hd:ns[i]? = some x.2)=>hV w' v ns x (ht.below hb) (h.below hb) (hx.below hb) (Zg7 hp hd))
  obtain ⟨A,cp,rs,rfl,h2,h3,h4,h5,h6⟩:=h
  obtain ⟨n,hn⟩:∃ n,n=ns.length:=⟨_,rfl⟩
  rw [<- hn] at h2 h5 f1 f2 ⊢
  rw [<- hn] at pn
  simp only [<- hn] at de mx hv
  have HV:=Lib.hid hv
  have DE:=Lib.hid de
  have MX:=Lib.hid mx
  obtain ⟨x0,hx0⟩:∃ x,rs[0]? = some x:=⟨_,List.getElem?_eq_getElem (by have:=congrArg List.length h4;rw [List.length_map] at this;omega)⟩
  have hk0:ZN ns 0=x0.2.kind:=ZgU (k:=0) (by rw [<- h4,List.getElem?_map,hx0];rfl)
  obtain ⟨ad,rfl,_⟩:=ZW h5 (Below.refl _ _) hx0 (by omega)
  have D0:=Lib.hid (fun (w':World) (hb:Below w.heap.size w w')=>show w'.cell? ad=some (.int .i64 (ZN ns 0)) from by
   obtain ⟨ad',e,d0,_⟩:=ZW h5 hb hx0 (by omega)
   injection e with e
   rw [e,hk0]
   rwa [show ad'.add (0*5)=ad' by unfold Addr.add;simp] at d0)
  rw [hr]
  have HN:=Lib.hid (And.intro hn (And.intro f1 f2))
  have H4:=Lib.hid (And.intro h4 (And.intro h5 h6))
  have i0:(0:Int)<(n:Int):=by omega
  clear hn f1 f2 h2 h3 h4 h5 h6 hx0 hk0 hr hp ht hV de mx hv
  generalize ZN ns 0=K0 at *
  generalize Zce (Zbt p)=M at *
  cases t1:(K0==0)
  ·have t2:(K0 != 0)=true:=by rw [bne,t1];rfl
   go_enter Tryz.func9,Tryz.ntmps9
   go_wp2_with (go_at_call 19;(with_reducible refine pn.mono ?_);rintro e w1 ⟨g,c,rfl,hP,hb⟩;have HB:=Lib.hid (And.intro hP hb);have d0:=D0.out w1 hb;clear hP hb)
   go_ret
   exact ⟨rfl,HB.out.2⟩
  ·have t2:(K0 != 0)=false:=by rw [bne,t1];rfl
   by_cases q:24<M
   ·have q2:¬ M<=24:=by omega
    rw [decide_eq_false q2]
    go_enter Tryz.func9,Tryz.ntmps9
    go_wp2_with (first
     | (go_at_call 19;(with_reducible refine pn.mono ?_);rintro e w1 ⟨g,c,rfl,hP,hb⟩;have HB:=Lib.hid (And.intro hP hb);have d0:=D0.out w1 hb;clear hP hb)
     | (go_at_call 21;(with_reducible refine (DE.out _ _ _ HB.out.1).mono ?_);rintro e w2 ⟨g2,c2,rfl,hP2,hb2⟩;have HC:=Lib.hid (And.intro hP2 hb2);clear hP2 hb2)
     | (go_at_call 20;(with_reducible refine (MX.out _ _ _ HC.out.1).mono ?_);rintro e w3 ⟨rfl,rfl⟩))
    go_ret
    exact ⟨rfl,HB.out.2.trans (HC.out.2.mono HB.out.2.size)⟩
   ·have q2:M<=24:=by omega
    rw [decide_eq_true q2]
    go_enter Tryz.func9,Tryz.ntmps9
    go_wp2_with (first
     | (go_at_call 19;(with_reducible refine pn.mono ?_);rintro e w1 ⟨g,c,rfl,hP,hb⟩;have HB:=Lib.hid (And.intro hP hb);have d0:=D0.out w1 hb;clear hP hb)
     | (go_at_call 21;(with_reducible refine (DE.out _ _ _ HB.out.1).mono ?_);rintro e w2 ⟨g2,c2,rfl,hP2,hb2⟩;have HC:=Lib.hid (And.intro hP2 hb2);clear hP2 hb2)
     | (go_at_call 20;(with_reducible refine (MX.out _ _ _ HC.out.1).mono ?_);rintro e w3 ⟨rfl,rfl⟩))
    have bC:=HB.out.2.trans (HC.out.2.mono HB.out.2.size)
    clear DE MX HC d0
    go_loopg [29] n (fun gk v29 wr=>∃ j:Nat,v29=.int .i64 j/\j<=n/\gk=n-j/\(ns.take j).all (Zbj ns)=true/\Below w.heap.size w wr)
    case atStart=>exact ⟨0,rfl,Nat.zero_le _,rfl,rfl,bC⟩
    case round=>
     clear bC HB
     obtain ⟨j,rfl,hj,hgk,hall,hb⟩:=hrel
     by_cases hjn:j=n
     ·have e:ns.take j=ns:=by rw [hjn,HN.out.1];exact List.take_length
      rw [e] at hall
      subst hjn
      have FIN:=Lib.hid (And.intro hall hb)
      clear e hall hb hgk hj
      go_wp2_with fail
      go_ret
      exact ⟨by rw [FIN.out.1];rfl,FIN.out.2⟩
     have hlt:j<n:=by omega
     obtain ⟨x,hx⟩:∃ x,rs[j]? = some x:=⟨_,List.getElem?_eq_getElem (by have:=congrArg List.length H4.out.1;rw [List.length_map] at this;have:=HN.out.1;omega)⟩
     have hd:ns[j]? = some x.2:=by rw [<- H4.out.1,List.getElem?_map,hx];rfl
     have VX:=Lib.hid (fun w' hb=>HV.out w' hb j x (H4.out.2.2 x (List.mem_of_getElem? hx)) hd)
     have nxt:=ZcO (f:=Zbj ns) hd hall
     have bad:Zbj ns x.2=false->ns.all (Zbj ns)=false:=Zdr hd
     obtain ⟨ad',ea,d0,d1,d2,d3,d4⟩:=ZW H4.out.2.1 hb hx (by omega)
     injection ea with ea
     subst ea
     have i2:(j:Int)<(n:Int):=by omega
     have i3:(0:Int)<=(j:Int):=by omega
     have u1:IntKind.i64.wrap ((j:Int)+1)=(j:Int)+1:=IntWalk.i64_in _ (by have:=HN.out;omega)
     obtain ⟨⟨A1,c1,ev1,_⟩,⟨A2,c2',ev2,_⟩,A3,c3,ev3,_⟩:=H4.out.2.2 x (List.mem_of_getElem? hx)
     have HJ:=Lib.hid (And.intro hgk (And.intro hb hlt))
     have NX:=Lib.hid (And.intro nxt bad)
     clear hgk hb hlt hjn hj hx hd hall nxt bad
     obtain ⟨⟨va,vb,vc⟩,kd,ws,nums,ks,ps⟩:=x
     dsimp only at d0 d1 d2 d3 d4 ev1 ev2 ev3
     subst ev1 ev2 ev3
     unfold ndV at VX
     dsimp only at VX
     generalize Zbj ns ⟨kd,ws,nums,ks,ps⟩=B at *
     go_upto_region 7 with fail
     have a5:=Za wr (.cells #[.int .i64 kd,.slice A1 ws.length c1,.slice A2 nums.length c2',.slice A3 ks.length c3,.int .i64 ps] 27)
     have b5:=HJ.out.2.1.trans (a5.mono HJ.out.2.1.size)
     have B5:=Blk.start wr #[.int .i64 kd,.slice A1 ws.length c1,.slice A2 nums.length c2',.slice A3 ks.length c3,.int .i64 ps] 27
     have H5:=Lib.hid b5
     have g0:=B5.cell 0
     have g1:=B5.cell 1
     have g2':=B5.cell 2
     have g3:=B5.cell 3
     have g4:=B5.cell 4
     clear a5 b5 B5 d0 d1 d2 d3 d4
     generalize wr.alloc (.cells #[.int .i64 kd,.slice A1 ws.length c1,.slice A2 nums.length c2',.slice A3 ks.length c3,.int .i64 ps] 27)=w5 at *
     generalize hnb:wr.heap.size=nb at *
     clear hnb
     simp only [List.getElem?_toArray,List.getElem?_cons_zero,List.getElem?_cons_succ] at g0 g1 g2' g3 g4
     cases B
     ·have FIN:=Lib.hid (NX.out.2 rfl)
      go_wp2_with (go_at_call 22;(with_reducible refine (VX.out _ H5.out).mono ?_);rintro e w6 ⟨rfl,hb6⟩;have H6:=Lib.hid hb6;clear hb6)
      go_ret
      exact ⟨by rw [FIN.out];rfl,H5.out.trans (H6.out.mono H5.out.size)⟩
     ·go_wp2_with (go_at_call 22;(with_reducible refine (VX.out _ H5.out).mono ?_);rintro e w6 ⟨rfl,hb6⟩;have H6:=Lib.hid hb6;clear hb6)
      go_roundg (n-(j+1))
      case measure=>have:=HJ.out;omega
      case rel=>exact ⟨j+1,by push_cast;rfl,by have:=HJ.out;omega,rfl,NX.out.1,H5.out.trans (H6.out.mono H5.out.size)⟩
end
end Go.Proofs.YtaacbenikcbibabGreatDoor
