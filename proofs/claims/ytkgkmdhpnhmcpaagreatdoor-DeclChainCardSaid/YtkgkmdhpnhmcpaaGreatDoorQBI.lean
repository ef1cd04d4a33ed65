import Derived.BigQuiet
import Derived.Deep.QuietTactic
import Derived.Test.YtkgkmdhpnhmcpaaGreatDoorQAA
import Derived.Test.YtkgkmdhpnhmcpaaGreatDoorQBE
import Derived.Test.YtkgkmdhpnhmcpaaGreatDoorQBF
import Derived.Test.YtkgkmdhpnhmcpaaGreatDoorQBH
set_option maxRecDepth 100000
set_option maxHeartbeats 8000000
namespace Go.Proofs.YtkgkmdhpnhmcpaaGreatDoor
section
open Go.RowKit
theorem Zdt (ns:List Nd):∀ (l:List Int) (a b:Int),ZR ns (l++[a,b])=(ZR ns (l++[a])&&decide (Zan ns a<Zan ns b))
 | [],a,b=>by simp [ZR]
 | [x],a,b=>by simp [ZR,Bool.and_comm]
 | x::y::r,a,b=>by
  have:=Zdt ns (y::r) a b
  simp only [List.cons_append] at this ⊢
  rw [ZR,ZR,this,Bool.and_assoc]
theorem Zip {l:List Int} {k:Nat} {a b:Int} (ha:l[k]? = some a) (hb:l[k+1]? = some b):l.take (k+1)=l.take k++[a]/\l.take (k+1+1)=l.take k++[a,b]:=by
 have e1:l.take (k+1)=l.take k++[a]:=by rw [List.take_add_one,ha];rfl
 exact ⟨e1,by rw [List.take_add_one,hb,e1,List.append_assoc];rfl⟩
theorem Zgy {ns:List Nd} {l:List Int} {k:Nat} {a b:Int} (ha:l[k]? = some a) (hb:l[k+1]? = some b) (h:ZR ns (l.take (k+1))=true):ZR ns (l.take (k+1+1))=decide (Zan ns a<Zan ns b):=by
 obtain ⟨e1,e2⟩:=Zip ha hb
 rw [e2,Zdt,<- e1,h,Bool.true_and]
theorem Zd1 (ns:List Nd):∀ (l m:List Int),ZR ns l=false->ZR ns (l++m)=false
 | [],m,h=>by simp [ZR] at h
 | [x],m,h=>by simp [ZR] at h
 | x::y::r,m,h=>by
  rw [ZR] at h
  simp only [List.cons_append]
  rw [ZR]
  rcases Bool.and_eq_false_iff.mp h with h | h
  ·rw [h,Bool.false_and]
  ·rw [show (y::(r++m))=(y::r)++m from rfl,Zd1 ns (y::r) m h,Bool.and_false]
theorem Zhl {ns:List Nd} {l:List Int} {k:Nat} (h:ZR ns (l.take k)=false):ZR ns l=false:=by
 rw [<- List.take_append_drop k l]
 exact Zd1 ns _ _ h
theorem ZdH (w:World) (v vk:Value) (ns:List Nd) (ks:List Int) (h:Zn w v ns) (hk:ZH w vk ks) (hi:ZA ks ns.length) :
  Calls Tryz.prog 134 #[v,vk] w fun e w'=>e=.returned (.bool (ZR ns ks))/\Below w.heap.size w w':=by
 have WH:=zh (fun (wr:World) (hb:Below w.heap.size w wr) (k:Nat) (q:k<ns.length)=>(Zd4 wr v ns k (h.below hb) q).mono (fun _ _ q=>(⟨q.1,q.2.symm⟩:_/\_)))
 obtain ⟨A,cp,rfl,h2,h3,h4⟩:=hk
 obtain ⟨n,hn⟩:∃ n,n=ks.length:=⟨_,rfl⟩
 have hmx:n<=9223372036854775807:=by unfold maxLen at h3;omega
 rw [<- hn] at h2 h4 ⊢
 have HN:=zh (zi hn (zi hmx hi))
 have H4:=zh h4
 clear hn h2 h3 h4 hmx hi h
 go_enter Tryz.func134,Tryz.ntmps134
 go_wp2_with fail
 go_loopg [5] (n-1) (fun g v5 wr=>∃ k:Nat,v5=.int .i64 ((k:Int)+1)/\(k+1<=n\/k=0)/\g=n-(k+1)/\ZR ns (ks.take (k+1))=true/\Below w.heap.size w wr)
 case atStart=>exact ⟨0,rfl,.inr rfl,rfl,by cases ks<;>rfl,Below.refl _ _⟩
 case round=>
  obtain ⟨k,rfl,hk,hg,hr,hb⟩:=hrel
  by_cases hlt:k+1<n
  ·obtain ⟨a,ha⟩:∃ a,ks[k]? = some a:=⟨_,List.getElem?_eq_getElem (by have:=HN.out.1;omega)⟩
   obtain ⟨b,hb2⟩:∃ b,ks[k+1]? = some b:=⟨_,List.getElem?_eq_getElem (by have:=HN.out.1;omega)⟩
   have ka:=HN.out.2.2 a (List.mem_of_getElem? ha)
   have kb:=HN.out.2.2 b (List.mem_of_getElem? hb2)
   obtain ⟨an,rfl⟩:∃ an:Nat,a=an:=⟨a.toNat,by omega⟩
   obtain ⟨bn,rfl⟩:∃ bn:Nat,b=bn:=⟨b.toNat,by omega⟩
   obtain ⟨ad,rfl,da⟩:=ints_at H4.out hb ha (by omega)
   obtain ⟨ad',ea,db⟩:=ints_at H4.out hb hb2 (by omega)
   injection ea with ea
   subst ea
   have nx:=Zgy ha hb2 hr
   have NX:=zh (zi nx (fun q=>Zhl (nx.trans q)))
   have WA:=zh (fun d=>WH.out (wr.drewN d) (below_drewN hb d) an (by omega))
   have WB:=zh (fun d=>WH.out (wr.drewN d) (below_drewN hb d) bn (by omega))
   obtain ⟨j,hj⟩:∃ j,j=k+1:=⟨_,rfl⟩
   have ej:(k:Int)+1=(j:Int):=by omega
   rw [ej]
   rw [<- hj] at db
   have i1:(j:Int)<(n:Int):=by omega
   have i2:(0:Int)<=(j:Int):=by omega
   have i3:(k:Int)<(n:Int):=by omega
   have i4:(0:Int)<=(k:Int):=by omega
   have u1:IntKind.i64.wrap ((j:Int)-1)=(k:Int):=by rw [IntWalk.i64_in _ (by have:=HN.out;omega)];omega
   have u2:IntKind.i64.wrap ((j:Int)+1)=(j:Int)+1:=IntWalk.i64_in _ (by have:=HN.out;omega)
   have HK:=zh (zi hlt (zi hg (zi hj hb)))
   clear hlt hg hj ej nx ha hb2 hk hr hb ka kb
   generalize Zan ns (an:Int)=X at *
   generalize Zan ns (bn:Int)=Y at *
   go_upto_region 4 with fail
   go_quiet (first
    | (go_at_call 135;with_reducible exact Calls.quiet_of_same (WA.out _))
    | (go_at_call 135;with_reducible exact Calls.quiet_of_same (WB.out _)))
   by_cases q:X<Y
   ·have nq:¬ Y<=X:=by omega
    have RN:=zh (NX.out.1.trans (decide_eq_true q))
    go_wp2_with fail
    go_roundg (n-(k+1+1))
    case measure=>have:=HK.out;omega
    case rel=>exact ⟨k+1,by rw [HK.out.2.2.1],by have:=HK.out;omega,rfl,RN.out,below_drewN HK.out.2.2.2 _⟩
   ·have nq:Y<=X:=by omega
    have FIN:=zh (NX.out.2 (decide_eq_false q))
    clear q
    go_wp2_with fail
    go_ret
    exact ⟨by rw [FIN.out];rfl,below_drewN HK.out.2.2.2 _⟩
  ·have e:ks.take (k+1)=ks:=List.take_of_length_le (by have:=HN.out.1;omega)
   rw [e] at hr
   have i1:¬ (k:Int)+1<(n:Int):=by omega
   have FIN:=zh (zi hr hb)
   clear hk hg hr hb hlt e
   go_wp2_with fail
   go_ret
   exact ⟨by rw [FIN.out.1];rfl,FIN.out.2⟩
end
section
open Go.RowKit
theorem ZeG (n a:Nat):∀ (x:List Int) (p q:List Int),Zaf n a x p=some q->∀ k∈x,(a:Int)<k/\k<(n:Int)
 | [],p,q,h,k,hk=>by cases hk
 | y::r,p,q,h,k,hk=>by
  rw [Zaf] at h
  split at h
  ·cases h
  ·rename_i hb
   rcases List.mem_cons.mp hk with e | e
   ·subst e
    omega
   ·exact ZeG n a r _ q h k e
theorem ZfQ (ns:List Nd):∀ (j:Nat) (p:List Int),Zap ns j=some p->∀ (i:Nat) (d:Nd),i<j->ns[i]? = some d->∀ k∈d.kids,(i:Int)<k/\k<(ns.length:Int)
 | 0,p,h,i,d,hi,hd=>absurd hi (Nat.not_lt_zero _)
 | j+1,p,h,i,d,hi,hd=>by
  rw [Zap] at h
  cases hq:Zap ns j with
  | none=>rw [hq] at h;cases h
  | some q=>
   rw [hq,Option.bind_some] at h
   split at h
   ·cases h
   ·by_cases e:i=j
    ·subst e
     rw [Zb5 hd] at h
     exact ZeG _ _ _ _ _ h
    ·exact ZfQ ns j q hq i d (by omega) hd
theorem Zi4 {ns:List Nd} {p:List Int} (h:Zat ns=some p) {i:Nat} {d:Nd} (hd:ns[i]? = some d):∀ k∈d.kids,(i:Int)<k/\k<(ns.length:Int):=by
 have hi:=(List.getElem?_eq_some_iff.mp hd).1
 unfold Zat at h
 split at h
 ·cases h
 ·exact ZfQ ns _ p h i d hi hd
theorem Zhi {ns:List Nd} {p:List Int} (h:Zat ns=some p) {i:Nat} {d:Nd} (hd:ns[i]? = some d):ZA d.kids ns.length:=fun k hk=>by
 have:=Zi4 h hd k hk
 omega
def Zc9:Prop:=∀ (w:World) (v:Value) (ns:List Nd) (x:NdV×Nd),ZZ w 0 Zh->Zn w v ns->ZJ w x->ZA x.2.kids ns.length ->
 Calls Tryz.prog 40 #[v,ndV x] w fun e w'=>e=.returned (.bool (Zbi ns x.2))/\Below w.heap.size w w'
theorem Zfx {ns:List Nd} (h:Zat ns=none):ZbJ ns=false:=by
 unfold ZbJ
 rw [h]
theorem Zfy {ns:List Nd} {p:List Int} (h:Zat ns=some p):ZbJ ns=(ZI ns 0==0&&decide (Zci (Zbt p)<=24)&&ns.all (Zbi ns)):=by
 unfold ZbJ
 rw [h]
theorem Zg4 {ns:List Nd} {k:Nat} {d:Nd} (h:ns[k]? = some d):ZI ns k=d.kind:=by
 unfold ZI
 rw [Zb5 h]
theorem Zih (hV:Zc9) (w:World) (v:Value) (ns:List Nd) (h:Zn w v ns) (ht:ZZ w 0 Zh) :
  Calls Tryz.prog 18 #[v] w fun e w'=>e=.returned (.bool (ZbJ ns))/\Below w.heap.size w w':=by
 cases hp:Zat ns with
 | none=>
  have pn:=Ze0 h hp
  rw [Zfx hp]
  clear h hp ht hV
  go_enter Tryz.func18,Tryz.ntmps18
  go_wp2_with (go_at_call 37;(with_reducible refine pn.mono ?_);rintro e w1 ⟨rfl,hb⟩;have HB:=zh hb;clear hb)
  go_ret
  exact ⟨rfl,HB.out⟩
 | some p=>
  have pn:=Ze1 h hp
  have hr:=Zfy hp
  obtain ⟨f1,f2,_,_⟩:=Zcn hp
  have de:=fun w g c=>ZgR (w:=w) (g:=g) (c:=c) hp
  have mx:=fun w g c=>Zjm (w:=w) (g:=g) (c:=c) hp
  have hv:=(fun (w':World) (hb:Below w.heap.size w w') (i:Nat) (x:NdV×Nd) (hx:ZJ w x) (hd:ns[i]? = some x.2)=>hV w' v ns x (ht.below hb) (h.below hb) (hx.below hb) (Zhi hp hd))
  obtain ⟨A,cp,rs,rfl,h2,h3,h4,h5,h6⟩:=h
  obtain ⟨n,hn⟩:∃ n,n=ns.length:=⟨_,rfl⟩
  rw [<- hn] at h2 h5 f1 f2 ⊢
  rw [<- hn] at pn
  simp only [<- hn] at de mx hv
  have HV:=zh hv
  have DE:=zh de
  have MX:=zh mx
  obtain ⟨x0,hx0⟩:∃ x,rs[0]? = some x:=⟨_,List.getElem?_eq_getElem (by have:=congrArg List.length h4;rw [List.length_map] at this;omega)⟩
  have hk0:ZI ns 0=x0.2.kind:=Zg4 (k:=0) (by rw [<- h4,List.getElem?_map,hx0];rfl)
  obtain ⟨ad,rfl,_⟩:=ZS h5 (Below.refl _ _) hx0 (by omega)
  have D0:=zh (fun (w':World) (hb:Below w.heap.size w w')=>show w'.cell? ad=some (.int .i64 (ZI ns 0)) from by
   obtain ⟨ad',e,d0,_⟩:=ZS h5 hb hx0 (by omega)
   injection e with e
   rw [e,hk0]
   rwa [show ad'.add (0*5)=ad' by unfold Addr.add;simp] at d0)
  rw [hr]
  have HN:=zh (zi hn (zi f1 f2))
  have H4:=zh (zi h4 (zi h5 h6))
  have i0:(0:Int)<(n:Int):=by omega
  clear hn f1 f2 h2 h3 h4 h5 h6 hx0 hk0 hr hp ht hV de mx hv
  generalize ZI ns 0=K0 at *
  generalize Zci (Zbt p)=M at *
  cases t1:(K0==0)
  ·have t2:(K0 != 0)=true:=by rw [bne,t1];rfl
   go_enter Tryz.func18,Tryz.ntmps18
   go_wp2_with (go_at_call 37;(with_reducible refine pn.mono ?_);rintro e w1 ⟨g,c,rfl,hP,hb⟩;have HB:=zh (zi hP hb);have d0:=D0.out w1 hb;clear hP hb)
   go_ret
   exact ⟨rfl,HB.out.2⟩
  ·have t2:(K0 != 0)=false:=by rw [bne,t1];rfl
   by_cases q:24<M
   ·have q2:¬ M<=24:=by omega
    rw [decide_eq_false q2]
    go_enter Tryz.func18,Tryz.ntmps18
    go_wp2_with (first
     | (go_at_call 37;(with_reducible refine pn.mono ?_);rintro e w1 ⟨g,c,rfl,hP,hb⟩;have HB:=zh (zi hP hb);have d0:=D0.out w1 hb;clear hP hb)
     | (go_at_call 39;(with_reducible refine (DE.out _ _ _ HB.out.1).mono ?_);rintro e w2 ⟨g2,c2,rfl,hP2,hb2⟩;have HC:=zh (zi hP2 hb2);clear hP2 hb2)
     | (go_at_call 38;(with_reducible refine (MX.out _ _ _ HC.out.1).mono ?_);rintro e w3 ⟨rfl,rfl⟩))
    go_ret
    exact ⟨rfl,HB.out.2.trans (HC.out.2.mono HB.out.2.size)⟩
   ·have q2:M<=24:=by omega
    rw [decide_eq_true q2]
    go_enter Tryz.func18,Tryz.ntmps18
    go_wp2_with (first
     | (go_at_call 37;(with_reducible refine pn.mono ?_);rintro e w1 ⟨g,c,rfl,hP,hb⟩;have HB:=zh (zi hP hb);have d0:=D0.out w1 hb;clear hP hb)
     | (go_at_call 39;(with_reducible refine (DE.out _ _ _ HB.out.1).mono ?_);rintro e w2 ⟨g2,c2,rfl,hP2,hb2⟩;have HC:=zh (zi hP2 hb2);clear hP2 hb2)
     | (go_at_call 38;(with_reducible refine (MX.out _ _ _ HC.out.1).mono ?_);rintro e w3 ⟨rfl,rfl⟩))
    have bC:=HB.out.2.trans (HC.out.2.mono HB.out.2.size)
    clear DE MX HC d0
    go_loopg [29] n (fun gk v29 wr=>∃ j:Nat,v29=.int .i64 j/\j<=n/\gk=n-j/\(ns.take j).all (Zbi ns)=true/\Below w.heap.size w wr)
    case atStart=>exact ⟨0,rfl,Nat.zero_le _,rfl,rfl,bC⟩
    case round=>
     clear bC HB
     obtain ⟨j,rfl,hj,hgk,hall,hb⟩:=hrel
     by_cases hjn:j=n
     ·have e:ns.take j=ns:=by rw [hjn,HN.out.1];exact List.take_length
      rw [e] at hall
      subst hjn
      have FIN:=zh (zi hall hb)
      clear e hall hb hgk hj
      go_wp2_with fail
      go_ret
      exact ⟨by rw [FIN.out.1];rfl,FIN.out.2⟩
     have hlt:j<n:=by omega
     obtain ⟨x,hx⟩:∃ x,rs[j]? = some x:=⟨_,List.getElem?_eq_getElem (by have:=congrArg List.length H4.out.1;rw [List.length_map] at this;have:=HN.out.1;omega)⟩
     have hd:ns[j]? = some x.2:=by rw [<- H4.out.1,List.getElem?_map,hx];rfl
     have VX:=zh (fun w' hb=>HV.out w' hb j x (H4.out.2.2 x (List.mem_of_getElem? hx)) hd)
     have nxt:=ZcT (f:=Zbi ns) hd hall
     have bad:Zbi ns x.2=false->ns.all (Zbi ns)=false:=Zdx hd
     obtain ⟨ad',ea,d0,d1,d2,d3,d4⟩:=ZS H4.out.2.1 hb hx (by omega)
     injection ea with ea
     subst ea
     have i2:(j:Int)<(n:Int):=by omega
     have i3:(0:Int)<=(j:Int):=by omega
     have u1:IntKind.i64.wrap ((j:Int)+1)=(j:Int)+1:=IntWalk.i64_in _ (by have:=HN.out;omega)
     obtain ⟨⟨A1,c1,ev1,_⟩,⟨A2,c2',ev2,_⟩,A3,c3,ev3,_⟩:=H4.out.2.2 x (List.mem_of_getElem? hx)
     have HJ:=zh (zi hgk (zi hb hlt))
     have NX:=zh (zi nxt bad)
     clear hgk hb hlt hjn hj hx hd hall nxt bad
     obtain ⟨⟨va,vb,vc⟩,kd,ws,nums,ks,ps⟩:=x
     dsimp only at d0 d1 d2 d3 d4 ev1 ev2 ev3
     subst ev1 ev2 ev3
     unfold ndV at VX
     dsimp only at VX
     generalize Zbi ns ⟨kd,ws,nums,ks,ps⟩=B at *
     go_upto_region 7 with fail
     have a5:=below_alloc1 wr (.cells #[.int .i64 kd,.slice A1 ws.length c1,.slice A2 nums.length c2',.slice A3 ks.length c3,.int .i64 ps] 27)
     have b5:=HJ.out.2.1.trans (a5.mono HJ.out.2.1.size)
     have B5:=Blk.start wr #[.int .i64 kd,.slice A1 ws.length c1,.slice A2 nums.length c2',.slice A3 ks.length c3,.int .i64 ps] 27
     have H5:=zh b5
     have g0:=B5.cell 0
     have g1:=B5.cell 1
     have g2':=B5.cell 2
     have g3:=B5.cell 3
     have g4:=B5.cell 4
     clear a5 b5 B5 d0 d1 d2 d3 d4
     generalize wr.alloc (.cells #[.int .i64 kd,.slice A1 ws.length c1,.slice A2 nums.length c2',.slice A3 ks.length c3,.int .i64 ps] 27)=w5 at *
     generalize hnb:wr.heap.size=nb at *
     clear hnb
     simp only [List.getElem?_toArray,List.getElem?_cons_zero,List.getElem?_cons_succ] at g0 g1 g2' g3 g4
     cases B
     ·have FIN:=zh (NX.out.2 rfl)
      go_wp2_with (go_at_call 40;(with_reducible refine (VX.out _ H5.out).mono ?_);rintro e w6 ⟨rfl,hb6⟩;have H6:=zh hb6;clear hb6)
      go_ret
      exact ⟨by rw [FIN.out];rfl,H5.out.trans (H6.out.mono H5.out.size)⟩
     ·go_wp2_with (go_at_call 40;(with_reducible refine (VX.out _ H5.out).mono ?_);rintro e w6 ⟨rfl,hb6⟩;have H6:=zh hb6;clear hb6)
      go_roundg (n-(j+1))
      case measure=>have:=HJ.out;omega
      case rel=>exact ⟨j+1,by push_cast;rfl,by have:=HJ.out;omega,rfl,NX.out.1,H5.out.trans (H6.out.mono H5.out.size)⟩
end
section
open Go.RowKit
theorem ZhE (w:World) (cs:Array Value) (ty:TypeId) (j:Nat) (u:Value) (h:cs[j]? = some u):(w.alloc (.cells cs ty)).cell? (Addr.add ⟨w.heap.size,0,none⟩ j)=some u:=by
 rw [Addr.add_lit,Nat.zero_add,(Blk.start w cs ty).cell j]
 exact h
theorem ZdZ (w:World) (us:List Value) (ty:TypeId):Zr (w.alloc (.cells us.toArray ty)) (w.alloc (.cells us.toArray ty)).heap.size 1 (some ⟨w.heap.size,0,none⟩) us.length us:=
 ⟨by simp,fun _=>⟨_,rfl,(Blk.start w us.toArray ty).lt,fun j u hj=>ZhE w us.toArray ty j u (by simpa using hj)⟩⟩
theorem Zc2 (w:World) (l:List Int) (ty:TypeId) (h:l.length<=maxLen):ZH (w.alloc (.cells (l.map (Value.int .i64)).toArray ty)) (.slice (some ⟨w.heap.size,0,none⟩) l.length l.length) l:=
 ⟨_,_,rfl,Nat.le_refl _,h,by simpa using ZdZ w (l.map (Value.int .i64)) ty⟩
def Zeq (w:World):List Tst->List Value->Prop
 | [],[]=>True
 | t::ts,u::us=>Zp w t u/\Zeq w ts us
 | _,_=>False
theorem ZfX {w:World}:∀ {ts:List Tst} {us:List Value},Zeq w ts us->us.length=ts.length/\∀ (i:Nat) (t:Tst) (u:Value),ts[i]? = some t->us[i]? = some u->Zp w t u
 | [],[],_=>⟨rfl,fun i t u h=>by simp at h⟩
 | [],_::_,h=>h.elim
 | _::_,[],h=>h.elim
 | t::ts,u::us,h=>by
  obtain ⟨h1,h2⟩:=ZfX h.2
  refine ⟨by rw [List.length_cons,List.length_cons,h1],fun i t' u' a b=>?_⟩
  cases i with
  | zero=>
   obtain rfl:t=t':=by simpa using a
   obtain rfl:u=u':=by simpa using b
   exact h.1
  | succ i=>exact h2 i t' u' (by simpa using a) (by simpa using b)
theorem Zaq (w:World) (ts:List Tst) (us:List Value) (ty:TypeId) (hm:us.length<=maxLen) (h:Zeq (w.alloc (.cells us.toArray ty)) ts us):ZU (w.alloc (.cells us.toArray ty)) (.slice (some ⟨w.heap.size,0,none⟩) us.length us.length) ts:=by
 obtain ⟨h1,h2⟩:=ZfX h
 exact ⟨_,us.length,us,by rw [h1],by rw [h1];exact Nat.le_refl _,hm,h1,by rw [<- h1];exact ZdZ w us ty,h2⟩
theorem Zi (w:World) (a:Int) (ty:TypeId):Calls Tryz.prog 94 #[.slice (some ⟨w.heap.size,0,none⟩) 1 1] (w.alloc (.cells #[.int .i64 a] ty)) fun e w'=>(∃ u,e=.returned u/\Zp w' (.is [a]) u)/\Below (w.alloc (.cells #[.int .i64 a] ty)).heap.size (w.alloc (.cells #[.int .i64 a] ty)) w':=ZeE _ _ [a] (Zc2 w [a] ty (by simp [maxLen]))
theorem Zf (w:World) (a:Int) (ty:TypeId):Calls Tryz.prog 94 #[.slice (some ⟨w.heap.size,0,none⟩) 1 1] (w.alloc (.cells #[.int .i64 a] ty)).drew fun e w'=>(∃ u,e=.returned u/\Zp w' (.is [a]) u)/\Below (w.alloc (.cells #[.int .i64 a] ty)).drew.heap.size (w.alloc (.cells #[.int .i64 a] ty)).drew w':=ZeE _ _ [a] ((Zc2 w [a] ty (by simp [maxLen])).below (Zo _))
theorem Za8 (w:World) (a b:Int) (ty:TypeId):Calls Tryz.prog 94 #[.slice (some ⟨w.heap.size,0,none⟩) 2 2] (w.alloc (.cells #[.int .i64 a,.int .i64 b] ty)) fun e w'=>(∃ u,e=.returned u/\Zp w' (.is [a,b]) u)/\Below (w.alloc (.cells #[.int .i64 a,.int .i64 b] ty)).heap.size (w.alloc (.cells #[.int .i64 a,.int .i64 b] ty)) w':=ZeE _ _ [a,b] (Zc2 w [a,b] ty (by simp [maxLen]))
theorem ZbA {n:Nd} {a b:Nat} (h:Zj n a b=true):n.words.length=a/\n.nums.length=b:=by
 unfold Zj at h
 rw [Bool.and_eq_true,decide_eq_true_eq,decide_eq_true_eq] at h
 exact h
theorem Za7 (w:World):ZU w (.slice none 0 0) []:=⟨none,0,[],rfl,Nat.le_refl _,by decide,rfl,Zr.none_,fun i t u h=>by simp at h⟩
end
end Go.Proofs.YtkgkmdhpnhmcpaaGreatDoor
