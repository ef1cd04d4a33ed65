import Derived.BigQuiet
import Derived.Deep.QuietTactic
import Derived.Test.YtkongcicmajolaaGreatDoorQAI
import Derived.Test.YtkongcicmajolaaGreatDoorQAJ
set_option maxRecDepth 100000
set_option maxHeartbeats 8000000
namespace Go.Proofs.YtkongcicmajolaaGreatDoor
section
open Go.RowKit
theorem ZoC {l:List Int} {k:Nat} {x a:Int} (h:l[k]? = some x):(l.take (k+1)).foldl max a=max ((l.take k).foldl max a) x:=by
 rw [List.take_add_one,h,List.foldl_append]
 rfl
def ZjE (l:List Int) (k:Nat):Int:=Zgd (l.take k)
theorem Zqo {l:List Int} {x:Int} (h:l[0]? = some x):ZjE l 1=x:=by
 cases l with
 | nil=>simp at h
 | cons a r=>
  obtain rfl:a=x:=by simpa using h
  rfl
theorem ZoY {l:List Int} {k:Nat} {x:Int} (hk:0<k) (h:l[k]? = some x):ZjE l (k+1)=max (ZjE l k) x:=by
 cases l with
 | nil=>simp at h
 | cons a r=>
  obtain ⟨m,rfl⟩:∃ m,k=m+1:=⟨k-1,by omega⟩
  rw [List.getElem?_cons_succ] at h
  show Zgd (a::r.take (m+1))=max (Zgd (a::r.take m)) x
  exact ZoC h
theorem Zqn {l:List Int} {n:Nat} (h:l.length=n):ZjE l n=Zgd l:=by
 unfold ZjE
 rw [<- h,List.take_length]
theorem ZqP (w:World) (g c n:Nat) (p:List Int) (hp:PIn w g p) (hn:p.length=n) (h1:1<=n) (h2:n<=1500) :
  Calls Tryz.prog 32 #[.slice (some ⟨g,0,none⟩) n c] w fun e w'=>e=.returned (.int .i64 (Zgd p))/\w=w':=by
 obtain ⟨x0,hx0⟩:∃ x0,p[0]? = some x0:=⟨_,List.getElem?_eq_getElem (by omega)⟩
 have c0:=hp.cell hx0
 have i1:¬ (n:Int)<1:=by omega
 have i0:(0:Int)<(n:Int):=by omega
 have HN:=zh (zi hn (zi h1 (zi h2 (zi hp (Zqo hx0)))))
 clear hn h1 h2 hp hx0
 go_enter Tryz.func32,Tryz.ntmps32
 go_wp2_with fail
 go_loopg [3,4] (n-1) (fun gk v3 v4 wr=>w=wr/\∃ k:Nat,v3=.int .i64 (ZjE p k)/\v4=.int .i64 k/\1<=k/\k<=n/\gk=n-k)
 case atStart=>exact ⟨rfl,1,by rw [HN.out.2.2.2.2],rfl,Nat.le_refl _,HN.out.2.1,rfl⟩
 case round=>
  obtain ⟨rfl,k,rfl,rfl,hk1,hk,hgk⟩:=hrel
  by_cases hkn:k=n
  ·subst hkn
   have e:=zh (Zqn (l:=p) HN.out.1)
   clear hk1 hk hgk
   go_wp2_with fail
   go_ret
   exact ⟨by rw [<- e.out];rfl,rfl⟩
  ·obtain ⟨x,hx⟩:∃ x,p[k]? = some x:=⟨_,List.getElem?_eq_getElem (by have:=HN.out.1;omega)⟩
   have cx:=HN.out.2.2.2.1.cell hx
   have i2:(k:Int)<(n:Int):=by omega
   have i3:(0:Int)<=(k:Int):=by omega
   have u1:IntKind.i64.wrap ((k:Int)+1)=(k:Int)+1:=IntWalk.i64_in _ (by have:=HN.out;omega)
   have NX:=zh (ZoY (by omega) hx)
   have HK:=zh (zi hk1 (zi i2 hgk))
   clear hk1 hk hgk hkn hx
   go_wp2_with fail
   go_roundg (n-(k+1))
   case measure=>have:=HK.out;omega
   case rel=>exact ⟨rfl,k+1,by rw [NX.out],by push_cast;rfl,by omega,by have:=HK.out;omega,rfl⟩
end
section
open Go.RowKit
theorem Zlc {w:World} {v:Value} {ns:List Nd} (h:Zs w v ns) (hp:Zcg ns=none) :
  Calls Tryz.prog 31 #[v] w fun e w'=>e=.returned (.tuple #[.slice none 0 0,.bool false])/\Below w.heap.size w w':=
 (Zh5 w v ns h).mono fun e w' q=>by
  obtain ⟨hb,hm⟩:=q
  rw [hp] at hm
  exact ⟨hm,hb⟩
theorem Zld {w:World} {v:Value} {ns:List Nd} {p:List Int} (h:Zs w v ns) (hp:Zcg ns=some p) :
  Calls Tryz.prog 31 #[v] w fun e w'=>∃ g c,e=.returned (.tuple #[.slice (some ⟨g,0,none⟩) ns.length c,.bool true])/\PIn w' g p/\Below w.heap.size w w':=
 (Zh5 w v ns h).mono fun e w' q=>by
  obtain ⟨hb,hm⟩:=q
  rw [hp] at hm
  obtain ⟨g,c,e,_,_,_,h⟩:=hm
  exact ⟨g,c,e,h,hb⟩
theorem ZfK {ns:List Nd} {p:List Int} (h:Zcg ns=some p):1<=ns.length/\ns.length<=1500/\p.length=ns.length/\ZfD p:=by
 have h0:=h
 unfold Zcg at h
 split at h
 ·cases h
 ·exact ⟨by omega,by omega,Ziu _ _ _ h,Zi1 _ _ _ h⟩
theorem Zoo {w:World} {g c:Nat} {ns:List Nd} {p:List Int} (h:Zcg ns=some p) (hP:PIn w g p) :
  Calls Tryz.prog 33 #[.slice (some ⟨g,0,none⟩) ns.length c] w fun e w'=>∃ g2 c2,e=.returned (.slice (some ⟨g2,0,none⟩) ns.length c2)/\PIn w' g2 (Zb8 p)/\Below w.heap.size w w':=by
 obtain ⟨f1,f2,f3,f4⟩:=ZfK h
 exact (Znf w g c ns.length p hP f3 f1 f2 f4).mono fun e w' ⟨b,g2,c2,e,_,_,q⟩=>⟨g2,c2,e,q,b⟩
theorem Zsf {w:World} {g c:Nat} {ns:List Nd} {p:List Int} (h:Zcg ns=some p) (hP:PIn w g (Zb8 p)) :
  Calls Tryz.prog 32 #[.slice (some ⟨g,0,none⟩) ns.length c] w fun e w'=>e=.returned (.int .i64 (Zgd (Zb8 p)))/\w=w':=by
 obtain ⟨f1,f2,f3,f4⟩:=ZfK h
 exact ZqP w g c ns.length (Zb8 p) hP (by unfold Zb8;rw [Zb7,f3]) f1 f2
end
section
open Go.RowKit
theorem Zn9 {ns:List Nd} {k:Nat} {d:Nd} (h:ns[k]? = some d) (h0:d.nums=[]):ZaD ns k=-1:=by
 unfold ZaD
 rw [Zb2 h,h0]
theorem Zmg {ns:List Nd} {k:Nat} {d:Nd} {x:Int} {r:List Int} (h:ns[k]? = some d) (h0:d.nums=x::r):ZaD ns k=x:=by
 unfold ZaD
 rw [Zb2 h,h0]
theorem Zkm (w:World) (v:Value) (ns:List Nd) (k:Nat) (h:Zs w v ns) (hk:k<ns.length) :
  Calls Tryz.prog 115 #[v,.int .i64 k] w fun e w'=>e=.returned (.int .i64 (ZaD ns k))/\w=w':=by
 obtain ⟨A,cp,rs,rfl,h2,h3,h4,h5,h6⟩:=h
 obtain ⟨x,hx⟩:∃ x,rs[k]? = some x:=⟨_,List.getElem?_eq_getElem (by have:=congrArg List.length h4;rw [List.length_map] at this;omega)⟩
 have hd:ns[k]? = some x.2:=by rw [<- h4,List.getElem?_map,hx];rfl
 obtain ⟨ad,rfl,d0,d1,d2,d3,d4⟩:=ZbA h5 (Below.refl _ _) hx (by omega)
 obtain ⟨_,⟨A2,c2,ev2,k2,k3,k4⟩,_⟩:=h6 x (List.mem_of_getElem? hx)
 obtain ⟨⟨va,vb,vc⟩,kd,ws,nums,ks,ps⟩:=x
 dsimp only at d0 d1 d2 d3 d4 ev2 k2 k3 k4 hd
 subst ev2
 obtain ⟨n,hn⟩:∃ n,n=ns.length:=⟨_,rfl⟩
 rw [<- hn] at hk ⊢
 have i1:(k:Int)<(n:Int):=by omega
 have i2:(0:Int)<=(k:Int):=by omega
 clear h2 h3 h4 h5 h6 hx hk hn d0 d1 d3 d4
 cases nums with
 | nil=>
  have t1:((0:Int)==0)=true:=rfl
  have FIN:=zh (Zn9 hd rfl)
  simp only [List.length_nil] at d2 k2 k4
  clear hd k2 k3 k4
  go_enter Tryz.func115,Tryz.ntmps115
  go_wp2_with fail
  go_ret
  exact ⟨by rw [FIN.out];rfl,rfl⟩
 | cons y r=>
  obtain ⟨ad2,rfl,e0⟩:=ints_at (k:=0) (x:=y) k4 (Below.refl _ _) rfl (by simp)
  rw [show ad2.add 0=ad2 by unfold Addr.add;simp] at e0
  have FIN:=zh (Zmg hd rfl)
  obtain ⟨m,hm⟩:∃ m,m=(y::r).length:=⟨_,rfl⟩
  rw [<- hm] at d2
  have t1:((m:Int)==0)=false:=by
   have:m=r.length+1:=hm
   simpa using fun e=>by omega
  have i3:(0:Int)<(m:Int):=by
   have:m=r.length+1:=hm
   omega
  clear hd k2 k3 k4 hm
  go_enter Tryz.func115,Tryz.ntmps115
  go_wp2_with fail
  go_ret
  exact ⟨by rw [FIN.out];rfl,rfl⟩
theorem Zd3 {n:Nd} {k:Nat} {x:Int} (h:n.nums[k]? = some x):num n k=x:=by
 unfold num
 rw [h]
 rfl
theorem Zhv (w:World) (x:NdV×Nd) (h:ZaW w x) (h3:x.2.nums.length=3) :
  Calls Tryz.prog 113 #[ndV x] w fun e w'=>e=.returned (.bool (ZdY x.2))/\Below w.heap.size w w':=by
 obtain ⟨⟨A,c,e1,_⟩,⟨A2,c2,e2,g1,g2,g3⟩,A3,c3,e3,_⟩:=h
 obtain ⟨⟨v1,v2,v3⟩,kd,ws,ns,ks,ps⟩:=x
 dsimp only at e1 e2 e3 h3 g1 g2 g3
 subst e1 e2 e3
 obtain ⟨y1,hy1⟩:∃ y,ns[1]? = some y:=⟨_,List.getElem?_eq_getElem (by omega)⟩
 obtain ⟨y2,hy2⟩:∃ y,ns[2]? = some y:=⟨_,List.getElem?_eq_getElem (by omega)⟩
 unfold ZdY
 rw [Zd3 (n:=(⟨kd,ws,ns,ks,ps⟩:Nd)) hy1,Zd3 (n:=(⟨kd,ws,ns,ks,ps⟩:Nd)) hy2]
 have hb:=below_alloc1 w (.cells #[.int .i64 kd,.slice A ws.length c,.slice A2 ns.length c2,.slice A3 ks.length c3,.int .i64 ps] 37)
 obtain ⟨ad,rfl,a1⟩:=ints_at (k:=1) g3 hb hy1 (by omega)
 obtain ⟨ad',ea,a2⟩:=ints_at (k:=2) g3 hb hy2 (by omega)
 injection ea with ea
 subst ea
 rw [show ad.add 1=⟨ad.block,ad.off+1,none⟩ by unfold Addr.add;simp] at a1
 rw [show ad.add 2=⟨ad.block,ad.off+2,none⟩ by unfold Addr.add;simp] at a2
 have HB:=zh hb
 unfold ndV
 dsimp only
 rw [h3] at *
 clear g1 g2 g3 hy1 hy2 hb
 by_cases q1:1<=y1
 ·by_cases q2:1<=y2
  ·have Q:=zh (zi q1 q2)
   go_enter Tryz.func113,Tryz.ntmps113
   go_wp2_with fail
   go_ret
   exact ⟨by first | rfl | (have:=Q.out;simp;omega) | (have:=Q.out;simp_all),HB.out⟩
  ·have q2':y2<1:=by omega
   have Q:=zh (zi q1 q2)
   go_enter Tryz.func113,Tryz.ntmps113
   go_wp2_with fail
   go_ret
   exact ⟨by first | rfl | (have:=Q.out;simp;omega) | (have:=Q.out;simp_all),HB.out⟩
 ·have q1':y1<1:=by omega
  have Q:=zh q1
  go_enter Tryz.func113,Tryz.ntmps113
  go_wp2_with fail
  go_ret
  exact ⟨by first | rfl | (have:=Q.out;simp;omega) | (have:=Q.out;simp_all),HB.out⟩
end
section
open Go.RowKit
theorem Zja (ns:List Nd):∀ (l:List Int) (a b:Int),Zbm ns (l++[a,b])=(Zbm ns (l++[a])&&decide (ZaD ns a<ZaD ns b))
 | [],a,b=>by simp [Zbm]
 | [x],a,b=>by simp [Zbm,Bool.and_comm]
 | x::y::r,a,b=>by
  have:=Zja ns (y::r) a b
  simp only [List.cons_append] at this ⊢
  rw [Zbm,Zbm,this,Bool.and_assoc]
theorem ZqM {l:List Int} {k:Nat} {a b:Int} (ha:l[k]? = some a) (hb:l[k+1]? = some b):l.take (k+1)=l.take k++[a]/\l.take (k+1+1)=l.take k++[a,b]:=by
 have e1:l.take (k+1)=l.take k++[a]:=by rw [List.take_add_one,ha];rfl
 exact ⟨e1,by rw [List.take_add_one,hb,e1,List.append_assoc];rfl⟩
theorem ZnU {ns:List Nd} {l:List Int} {k:Nat} {a b:Int} (ha:l[k]? = some a) (hb:l[k+1]? = some b) (h:Zbm ns (l.take (k+1))=true):Zbm ns (l.take (k+1+1))=decide (ZaD ns a<ZaD ns b):=by
 obtain ⟨e1,e2⟩:=ZqM ha hb
 rw [e2,Zja,<- e1,h,Bool.true_and]
theorem Zj9 (ns:List Nd):∀ (l m:List Int),Zbm ns l=false->Zbm ns (l++m)=false
 | [],m,h=>by simp [Zbm] at h
 | [x],m,h=>by simp [Zbm] at h
 | x::y::r,m,h=>by
  rw [Zbm] at h
  simp only [List.cons_append]
  rw [Zbm]
  rcases Bool.and_eq_false_iff.mp h with h | h
  ·rw [h,Bool.false_and]
  ·rw [show (y::(r++m))=(y::r)++m from rfl,Zj9 ns (y::r) m h,Bool.and_false]
theorem Zpk {ns:List Nd} {l:List Int} {k:Nat} (h:Zbm ns (l.take k)=false):Zbm ns l=false:=by
 rw [<- List.take_append_drop k l]
 exact Zj9 ns _ _ h
theorem Zjz (w:World) (v vk:Value) (ns:List Nd) (ks:List Int) (h:Zs w v ns) (hk:Zbh w vk ks) (hi:ZdO ks ns.length) :
  Calls Tryz.prog 114 #[v,vk] w fun e w'=>e=.returned (.bool (Zbm ns ks))/\Below w.heap.size w w':=by
 have WH:=zh (fun (wr:World) (hb:Below w.heap.size w wr) (k:Nat) (q:k<ns.length)=>(Zkm wr v ns k (h.below hb) q).mono (fun _ _ q=>(⟨q.1,q.2.symm⟩:_/\_)))
 obtain ⟨A,cp,rfl,h2,h3,h4⟩:=hk
 obtain ⟨n,hn⟩:∃ n,n=ks.length:=⟨_,rfl⟩
 have hmx:n<=9223372036854775807:=by unfold maxLen at h3;omega
 rw [<- hn] at h2 h4 ⊢
 have HN:=zh (zi hn (zi hmx hi))
 have H4:=zh h4
 clear hn h2 h3 h4 hmx hi h
 go_enter Tryz.func114,Tryz.ntmps114
 go_wp2_with fail
 go_loopg [5] (n-1) (fun g v5 wr=>∃ k:Nat,v5=.int .i64 ((k:Int)+1)/\(k+1<=n\/k=0)/\g=n-(k+1)/\Zbm ns (ks.take (k+1))=true/\Below w.heap.size w wr)
 case atStart=>exact ⟨0,rfl,.inr rfl,rfl,by cases ks<;>rfl,Below.refl _ _⟩
 case round=>
  obtain ⟨k,rfl,hk,hg,hr,hb⟩:=hrel
  by_cases hlt:k+1<n
  ·obtain ⟨a,ha⟩:∃ a,ks[k]? = some a:=⟨_,List.getElem?_eq_getElem (by have:=HN.out.1;omega)⟩
   obtain ⟨b,hb2⟩:∃ b,ks[k+1]? = some b:=⟨_,List.getElem?_eq_getElem (by have:=HN.out.1;omega)⟩
   have ka:=HN.out.2.2 a (List.mem_of_getElem? ha)
   have kb:=HN.out.2.2 b (List.mem_of_getElem? hb2)
   obtain ⟨an,rfl⟩:∃ an:Nat,a=an:=⟨a.toNat,by omega⟩
   obtain ⟨bn,rfl⟩:∃ bn:Nat,b=bn:=⟨b.toNat,by omega⟩
   obtain ⟨ad,rfl,da⟩:=ints_at H4.out hb ha (by omega)
   obtain ⟨ad',ea,db⟩:=ints_at H4.out hb hb2 (by omega)
   injection ea with ea
   subst ea
   have nx:=ZnU ha hb2 hr
   have NX:=zh (zi nx (fun q=>Zpk (nx.trans q)))
   have WA:=zh (fun d=>WH.out (wr.drewN d) (below_drewN hb d) an (by omega))
   have WB:=zh (fun d=>WH.out (wr.drewN d) (below_drewN hb d) bn (by omega))
   obtain ⟨j,hj⟩:∃ j,j=k+1:=⟨_,rfl⟩
   have ej:(k:Int)+1=(j:Int):=by omega
   rw [ej]
   rw [<- hj] at db
   have i1:(j:Int)<(n:Int):=by omega
   have i2:(0:Int)<=(j:Int):=by omega
   have i3:(k:Int)<(n:Int):=by omega
   have i4:(0:Int)<=(k:Int):=by omega
   have u1:IntKind.i64.wrap ((j:Int)-1)=(k:Int):=by rw [IntWalk.i64_in _ (by have:=HN.out;omega)];omega
   have u2:IntKind.i64.wrap ((j:Int)+1)=(j:Int)+1:=IntWalk.i64_in _ (by have:=HN.out;omega)
   have HK:=zh (zi hlt (zi hg (zi hj hb)))
   clear hlt hg hj ej nx ha hb2 hk hr hb ka kb
   generalize ZaD ns (an:Int)=X at *
   generalize ZaD ns (bn:Int)=Y at *
   go_upto_region 4 with fail
   go_quiet (first
    | (go_at_call 115;with_reducible exact Calls.quiet_of_same (WA.out _))
    | (go_at_call 115;with_reducible exact Calls.quiet_of_same (WB.out _)))
   by_cases q:X<Y
   ·have nq:¬ Y<=X:=by omega
    have RN:=zh (NX.out.1.trans (decide_eq_true q))
    go_wp2_with fail
    go_roundg (n-(k+1+1))
    case measure=>have:=HK.out;omega
    case rel=>exact ⟨k+1,by rw [HK.out.2.2.1],by have:=HK.out;omega,rfl,RN.out,below_drewN HK.out.2.2.2 _⟩
   ·have nq:Y<=X:=by omega
    have FIN:=zh (NX.out.2 (decide_eq_false q))
    clear q
    go_wp2_with fail
    go_ret
    exact ⟨by rw [FIN.out];rfl,below_drewN HK.out.2.2.2 _⟩
  ·have e:ks.take (k+1)=ks:=List.take_of_length_le (by have:=HN.out.1;omega)
   rw [e] at hr
   have i1:¬ (k:Int)+1<(n:Int):=by omega
   have FIN:=zh (zi hr hb)
   clear hk hg hr hb hlt e
   go_wp2_with fail
   go_ret
   exact ⟨by rw [FIN.out.1];rfl,FIN.out.2⟩
end
end Go.Proofs.YtkongcicmajolaaGreatDoor
