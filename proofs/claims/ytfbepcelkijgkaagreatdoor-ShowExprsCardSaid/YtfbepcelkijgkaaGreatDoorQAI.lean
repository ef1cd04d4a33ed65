import Derived.Test.YtfbepcelkijgkaaGreatDoorQAA
import Derived.Test.YtfbepcelkijgkaaGreatDoorQAF
import Derived.Test.YtfbepcelkijgkaaGreatDoorQAH
set_option maxRecDepth 100000
set_option maxHeartbeats 8000000
open Option renaming some → Ya, none → Yb
open Go.Value renaming slice → Yc, int → Yd
open Go.IntKind renaming i64 → Yf
open Go.Obj renaming cells → Yg
open Go renaming World → Yh, Value → Yi
namespace Go.Proofs.YtfbepcelkijgkaaGreatDoor
section
open Go.RowKit
theorem ZgE (n a:Nat):∀(x:List Int) (p q:List Int),ZbO n a x p=Ya q->∀k∈x,(a:Int)<k/\k<(n:Int)
 |[],p,q,h,k,hk=>by cases hk
 |y::r,p,q,h,k,hk=>by
  rw[ZbO]at h
  split at h
  ·cases h
  ·rename_i b
   rcases List.mem_cons.mp hk with e|e
   ·subst e;omega
   ·exact ZgE n a r _ q h k e
theorem Zmr (ns:List Nd):∀(j:Nat) (p:List Int),Zcd ns j=Ya p->∀(i:Nat) (d:Nd),i<j->ns[i]? = Ya d->∀k∈d.kids,(i:Int)<k/\k<(ns.length:Int)
 |0,p,h,i,d,hi,hd=>absurd hi (Nat.not_lt_zero _)
 |j+1,p,h,i,d,hi,hd=>by
  rw[Zcd]at h;cases hq:Zcd ns j with
  |none=>rw[hq]at h;cases h
  |some q=>
   rw[hq,Option.bind_some]at h
   split at h
   ·cases h
   ·by_cases e:i=j
    ·subst e;rw[Zcm hd]at h;exact ZgE _ _ _ _ _ h
    ·exact Zmr ns j q hq i d (by omega) hd
theorem Zmt {ns:List Nd} {p:List Int} (h:ZbJ ns=Ya p) {i:Nat} {d:Nd} (hd:ns[i]? = Ya d):∀k∈d.kids,(i:Int)<k/\k<(ns.length:Int):=by
 have a:=(List.getElem?_eq_some_iff.mp hd).1;unfold ZbJ at h
 split at h
 ·cases h
 ·exact Zmr ns _ p h i d a hd
theorem ZoU {ns:List Nd} {p:List Int} (h:ZbJ ns=Ya p) {i:Nat} {d:Nd} (hd:ns[i]? = Ya d):Zaw d.kids ns.length:=fun k hk=>by
 have:=Zmt h hd k hk;omega
theorem Zdb {ns:List Nd} (h:ZbJ ns=Yb):ZcB ns=false:=by unfold ZcB;rw[h]
theorem ZeZ {ns:List Nd} {p:List Int} (h:ZbJ ns=Ya p):ZcB ns=(Zp ns 0==0&&decide (ZfP (ZbR p)<=24)&&ns.all (ZD ns)):=by unfold ZcB;rw[h]
theorem Zdk {ns:List Nd} {k:Nat} {d:Nd} (h:ns[k]? = Ya d):Zp ns k=d.kind:=by unfold Zp;rw[Zcm h]
end
section
open Go.RowKit
def ZfC (w:Yh) (v:Yi) (ts:List Tst):Prop:=
 ∃A c a,v=Yc A ts.length c/\ts.length<=c/\c<=maxLen/\a.length=ts.length/\ZM w w.heap.size 1 A ts.length a/\∀(i:Nat) (t:Tst) (u:Yi),ts[i]? = Ya t->a[i]? = Ya u->ZaY w t u
theorem ZfC.below {w w':Yh} {v:Yi} {l:List Tst} (h:ZfC w v l) (d:Below w.heap.size w w'):ZfC w' v l:=by obtain⟨A,c,n,e,f,g,j,k,m⟩:=h;exact⟨A,c,n,e,f,g,j,(k.below d).more d.size,fun i t u a b=>(m i t u a b).below d⟩
theorem Zi3 (ns:List Nd):∀(b:List Int) (a:List (Int->Bool)),b.length≠a.length->Zj ns b a=false
 |[],[],h=>absurd rfl h
 |[],_::_,_=>rfl
 |_::_,[],_=>rfl
 |k::r,f::g,h=>by
  rw[Zj,Zi3 ns r g (fun e=>h (by simp[e])),Bool.and_false]
theorem Zkg (ns:List Nd):∀(b:List Int) (a:List (Int->Bool)) (k:Nat) (x:Int) (f:Int->Bool),b[k]? = Ya x->a[k]? = Ya f->Zj ns (b.take k) (a.take k)=true->Zj ns (b.take (k+1)) (a.take (k+1))=f (Zp ns x)
 |[],a,k,x,f,h,_,_=>by simp at h
 |_::_,[],k,x,f,_,h,_=>by simp at h
 |y::r,g::s,0,x,f,h1,h2,_=>by
  obtain rfl:y=x:=by simpa using h1
  obtain rfl:g=f:=by simpa using h2
  simp[Zj]
 |y::r,g::s,k+1,x,f,h1,h2,h3=>by
  rw[List.take_succ_cons,List.take_succ_cons,Zj,Bool.and_eq_true]at h3;rw[List.take_succ_cons,List.take_succ_cons,Zj,h3.1,Bool.true_and];exact Zkg ns r s k x f (by simpa using h1) (by simpa using h2) h3.2
theorem Zma (ns:List Nd):∀(b:List Int) (a:List (Int->Bool)) (k:Nat) (x:Int) (f:Int->Bool),b[k]? = Ya x->a[k]? = Ya f->f (Zp ns x)=false->Zj ns b a=false
 |[],a,k,x,f,h,_,_=>by simp at h
 |_::_,[],k,x,f,_,h,_=>by simp at h
 |y::r,g::s,0,x,f,h1,h2,h=>by
  obtain rfl:y=x:=by simpa using h1
  obtain rfl:g=f:=by simpa using h2
  rw[Zj,h,Bool.false_and]
 |y::r,g::s,k+1,x,f,h1,h2,h=>by
  rw[Zj,Zma ns r s k x f (by simpa using h1) (by simpa using h2) h,Bool.and_false]
theorem Zl9 (w:Yh) (v vk vf:Yi) (ns:List Nd) (D:List Int) (ts:List Tst) (hN:Zi w v ns) (E:ZaX w vk D) (hF:ZfC w vf ts) (hk:Zaw D ns.length) :
  Calls Tryz.prog 83 #[v,vk,vf] w fun e w'=>e=.returned (.bool (Zj ns D (ts.map Tst.f)))/\Below w.heap.size w w':=by
 obtain⟨A,c,rs,rfl,_,_,h4,h5,_⟩:=hN;obtain⟨Ak,ck,rfl,_,k3,k4⟩:=E;obtain⟨Af,bk,us,rfl,_,f3,f4,f5,f6⟩:=hF;obtain⟨nn,I⟩:∃n,n=ns.length:=⟨_,rfl⟩
 obtain⟨n,hn⟩:∃n,n=D.length:=⟨_,rfl⟩
 obtain⟨m,hm⟩:∃n,n=ts.length:=⟨_,rfl⟩
 rw[<-I]at h5 hk⊢;rw[<-hn]at k4⊢;rw[<-hm]at f5⊢;by_cases M:n=m
 rotate_left
 ·have e:=Zi3 ns D (ts.map Tst.f) (by rw[List.length_map,<-hn,<-hm];exact M);rw[e];have i1:((n:Int) != (m:Int))=true:=by simpa using fun e=>M (by omega)
  clear h4 h5 k3 k4 f3 f4 f5 f6 I hn hm hk M e;go_enter Tryz.func83,Tryz.ntmps83;go_wp2_with fail;go_ret;exact⟨rfl,Below.refl _ _⟩
 have i0:((n:Int) != (n:Int))=false:=by simp
 have ae:rs.length=nn:=by rw[I,<-h4,List.length_map]
 have aa:n<=9223372036854775807:=by unfold maxLen at k3;omega
 subst M;have J:=zh (zi hn (zi hm (zi I (zi ae (zi aa (zi hk (zi f6 f4)))))));have HR:=zh (zi h4 (zi h5 (zi k4 f5)));clear hn hm I ae aa hk f6 f4 h4 h5 k4 f5 k3 f3;go_enter Tryz.func83,Tryz.ntmps83;go_wp2_with fail;go_loopg [16] n (fun g az wr=>Below w.heap.size w wr/\∃i:Nat,az=Yd Yf i/\i<=n/\g=n-i/\Zj ns (D.take i) ((ts.map Tst.f).take i)=true)
 case atStart=>exact⟨Below.refl _ _,0,rfl,Nat.zero_le _,rfl,rfl⟩
 case round=>
  obtain⟨k,i,rfl,hi,hg,B⟩:=hrel;by_cases L:i=n
  ·have e1:D.take i=D:=by rw[L,J.out.1];exact List.take_length
   have e2:(ts.map Tst.f).take i=ts.map Tst.f:=by rw[L,J.out.2.1,show ts.length=(ts.map Tst.f).length by rw[List.length_map]];exact List.take_length
   rw[e1,e2]at B;have s:=zh (zi B k);subst L;clear hi hg B e1 e2 k;go_wp2_with fail;go_ret;exact⟨by rw[s.out.1];rfl,s.out.2⟩
  ·have H:i<n:=by omega
   obtain⟨x,hx⟩:∃x,D[i]? = Ya x:=⟨_,Ym (by rw[<-J.out.1];exact H)⟩
   obtain⟨t,ht⟩:∃t,ts[i]? = Ya t:=⟨_,Ym (by rw[<-J.out.2.1];exact H)⟩
   obtain⟨u,U⟩:∃u,us[i]? = Ya u:=⟨_,Ym (by rw[J.out.2.2.2.2.2.2.2,<-J.out.2.1];exact H)⟩
   have hu:=(J.out.2.2.2.2.2.2.1 i t u ht U).below k;obtain⟨bi,rfl,k0⟩:=ints_at HR.out.2.2.1 k hx (by omega);have ao:∃X,Af=Ya X/\wr.cell? (X.add i)=Ya u:=by obtain⟨X,e,ar,hc⟩:=HR.out.2.2.2.2 (by omega);exact⟨X,e,(k.cell (p:=X.add i) (by rw[Zbf];exact ar)).trans (hc i u U)⟩
   obtain⟨l,rfl,O⟩:=ao;have av:=J.out.2.2.2.2.2.1 x (List.mem_of_getElem? hx);obtain⟨j,rfl⟩:∃j:Nat,x=j:=⟨x.toNat,by omega⟩
   obtain⟨y,hy⟩:∃y,rs[j]? = Ya y:=⟨_,Ym (by have:=J.out.2.2.2.1;omega)⟩
   have ac:ns[j]? = Ya y.2:=by rw[<-HR.out.1,List.getElem?_map,hy];rfl
   obtain⟨o,rfl,N,_⟩:=Zan HR.out.2.1 k hy (by omega);have Z:Zp ns j=y.2.kind:=by unfold Zp Zf;rw[Int.toNat_natCast,ac];rfl
   have T:(ts.map Tst.f)[i]? = Ya t.f:=by rw[List.getElem?_map,ht];rfl
   have V:=Zkg ns D (ts.map Tst.f) i j t.f hx T B;have R:=Zma ns D (ts.map Tst.f) i j t.f hx T;rw[Z]at V R;have i1:(i:Int)<(n:Int):=by omega
   have i2:(0:Int)<=(i:Int):=by omega
   have i3:(j:Int)<(nn:Int):=by omega
   have i4:(0:Int)<=(j:Int):=by omega
   have wk:IntKind.i64.wrap ((i:Int)+1)=(i:Int)+1:=IntWalk.i64_in _ (by have:=J.out.2.2.2.2.1;omega);generalize y.2.kind=h at *;have z:=zh (zi H (zi hg k));have NX:=zh (zi V R);clear V R hx ht U L H hi hg B k T Z ac hy av;generalize wr=b at *;cases t with
   |is D=>
    obtain⟨Y,Af,cf,rfl,h1,h2⟩:=hu;have Q:=zh (show ∀w':Yh,Below b.heap.size b w'->Calls Tryz.prog 109 #[Yd Yf h,.pointer (Ya ⟨Y,0,Yb⟩)] w' (fun e W=>e=.returned (.bool (isB D h))/\Below w'.heap.size w' W)from fun w' k=>Zcy (Zml w' Y Af _ cf D h (h1.keep k) (h2.below k)));clear h1 h2;have d:=NX.out;dsimp only[Tst.f]at d;have q:=zh d;clear d;generalize isB D h=P at *;have C:=zh (show Stb (fun w'=>(w'.cell? (l.add i)=Ya (.func (.func 109) #[] #[.pointer (Ya ⟨Y,0,Yb⟩)])/\w'.cell? (o.add (j*5))=Ya (Yd Yf h))/\Below b.heap.size b w')from Zae (Zae (ZT _ _) (ZT _ _)) (Zco b));go_upto_region 6 with fail;have G:((b.drew.cell? (l.add i)=Ya (.func (.func 109) #[] #[.pointer (Ya ⟨Y,0,Yb⟩)])/\b.drew.cell? (o.add (j*5))=Ya (Yd Yf h))/\Below b.heap.size b b.drew):=⟨⟨O,N⟩,ZaZ b⟩
    clear O N;refine wp_region_noPanic ?_;refine wp_region_held_drew (S:=(fun w'=>(w'.cell? (l.add i)=Ya (.func (.func 109) #[] #[.pointer (Ya ⟨Y,0,Yb⟩)])/\w'.cell? (o.add (j*5))=Ya (Yd Yf h))/\Below b.heap.size b w')) (by kernel_rfl) G (fun a=>?_);clear G;refine tk 0 rfl ?_;refine tk 1 rfl ?_;refine tk 2 rfl ?_;refine tk 3 rfl ?_;refine tk 4 rfl ?_;refine tk 5 rfl ?_;refine tk 6 rfl ?_;refine tk 7 rfl ?_;refine tk 8 rfl ?_;(try simp only[cl,Act.put]);refine rd 9 rfl fun K E=>?_;go_simp;(go_at_call 109;(with_reducible refine(Q.out _ (Za (by with_reducible assumption))).mono ?_);rintro e5 w5 ⟨rfl,k⟩);go_wp2_with fail;refine E.out _ _ (C.out _ _ k (by with_reducible assumption)) (fun r=>?_);clear E K a k;have a:=r;clear r;(try simp only[cl,Act.put]);refine tk 10 rfl ?_;(try simp only[cl,Act.put]);refine wpAnyH_done (by kernel_rfl) ?_ _;refine NoPanic.normal ?_;have F:=zh (z.out.2.2.trans ((Za a).mono z.out.2.2.size));clear a;cases P
    ·have s:=zh (q.out.2 (by first|rfl|trivial));go_wp2_with fail;go_ret;exact⟨by rw[s.out];rfl,F.out⟩
    ·go_wp2_with fail;go_roundg (n-(i+1))
     case measure=>have:=z.out.1;have:=z.out.2.1;omega
     case rel=>exact⟨F.out,i+1,by push_cast;rfl,by have:=z.out.1;omega,rfl,q.out.1⟩
   |stmt=>
    obtain rfl:u=.func (.func 85) #[] #[]:=hu;have Q:=zh (show ∀w':Yh,Below b.heap.size b w'->Calls Tryz.prog 85 #[Yd Yf h] w' (fun e W=>e=.returned (.bool (ZcE h))/\Below w'.heap.size w' W)from fun w' k=>Zcy (Zlf w' h));have d:=NX.out;dsimp only[Tst.f]at d;have q:=zh d;clear d;generalize ZcE h=P at *;have C:=zh (show Stb (fun w'=>(w'.cell? (l.add i)=Ya (.func (.func 85) #[] #[])/\w'.cell? (o.add (j*5))=Ya (Yd Yf h))/\Below b.heap.size b w')from Zae (Zae (ZT _ _) (ZT _ _)) (Zco b));go_upto_region 6 with fail;have G:((b.drew.cell? (l.add i)=Ya (.func (.func 85) #[] #[])/\b.drew.cell? (o.add (j*5))=Ya (Yd Yf h))/\Below b.heap.size b b.drew):=⟨⟨O,N⟩,ZaZ b⟩
    clear O N;refine wp_region_noPanic ?_;refine wp_region_held_drew (S:=(fun w'=>(w'.cell? (l.add i)=Ya (.func (.func 85) #[] #[])/\w'.cell? (o.add (j*5))=Ya (Yd Yf h))/\Below b.heap.size b w')) (by kernel_rfl) G (fun a=>?_);clear G;refine tk 0 rfl ?_;refine tk 1 rfl ?_;refine tk 2 rfl ?_;refine tk 3 rfl ?_;refine tk 4 rfl ?_;refine tk 5 rfl ?_;refine tk 6 rfl ?_;refine tk 7 rfl ?_;refine tk 8 rfl ?_;(try simp only[cl,Act.put]);refine rd 9 rfl fun K E=>?_;go_simp;(go_at_call 85;(with_reducible refine(Q.out _ (Za (by with_reducible assumption))).mono ?_);rintro e5 w5 ⟨rfl,k⟩);go_wp2_with fail;refine E.out _ _ (C.out _ _ k (by with_reducible assumption)) (fun r=>?_);clear E K a k;have a:=r;clear r;(try simp only[cl,Act.put]);refine tk 10 rfl ?_;(try simp only[cl,Act.put]);refine wpAnyH_done (by kernel_rfl) ?_ _;refine NoPanic.normal ?_;have F:=zh (z.out.2.2.trans ((Za a).mono z.out.2.2.size));clear a;cases P
    ·have s:=zh (q.out.2 (by first|rfl|trivial));go_wp2_with fail;go_ret;exact⟨by rw[s.out];rfl,F.out⟩
    ·go_wp2_with fail;go_roundg (n-(i+1))
     case measure=>have:=z.out.1;have:=z.out.2.1;omega
     case rel=>exact⟨F.out,i+1,by push_cast;rfl,by have:=z.out.1;omega,rfl,q.out.1⟩
   |expr=>
    obtain rfl:u=.func (.func 86) #[] #[]:=hu;have Q:=zh (show ∀w':Yh,Below b.heap.size b w'->Calls Tryz.prog 86 #[Yd Yf h] w' (fun e W=>e=.returned (.bool (ZF h))/\Below w'.heap.size w' W)from fun w' k=>Zcy (Zh4 w' h));have d:=NX.out;dsimp only[Tst.f]at d;have q:=zh d;clear d;generalize ZF h=P at *;have C:=zh (show Stb (fun w'=>(w'.cell? (l.add i)=Ya (.func (.func 86) #[] #[])/\w'.cell? (o.add (j*5))=Ya (Yd Yf h))/\Below b.heap.size b w')from Zae (Zae (ZT _ _) (ZT _ _)) (Zco b));go_upto_region 6 with fail;have G:((b.drew.cell? (l.add i)=Ya (.func (.func 86) #[] #[])/\b.drew.cell? (o.add (j*5))=Ya (Yd Yf h))/\Below b.heap.size b b.drew):=⟨⟨O,N⟩,ZaZ b⟩
    clear O N;refine wp_region_noPanic ?_;refine wp_region_held_drew (S:=(fun w'=>(w'.cell? (l.add i)=Ya (.func (.func 86) #[] #[])/\w'.cell? (o.add (j*5))=Ya (Yd Yf h))/\Below b.heap.size b w')) (by kernel_rfl) G (fun a=>?_);clear G;refine tk 0 rfl ?_;refine tk 1 rfl ?_;refine tk 2 rfl ?_;refine tk 3 rfl ?_;refine tk 4 rfl ?_;refine tk 5 rfl ?_;refine tk 6 rfl ?_;refine tk 7 rfl ?_;refine tk 8 rfl ?_;(try simp only[cl,Act.put]);refine rd 9 rfl fun K E=>?_;go_simp;(go_at_call 86;(with_reducible refine(Q.out _ (Za (by with_reducible assumption))).mono ?_);rintro e5 w5 ⟨rfl,k⟩);go_wp2_with fail;refine E.out _ _ (C.out _ _ k (by with_reducible assumption)) (fun r=>?_);clear E K a k;have a:=r;clear r;(try simp only[cl,Act.put]);refine tk 10 rfl ?_;(try simp only[cl,Act.put]);refine wpAnyH_done (by kernel_rfl) ?_ _;refine NoPanic.normal ?_;have F:=zh (z.out.2.2.trans ((Za a).mono z.out.2.2.size));clear a;cases P
    ·have s:=zh (q.out.2 (by first|rfl|trivial));go_wp2_with fail;go_ret;exact⟨by rw[s.out];rfl,F.out⟩
    ·go_wp2_with fail;go_roundg (n-(i+1))
     case measure=>have:=z.out.1;have:=z.out.2.1;omega
     case rel=>exact⟨F.out,i+1,by push_cast;rfl,by have:=z.out.1;omega,rfl,q.out.1⟩
   |arg=>
    obtain rfl:u=.func (.func 88) #[] #[]:=hu;have Q:=zh (show ∀w':Yh,Below b.heap.size b w'->Calls Tryz.prog 88 #[Yd Yf h] w' (fun e W=>e=.returned (.bool (Zdp h))/\Below w'.heap.size w' W)from fun w' k=>Zcy (Zmb w' h));have d:=NX.out;dsimp only[Tst.f]at d;have q:=zh d;clear d;generalize Zdp h=P at *;have C:=zh (show Stb (fun w'=>(w'.cell? (l.add i)=Ya (.func (.func 88) #[] #[])/\w'.cell? (o.add (j*5))=Ya (Yd Yf h))/\Below b.heap.size b w')from Zae (Zae (ZT _ _) (ZT _ _)) (Zco b));go_upto_region 6 with fail;have G:((b.drew.cell? (l.add i)=Ya (.func (.func 88) #[] #[])/\b.drew.cell? (o.add (j*5))=Ya (Yd Yf h))/\Below b.heap.size b b.drew):=⟨⟨O,N⟩,ZaZ b⟩
    clear O N;refine wp_region_noPanic ?_;refine wp_region_held_drew (S:=(fun w'=>(w'.cell? (l.add i)=Ya (.func (.func 88) #[] #[])/\w'.cell? (o.add (j*5))=Ya (Yd Yf h))/\Below b.heap.size b w')) (by kernel_rfl) G (fun a=>?_);clear G;refine tk 0 rfl ?_;refine tk 1 rfl ?_;refine tk 2 rfl ?_;refine tk 3 rfl ?_;refine tk 4 rfl ?_;refine tk 5 rfl ?_;refine tk 6 rfl ?_;refine tk 7 rfl ?_;refine tk 8 rfl ?_;(try simp only[cl,Act.put]);refine rd 9 rfl fun K E=>?_;go_simp;(go_at_call 88;(with_reducible refine(Q.out _ (Za (by with_reducible assumption))).mono ?_);rintro e5 w5 ⟨rfl,k⟩);go_wp2_with fail;refine E.out _ _ (C.out _ _ k (by with_reducible assumption)) (fun r=>?_);clear E K a k;have a:=r;clear r;(try simp only[cl,Act.put]);refine tk 10 rfl ?_;(try simp only[cl,Act.put]);refine wpAnyH_done (by kernel_rfl) ?_ _;refine NoPanic.normal ?_;have F:=zh (z.out.2.2.trans ((Za a).mono z.out.2.2.size));clear a;cases P
    ·have s:=zh (q.out.2 (by first|rfl|trivial));go_wp2_with fail;go_ret;exact⟨by rw[s.out];rfl,F.out⟩
    ·go_wp2_with fail;go_roundg (n-(i+1))
     case measure=>have:=z.out.1;have:=z.out.2.1;omega
     case rel=>exact⟨F.out,i+1,by push_cast;rfl,by have:=z.out.1;omega,rfl,q.out.1⟩
end
section
open Go.RowKit
theorem Zkm (w:Yh) (cs:Array Yi) (ty:TypeId) (j:Nat) (u:Yi) (h:cs[j]? = Ya u):(w.alloc (.cells cs ty)).cell? (Addr.add ⟨w.heap.size,0,Yb⟩ j)=Ya u:=by rw[Addr.add_lit,Nat.zero_add,(Blk.start w cs ty).cell j];exact h
theorem Zhm (w:Yh) (us:List Yi) (ty:TypeId):ZM (w.alloc (.cells us.toArray ty)) (w.alloc (.cells us.toArray ty)).heap.size 1 (Ya ⟨w.heap.size,0,Yb⟩) us.length us:=
 ⟨by simp,fun _=>⟨_,rfl,(Blk.start w us.toArray ty).lt,fun j u a=>Zkm w us.toArray ty j u (by simpa using a)⟩⟩
theorem ZeS (w:Yh) (l:List Int) (ty:TypeId) (h:l.length<=maxLen):ZaX (w.alloc (.cells (l.map (Value.int Yf)).toArray ty)) (Yc (Ya ⟨w.heap.size,0,Yb⟩) l.length l.length) l:=
 ⟨_,_,rfl,Nat.le_refl _,h,by simpa using Zhm w (l.map (Value.int Yf)) ty⟩
def Zkc (w:Yh):List Tst->List Yi->Prop
 |[],[]=>True
 |t::ts,u::us=>ZaY w t u/\Zkc w ts us
 |_,_=>False
theorem ZmG {w:Yh}:∀{ts:List Tst} {us:List Yi},Zkc w ts us->us.length=ts.length/\∀(i:Nat) (t:Tst) (u:Yi),ts[i]? = Ya t->us[i]? = Ya u->ZaY w t u
 |[],[],_=>⟨rfl,fun i t u h=>by simp at h⟩
 |[],_::_,h=>h.elim
 |_::_,[],h=>h.elim
 |t::ts,u::us,h=>by
  obtain⟨e,f⟩:=ZmG h.2;refine⟨by rw[Yk,Yk,e],fun i c d a b=>?_⟩;cases i with
  |zero=>
   obtain rfl:t=c:=by simpa using a
   obtain rfl:u=d:=by simpa using b
   exact h.1
  |succ i=>exact f i c d (by simpa using a) (by simpa using b)
theorem ZcC (w:Yh) (ts:List Tst) (us:List Yi) (ty:TypeId) (hm:us.length<=maxLen) (h:Zkc (w.alloc (.cells us.toArray ty)) ts us):ZfC (w.alloc (.cells us.toArray ty)) (Yc (Ya ⟨w.heap.size,0,Yb⟩) us.length us.length) ts:=by obtain⟨a,b⟩:=ZmG h;exact⟨_,us.length,us,by rw[a],by rw[a];exact Nat.le_refl _,hm,a,by rw[<-a];exact Zhm w us ty,b⟩
theorem Zbw (w:Yh) (a:Int) (ty:TypeId):Calls Tryz.prog 80 #[Yc (Ya ⟨w.heap.size,0,Yb⟩) 1 1] (w.alloc (Yg #[Yd Yf a] ty)) fun e w'=>(∃u,e=.returned u/\ZaY w' (.is [a]) u)/\Below (w.alloc (Yg #[Yd Yf a] ty)).heap.size (w.alloc (Yg #[Yd Yf a] ty)) w':=ZkA _ _ [a] (ZeS w [a] ty (by simp[maxLen]))
theorem Zc9 (w:Yh) (a:Int) (ty:TypeId):Calls Tryz.prog 80 #[Yc (Ya ⟨w.heap.size,0,Yb⟩) 1 1] (w.alloc (Yg #[Yd Yf a] ty)).drew fun e w'=>(∃u,e=.returned u/\ZaY w' (.is [a]) u)/\Below (w.alloc (Yg #[Yd Yf a] ty)).drew.heap.size (w.alloc (Yg #[Yd Yf a] ty)).drew w':=ZkA _ _ [a] ((ZeS w [a] ty (by simp[maxLen])).below (ZaZ _))
theorem Zfy (w:Yh) (a b:Int) (ty:TypeId):Calls Tryz.prog 80 #[Yc (Ya ⟨w.heap.size,0,Yb⟩) 2 2] (w.alloc (Yg #[Yd Yf a,Yd Yf b] ty)) fun e w'=>(∃u,e=.returned u/\ZaY w' (.is [a,b]) u)/\Below (w.alloc (Yg #[Yd Yf a,Yd Yf b] ty)).heap.size (w.alloc (Yg #[Yd Yf a,Yd Yf b] ty)) w':=ZkA _ _ [a,b] (ZeS w [a,b] ty (by simp[maxLen]))
theorem Zfv {n:Nd} {a b:Nat} (h:Zq n a b=true):n.words.length=a/\n.nums.length=b:=by unfold Zq at h;rw[Bool.and_eq_true,decide_eq_true_eq,decide_eq_true_eq]at h;exact h
theorem Zeo (w:Yh):ZfC w (Yc Yb 0 0) []:=⟨Yb,0,[],rfl,Nat.le_refl _,by decide,rfl,ZM.none_,fun i t u h=>by simp at h⟩
end
end Go.Proofs.YtfbepcelkijgkaaGreatDoor
