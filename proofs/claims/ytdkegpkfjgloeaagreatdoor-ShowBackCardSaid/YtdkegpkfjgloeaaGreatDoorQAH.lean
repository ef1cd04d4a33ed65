import Derived.Deep.DeepFit
import Derived.Test.YtdkegpkfjgloeaaGreatDoorQAA
import Derived.Test.YtdkegpkfjgloeaaGreatDoorQAF
import Derived.Test.YtdkegpkfjgloeaaGreatDoorQAG
set_option maxRecDepth 100000
set_option maxHeartbeats 8000000
open Option renaming some → Ya, none → Yb
open Go.Value renaming slice → Yc, int → Yd, pointer → Ye
open Go.IntKind renaming i64 → Yf
open Go.Obj renaming cells → Yg
open Go renaming World → Yh, Value → Yi
open Go.RowKit
namespace Go.Proofs.YtdkegpkfjgloeaaGreatDoor
theorem ZgO (n a:Nat):∀(x:List Int) (p q:List Int),ZbY n a x p=Ya q->∀k∈x,(a:Int)<k/\k<(n:Int)
 |[],p,q,h,k,hk=>by cases hk
 |y::r,p,q,h,k,hk=>by
  rw[ZbY]at h
  split at h
  ·cases h
  ·rename_i b
   rcases List.mem_cons.mp hk with e|e
   ·subst e;omega
   ·exact ZgO n a r _ q h k e
theorem Zmz (ns:List Nd):∀(j:Nat) (p:List Int),Zcx ns j=Ya p->∀(i:Nat) (d:Nd),i<j->ns[i]? = Ya d->∀k∈d.kids,(i:Int)<k/\k<(ns.length:Int)
 |0,p,h,i,d,hi,hd=>absurd hi (Nat.not_lt_zero _)
 |j+1,p,h,i,d,hi,hd=>by
  rw[Zcx]at h;cases hq:Zcx ns j with
  |none=>rw[hq]at h;cases h
  |some q=>
   rw[hq,Option.bind_some]at h
   split at h
   ·cases h
   ·by_cases e:i=j
    ·subst e;rw[Zcg hd]at h;exact ZgO _ _ _ _ _ h
    ·exact Zmz ns j q hq i d (by omega) hd
theorem ZmB {ns:List Nd} {p:List Int} (h:Zb7 ns=Ya p) {i:Nat} {d:Nd} (hd:ns[i]? = Ya d):∀k∈d.kids,(i:Int)<k/\k<(ns.length:Int):=by
 have a:=(List.getElem?_eq_some_iff.mp hd).1;unfold Zb7 at h
 split at h
 ·cases h
 ·exact Zmz ns _ p h i d a hd
theorem Zo8 {ns:List Nd} {p:List Int} (h:Zb7 ns=Ya p) {i:Nat} {d:Nd} (hd:ns[i]? = Ya d):ZaB d.kids ns.length:=fun k hk=>by
 have:=ZmB h hd k hk;omega
theorem ZdR {ns:List Nd} (h:Zb7 ns=Yb):Zb9 ns=false:=by unfold Zb9;rw[h]
theorem Zfb {ns:List Nd} {p:List Int} (h:Zb7 ns=Ya p):Zb9 ns=(Zs ns 0==0&&decide (Zf2 (Zb1 p)<=24)&&ns.all (ZE ns)):=by unfold Zb9;rw[h]
theorem Zde {ns:List Nd} {k:Nat} {d:Nd} (h:ns[k]? = Ya d):Zs ns k=d.kind:=by unfold Zs;rw[Zcg h]
def ZfR (w:Yh) (v:Yi) (ts:List Tst):Prop:=
 ∃A c a,v=Yc A ts.length c/\ts.length<=c/\c<=maxLen/\a.length=ts.length/\ZO w w.heap.size 1 A ts.length a/\∀(i:Nat) (t:Tst) (u:Yi),ts[i]? = Ya t->a[i]? = Ya u->Za8 w t u
theorem ZfR.below {w w':Yh} {v:Yi} {l:List Tst} (h:ZfR w v l) (d:Below w.heap.size w w'):ZfR w' v l:=by obtain⟨A,c,n,e,f,g,j,k,m⟩:=h;exact⟨A,c,n,e,f,g,j,(k.below d).more d.size,fun i t u a b=>(m i t u a b).below d⟩
theorem Zi6 (ns:List Nd):∀(b:List Int) (a:List (Int->Bool)),b.length≠a.length->Zj ns b a=false
 |[],[],h=>absurd rfl h
 |[],_::_,_=>rfl
 |_::_,[],_=>rfl
 |k::r,f::g,h=>by
  rw[Zj,Zi6 ns r g (fun e=>h (by simp[e])),Bool.and_false]
theorem Zkh (ns:List Nd):∀(b:List Int) (a:List (Int->Bool)) (k:Nat) (x:Int) (f:Int->Bool),b[k]? = Ya x->a[k]? = Ya f->Zj ns (b.take k) (a.take k)=true->Zj ns (b.take (k+1)) (a.take (k+1))=f (Zs ns x)
 |[],a,k,x,f,h,_,_=>by simp at h
 |_::_,[],k,x,f,_,h,_=>by simp at h
 |y::r,g::s,0,x,f,h1,h2,_=>by
  obtain rfl:y=x:=by simpa using h1
  obtain rfl:g=f:=by simpa using h2
  simp[Zj]
 |y::r,g::s,k+1,x,f,h1,h2,h3=>by
  rw[List.take_succ_cons,List.take_succ_cons,Zj,Bool.and_eq_true]at h3;rw[List.take_succ_cons,List.take_succ_cons,Zj,h3.1,Bool.true_and];exact Zkh ns r s k x f (by simpa using h1) (by simpa using h2) h3.2
theorem Zmj (ns:List Nd):∀(b:List Int) (a:List (Int->Bool)) (k:Nat) (x:Int) (f:Int->Bool),b[k]? = Ya x->a[k]? = Ya f->f (Zs ns x)=false->Zj ns b a=false
 |[],a,k,x,f,h,_,_=>by simp at h
 |_::_,[],k,x,f,_,h,_=>by simp at h
 |y::r,g::s,0,x,f,h1,h2,h=>by
  obtain rfl:y=x:=by simpa using h1
  obtain rfl:g=f:=by simpa using h2
  rw[Zj,h,Bool.false_and]
 |y::r,g::s,k+1,x,f,h1,h2,h=>by
  rw[Zj,Zmj ns r s k x f (by simpa using h1) (by simpa using h2) h,Bool.and_false]
theorem Zmi (w:Yh) (v vk vf:Yi) (ns:List Nd) (D:List Int) (ts:List Tst) (hN:Zi w v ns) (E:Za7 w vk D) (hF:ZfR w vf ts) (hk:ZaB D ns.length) :
  Calls Tryz.prog 75 #[v,vk,vf] w fun e w'=>e=.returned (.bool (Zj ns D (ts.map Tst.f)))/\Below w.heap.size w w':=by
 obtain⟨A,c,rs,rfl,_,_,h4,h5,_⟩:=hN;obtain⟨Ak,ck,rfl,_,k3,k4⟩:=E;obtain⟨Af,bi,us,rfl,_,f3,f4,f5,f6⟩:=hF;obtain⟨nn,I⟩:∃n,n=ns.length:=⟨_,rfl⟩
 obtain⟨n,hn⟩:∃n,n=D.length:=⟨_,rfl⟩
 obtain⟨m,hm⟩:∃n,n=ts.length:=⟨_,rfl⟩
 rw[<-I]at h5 hk⊢;rw[<-hn]at k4⊢;rw[<-hm]at f5⊢;by_cases M:n=m
 rotate_left
 ·have e:=Zi6 ns D (ts.map Tst.f) (by rw[List.length_map,<-hn,<-hm];exact M);rw[e];have i1:((n:Int) != (m:Int))=true:=by simpa using fun e=>M (by omega)
  clear h4 h5 k3 k4 f3 f4 f5 f6 I hn hm hk M e;go_enter Tryz.func75,Tryz.ntmps75;go_wp2_with fail;go_ret;exact⟨rfl,Below.refl _ _⟩
 have i0:((n:Int) != (n:Int))=false:=by simp
 have ac:rs.length=nn:=by rw[I,<-h4,List.length_map]
 have aa:n<=9223372036854775807:=by unfold maxLen at k3;omega
 subst M;have J:=zh (zi hn (zi hm (zi I (zi ac (zi aa (zi hk (zi f6 f4)))))));have HR:=zh (zi h4 (zi h5 (zi k4 f5)));clear hn hm I ac aa hk f6 f4 h4 h5 k4 f5 k3 f3;go_enter Tryz.func75,Tryz.ntmps75;go_wp2_with fail;go_loopg [16] n (fun g ay wr=>Below w.heap.size w wr/\∃i:Nat,ay=Yd Yf i/\i<=n/\g=n-i/\Zj ns (D.take i) ((ts.map Tst.f).take i)=true)
 case atStart=>exact⟨Below.refl _ _,0,rfl,Nat.zero_le _,rfl,rfl⟩
 case round=>
  obtain⟨k,i,rfl,hi,hg,B⟩:=hrel;by_cases L:i=n
  ·have e1:D.take i=D:=by rw[L,J.out.1];exact List.take_length
   have e2:(ts.map Tst.f).take i=ts.map Tst.f:=by rw[L,J.out.2.1,show ts.length=(ts.map Tst.f).length by rw[List.length_map]];exact List.take_length
   rw[e1,e2]at B;have s:=zh (zi B k);subst L;clear hi hg B e1 e2 k;go_wp2_with fail;go_ret;exact⟨by rw[s.out.1];rfl,s.out.2⟩
  ·have H:i<n:=by omega
   obtain⟨x,hx⟩:∃x,D[i]? = Ya x:=⟨_,Ym (by rw[<-J.out.1];exact H)⟩
   obtain⟨t,ht⟩:∃t,ts[i]? = Ya t:=⟨_,Ym (by rw[<-J.out.2.1];exact H)⟩
   obtain⟨u,U⟩:∃u,us[i]? = Ya u:=⟨_,Ym (by rw[J.out.2.2.2.2.2.2.2,<-J.out.2.1];exact H)⟩
   have hu:=(J.out.2.2.2.2.2.2.1 i t u ht U).below k;obtain⟨bg,rfl,k0⟩:=ints_at HR.out.2.2.1 k hx (by omega);have an:∃X,Af=Ya X/\wr.cell? (X.add i)=Ya u:=by obtain⟨X,e,aq,hc⟩:=HR.out.2.2.2.2 (by omega);exact⟨X,e,(k.cell (p:=X.add i) (by rw[Zbq];exact aq)).trans (hc i u U)⟩
   obtain⟨l,rfl,O⟩:=an;have au:=J.out.2.2.2.2.2.1 x (List.mem_of_getElem? hx);obtain⟨j,rfl⟩:∃j:Nat,x=j:=⟨x.toNat,by omega⟩
   obtain⟨y,hy⟩:∃y,rs[j]? = Ya y:=⟨_,Ym (by have:=J.out.2.2.2.1;omega)⟩
   have ab:ns[j]? = Ya y.2:=by rw[<-HR.out.1,List.getElem?_map,hy];rfl
   obtain⟨o,rfl,N,_⟩:=ZaG HR.out.2.1 k hy (by omega);have Z:Zs ns j=y.2.kind:=by unfold Zs Zb;rw[Int.toNat_natCast,ab];rfl
   have T:(ts.map Tst.f)[i]? = Ya t.f:=by rw[List.getElem?_map,ht];rfl
   have V:=Zkh ns D (ts.map Tst.f) i j t.f hx T B;have R:=Zmj ns D (ts.map Tst.f) i j t.f hx T;rw[Z]at V R;have i1:(i:Int)<(n:Int):=by omega
   have i2:(0:Int)<=(i:Int):=by omega
   have i3:(j:Int)<(nn:Int):=by omega
   have i4:(0:Int)<=(j:Int):=by omega
   have wk:IntKind.i64.wrap ((i:Int)+1)=(i:Int)+1:=IntWalk.i64_in _ (by have:=J.out.2.2.2.2.1;omega);generalize y.2.kind=h at *;have z:=zh (zi H (zi hg k));have NX:=zh (zi V R);clear V R hx ht U L H hi hg B k T Z ab hy au;generalize wr=b at *;cases t with
   |is D=>
    obtain⟨Y,Af,cf,rfl,h1,h2⟩:=hu;have Q:=zh (show ∀w':Yh,Below b.heap.size b w'->Calls Tryz.prog 102 #[Yd Yf h,Ye (Ya ⟨Y,0,Yb⟩)] w' (fun e W=>e=.returned (.bool (isB D h))/\Below w'.heap.size w' W)from fun w' k=>ZcS (Zmv w' Y Af _ cf D h (h1.keep k) (h2.below k)));clear h1 h2;have d:=NX.out;dsimp only[Tst.f]at d;have q:=zh d;clear d;generalize isB D h=P at *;have C:=zh (show Stb (fun w'=>(w'.cell? (l.add i)=Ya (.func (.func 102) #[] #[Ye (Ya ⟨Y,0,Yb⟩)])/\w'.cell? (o.add (j*5))=Ya (Yd Yf h))/\Below b.heap.size b w')from Zaj (Zaj (ZV _ _) (ZV _ _)) (ZcG b));go_upto_region 6 with fail;have G:((b.drew.cell? (l.add i)=Ya (.func (.func 102) #[] #[Ye (Ya ⟨Y,0,Yb⟩)])/\b.drew.cell? (o.add (j*5))=Ya (Yd Yf h))/\Below b.heap.size b b.drew):=⟨⟨O,N⟩,Za9 b⟩
    clear O N;refine wp_region_noPanic ?_;refine wp_region_held_drew (S:=(fun w'=>(w'.cell? (l.add i)=Ya (.func (.func 102) #[] #[Ye (Ya ⟨Y,0,Yb⟩)])/\w'.cell? (o.add (j*5))=Ya (Yd Yf h))/\Below b.heap.size b w')) (by kernel_rfl) G (fun a=>?_);clear G;refine tk 0 rfl ?_;refine tk 1 rfl ?_;refine tk 2 rfl ?_;refine tk 3 rfl ?_;refine tk 4 rfl ?_;refine tk 5 rfl ?_;refine tk 6 rfl ?_;refine tk 7 rfl ?_;refine tk 8 rfl ?_;(try simp only[cl,Act.put]);refine rd 9 rfl fun K E=>?_;go_simp;(go_at_call 102;go_fit (Q.out _ (Za (by with_reducible assumption)));rintro e5 w5 ⟨rfl,k⟩);go_wp2_with fail;refine E.out _ _ (C.out _ _ k (by with_reducible assumption)) (fun r=>?_);clear E K a k;have a:=r;clear r;(try simp only[cl,Act.put]);refine tk 10 rfl ?_;(try simp only[cl,Act.put]);refine wpAnyH_done (by kernel_rfl) ?_ _;refine NoPanic.normal ?_;have F:=zh (z.out.2.2.trans ((Za a).mono z.out.2.2.size));clear a;cases P
    ·have s:=zh (q.out.2 (by first|rfl|trivial));go_wp2_with fail;go_ret;exact⟨by rw[s.out];rfl,F.out⟩
    ·go_wp2_with fail;go_roundg (n-(i+1))
     case measure=>have:=z.out.1;have:=z.out.2.1;omega
     case rel=>exact⟨F.out,i+1,by push_cast;rfl,by have:=z.out.1;omega,rfl,q.out.1⟩
   |stmt=>
    obtain rfl:u=.func (.func 77) #[] #[]:=hu;have Q:=zh (show ∀w':Yh,Below b.heap.size b w'->Calls Tryz.prog 77 #[Yd Yf h] w' (fun e W=>e=.returned (.bool (ZcT h))/\Below w'.heap.size w' W)from fun w' k=>ZcS (Zlj w' h));have d:=NX.out;dsimp only[Tst.f]at d;have q:=zh d;clear d;generalize ZcT h=P at *;have C:=zh (show Stb (fun w'=>(w'.cell? (l.add i)=Ya (.func (.func 77) #[] #[])/\w'.cell? (o.add (j*5))=Ya (Yd Yf h))/\Below b.heap.size b w')from Zaj (Zaj (ZV _ _) (ZV _ _)) (ZcG b));go_upto_region 6 with fail;have G:((b.drew.cell? (l.add i)=Ya (.func (.func 77) #[] #[])/\b.drew.cell? (o.add (j*5))=Ya (Yd Yf h))/\Below b.heap.size b b.drew):=⟨⟨O,N⟩,Za9 b⟩
    clear O N;refine wp_region_noPanic ?_;refine wp_region_held_drew (S:=(fun w'=>(w'.cell? (l.add i)=Ya (.func (.func 77) #[] #[])/\w'.cell? (o.add (j*5))=Ya (Yd Yf h))/\Below b.heap.size b w')) (by kernel_rfl) G (fun a=>?_);clear G;refine tk 0 rfl ?_;refine tk 1 rfl ?_;refine tk 2 rfl ?_;refine tk 3 rfl ?_;refine tk 4 rfl ?_;refine tk 5 rfl ?_;refine tk 6 rfl ?_;refine tk 7 rfl ?_;refine tk 8 rfl ?_;(try simp only[cl,Act.put]);refine rd 9 rfl fun K E=>?_;go_simp;(go_at_call 77;go_fit (Q.out _ (Za (by with_reducible assumption)));rintro e5 w5 ⟨rfl,k⟩);go_wp2_with fail;refine E.out _ _ (C.out _ _ k (by with_reducible assumption)) (fun r=>?_);clear E K a k;have a:=r;clear r;(try simp only[cl,Act.put]);refine tk 10 rfl ?_;(try simp only[cl,Act.put]);refine wpAnyH_done (by kernel_rfl) ?_ _;refine NoPanic.normal ?_;have F:=zh (z.out.2.2.trans ((Za a).mono z.out.2.2.size));clear a;cases P
    ·have s:=zh (q.out.2 (by first|rfl|trivial));go_wp2_with fail;go_ret;exact⟨by rw[s.out];rfl,F.out⟩
    ·go_wp2_with fail;go_roundg (n-(i+1))
     case measure=>have:=z.out.1;have:=z.out.2.1;omega
     case rel=>exact⟨F.out,i+1,by push_cast;rfl,by have:=z.out.1;omega,rfl,q.out.1⟩
   |expr=>
    obtain rfl:u=.func (.func 78) #[] #[]:=hu;have Q:=zh (show ∀w':Yh,Below b.heap.size b w'->Calls Tryz.prog 78 #[Yd Yf h] w' (fun e W=>e=.returned (.bool (ZR h))/\Below w'.heap.size w' W)from fun w' k=>ZcS (Zia w' h));have d:=NX.out;dsimp only[Tst.f]at d;have q:=zh d;clear d;generalize ZR h=P at *;have C:=zh (show Stb (fun w'=>(w'.cell? (l.add i)=Ya (.func (.func 78) #[] #[])/\w'.cell? (o.add (j*5))=Ya (Yd Yf h))/\Below b.heap.size b w')from Zaj (Zaj (ZV _ _) (ZV _ _)) (ZcG b));go_upto_region 6 with fail;have G:((b.drew.cell? (l.add i)=Ya (.func (.func 78) #[] #[])/\b.drew.cell? (o.add (j*5))=Ya (Yd Yf h))/\Below b.heap.size b b.drew):=⟨⟨O,N⟩,Za9 b⟩
    clear O N;refine wp_region_noPanic ?_;refine wp_region_held_drew (S:=(fun w'=>(w'.cell? (l.add i)=Ya (.func (.func 78) #[] #[])/\w'.cell? (o.add (j*5))=Ya (Yd Yf h))/\Below b.heap.size b w')) (by kernel_rfl) G (fun a=>?_);clear G;refine tk 0 rfl ?_;refine tk 1 rfl ?_;refine tk 2 rfl ?_;refine tk 3 rfl ?_;refine tk 4 rfl ?_;refine tk 5 rfl ?_;refine tk 6 rfl ?_;refine tk 7 rfl ?_;refine tk 8 rfl ?_;(try simp only[cl,Act.put]);refine rd 9 rfl fun K E=>?_;go_simp;(go_at_call 78;go_fit (Q.out _ (Za (by with_reducible assumption)));rintro e5 w5 ⟨rfl,k⟩);go_wp2_with fail;refine E.out _ _ (C.out _ _ k (by with_reducible assumption)) (fun r=>?_);clear E K a k;have a:=r;clear r;(try simp only[cl,Act.put]);refine tk 10 rfl ?_;(try simp only[cl,Act.put]);refine wpAnyH_done (by kernel_rfl) ?_ _;refine NoPanic.normal ?_;have F:=zh (z.out.2.2.trans ((Za a).mono z.out.2.2.size));clear a;cases P
    ·have s:=zh (q.out.2 (by first|rfl|trivial));go_wp2_with fail;go_ret;exact⟨by rw[s.out];rfl,F.out⟩
    ·go_wp2_with fail;go_roundg (n-(i+1))
     case measure=>have:=z.out.1;have:=z.out.2.1;omega
     case rel=>exact⟨F.out,i+1,by push_cast;rfl,by have:=z.out.1;omega,rfl,q.out.1⟩
   |arg=>
    obtain rfl:u=.func (.func 80) #[] #[]:=hu;have Q:=zh (show ∀w':Yh,Below b.heap.size b w'->Calls Tryz.prog 80 #[Yd Yf h] w' (fun e W=>e=.returned (.bool (ZdE h))/\Below w'.heap.size w' W)from fun w' k=>ZcS (Zmk w' h));have d:=NX.out;dsimp only[Tst.f]at d;have q:=zh d;clear d;generalize ZdE h=P at *;have C:=zh (show Stb (fun w'=>(w'.cell? (l.add i)=Ya (.func (.func 80) #[] #[])/\w'.cell? (o.add (j*5))=Ya (Yd Yf h))/\Below b.heap.size b w')from Zaj (Zaj (ZV _ _) (ZV _ _)) (ZcG b));go_upto_region 6 with fail;have G:((b.drew.cell? (l.add i)=Ya (.func (.func 80) #[] #[])/\b.drew.cell? (o.add (j*5))=Ya (Yd Yf h))/\Below b.heap.size b b.drew):=⟨⟨O,N⟩,Za9 b⟩
    clear O N;refine wp_region_noPanic ?_;refine wp_region_held_drew (S:=(fun w'=>(w'.cell? (l.add i)=Ya (.func (.func 80) #[] #[])/\w'.cell? (o.add (j*5))=Ya (Yd Yf h))/\Below b.heap.size b w')) (by kernel_rfl) G (fun a=>?_);clear G;refine tk 0 rfl ?_;refine tk 1 rfl ?_;refine tk 2 rfl ?_;refine tk 3 rfl ?_;refine tk 4 rfl ?_;refine tk 5 rfl ?_;refine tk 6 rfl ?_;refine tk 7 rfl ?_;refine tk 8 rfl ?_;(try simp only[cl,Act.put]);refine rd 9 rfl fun K E=>?_;go_simp;(go_at_call 80;go_fit (Q.out _ (Za (by with_reducible assumption)));rintro e5 w5 ⟨rfl,k⟩);go_wp2_with fail;refine E.out _ _ (C.out _ _ k (by with_reducible assumption)) (fun r=>?_);clear E K a k;have a:=r;clear r;(try simp only[cl,Act.put]);refine tk 10 rfl ?_;(try simp only[cl,Act.put]);refine wpAnyH_done (by kernel_rfl) ?_ _;refine NoPanic.normal ?_;have F:=zh (z.out.2.2.trans ((Za a).mono z.out.2.2.size));clear a;cases P
    ·have s:=zh (q.out.2 (by first|rfl|trivial));go_wp2_with fail;go_ret;exact⟨by rw[s.out];rfl,F.out⟩
    ·go_wp2_with fail;go_roundg (n-(i+1))
     case measure=>have:=z.out.1;have:=z.out.2.1;omega
     case rel=>exact⟨F.out,i+1,by push_cast;rfl,by have:=z.out.1;omega,rfl,q.out.1⟩
theorem Zkn (w:Yh) (cs:Array Yi) (ty:TypeId) (j:Nat) (u:Yi) (h:cs[j]? = Ya u):(w.alloc (.cells cs ty)).cell? (Addr.add ⟨w.heap.size,0,Yb⟩ j)=Ya u:=by rw[Addr.add_lit,Nat.zero_add,(Blk.start w cs ty).cell j];exact h
theorem Zhy (w:Yh) (us:List Yi) (ty:TypeId):ZO (w.alloc (.cells us.toArray ty)) (w.alloc (.cells us.toArray ty)).heap.size 1 (Ya ⟨w.heap.size,0,Yb⟩) us.length us:=
 ⟨by simp,fun _=>⟨_,rfl,(Blk.start w us.toArray ty).lt,fun j u a=>Zkn w us.toArray ty j u (by simpa using a)⟩⟩
theorem Ze0 (w:Yh) (l:List Int) (ty:TypeId) (h:l.length<=maxLen):Za7 (w.alloc (.cells (l.map (Value.int Yf)).toArray ty)) (Yc (Ya ⟨w.heap.size,0,Yb⟩) l.length l.length) l:=
 ⟨_,_,rfl,Nat.le_refl _,h,by simpa using Zhy w (l.map (Value.int Yf)) ty⟩
def Zke (w:Yh):List Tst->List Yi->Prop
 |[],[]=>True
 |t::ts,u::us=>Za8 w t u/\Zke w ts us
 |_,_=>False
theorem ZmO {w:Yh}:∀{ts:List Tst} {us:List Yi},Zke w ts us->us.length=ts.length/\∀(i:Nat) (t:Tst) (u:Yi),ts[i]? = Ya t->us[i]? = Ya u->Za8 w t u
 |[],[],_=>⟨rfl,fun i t u h=>by simp at h⟩
 |[],_::_,h=>h.elim
 |_::_,[],h=>h.elim
 |t::ts,u::us,h=>by
  obtain⟨e,f⟩:=ZmO h.2;refine⟨by rw[Yk,Yk,e],fun i c d a b=>?_⟩;cases i with
  |zero=>
   obtain rfl:t=c:=by simpa using a
   obtain rfl:u=d:=by simpa using b
   exact h.1
  |succ i=>exact f i c d (by simpa using a) (by simpa using b)
theorem ZcW (w:Yh) (ts:List Tst) (us:List Yi) (ty:TypeId) (hm:us.length<=maxLen) (h:Zke (w.alloc (.cells us.toArray ty)) ts us):ZfR (w.alloc (.cells us.toArray ty)) (Yc (Ya ⟨w.heap.size,0,Yb⟩) us.length us.length) ts:=by obtain⟨a,b⟩:=ZmO h;exact⟨_,us.length,us,by rw[a],by rw[a];exact Nat.le_refl _,hm,a,by rw[<-a];exact Zhy w us ty,b⟩
theorem ZbJ (w:Yh) (a:Int) (ty:TypeId):Calls Tryz.prog 72 #[Yc (Ya ⟨w.heap.size,0,Yb⟩) 1 1] (w.alloc (Yg #[Yd Yf a] ty)) fun e w'=>(∃u,e=.returned u/\Za8 w' (.is [a]) u)/\Below (w.alloc (Yg #[Yd Yf a] ty)).heap.size (w.alloc (Yg #[Yd Yf a] ty)) w':=ZkA _ _ [a] (Ze0 w [a] ty (by simp[maxLen]))
theorem Zdq (w:Yh) (a:Int) (ty:TypeId):Calls Tryz.prog 72 #[Yc (Ya ⟨w.heap.size,0,Yb⟩) 1 1] (w.alloc (Yg #[Yd Yf a] ty)).drew fun e w'=>(∃u,e=.returned u/\Za8 w' (.is [a]) u)/\Below (w.alloc (Yg #[Yd Yf a] ty)).drew.heap.size (w.alloc (Yg #[Yd Yf a] ty)).drew w':=ZkA _ _ [a] ((Ze0 w [a] ty (by simp[maxLen])).below (Za9 _))
theorem ZfO (w:Yh) (a b:Int) (ty:TypeId):Calls Tryz.prog 72 #[Yc (Ya ⟨w.heap.size,0,Yb⟩) 2 2] (w.alloc (Yg #[Yd Yf a,Yd Yf b] ty)) fun e w'=>(∃u,e=.returned u/\Za8 w' (.is [a,b]) u)/\Below (w.alloc (Yg #[Yd Yf a,Yd Yf b] ty)).heap.size (w.alloc (Yg #[Yd Yf a,Yd Yf b] ty)) w':=ZkA _ _ [a,b] (Ze0 w [a,b] ty (by simp[maxLen]))
theorem ZfL {n:Nd} {a b:Nat} (h:Zr n a b=true):n.words.length=a/\n.nums.length=b:=by unfold Zr at h;rw[Bool.and_eq_true,decide_eq_true_eq,decide_eq_true_eq]at h;exact h
theorem ZeB (w:Yh):ZfR w (Yc Yb 0 0) []:=⟨Yb,0,[],rfl,Nat.le_refl _,by decide,rfl,ZO.none_,fun i t u h=>by simp at h⟩
theorem ZoH (w:Yh) (x:NdV×Nd) (a b:Nat) (h:ZU w x) {r:Bool} (hq:Zr x.2 a b=r):Calls Tryz.prog 73 #[ndV x,Yd Yf a,Yd Yf b] w fun e w'=>e=.returned (.bool r)/\Below w.heap.size w w':=hq▸Zrx w x a b h
theorem Zkg (w:Yh) (v c b:Yi) (ns:List Nd) (a:List Int) (ts:List Tst) (g:Zi w v ns) (d:Za7 w c a) (hF:ZfR w b ts) (hk:ZaB a ns.length) {r:Bool} (hq:Zj ns a (ts.map Tst.f)=r):Calls Tryz.prog 75 #[v,c,b] w fun e w'=>e=.returned (.bool r)/\Below w.heap.size w w':=hq▸Zmi w v c b ns a ts g d hF hk
theorem Zri (w:Yh) (v c b:Yi) (ns:List Nd) (a:List Int) (ts:List Tst) (g:Zi w v ns) (d:Za7 w c a) (hF:ZfR w b ts) (hk:ZaB a ns.length) (hq:Zj ns a (ts.map Tst.f)=true):Calls Tryz.prog 75 #[v,c,b] w fun e w'=>e=.returned (.bool true)/\Below w.heap.size w w':=Zkg w v c b ns a ts g d hF hk hq
theorem Zmh (w:Yh) (v b u:Yi) (ns:List Nd) (a:List Int) (t:Tst) (d:Zi w v ns) (c:Za7 w b a) (g:Za8 w t u) (hk:ZaB a ns.length) (hq:Zat ns a t.f=true):Calls Tryz.prog 74 #[v,b,u] w fun e w'=>e=.returned (.bool true)/\Below w.heap.size w w':=hq▸Zmg w v b u ns a t d c g hk
theorem Zc7 {f:FuncId} {a:Array Yi} {wr:Yh} {o:Obj} {P:Ending->Prop} (h:Calls Tryz.prog f a (wr.alloc o) fun e w'=>P e/\Below (wr.alloc o).heap.size (wr.alloc o) w'):Calls Tryz.prog f a (wr.alloc o) fun e w'=>P e/\Below wr.heap.size wr w':=
 h.mono fun _ _ q=>⟨q.1,(below_alloc1 wr o).trans (q.2.mono (below_alloc1 wr o).size)⟩
theorem ZkN {ns:List Nd} {a:Int} {e:List (List UInt8)} {b c:List Int} {d:Int} (h:Zo ns ⟨a,e,b,c,d⟩=true):a=0\/a=1\/a=2\/a=3\/a=4\/a=5\/a=6\/a=7\/a=8\/a=9\/a=10\/a=11\/a=12\/a=13\/a=14\/a=15\/a=16\/a=17\/a=18\/a=19\/a=20\/a=21\/a=22\/a=23:=by
 refine Classical.byContradiction fun q=>?_;simp only[not_or]at q;unfold Zo at h;dsimp only at h
 repeat rw[Yn (by omega)]at h
 cases h
theorem Zko (w:Yh) (v:Yi) (ns:List Nd) (va vb vc:Yi) (j:Int) (l:List (List UInt8)) (i g:List Int) (k:Int) (hN:Zi w v ns) (hx:ZU w ((va,vb,vc),⟨j,l,i,g,k⟩)) (hk:ZaB g ns.length) (hl:i.length=3) (hq:ZcU ns ⟨j,l,i,g,k⟩=true) :
  Calls Tryz.prog 76 #[v,ndV ((va,vb,vc),⟨j,l,i,g,k⟩)] w fun e w'=>e=.returned (.bool true)/\Below w.heap.size w w':=by
 obtain⟨h1,h2,h3⟩:=id hx;dsimp only at h1 h2 h3;have N:=zh (fun(wr:Yh) (c:Below w.heap.size w wr)=>Zhj wr _ (hx.below c) hl);have ad:=zh (fun(wr:Yh) (c:Below w.heap.size w wr) (u:Yi) (t:Tst) (hu:Za8 wr t u)=>Zmg wr v vc u ns g t (hN.below c) (h3.below c) hu hk);have ae:=zh (fun(wr:Yh) (c:Below w.heap.size w wr)=>Zjf wr v vc ns g (hN.below c) (h3.below c) hk);clear hk;obtain⟨r,s,rfl,_⟩:=h1;obtain⟨A2,z,rfl,_,_,R2⟩:=h2;obtain⟨o,q,rfl,_⟩:=h3;obtain⟨P,U⟩:∃y,i[0]? = Ya y:=⟨_,Ym (by omega)⟩
 obtain⟨M,V⟩:∃y,i[1]? = Ya y:=⟨_,Ym (by omega)⟩
 obtain⟨Q,W⟩:∃y,i[2]? = Ya y:=⟨_,Ym (by omega)⟩
 have N0:=zh (Zdw (n:=(⟨j,l,i,g,k⟩:Nd)) U);have N1:=zh (Zdw (n:=(⟨j,l,i,g,k⟩:Nd)) V);have N2:=zh (Zdw (n:=(⟨j,l,i,g,k⟩:Nd)) W);obtain⟨a,rfl,n0⟩:=ints_at R2 (Below.refl _ _) U (by omega);obtain⟨a2,R,n1⟩:=ints_at R2 (Below.refl _ _) V (by omega);injection R with R;subst R;obtain⟨a2,R,n2⟩:=ints_at R2 (Below.refl _ _) W (by omega);injection R with R;subst R;rw[show a.add 0=a by unfold Addr.add;simp]at n0;rw[show a.add 1=⟨a.block,a.off+1,Yb⟩by unfold Addr.add;simp]at n1;rw[show a.add 2=⟨a.block,a.off+2,Yb⟩by unfold Addr.add;simp]at n2;unfold ndV at N⊢;dsimp only at N⊢;rw[hl]at N⊢;have T:=below_alloc1 w (Yg #[Yd Yf j,.slice r l.length s,Yc (Ya a) 3 z,.slice o g.length q,Yd Yf k] 36);have G:=fun(p:Addr) (x:Yi) (h:w.cell? p=Ya x)=>(T.cell (World.block_lt_of_cell? _ _ h)).trans h;have H:((w.alloc (Yg #[Yd Yf j,.slice r l.length s,Yc (Ya a) 3 z,.slice o g.length q,Yd Yf k] 36)).cell? ⟨w.heap.size,0,Yb⟩=Ya (Yd Yf j)/\(w.alloc (Yg #[Yd Yf j,.slice r l.length s,Yc (Ya a) 3 z,.slice o g.length q,Yd Yf k] 36)).cell? ⟨w.heap.size,1,Yb⟩=Ya (.slice r l.length s)/\(w.alloc (Yg #[Yd Yf j,.slice r l.length s,Yc (Ya a) 3 z,.slice o g.length q,Yd Yf k] 36)).cell? ⟨w.heap.size,2,Yb⟩=Ya (Yc (Ya a) 3 z)/\(w.alloc (Yg #[Yd Yf j,.slice r l.length s,Yc (Ya a) 3 z,.slice o g.length q,Yd Yf k] 36)).cell? ⟨w.heap.size,3,Yb⟩=Ya (.slice o g.length q)/\(w.alloc (Yg #[Yd Yf j,.slice r l.length s,Yc (Ya a) 3 z,.slice o g.length q,Yd Yf k] 36)).cell? ⟨w.heap.size,4,Yb⟩=Ya (Yd Yf k)/\(w.alloc (Yg #[Yd Yf j,.slice r l.length s,Yc (Ya a) 3 z,.slice o g.length q,Yd Yf k] 36)).cell? a=Ya (Yd Yf P)/\(w.alloc (Yg #[Yd Yf j,.slice r l.length s,Yc (Ya a) 3 z,.slice o g.length q,Yd Yf k] 36)).cell? ⟨a.block,a.off+1,Yb⟩=Ya (Yd Yf M)/\(w.alloc (Yg #[Yd Yf j,.slice r l.length s,Yc (Ya a) 3 z,.slice o g.length q,Yd Yf k] 36)).cell? ⟨a.block,a.off+2,Yb⟩=Ya (Yd Yf Q))/\Below w.heap.size w (w.alloc (Yg #[Yd Yf j,.slice r l.length s,Yc (Ya a) 3 z,.slice o g.length q,Yd Yf k] 36)):=⟨⟨(Blk.start w _ _).cell 0,(Blk.start w _ _).cell 1,(Blk.start w _ _).cell 2,(Blk.start w _ _).cell 3,(Blk.start w _ _).cell 4,G _ _ n0,G _ _ n1,G _ _ n2⟩,T⟩
 clear hx hN R2 n0 n1 n2 U V W T G;have B:=zh (show Stb (fun w'=>(w'.cell? ⟨w.heap.size,0,Yb⟩=Ya (Yd Yf j)/\w'.cell? ⟨w.heap.size,1,Yb⟩=Ya (.slice r l.length s)/\w'.cell? ⟨w.heap.size,2,Yb⟩=Ya (Yc (Ya a) 3 z)/\w'.cell? ⟨w.heap.size,3,Yb⟩=Ya (.slice o g.length q)/\w'.cell? ⟨w.heap.size,4,Yb⟩=Ya (Yd Yf k)/\w'.cell? a=Ya (Yd Yf P)/\w'.cell? ⟨a.block,a.off+1,Yb⟩=Ya (Yd Yf M)/\w'.cell? ⟨a.block,a.off+2,Yb⟩=Ya (Yd Yf Q))/\Below w.heap.size w w')from Zaj (Zaj (ZV _ _) ( Zaj (ZV _ _) ( Zaj (ZV _ _) ( Zaj (ZV _ _) ( Zaj (ZV _ _) ( Zaj (ZV _ _) ( Zaj (ZV _ _) (ZV _ _)))))))) (ZcG w));have EQ:(decide (P<=4)&&((M==0&&Q==0)||Zen ⟨j,l,i,g,k⟩)&&Zat ns g (isB [6])&&ZaN ns g)=true:=by unfold ZcU at hq;rw[N0.out,N1.out,N2.out]at hq;exact hq
 have FQ:Zen ⟨j,l,i,g,k⟩=true->(M==0)=false:=fun h=>by unfold Zen at h;rw[N1.out,Bool.and_eq_true,decide_eq_true_eq]at h;rw[beq_eq_false_iff_ne];omega
 have E:=zh (show ∀wr:Yh,Below w.heap.size w wr->Calls Tryz.prog 106 #[.agg #[Yd Yf j,.slice r l.length s,Yc (Ya a) 3 z,.slice o g.length q,Yd Yf k]] wr fun e w'=>e=.returned (.bool (Zen ⟨j,l,i,g,k⟩))/\Below wr.heap.size wr w' from fun wr c=>N.out wr c);have D:=zh (show ∀wr:Yh,Below w.heap.size w wr->∀u:Yi,Za8 wr (.is [6]) u->Calls Tryz.prog 74 #[v,.slice o g.length q,u] wr fun e w'=>e=.returned (.bool (Zat ns g (isB [6])))/\Below wr.heap.size wr w' from fun wr c u hu=>ad.out wr c u _ hu);have F:=zh (show ∀wr:Yh,Below w.heap.size w wr->Calls Tryz.prog 107 #[v,.slice o g.length q] wr fun e w'=>e=.returned (.bool (ZaN ns g))/\Below wr.heap.size wr w' from fun wr c=>ae.out wr c);rw[Bool.and_eq_true,Bool.and_eq_true,Bool.and_eq_true,Bool.or_eq_true,Bool.and_eq_true,decide_eq_true_eq]at EQ;obtain⟨⟨⟨q0,hf⟩,e1⟩,R⟩:=EQ;rw[e1]at D;rw[R]at F;have i0:(0:Int)<((3:Nat):Int):=by decide
 have i1:(1:Int)<((3:Nat):Int):=by decide
 have i2:(2:Int)<((3:Nat):Int):=by decide
 clear N ad ae N0 N1 N2 hl hq e1 R;rcases hf with⟨z1,z2⟩|hF
 ·clear FQ;go_enter Tryz.func76,Tryz.ntmps76;go_upto_region 1 with fail;generalize(w.alloc (Yg #[Yd Yf j,.slice r l.length s,Yc (Ya a) 3 z,.slice o g.length q,Yd Yf k] 36))=A at *;have O:(A.drew.cell? ⟨w.heap.size,0,Yb⟩=Ya (Yd Yf j)/\A.drew.cell? ⟨w.heap.size,1,Yb⟩=Ya (.slice r l.length s)/\A.drew.cell? ⟨w.heap.size,2,Yb⟩=Ya (Yc (Ya a) 3 z)/\A.drew.cell? ⟨w.heap.size,3,Yb⟩=Ya (.slice o g.length q)/\A.drew.cell? ⟨w.heap.size,4,Yb⟩=Ya (Yd Yf k)/\A.drew.cell? a=Ya (Yd Yf P)/\A.drew.cell? ⟨a.block,a.off+1,Yb⟩=Ya (Yd Yf M)/\A.drew.cell? ⟨a.block,a.off+2,Yb⟩=Ya (Yd Yf Q))/\Below w.heap.size w A.drew:=⟨H.1,H.2.drew⟩
  clear H;refine wp_region_noPanic ?_;refine wp_region_held_drew (S:=(fun w'=>(w'.cell? ⟨w.heap.size,0,Yb⟩=Ya (Yd Yf j)/\w'.cell? ⟨w.heap.size,1,Yb⟩=Ya (.slice r l.length s)/\w'.cell? ⟨w.heap.size,2,Yb⟩=Ya (Yc (Ya a) 3 z)/\w'.cell? ⟨w.heap.size,3,Yb⟩=Ya (.slice o g.length q)/\w'.cell? ⟨w.heap.size,4,Yb⟩=Ya (Yd Yf k)/\w'.cell? a=Ya (Yd Yf P)/\w'.cell? ⟨a.block,a.off+1,Yb⟩=Ya (Yd Yf M)/\w'.cell? ⟨a.block,a.off+2,Yb⟩=Ya (Yd Yf Q))/\Below w.heap.size w w')) (by kernel_rfl) O (fun b=>?_);clear O;refine tkk 0 rfl ?_;refine tkk 1 rfl ?_;refine tkk 2 rfl ?_;refine tkk 3 rfl ?_;refine tkk 4 rfl ?_;refine tkk 5 rfl ?_;refine tkk 6 rfl ?_;refine tkk 7 rfl ?_;refine tkk 8 rfl ?_;refine tkk 9 rfl ?_;refine tkk 10 rfl ?_;refine tkk 11 rfl ?_;refine tkk 12 rfl ?_;refine tkk 13 rfl ?_;refine tkk 14 rfl ?_;refine tkk 15 rfl ?_;refine tkk 16 rfl ?_;refine tkk 17 rfl ?_;(try simp only[cl,Act.put]);refine wpAnyH_done (by kernel_rfl) ?_ _;refine NoPanic.normal ?_;generalize A.drew=C at *;go_upto_region 2 with fail;have O:(C.drew.cell? ⟨w.heap.size,0,Yb⟩=Ya (Yd Yf j)/\C.drew.cell? ⟨w.heap.size,1,Yb⟩=Ya (.slice r l.length s)/\C.drew.cell? ⟨w.heap.size,2,Yb⟩=Ya (Yc (Ya a) 3 z)/\C.drew.cell? ⟨w.heap.size,3,Yb⟩=Ya (.slice o g.length q)/\C.drew.cell? ⟨w.heap.size,4,Yb⟩=Ya (Yd Yf k)/\C.drew.cell? a=Ya (Yd Yf P)/\C.drew.cell? ⟨a.block,a.off+1,Yb⟩=Ya (Yd Yf M)/\C.drew.cell? ⟨a.block,a.off+2,Yb⟩=Ya (Yd Yf Q))/\Below w.heap.size w C.drew:=⟨b.1,b.2.drew⟩
  clear b;refine wp_region_noPanic ?_;refine wp_region_held_drew (S:=(fun w'=>(w'.cell? ⟨w.heap.size,0,Yb⟩=Ya (Yd Yf j)/\w'.cell? ⟨w.heap.size,1,Yb⟩=Ya (.slice r l.length s)/\w'.cell? ⟨w.heap.size,2,Yb⟩=Ya (Yc (Ya a) 3 z)/\w'.cell? ⟨w.heap.size,3,Yb⟩=Ya (.slice o g.length q)/\w'.cell? ⟨w.heap.size,4,Yb⟩=Ya (Yd Yf k)/\w'.cell? a=Ya (Yd Yf P)/\w'.cell? ⟨a.block,a.off+1,Yb⟩=Ya (Yd Yf M)/\w'.cell? ⟨a.block,a.off+2,Yb⟩=Ya (Yd Yf Q))/\Below w.heap.size w w')) (by kernel_rfl) O (fun b=>?_);clear O;refine tkk 0 rfl ?_;refine tkk 1 rfl ?_;refine tkk 2 rfl ?_;refine tkk 3 rfl ?_;refine tkk 4 rfl ?_;refine txk 5 rfl ?_;refine txk 6 rfl ?_;refine tkk 7 rfl ?_;refine tkk 8 rfl ?_;refine tkk 9 rfl ?_;refine tkk 10 rfl ?_;refine tkk 11 rfl ?_;refine tkk 12 rfl ?_;(try simp only[cl,Act.put]);refine rd 13 rfl fun K m=>?_;go_simp;refine m.out _ _ ?_ (fun d=>?_)
  ·exact B.out _ _ (below_alloc1 _ _) (by with_reducible assumption)
  clear m K b;have b:=d;clear d;(try simp only[cl,Act.put]);refine rd 14 rfl fun K m=>?_;go_simp
  (first
   |(go_at_call 106;go_fit (E.out _ (Za (by with_reducible assumption)));rintro X w6 ⟨rfl,c⟩)
   |(go_at_call 72;go_fit (ZbJ _ _ _);rintro I L ⟨⟨J,rfl,f⟩,c⟩)
   |(go_at_call 72;go_fit (Zdq _ _ _);rintro I L ⟨⟨J,rfl,f⟩,c⟩)
   |(go_at_call 74;go_fit (D.out _ (Za (by with_reducible assumption)) _ f);rintro Y w8 ⟨rfl,c⟩)
   |(go_at_call 107;go_fit (F.out _ (Za (by with_reducible assumption)));rintro Z w9 ⟨rfl,c⟩))
  go_wp2_with fail;refine m.out _ _ (B.out _ _ c (by with_reducible assumption)) (fun d=>?_);clear m K b c;have b:=d;clear d;(try simp only[cl,Act.put]);refine rd 15 rfl fun K m=>?_;go_simp
  (first
   |(go_at_call 106;go_fit (E.out _ (Za (by with_reducible assumption)));rintro X w6 ⟨rfl,c⟩)
   |(go_at_call 72;go_fit (ZbJ _ _ _);rintro I L ⟨⟨J,rfl,f⟩,c⟩)
   |(go_at_call 72;go_fit (Zdq _ _ _);rintro I L ⟨⟨J,rfl,f⟩,c⟩)
   |(go_at_call 74;go_fit (D.out _ (Za (by with_reducible assumption)) _ f);rintro Y w8 ⟨rfl,c⟩)
   |(go_at_call 107;go_fit (F.out _ (Za (by with_reducible assumption)));rintro Z w9 ⟨rfl,c⟩))
  go_wp2_with fail;refine m.out _ _ (B.out _ _ c (by with_reducible assumption)) (fun d=>?_);clear m K b c;have b:=d;clear d;(try simp only[cl,Act.put]);refine tkk 16 rfl ?_;refine tkk 17 rfl ?_;refine tkk 18 rfl ?_;refine tkk 19 rfl ?_;refine tkk 20 rfl ?_;(try simp only[cl,Act.put]);refine rd 21 rfl fun K m=>?_;go_simp
  (first
   |(go_at_call 106;go_fit (E.out _ (Za (by with_reducible assumption)));rintro X w6 ⟨rfl,c⟩)
   |(go_at_call 72;go_fit (ZbJ _ _ _);rintro I L ⟨⟨J,rfl,f⟩,c⟩)
   |(go_at_call 72;go_fit (Zdq _ _ _);rintro I L ⟨⟨J,rfl,f⟩,c⟩)
   |(go_at_call 74;go_fit (D.out _ (Za (by with_reducible assumption)) _ f);rintro Y w8 ⟨rfl,c⟩)
   |(go_at_call 107;go_fit (F.out _ (Za (by with_reducible assumption)));rintro Z w9 ⟨rfl,c⟩))
  go_wp2_with fail;refine m.out _ _ (B.out _ _ c (by with_reducible assumption)) (fun d=>?_);clear m K b c;have b:=d;clear d;(try simp only[cl,Act.put]);refine tkk 22 rfl ?_;refine tkk 23 rfl ?_;(try simp only[cl,Act.put]);refine wpAnyH_done (by kernel_rfl) ?_ _;refine NoPanic.normal ?_;have B9:=zh (Za b);clear b;go_wp2_with fail;go_ret;exact⟨rfl,B9.out⟩
 ·have z1:=FQ hF;rw[hF]at E;clear FQ hF;go_enter Tryz.func76,Tryz.ntmps76;go_upto_region 1 with fail;generalize(w.alloc (Yg #[Yd Yf j,.slice r l.length s,Yc (Ya a) 3 z,.slice o g.length q,Yd Yf k] 36))=A at *;have O:(A.drew.cell? ⟨w.heap.size,0,Yb⟩=Ya (Yd Yf j)/\A.drew.cell? ⟨w.heap.size,1,Yb⟩=Ya (.slice r l.length s)/\A.drew.cell? ⟨w.heap.size,2,Yb⟩=Ya (Yc (Ya a) 3 z)/\A.drew.cell? ⟨w.heap.size,3,Yb⟩=Ya (.slice o g.length q)/\A.drew.cell? ⟨w.heap.size,4,Yb⟩=Ya (Yd Yf k)/\A.drew.cell? a=Ya (Yd Yf P)/\A.drew.cell? ⟨a.block,a.off+1,Yb⟩=Ya (Yd Yf M)/\A.drew.cell? ⟨a.block,a.off+2,Yb⟩=Ya (Yd Yf Q))/\Below w.heap.size w A.drew:=⟨H.1,H.2.drew⟩
  clear H;refine wp_region_noPanic ?_;refine wp_region_held_drew (S:=(fun w'=>(w'.cell? ⟨w.heap.size,0,Yb⟩=Ya (Yd Yf j)/\w'.cell? ⟨w.heap.size,1,Yb⟩=Ya (.slice r l.length s)/\w'.cell? ⟨w.heap.size,2,Yb⟩=Ya (Yc (Ya a) 3 z)/\w'.cell? ⟨w.heap.size,3,Yb⟩=Ya (.slice o g.length q)/\w'.cell? ⟨w.heap.size,4,Yb⟩=Ya (Yd Yf k)/\w'.cell? a=Ya (Yd Yf P)/\w'.cell? ⟨a.block,a.off+1,Yb⟩=Ya (Yd Yf M)/\w'.cell? ⟨a.block,a.off+2,Yb⟩=Ya (Yd Yf Q))/\Below w.heap.size w w')) (by kernel_rfl) O (fun b=>?_);clear O;refine tkk 0 rfl ?_;refine tkk 1 rfl ?_;refine tkk 2 rfl ?_;refine tkk 3 rfl ?_;refine tkk 4 rfl ?_;refine tkk 5 rfl ?_;refine tkk 6 rfl ?_;refine tkk 7 rfl ?_;refine tkk 8 rfl ?_;refine tkk 9 rfl ?_;refine txk 10 rfl ?_;refine txk 11 rfl ?_;refine txk 12 rfl ?_;refine txk 13 rfl ?_;refine txk 14 rfl ?_;refine tkk 15 rfl ?_;refine tkk 16 rfl ?_;refine tkk 17 rfl ?_;(try simp only[cl,Act.put]);refine wpAnyH_done (by kernel_rfl) ?_ _;refine NoPanic.normal ?_;generalize A.drew=C at *;go_upto_region 2 with fail;have O:(C.drew.cell? ⟨w.heap.size,0,Yb⟩=Ya (Yd Yf j)/\C.drew.cell? ⟨w.heap.size,1,Yb⟩=Ya (.slice r l.length s)/\C.drew.cell? ⟨w.heap.size,2,Yb⟩=Ya (Yc (Ya a) 3 z)/\C.drew.cell? ⟨w.heap.size,3,Yb⟩=Ya (.slice o g.length q)/\C.drew.cell? ⟨w.heap.size,4,Yb⟩=Ya (Yd Yf k)/\C.drew.cell? a=Ya (Yd Yf P)/\C.drew.cell? ⟨a.block,a.off+1,Yb⟩=Ya (Yd Yf M)/\C.drew.cell? ⟨a.block,a.off+2,Yb⟩=Ya (Yd Yf Q))/\Below w.heap.size w C.drew:=⟨b.1,b.2.drew⟩
  clear b;refine wp_region_noPanic ?_;refine wp_region_held_drew (S:=(fun w'=>(w'.cell? ⟨w.heap.size,0,Yb⟩=Ya (Yd Yf j)/\w'.cell? ⟨w.heap.size,1,Yb⟩=Ya (.slice r l.length s)/\w'.cell? ⟨w.heap.size,2,Yb⟩=Ya (Yc (Ya a) 3 z)/\w'.cell? ⟨w.heap.size,3,Yb⟩=Ya (.slice o g.length q)/\w'.cell? ⟨w.heap.size,4,Yb⟩=Ya (Yd Yf k)/\w'.cell? a=Ya (Yd Yf P)/\w'.cell? ⟨a.block,a.off+1,Yb⟩=Ya (Yd Yf M)/\w'.cell? ⟨a.block,a.off+2,Yb⟩=Ya (Yd Yf Q))/\Below w.heap.size w w')) (by kernel_rfl) O (fun b=>?_);clear O;refine tkk 0 rfl ?_;refine tkk 1 rfl ?_;refine tkk 2 rfl ?_;refine tkk 3 rfl ?_;refine tkk 4 rfl ?_;refine tkk 5 rfl ?_;(try simp only[cl,Act.put]);refine rd 6 rfl fun K m=>?_;go_simp
  (first
   |(go_at_call 106;go_fit (E.out _ (Za (by with_reducible assumption)));rintro X w6 ⟨rfl,c⟩)
   |(go_at_call 72;go_fit (ZbJ _ _ _);rintro I L ⟨⟨J,rfl,f⟩,c⟩)
   |(go_at_call 72;go_fit (Zdq _ _ _);rintro I L ⟨⟨J,rfl,f⟩,c⟩)
   |(go_at_call 74;go_fit (D.out _ (Za (by with_reducible assumption)) _ f);rintro Y w8 ⟨rfl,c⟩)
   |(go_at_call 107;go_fit (F.out _ (Za (by with_reducible assumption)));rintro Z w9 ⟨rfl,c⟩))
  go_wp2_with fail;refine m.out _ _ (B.out _ _ c (by with_reducible assumption)) (fun d=>?_);clear m K b c;have b:=d;clear d;(try simp only[cl,Act.put]);refine tkk 7 rfl ?_;refine tkk 8 rfl ?_;refine tkk 9 rfl ?_;refine tkk 10 rfl ?_;refine tkk 11 rfl ?_;refine tkk 12 rfl ?_;(try simp only[cl,Act.put]);refine rd 13 rfl fun K m=>?_;go_simp;refine m.out _ _ ?_ (fun d=>?_)
  ·exact B.out _ _ (below_alloc1 _ _) (by with_reducible assumption)
  clear m K b;have b:=d;clear d;(try simp only[cl,Act.put]);refine rd 14 rfl fun K m=>?_;go_simp
  (first
   |(go_at_call 106;go_fit (E.out _ (Za (by with_reducible assumption)));rintro X w6 ⟨rfl,c⟩)
   |(go_at_call 72;go_fit (ZbJ _ _ _);rintro I L ⟨⟨J,rfl,f⟩,c⟩)
   |(go_at_call 72;go_fit (Zdq _ _ _);rintro I L ⟨⟨J,rfl,f⟩,c⟩)
   |(go_at_call 74;go_fit (D.out _ (Za (by with_reducible assumption)) _ f);rintro Y w8 ⟨rfl,c⟩)
   |(go_at_call 107;go_fit (F.out _ (Za (by with_reducible assumption)));rintro Z w9 ⟨rfl,c⟩))
  go_wp2_with fail;refine m.out _ _ (B.out _ _ c (by with_reducible assumption)) (fun d=>?_);clear m K b c;have b:=d;clear d;(try simp only[cl,Act.put]);refine rd 15 rfl fun K m=>?_;go_simp
  (first
   |(go_at_call 106;go_fit (E.out _ (Za (by with_reducible assumption)));rintro X w6 ⟨rfl,c⟩)
   |(go_at_call 72;go_fit (ZbJ _ _ _);rintro I L ⟨⟨J,rfl,f⟩,c⟩)
   |(go_at_call 72;go_fit (Zdq _ _ _);rintro I L ⟨⟨J,rfl,f⟩,c⟩)
   |(go_at_call 74;go_fit (D.out _ (Za (by with_reducible assumption)) _ f);rintro Y w8 ⟨rfl,c⟩)
   |(go_at_call 107;go_fit (F.out _ (Za (by with_reducible assumption)));rintro Z w9 ⟨rfl,c⟩))
  go_wp2_with fail;refine m.out _ _ (B.out _ _ c (by with_reducible assumption)) (fun d=>?_);clear m K b c;have b:=d;clear d;(try simp only[cl,Act.put]);refine tkk 16 rfl ?_;refine tkk 17 rfl ?_;refine tkk 18 rfl ?_;refine tkk 19 rfl ?_;refine tkk 20 rfl ?_;(try simp only[cl,Act.put]);refine rd 21 rfl fun K m=>?_;go_simp
  (first
   |(go_at_call 106;go_fit (E.out _ (Za (by with_reducible assumption)));rintro X w6 ⟨rfl,c⟩)
   |(go_at_call 72;go_fit (ZbJ _ _ _);rintro I L ⟨⟨J,rfl,f⟩,c⟩)
   |(go_at_call 72;go_fit (Zdq _ _ _);rintro I L ⟨⟨J,rfl,f⟩,c⟩)
   |(go_at_call 74;go_fit (D.out _ (Za (by with_reducible assumption)) _ f);rintro Y w8 ⟨rfl,c⟩)
   |(go_at_call 107;go_fit (F.out _ (Za (by with_reducible assumption)));rintro Z w9 ⟨rfl,c⟩))
  go_wp2_with fail;refine m.out _ _ (B.out _ _ c (by with_reducible assumption)) (fun d=>?_);clear m K b c;have b:=d;clear d;(try simp only[cl,Act.put]);refine tkk 22 rfl ?_;refine tkk 23 rfl ?_;(try simp only[cl,Act.put]);refine wpAnyH_done (by kernel_rfl) ?_ _;refine NoPanic.normal ?_;have B9:=zh (Za b);clear b;go_wp2_with fail;go_ret;exact⟨rfl,B9.out⟩
theorem ZqG (w:Yh) (v:Yi) (ns:List Nd) (va vb vc:Yi) (m:Int) (r:List (List UInt8)) (j f:List Int) (o:Int) (hN:Zi w v ns) (hx:ZU w ((va,vb,vc),⟨m,r,j,f,o⟩)) (hk:ZaB f ns.length) (hl:j.length=3) (hq:Zfa ns ⟨m,r,j,f,o⟩=true) :
  Calls Tryz.prog 79 #[v,ndV ((va,vb,vc),⟨m,r,j,f,o⟩)] w fun e w'=>e=.returned (.bool true)/\Below w.heap.size w w':=by
 obtain⟨h1,h2,h3⟩:=id hx;dsimp only at h1 h2 h3;have Q:=zh (fun(wr:Yh) (d:Below w.heap.size w wr)=>Zhj wr _ (hx.below d) hl);have AR:=zh (fun(wr:Yh) (d:Below w.heap.size w wr) (vf:Yi) (ts:List Tst) (hF:ZfR wr vf ts)=>Zmi wr v vc vf ns f ts (hN.below d) (h3.below d) hF hk);have bf:=zh (fun(wr:Yh) (d:Below w.heap.size w wr) (k:Nat) (q:k<ns.length)=>ZcS (Zj1 wr v ns k (hN.below d) q));have RK:=zh (zi h3 hk);obtain⟨z,A,rfl,_⟩:=h1;obtain⟨A2,B,rfl,_,_,R2⟩:=h2;obtain⟨D,t,rfl,_⟩:=h3;obtain⟨P,ai⟩:∃y,j[0]? = Ya y:=⟨_,Ym (by omega)⟩
 obtain⟨Y,aj⟩:∃y,j[1]? = Ya y:=⟨_,Ym (by omega)⟩
 obtain⟨Z,ak⟩:∃y,j[2]? = Ya y:=⟨_,Ym (by omega)⟩
 have N0:=zh (Zdw (n:=(⟨m,r,j,f,o⟩:Nd)) ai);have N1:=zh (Zdw (n:=(⟨m,r,j,f,o⟩:Nd)) aj);have N2:=zh (Zdw (n:=(⟨m,r,j,f,o⟩:Nd)) ak);obtain⟨b,rfl,n0⟩:=ints_at R2 (Below.refl _ _) ai (by omega);obtain⟨a2,V,n1⟩:=ints_at R2 (Below.refl _ _) aj (by omega);injection V with V;subst V;obtain⟨a2,V,n2⟩:=ints_at R2 (Below.refl _ _) ak (by omega);injection V with V;subst V;rw[show b.add 0=b by unfold Addr.add;simp]at n0;rw[show b.add 1=⟨b.block,b.off+1,Yb⟩by unfold Addr.add;simp]at n1;rw[show b.add 2=⟨b.block,b.off+2,Yb⟩by unfold Addr.add;simp]at n2;unfold ndV at Q⊢;dsimp only at Q⊢;rw[hl]at Q⊢;have ah:=below_alloc1 w (Yg #[Yd Yf m,.slice z r.length A,Yc (Ya b) 3 B,Yc D f.length t,Yd Yf o] 36);have J:=fun(p:Addr) (x:Yi) (h:w.cell? p=Ya x)=>(ah.cell (World.block_lt_of_cell? _ _ h)).trans h;have M:((w.alloc (Yg #[Yd Yf m,.slice z r.length A,Yc (Ya b) 3 B,Yc D f.length t,Yd Yf o] 36)).cell? ⟨w.heap.size,0,Yb⟩=Ya (Yd Yf m)/\(w.alloc (Yg #[Yd Yf m,.slice z r.length A,Yc (Ya b) 3 B,Yc D f.length t,Yd Yf o] 36)).cell? ⟨w.heap.size,1,Yb⟩=Ya (.slice z r.length A)/\(w.alloc (Yg #[Yd Yf m,.slice z r.length A,Yc (Ya b) 3 B,Yc D f.length t,Yd Yf o] 36)).cell? ⟨w.heap.size,2,Yb⟩=Ya (Yc (Ya b) 3 B)/\(w.alloc (Yg #[Yd Yf m,.slice z r.length A,Yc (Ya b) 3 B,Yc D f.length t,Yd Yf o] 36)).cell? ⟨w.heap.size,3,Yb⟩=Ya (Yc D f.length t)/\(w.alloc (Yg #[Yd Yf m,.slice z r.length A,Yc (Ya b) 3 B,Yc D f.length t,Yd Yf o] 36)).cell? ⟨w.heap.size,4,Yb⟩=Ya (Yd Yf o)/\(w.alloc (Yg #[Yd Yf m,.slice z r.length A,Yc (Ya b) 3 B,Yc D f.length t,Yd Yf o] 36)).cell? b=Ya (Yd Yf P)/\(w.alloc (Yg #[Yd Yf m,.slice z r.length A,Yc (Ya b) 3 B,Yc D f.length t,Yd Yf o] 36)).cell? ⟨b.block,b.off+1,Yb⟩=Ya (Yd Yf Y)/\(w.alloc (Yg #[Yd Yf m,.slice z r.length A,Yc (Ya b) 3 B,Yc D f.length t,Yd Yf o] 36)).cell? ⟨b.block,b.off+2,Yb⟩=Ya (Yd Yf Z))/\Below w.heap.size w (w.alloc (Yg #[Yd Yf m,.slice z r.length A,Yc (Ya b) 3 B,Yc D f.length t,Yd Yf o] 36)):=⟨⟨(Blk.start w _ _).cell 0,(Blk.start w _ _).cell 1,(Blk.start w _ _).cell 2,(Blk.start w _ _).cell 3,(Blk.start w _ _).cell 4,J _ _ n0,J _ _ n1,J _ _ n2⟩,ah⟩
 clear hx hN R2 n0 n1 n2 ai aj ak ah J;have l:=zh (show Stb (fun w'=>(w'.cell? ⟨w.heap.size,0,Yb⟩=Ya (Yd Yf m)/\w'.cell? ⟨w.heap.size,1,Yb⟩=Ya (.slice z r.length A)/\w'.cell? ⟨w.heap.size,2,Yb⟩=Ya (Yc (Ya b) 3 B)/\w'.cell? ⟨w.heap.size,3,Yb⟩=Ya (Yc D f.length t)/\w'.cell? ⟨w.heap.size,4,Yb⟩=Ya (Yd Yf o)/\w'.cell? b=Ya (Yd Yf P)/\w'.cell? ⟨b.block,b.off+1,Yb⟩=Ya (Yd Yf Y)/\w'.cell? ⟨b.block,b.off+2,Yb⟩=Ya (Yd Yf Z))/\Below w.heap.size w w')from Zaj (Zaj (ZV _ _) ( Zaj (ZV _ _) ( Zaj (ZV _ _) ( Zaj (ZV _ _) ( Zaj (ZV _ _) ( Zaj (ZV _ _) ( Zaj (ZV _ _) (ZV _ _)))))))) (ZcG w));have EQ:(!(P==0)&&decide (P<=4)&&Zen ⟨m,r,j,f,o⟩&&(Zj ns f [isB [7]]||Zj ns f [isB [6],isB [7]]&&ZaC ns (atI f 0)==2))=true:=by unfold Zfa at hq;rw[N0.out]at hq;exact hq
 have af:=zh (show ∀wr:Yh,Below w.heap.size w wr->Calls Tryz.prog 106 #[.agg #[Yd Yf m,.slice z r.length A,Yc (Ya b) 3 B,Yc D f.length t,Yd Yf o]] wr fun e w'=>e=.returned (.bool (Zen ⟨m,r,j,f,o⟩))/\Below wr.heap.size wr w' from fun wr d=>Q.out wr d);have I:=zh (fun(wr:Yh) (d:Below w.heap.size w wr) (O:Nat) (T:Za8 wr (.is [7]) (.func (.func 102) #[] #[Ye (Ya ⟨O,0,Yb⟩)]))=>show Calls Tryz.prog 75 #[v,Yc D f.length t,Yc (Ya ⟨wr.heap.size,0,Yb⟩) 1 1] (wr.alloc (Yg #[.func (.func 102) #[] #[Ye (Ya ⟨O,0,Yb⟩)]] 61)).drew (fun e w'=>e=.returned (.bool (Zj ns f [isB [7]]))/\Below (wr.alloc (Yg #[.func (.func 102) #[] #[Ye (Ya ⟨O,0,Yb⟩)]] 61)).drew.heap.size (wr.alloc (Yg #[.func (.func 102) #[] #[Ye (Ya ⟨O,0,Yb⟩)]] 61)).drew w')from AR.out _ (d.trans ((below_alloc1 _ _).mono d.size)).drew _ [.is [7]] ((ZcW wr [.is [7]] [.func (.func 102) #[] #[Ye (Ya ⟨O,0,Yb⟩)]] 61 (by simp[maxLen]) ⟨T.below (below_alloc1 _ _),trivial⟩).below (Za9 _)));have L:=zh (fun(wr:Yh) (d:Below w.heap.size w wr) (O X:Nat) (T2:Za8 wr (.is [6]) (.func (.func 102) #[] #[Ye (Ya ⟨X,0,Yb⟩)])) (T:Za8 wr (.is [7]) (.func (.func 102) #[] #[Ye (Ya ⟨O,0,Yb⟩)]))=>show Calls Tryz.prog 75 #[v,Yc D f.length t,Yc (Ya ⟨wr.heap.size,0,Yb⟩) 2 2] (wr.alloc (Yg #[.func (.func 102) #[] #[Ye (Ya ⟨X,0,Yb⟩)],.func (.func 102) #[] #[Ye (Ya ⟨O,0,Yb⟩)]] 61)) (fun e w'=>e=.returned (.bool (Zj ns f [isB [6],isB [7]]))/\Below (wr.alloc (Yg #[.func (.func 102) #[] #[Ye (Ya ⟨X,0,Yb⟩)],.func (.func 102) #[] #[Ye (Ya ⟨O,0,Yb⟩)]] 61)).heap.size (wr.alloc (Yg #[.func (.func 102) #[] #[Ye (Ya ⟨X,0,Yb⟩)],.func (.func 102) #[] #[Ye (Ya ⟨O,0,Yb⟩)]] 61)) w')from AR.out _ (d.trans ((below_alloc1 _ _).mono d.size)) _ [.is [6],.is [7]] (ZcW wr [.is [6],.is [7]] [.func (.func 102) #[] #[Ye (Ya ⟨X,0,Yb⟩)],.func (.func 102) #[] #[Ye (Ya ⟨O,0,Yb⟩)]] 61 (by simp[maxLen]) ⟨T2.below (below_alloc1 _ _),T.below (below_alloc1 _ _),trivial⟩))
 have bc:=zh (show Zj ns f [isB [6],isB [7]]=true->f.length=2 from fun h=>by
  refine Classical.byContradiction fun q=>?_;rw[Zi6 ns f [isB [6],isB [7]] q]at h
  cases h)
 rw[Bool.and_eq_true,Bool.and_eq_true,Bool.and_eq_true,Bool.or_eq_true,Bool.and_eq_true,decide_eq_true_eq,Bool.not_eq_true']at EQ;obtain⟨⟨⟨q0,q4⟩,hF⟩,hw⟩:=EQ;rw[hF]at af;have i0:(0:Int)<((3:Nat):Int):=by decide
 have ci:¬4<P:=by omega
 clear Q AR N0 N1 N2 hl hk hq hF;cases hr:Zj ns f [isB [7]]
 ·rw[hr]at I hw;obtain⟨C,w2⟩:=hw.resolve_left (by decide);clear hw hr;have hL:=bc.out C;obtain⟨k0,W⟩:∃y,f[0]? = Ya y:=⟨_,Ym (by omega)⟩
  have bi:=RK.out.2 k0 (List.mem_of_getElem? W);obtain⟨kn,rfl⟩:∃kn:Nat,k0=kn:=⟨k0.toNat,by omega⟩
  rw[show atI f 0=(kn:Int)from by unfold atI;rw[show(0:Int).toNat=0 from rfl,W];rfl]at w2;have N:=zh (fun wr d=>bf.out wr d kn (by omega));rw[beq_iff_eq.1 w2]at N;have cg:0<f.length:=by omega
  have i3:(0:Int)<(f.length:Int):=by omega
  obtain⟨bz,b6,e3,_,_,R3⟩:=RK.out.1;injection e3 with e3 _ e4;subst e3 e4;obtain⟨H,rfl,_⟩:=ints_at R3 (Below.refl _ _) W (by omega);have KC:=zh (fun(wr:Yh) (d:Below w.heap.size w wr)=>show wr.cell? H=Ya (Yd Yf (kn:Int))from by obtain⟨a2,V,q2⟩:=ints_at R3 d W (by omega);injection V with V;subst V;rwa[show H.add 0=H by unfold Addr.add;simp]at q2);rw[C]at L;clear R3 W bi C w2 hL;go_enter Tryz.func79,Tryz.ntmps79;go_upto_region 1 with fail;generalize(w.alloc (Yg #[Yd Yf m,.slice z r.length A,Yc (Ya b) 3 B,Yc (Ya H) f.length t,Yd Yf o] 36))=C at *;have R:(C.drew.cell? ⟨w.heap.size,0,Yb⟩=Ya (Yd Yf m)/\C.drew.cell? ⟨w.heap.size,1,Yb⟩=Ya (.slice z r.length A)/\C.drew.cell? ⟨w.heap.size,2,Yb⟩=Ya (Yc (Ya b) 3 B)/\C.drew.cell? ⟨w.heap.size,3,Yb⟩=Ya (Yc (Ya H) f.length t)/\C.drew.cell? ⟨w.heap.size,4,Yb⟩=Ya (Yd Yf o)/\C.drew.cell? b=Ya (Yd Yf P)/\C.drew.cell? ⟨b.block,b.off+1,Yb⟩=Ya (Yd Yf Y)/\C.drew.cell? ⟨b.block,b.off+2,Yb⟩=Ya (Yd Yf Z))/\Below w.heap.size w C.drew:=⟨M.1,M.2.drew⟩
  clear M;refine wp_region_noPanic ?_;refine wp_region_held_drew (S:=(fun w'=>(w'.cell? ⟨w.heap.size,0,Yb⟩=Ya (Yd Yf m)/\w'.cell? ⟨w.heap.size,1,Yb⟩=Ya (.slice z r.length A)/\w'.cell? ⟨w.heap.size,2,Yb⟩=Ya (Yc (Ya b) 3 B)/\w'.cell? ⟨w.heap.size,3,Yb⟩=Ya (Yc (Ya H) f.length t)/\w'.cell? ⟨w.heap.size,4,Yb⟩=Ya (Yd Yf o)/\w'.cell? b=Ya (Yd Yf P)/\w'.cell? ⟨b.block,b.off+1,Yb⟩=Ya (Yd Yf Y)/\w'.cell? ⟨b.block,b.off+2,Yb⟩=Ya (Yd Yf Z))/\Below w.heap.size w w')) (by kernel_rfl) R (fun a=>?_);clear R;refine tkk 0 rfl ?_;refine tkk 1 rfl ?_;refine tkk 2 rfl ?_;refine tkk 3 rfl ?_;(try simp only[cl,Act.put]);refine rd 4 rfl fun K g=>?_;go_simp;refine g.out _ _ ?_ (fun c=>?_)
  ·exact l.out _ _ (below_alloc1 _ _) (by with_reducible assumption)
  clear g K a;have a:=c;clear c;(try simp only[cl,Act.put]);refine rd 5 rfl fun K g=>?_;go_simp;(go_at_call 72;go_fit (Zdq _ _ _);rintro e5 w5 ⟨⟨u,rfl,hT⟩,d⟩;obtain⟨O,Au,cu,rfl,_,_⟩:=id hT);go_wp2_with fail;refine g.out _ _ (l.out _ _ d (by with_reducible assumption)) (fun c=>?_);clear g K a d;have a:=c;clear c;(try simp only[cl,Act.put]);refine tkk 6 rfl ?_;refine tkk 7 rfl ?_;(try simp only[cl,Act.put]);refine wpAnyH_done (by kernel_rfl) ?_ _;refine NoPanic.normal ?_;have T5:=zh hT;have B5:=zh (Za a);have H5:=zh a;clear hT;obtain⟨⟨g0,g1,g2,g3,g4,n0,n1,n2⟩,_⟩:=a;go_upto_region 4 with(go_at_call 106;go_fit (af.out _ B5.out);rintro e6 G ⟨rfl,F⟩;have B6:=zh (B5.out.trans (F.mono B5.out.size));have K6:=zh (l.out _ _ F H5.out);have U:=zh (T5.out.below F);clear F)
  have R:(G.drew.cell? ⟨w.heap.size,0,Yb⟩=Ya (Yd Yf m)/\G.drew.cell? ⟨w.heap.size,1,Yb⟩=Ya (.slice z r.length A)/\G.drew.cell? ⟨w.heap.size,2,Yb⟩=Ya (Yc (Ya b) 3 B)/\G.drew.cell? ⟨w.heap.size,3,Yb⟩=Ya (Yc (Ya H) f.length t)/\G.drew.cell? ⟨w.heap.size,4,Yb⟩=Ya (Yd Yf o)/\G.drew.cell? b=Ya (Yd Yf P)/\G.drew.cell? ⟨b.block,b.off+1,Yb⟩=Ya (Yd Yf Y)/\G.drew.cell? ⟨b.block,b.off+2,Yb⟩=Ya (Yd Yf Z))/\Below w.heap.size w G.drew:=⟨K6.out.1,K6.out.2.drew⟩
  refine wp_region_noPanic ?_;refine wp_region_held_drew (S:=(fun w'=>(w'.cell? ⟨w.heap.size,0,Yb⟩=Ya (Yd Yf m)/\w'.cell? ⟨w.heap.size,1,Yb⟩=Ya (.slice z r.length A)/\w'.cell? ⟨w.heap.size,2,Yb⟩=Ya (Yc (Ya b) 3 B)/\w'.cell? ⟨w.heap.size,3,Yb⟩=Ya (Yc (Ya H) f.length t)/\w'.cell? ⟨w.heap.size,4,Yb⟩=Ya (Yd Yf o)/\w'.cell? b=Ya (Yd Yf P)/\w'.cell? ⟨b.block,b.off+1,Yb⟩=Ya (Yd Yf Y)/\w'.cell? ⟨b.block,b.off+2,Yb⟩=Ya (Yd Yf Z))/\Below w.heap.size w w')) (by kernel_rfl) R (fun a=>?_);clear R;refine tkk 0 rfl ?_;refine tkk 1 rfl ?_;refine tkk 2 rfl ?_;refine tkk 3 rfl ?_;(try simp only[cl,Act.put]);refine rd 4 rfl fun K g=>?_;go_simp;refine g.out _ _ ?_ (fun c=>?_)
  ·exact l.out _ _ (below_alloc1 _ _) (by with_reducible assumption)
  clear g K a;have a:=c;clear c;(try simp only[cl,Act.put]);refine rd 5 rfl fun K g=>?_;go_simp
  (first
   |(go_at_call 75;go_fit (I.out _ B6.out _ U.out);rintro e7 w7 ⟨rfl,d⟩;have E:=zh (((U.out.below (below_alloc1 _ _)).below (Za9 _)).below d))
   |(go_at_call 72;go_fit (ZbJ _ _ _);rintro e8 w8 ⟨⟨u2,rfl,s⟩,d⟩;obtain⟨X,aa,ab,rfl,_,_⟩:=id s;have i:=zh (zi ((Za a).trans (d.mono (Za a).size)) (zi s ((E.out.below (below_alloc1 _ _)).below d))))
   |(go_at_call 75;go_fit (L.out _ i.out.1 _ _ i.out.2.1 i.out.2.2);rintro e9 w9 ⟨rfl,d⟩)
   |(go_at_call 108;go_fit (N.out _ (Za (by with_reducible assumption)));rintro ac ad ⟨rfl,d⟩))
  go_wp2_with fail;refine g.out _ _ (l.out _ _ d (by with_reducible assumption)) (fun c=>?_);clear g K a d;have a:=c;clear c;(try simp only[cl,Act.put]);refine tkk 6 rfl ?_;refine tkk 7 rfl ?_;refine tkk 8 rfl ?_;refine tkk 9 rfl ?_;refine tkk 12 rfl ?_;(try simp only[cl,Act.put]);refine rd 10 rfl fun K g=>?_;go_simp;refine g.out _ _ ?_ (fun c=>?_)
  ·exact l.out _ _ (below_alloc1 _ _) (by with_reducible assumption)
  clear g K a;have a:=c;clear c;(try simp only[cl,Act.put]);refine rd 11 rfl fun K g=>?_;go_simp
  (first
   |(go_at_call 75;go_fit (I.out _ B6.out _ U.out);rintro e7 w7 ⟨rfl,d⟩;have E:=zh (((U.out.below (below_alloc1 _ _)).below (Za9 _)).below d))
   |(go_at_call 72;go_fit (ZbJ _ _ _);rintro e8 w8 ⟨⟨u2,rfl,s⟩,d⟩;obtain⟨X,aa,ab,rfl,_,_⟩:=id s;have i:=zh (zi ((Za a).trans (d.mono (Za a).size)) (zi s ((E.out.below (below_alloc1 _ _)).below d))))
   |(go_at_call 75;go_fit (L.out _ i.out.1 _ _ i.out.2.1 i.out.2.2);rintro e9 w9 ⟨rfl,d⟩)
   |(go_at_call 108;go_fit (N.out _ (Za (by with_reducible assumption)));rintro ac ad ⟨rfl,d⟩))
  go_wp2_with fail;refine g.out _ _ (l.out _ _ d (by with_reducible assumption)) (fun c=>?_);clear g K a d;have a:=c;clear c;(try simp only[cl,Act.put]);refine rd 13 rfl fun K g=>?_;go_simp;refine g.out _ _ ?_ (fun c=>?_)
  ·exact l.out _ _ (below_alloc1 _ _) (by with_reducible assumption)
  clear g K a;have a:=c;clear c;(try simp only[cl,Act.put]);refine rd 14 rfl fun K g=>?_;go_simp
  (first
   |(go_at_call 75;go_fit (I.out _ B6.out _ U.out);rintro e7 w7 ⟨rfl,d⟩;have E:=zh (((U.out.below (below_alloc1 _ _)).below (Za9 _)).below d))
   |(go_at_call 72;go_fit (ZbJ _ _ _);rintro e8 w8 ⟨⟨u2,rfl,s⟩,d⟩;obtain⟨X,aa,ab,rfl,_,_⟩:=id s;have i:=zh (zi ((Za a).trans (d.mono (Za a).size)) (zi s ((E.out.below (below_alloc1 _ _)).below d))))
   |(go_at_call 75;go_fit (L.out _ i.out.1 _ _ i.out.2.1 i.out.2.2);rintro e9 w9 ⟨rfl,d⟩)
   |(go_at_call 108;go_fit (N.out _ (Za (by with_reducible assumption)));rintro ac ad ⟨rfl,d⟩))
  go_wp2_with fail;refine g.out _ _ (l.out _ _ d (by with_reducible assumption)) (fun c=>?_);clear g K a d;have a:=c;clear c;(try simp only[cl,Act.put]);refine tkk 15 rfl ?_;refine tkk 16 rfl ?_;refine tkk 17 rfl ?_;refine tkk 18 rfl ?_;refine tkk 19 rfl ?_;(try simp only[cl,Act.put]);refine rd 20 rfl fun K g=>?_;have bl:=KC.out _ (Za a);go_simp;refine g.out _ _ (by with_reducible assumption) (fun _=>?_);clear g K bl;(try simp only[cl,Act.put]);refine rd 21 rfl fun K g=>?_;go_simp
  (first
   |(go_at_call 75;go_fit (I.out _ B6.out _ U.out);rintro e7 w7 ⟨rfl,d⟩;have E:=zh (((U.out.below (below_alloc1 _ _)).below (Za9 _)).below d))
   |(go_at_call 72;go_fit (ZbJ _ _ _);rintro e8 w8 ⟨⟨u2,rfl,s⟩,d⟩;obtain⟨X,aa,ab,rfl,_,_⟩:=id s;have i:=zh (zi ((Za a).trans (d.mono (Za a).size)) (zi s ((E.out.below (below_alloc1 _ _)).below d))))
   |(go_at_call 75;go_fit (L.out _ i.out.1 _ _ i.out.2.1 i.out.2.2);rintro e9 w9 ⟨rfl,d⟩)
   |(go_at_call 108;go_fit (N.out _ (Za (by with_reducible assumption)));rintro ac ad ⟨rfl,d⟩))
  go_wp2_with fail;refine g.out _ _ (l.out _ _ d (by with_reducible assumption)) (fun c=>?_);clear g K a d;have a:=c;clear c;(try simp only[cl,Act.put]);refine tkk 22 rfl ?_;refine tkk 23 rfl ?_;refine tkk 24 rfl ?_;refine tkk 25 rfl ?_;(try simp only[cl,Act.put]);refine wpAnyH_done (by kernel_rfl) ?_ _;refine NoPanic.normal ?_;have B9:=zh (Za a);clear a;go_wp2_with fail;go_ret;exact⟨rfl,B9.out⟩
 ·rw[hr]at I;clear hw hr;go_enter Tryz.func79,Tryz.ntmps79;go_upto_region 1 with fail;generalize(w.alloc (Yg #[Yd Yf m,.slice z r.length A,Yc (Ya b) 3 B,Yc D f.length t,Yd Yf o] 36))=C at *;have R:(C.drew.cell? ⟨w.heap.size,0,Yb⟩=Ya (Yd Yf m)/\C.drew.cell? ⟨w.heap.size,1,Yb⟩=Ya (.slice z r.length A)/\C.drew.cell? ⟨w.heap.size,2,Yb⟩=Ya (Yc (Ya b) 3 B)/\C.drew.cell? ⟨w.heap.size,3,Yb⟩=Ya (Yc D f.length t)/\C.drew.cell? ⟨w.heap.size,4,Yb⟩=Ya (Yd Yf o)/\C.drew.cell? b=Ya (Yd Yf P)/\C.drew.cell? ⟨b.block,b.off+1,Yb⟩=Ya (Yd Yf Y)/\C.drew.cell? ⟨b.block,b.off+2,Yb⟩=Ya (Yd Yf Z))/\Below w.heap.size w C.drew:=⟨M.1,M.2.drew⟩
  clear M;refine wp_region_noPanic ?_;refine wp_region_held_drew (S:=(fun w'=>(w'.cell? ⟨w.heap.size,0,Yb⟩=Ya (Yd Yf m)/\w'.cell? ⟨w.heap.size,1,Yb⟩=Ya (.slice z r.length A)/\w'.cell? ⟨w.heap.size,2,Yb⟩=Ya (Yc (Ya b) 3 B)/\w'.cell? ⟨w.heap.size,3,Yb⟩=Ya (Yc D f.length t)/\w'.cell? ⟨w.heap.size,4,Yb⟩=Ya (Yd Yf o)/\w'.cell? b=Ya (Yd Yf P)/\w'.cell? ⟨b.block,b.off+1,Yb⟩=Ya (Yd Yf Y)/\w'.cell? ⟨b.block,b.off+2,Yb⟩=Ya (Yd Yf Z))/\Below w.heap.size w w')) (by kernel_rfl) R (fun a=>?_);clear R;refine tkk 0 rfl ?_;refine tkk 1 rfl ?_;refine tkk 2 rfl ?_;refine tkk 3 rfl ?_;(try simp only[cl,Act.put]);refine rd 4 rfl fun K g=>?_;go_simp;refine g.out _ _ ?_ (fun c=>?_)
  ·exact l.out _ _ (below_alloc1 _ _) (by with_reducible assumption)
  clear g K a;have a:=c;clear c;(try simp only[cl,Act.put]);refine rd 5 rfl fun K g=>?_;go_simp;(go_at_call 72;go_fit (Zdq _ _ _);rintro e5 w5 ⟨⟨u,rfl,hT⟩,d⟩;obtain⟨O,Au,cu,rfl,_,_⟩:=id hT);go_wp2_with fail;refine g.out _ _ (l.out _ _ d (by with_reducible assumption)) (fun c=>?_);clear g K a d;have a:=c;clear c;(try simp only[cl,Act.put]);refine tkk 6 rfl ?_;refine tkk 7 rfl ?_;(try simp only[cl,Act.put]);refine wpAnyH_done (by kernel_rfl) ?_ _;refine NoPanic.normal ?_;have T5:=zh hT;have B5:=zh (Za a);have H5:=zh a;clear hT;obtain⟨⟨g0,g1,g2,g3,g4,n0,n1,n2⟩,_⟩:=a;go_upto_region 4 with(go_at_call 106;go_fit (af.out _ B5.out);rintro e6 G ⟨rfl,F⟩;have B6:=zh (B5.out.trans (F.mono B5.out.size));have K6:=zh (l.out _ _ F H5.out);have U:=zh (T5.out.below F);clear F)
  have R:(G.drew.cell? ⟨w.heap.size,0,Yb⟩=Ya (Yd Yf m)/\G.drew.cell? ⟨w.heap.size,1,Yb⟩=Ya (.slice z r.length A)/\G.drew.cell? ⟨w.heap.size,2,Yb⟩=Ya (Yc (Ya b) 3 B)/\G.drew.cell? ⟨w.heap.size,3,Yb⟩=Ya (Yc D f.length t)/\G.drew.cell? ⟨w.heap.size,4,Yb⟩=Ya (Yd Yf o)/\G.drew.cell? b=Ya (Yd Yf P)/\G.drew.cell? ⟨b.block,b.off+1,Yb⟩=Ya (Yd Yf Y)/\G.drew.cell? ⟨b.block,b.off+2,Yb⟩=Ya (Yd Yf Z))/\Below w.heap.size w G.drew:=⟨K6.out.1,K6.out.2.drew⟩
  refine wp_region_noPanic ?_;refine wp_region_held_drew (S:=(fun w'=>(w'.cell? ⟨w.heap.size,0,Yb⟩=Ya (Yd Yf m)/\w'.cell? ⟨w.heap.size,1,Yb⟩=Ya (.slice z r.length A)/\w'.cell? ⟨w.heap.size,2,Yb⟩=Ya (Yc (Ya b) 3 B)/\w'.cell? ⟨w.heap.size,3,Yb⟩=Ya (Yc D f.length t)/\w'.cell? ⟨w.heap.size,4,Yb⟩=Ya (Yd Yf o)/\w'.cell? b=Ya (Yd Yf P)/\w'.cell? ⟨b.block,b.off+1,Yb⟩=Ya (Yd Yf Y)/\w'.cell? ⟨b.block,b.off+2,Yb⟩=Ya (Yd Yf Z))/\Below w.heap.size w w')) (by kernel_rfl) R (fun a=>?_);clear R;refine tkk 0 rfl ?_;refine tkk 1 rfl ?_;refine tkk 2 rfl ?_;refine tkk 3 rfl ?_;(try simp only[cl,Act.put]);refine rd 4 rfl fun K g=>?_;go_simp;refine g.out _ _ ?_ (fun c=>?_)
  ·exact l.out _ _ (below_alloc1 _ _) (by with_reducible assumption)
  clear g K a;have a:=c;clear c;(try simp only[cl,Act.put]);refine rd 5 rfl fun K g=>?_;go_simp
  (first
   |(go_at_call 75;go_fit (I.out _ B6.out _ U.out);rintro e7 w7 ⟨rfl,d⟩;have E:=zh (((U.out.below (below_alloc1 _ _)).below (Za9 _)).below d))
   |(go_at_call 72;go_fit (ZbJ _ _ _);rintro e8 w8 ⟨⟨u2,rfl,s⟩,d⟩;obtain⟨X,aa,ab,rfl,_,_⟩:=id s;have i:=zh (zi ((Za a).trans (d.mono (Za a).size)) (zi s ((E.out.below (below_alloc1 _ _)).below d))))
   |(go_at_call 75;go_fit (L.out _ i.out.1 _ _ i.out.2.1 i.out.2.2);rintro e9 w9 ⟨rfl,d⟩)
   |(go_at_call 108;go_fit (N.out _ (Za (by with_reducible assumption)));rintro ac ad ⟨rfl,d⟩))
  go_wp2_with fail;refine g.out _ _ (l.out _ _ d (by with_reducible assumption)) (fun c=>?_);clear g K a d;have a:=c;clear c;(try simp only[cl,Act.put]);refine tkk 6 rfl ?_;refine txk 7 rfl ?_;refine txk 8 rfl ?_;refine txk 9 rfl ?_;refine txk 10 rfl ?_;refine txk 11 rfl ?_;refine txk 12 rfl ?_;refine txk 13 rfl ?_;refine txk 14 rfl ?_;refine txk 15 rfl ?_;refine txk 16 rfl ?_;refine txk 17 rfl ?_;refine txk 18 rfl ?_;refine txk 19 rfl ?_;refine txk 20 rfl ?_;refine txk 21 rfl ?_;refine txk 22 rfl ?_;refine txk 23 rfl ?_;refine tkk 24 rfl ?_;refine tkk 25 rfl ?_;(try simp only[cl,Act.put]);refine wpAnyH_done (by kernel_rfl) ?_ _;refine NoPanic.normal ?_;have B9:=zh (Za a);clear a;go_wp2_with fail;go_ret;exact⟨rfl,B9.out⟩
end Go.Proofs.YtdkegpkfjgloeaaGreatDoor
