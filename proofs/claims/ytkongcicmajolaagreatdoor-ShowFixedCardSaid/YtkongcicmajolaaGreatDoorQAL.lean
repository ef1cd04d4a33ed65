import Derived.Test.YtkongcicmajolaaGreatDoorQAA
import Derived.Test.YtkongcicmajolaaGreatDoorQAI
import Derived.Test.YtkongcicmajolaaGreatDoorQAK
set_option maxRecDepth 100000
set_option maxHeartbeats 8000000
namespace Go.Proofs.YtkongcicmajolaaGreatDoor
section
open Go.RowKit
theorem Zg0 (n a:Nat):∀ (x:List Int) (p q:List Int),Zb6 n a x p=some q->∀ k∈x,(a:Int)<k/\k<(n:Int)
 | [],p,q,h,k,hk=>by cases hk
 | y::r,p,q,h,k,hk=>by
  rw [Zb6] at h
  split at h
  ·cases h
  ·rename_i hb
   rcases List.mem_cons.mp hk with e | e
   ·subst e
    omega
   ·exact Zg0 n a r _ q h k e
theorem ZmF (ns:List Nd):∀ (j:Nat) (p:List Int),ZcA ns j=some p->∀ (i:Nat) (d:Nd),i<j->ns[i]? = some d->∀ k∈d.kids,(i:Int)<k/\k<(ns.length:Int)
 | 0,p,h,i,d,hi,hd=>absurd hi (Nat.not_lt_zero _)
 | j+1,p,h,i,d,hi,hd=>by
  rw [ZcA] at h
  cases hq:ZcA ns j with
  | none=>rw [hq] at h;cases h
  | some q=>
   rw [hq,Option.bind_some] at h
   split at h
   ·cases h
   ·by_cases e:i=j
    ·subst e
     rw [Zb2 hd] at h
     exact Zg0 _ _ _ _ _ h
    ·exact ZmF ns j q hq i d (by omega) hd
theorem ZmH {ns:List Nd} {p:List Int} (h:Zcg ns=some p) {i:Nat} {d:Nd} (hd:ns[i]? = some d):∀ k∈d.kids,(i:Int)<k/\k<(ns.length:Int):=by
 have hi:=(List.getElem?_eq_some_iff.mp hd).1
 unfold Zcg at h
 split at h
 ·cases h
 ·exact ZmF ns _ p h i d hi hd
theorem Zo5 {ns:List Nd} {p:List Int} (h:Zcg ns=some p) {i:Nat} {d:Nd} (hd:ns[i]? = some d):ZdO d.kids ns.length:=fun k hk=>by
 have:=ZmH h hd k hk
 omega
theorem ZdT {ns:List Nd} (h:Zcg ns=none):Zcw ns=false:=by
 unfold Zcw
 rw [h]
theorem Zfk {ns:List Nd} {p:List Int} (h:Zcg ns=some p):Zcw ns=(ZJ ns 0==0&&decide (Zgd (Zb8 p)<=24)&&ns.all (Zc5 ns)):=by
 unfold Zcw
 rw [h]
theorem Zgm {ns:List Nd} {k:Nat} {d:Nd} (h:ns[k]? = some d):ZJ ns k=d.kind:=by
 unfold ZJ
 rw [Zb2 h]
end
section
open Go.RowKit
def ZfZ (w:World) (v:Value) (ts:List Tst):Prop:=
 ∃ A c us,v=.slice A ts.length c/\ts.length<=c/\c<=maxLen/\us.length=ts.length/\ZM w w.heap.size 1 A ts.length us/\∀ (i:Nat) (t:Tst) (u:Value),ts[i]? = some t->us[i]? = some u->Za6 w t u
theorem ZfZ.below {w w':World} {v:Value} {l:List Tst} (h:ZfZ w v l) (hb:Below w.heap.size w w'):ZfZ w' v l:=by
 obtain ⟨A,c,us,h1,h2,h3,h4,h5,h6⟩:=h
 exact ⟨A,c,us,h1,h2,h3,h4,(h5.below hb).more hb.size,fun i t u a b=>(h6 i t u a b).below hb⟩
theorem Zjs (ns:List Nd):∀ (ks:List Int) (fs:List (Int->Bool)),ks.length≠fs.length->Zp ns ks fs=false
 | [],[],h=>absurd rfl h
 | [],_::_,_=>rfl
 | _::_,[],_=>rfl
 | k::r,f::g,h=>by
  rw [Zp,Zjs ns r g (fun e=>h (by simp [e])),Bool.and_false]
theorem ZkB (ns:List Nd):∀ (ks:List Int) (fs:List (Int->Bool)) (k:Nat) (x:Int) (f:Int->Bool),ks[k]? = some x->fs[k]? = some f->Zp ns (ks.take k) (fs.take k)=true->Zp ns (ks.take (k+1)) (fs.take (k+1))=f (ZJ ns x)
 | [],fs,k,x,f,h,_,_=>by simp at h
 | _::_,[],k,x,f,_,h,_=>by simp at h
 | y::r,g::s,0,x,f,h1,h2,_=>by
  obtain rfl:y=x:=by simpa using h1
  obtain rfl:g=f:=by simpa using h2
  simp [Zp]
 | y::r,g::s,k+1,x,f,h1,h2,h3=>by
  rw [List.take_succ_cons,List.take_succ_cons,Zp,Bool.and_eq_true] at h3
  rw [List.take_succ_cons,List.take_succ_cons,Zp,h3.1,Bool.true_and]
  exact ZkB ns r s k x f (by simpa using h1) (by simpa using h2) h3.2
theorem Zmm (ns:List Nd):∀ (ks:List Int) (fs:List (Int->Bool)) (k:Nat) (x:Int) (f:Int->Bool),ks[k]? = some x->fs[k]? = some f->f (ZJ ns x)=false->Zp ns ks fs=false
 | [],fs,k,x,f,h,_,_=>by simp at h
 | _::_,[],k,x,f,_,h,_=>by simp at h
 | y::r,g::s,0,x,f,h1,h2,h=>by
  obtain rfl:y=x:=by simpa using h1
  obtain rfl:g=f:=by simpa using h2
  rw [Zp,h,Bool.false_and]
 | y::r,g::s,k+1,x,f,h1,h2,h=>by
  rw [Zp,Zmm ns r s k x f (by simpa using h1) (by simpa using h2) h,Bool.and_false]
theorem Zml (w:World) (v vk vf:Value) (ns:List Nd) (ks:List Int) (ts:List Tst) (hN:Zs w v ns) (hK:Zbh w vk ks) (hF:ZfZ w vf ts) (hk:ZdO ks ns.length) :
  Calls Tryz.prog 83 #[v,vk,vf] w fun e w'=>e=.returned (.bool (Zp ns ks (ts.map Tst.f)))/\Below w.heap.size w w':=by
 obtain ⟨A,c,rs,rfl,_,_,h4,h5,_⟩:=hN
 obtain ⟨Ak,ck,rfl,_,k3,k4⟩:=hK
 obtain ⟨Af,cf0,us,rfl,_,f3,f4,f5,f6⟩:=hF
 obtain ⟨nn,hnn⟩:∃ n,n=ns.length:=⟨_,rfl⟩
 obtain ⟨n,hn⟩:∃ n,n=ks.length:=⟨_,rfl⟩
 obtain ⟨m,hm⟩:∃ n,n=ts.length:=⟨_,rfl⟩
 rw [<- hnn] at h5 hk ⊢
 rw [<- hn] at k4 ⊢
 rw [<- hm] at f5 ⊢
 by_cases hmn:n=m
 rotate_left
 ·have e:=Zjs ns ks (ts.map Tst.f) (by rw [List.length_map,<- hn,<- hm];exact hmn)
  rw [e]
  have i1:((n:Int) != (m:Int))=true:=by simpa using fun e=>hmn (by omega)
  clear h4 h5 k3 k4 f3 f4 f5 f6 hnn hn hm hk hmn e
  go_enter Tryz.func83,Tryz.ntmps83
  go_wp2_with fail
  go_ret
  exact ⟨rfl,Below.refl _ _⟩
 have i0:((n:Int) != (n:Int))=false:=by simp
 have hrn:rs.length=nn:=by rw [hnn,<- h4,List.length_map]
 have hmx:n<=9223372036854775807:=by unfold maxLen at k3;omega
 subst hmn
 have HN:=zh (zi hn (zi hm (zi hnn (zi hrn (zi hmx (zi hk (zi f6 f4)))))))
 have HR:=zh (zi h4 (zi h5 (zi k4 f5)))
 clear hn hm hnn hrn hmx hk f6 f4 h4 h5 k4 f5 k3 f3
 go_enter Tryz.func83,Tryz.ntmps83
 go_wp2_with fail
 go_loopg [16] n (fun g v16 wr=>Below w.heap.size w wr/\∃ i:Nat,v16=.int .i64 i/\i<=n/\g=n-i/\Zp ns (ks.take i) ((ts.map Tst.f).take i)=true)
 case atStart=>exact ⟨Below.refl _ _,0,rfl,Nat.zero_le _,rfl,rfl⟩
 case round=>
  obtain ⟨hb,i,rfl,hi,hg,hall⟩:=hrel
  by_cases hin:i=n
  ·have e1:ks.take i=ks:=by rw [hin,HN.out.1];exact List.take_length
   have e2:(ts.map Tst.f).take i=ts.map Tst.f:=by rw [hin,HN.out.2.1,show ts.length=(ts.map Tst.f).length by rw [List.length_map]];exact List.take_length
   rw [e1,e2] at hall
   have FIN:=zh (zi hall hb)
   subst hin
   clear hi hg hall e1 e2 hb
   go_wp2_with fail
   go_ret
   exact ⟨by rw [FIN.out.1];rfl,FIN.out.2⟩
  ·have hlt:i<n:=by omega
   obtain ⟨x,hx⟩:∃ x,ks[i]? = some x:=⟨_,List.getElem?_eq_getElem (by rw [<- HN.out.1];exact hlt)⟩
   obtain ⟨t,ht⟩:∃ t,ts[i]? = some t:=⟨_,List.getElem?_eq_getElem (by rw [<- HN.out.2.1];exact hlt)⟩
   obtain ⟨u,hu0⟩:∃ u,us[i]? = some u:=⟨_,List.getElem?_eq_getElem (by rw [HN.out.2.2.2.2.2.2.2,<- HN.out.2.1];exact hlt)⟩
   have hu:=(HN.out.2.2.2.2.2.2.1 i t u ht hu0).below hb
   obtain ⟨adk,rfl,k0⟩:=ints_at HR.out.2.2.1 hb hx (by omega)
   have f0':∃ ad,Af=some ad/\wr.cell? (ad.add i)=some u:=by
    obtain ⟨ad,e,hbk,hc⟩:=HR.out.2.2.2.2 (by omega)
    exact ⟨ad,e,(hb.cell (p:=ad.add i) (by rw [ZbO];exact hbk)).trans (hc i u hu0)⟩
   obtain ⟨adf,rfl,f0⟩:=f0'
   have hkx:=HN.out.2.2.2.2.2.1 x (List.mem_of_getElem? hx)
   obtain ⟨j,rfl⟩:∃ j:Nat,x=j:=⟨x.toNat,by omega⟩
   obtain ⟨y,hy⟩:∃ y,rs[j]? = some y:=⟨_,List.getElem?_eq_getElem (by have:=HN.out.2.2.2.1;omega)⟩
   have hny:ns[j]? = some y.2:=by rw [<- HR.out.1,List.getElem?_map,hy];rfl
   obtain ⟨adn,rfl,d0,_⟩:=ZbA HR.out.2.1 hb hy (by omega)
   have hkd:ZJ ns j=y.2.kind:=by unfold ZJ Za;rw [Int.toNat_natCast,hny];rfl
   have hft:(ts.map Tst.f)[i]? = some t.f:=by rw [List.getElem?_map,ht];rfl
   have nxt:=ZkB ns ks (ts.map Tst.f) i j t.f hx hft hall
   have bad:=Zmm ns ks (ts.map Tst.f) i j t.f hx hft
   rw [hkd] at nxt bad
   have i1:(i:Int)<(n:Int):=by omega
   have i2:(0:Int)<=(i:Int):=by omega
   have i3:(j:Int)<(nn:Int):=by omega
   have i4:(0:Int)<=(j:Int):=by omega
   have wk:IntKind.i64.wrap ((i:Int)+1)=(i:Int)+1:=IntWalk.i64_in _ (by have:=HN.out.2.2.2.2.1;omega)
   generalize y.2.kind=kd at *
   have HK:=zh (zi hlt (zi hg hb))
   have NX:=zh (zi nxt bad)
   clear nxt bad hx ht hu0 hin hlt hi hg hall hb hft hkd hny hy hkx
   generalize wr=wq at *
   cases t with
   | is ks=>
    obtain ⟨bf,Af,cf,rfl,h1,h2⟩:=hu
    have CL:=zh (show ∀ w':World,Below wq.heap.size wq w'->Calls Tryz.prog 109 #[.int .i64 kd,.pointer (some ⟨bf,0,none⟩)] w' (fun e w2=>e=.returned (.bool (isB ks kd))/\Below w'.heap.size w' w2) from fun w' hb=>ZcU (ZmA w' bf Af _ cf ks kd (h1.keep hb) (h2.below hb)))
    clear h1 h2
    have nx1:=NX.out
    dsimp only [Tst.f] at nx1
    have NX1:=zh nx1
    clear nx1
    generalize isB ks kd=BV at *
    have STB:=zh (show Stb (fun w'=>(w'.cell? (adf.add i)=some (.func (.func 109) #[] #[.pointer (some ⟨bf,0,none⟩)])/\w'.cell? (adn.add (j*5))=some (.int .i64 kd))/\Below wq.heap.size wq w') from Zau (Zau (Zac _ _) (Zac _ _)) (ZcW wq))
    go_upto_region 6 with fail
    have HS:((wq.drew.cell? (adf.add i)=some (.func (.func 109) #[] #[.pointer (some ⟨bf,0,none⟩)])/\wq.drew.cell? (adn.add (j*5))=some (.int .i64 kd))/\Below wq.heap.size wq wq.drew):=⟨⟨f0,d0⟩,Za7 wq⟩
    clear f0 d0
    refine wp_region_noPanic ?_
    refine wp_region_held_drew (S:=(fun w'=>(w'.cell? (adf.add i)=some (.func (.func 109) #[] #[.pointer (some ⟨bf,0,none⟩)])/\w'.cell? (adn.add (j*5))=some (.int .i64 kd))/\Below wq.heap.size wq w')) (by kernel_rfl) HS (fun hHeld=>?_)
    clear HS
    refine tk 0 rfl ?_
    refine tk 1 rfl ?_
    refine tk 2 rfl ?_
    refine tk 3 rfl ?_
    refine tk 4 rfl ?_
    refine tk 5 rfl ?_
    refine tk 6 rfl ?_
    refine tk 7 rfl ?_
    refine tk 8 rfl ?_
    (try simp only [cl,Act.put])
    refine rd 9 rfl fun K hK=>?_
    go_simp
    (go_at_call 109;(with_reducible refine (CL.out _ (Zm (by with_reducible assumption))).mono ?_);rintro e5 w5 ⟨rfl,hb⟩)
    go_wp2_with fail
    refine hK.out _ _ (STB.out _ _ hb (by with_reducible assumption)) (fun hH2=>?_)
    clear hK K hHeld hb;have hHeld:=hH2;clear hH2
    (try simp only [cl,Act.put])
    refine tk 10 rfl ?_
    (try simp only [cl,Act.put])
    refine wpAnyH_done (by kernel_rfl) ?_ _
    refine NoPanic.normal ?_
    have HB:=zh (HK.out.2.2.trans ((Zm hHeld).mono HK.out.2.2.size))
    clear hHeld
    cases BV
    ·have FIN:=zh (NX1.out.2 (by first | rfl | trivial))
     go_wp2_with fail
     go_ret
     exact ⟨by rw [FIN.out];rfl,HB.out⟩
    ·go_wp2_with fail
     go_roundg (n-(i+1))
     case measure=>have:=HK.out.1;have:=HK.out.2.1;omega
     case rel=>exact ⟨HB.out,i+1,by push_cast;rfl,by have:=HK.out.1;omega,rfl,NX1.out.1⟩
   | stmt=>
    obtain rfl:u=.func (.func 85) #[] #[]:=hu
    have CL:=zh (show ∀ w':World,Below wq.heap.size wq w'->Calls Tryz.prog 85 #[.int .i64 kd] w' (fun e w2=>e=.returned (.bool (ZcL kd))/\Below w'.heap.size w' w2) from fun w' hb=>ZcU (Zlv w' kd))
    have nx1:=NX.out
    dsimp only [Tst.f] at nx1
    have NX1:=zh nx1
    clear nx1
    generalize ZcL kd=BV at *
    have STB:=zh (show Stb (fun w'=>(w'.cell? (adf.add i)=some (.func (.func 85) #[] #[])/\w'.cell? (adn.add (j*5))=some (.int .i64 kd))/\Below wq.heap.size wq w') from Zau (Zau (Zac _ _) (Zac _ _)) (ZcW wq))
    go_upto_region 6 with fail
    have HS:((wq.drew.cell? (adf.add i)=some (.func (.func 85) #[] #[])/\wq.drew.cell? (adn.add (j*5))=some (.int .i64 kd))/\Below wq.heap.size wq wq.drew):=⟨⟨f0,d0⟩,Za7 wq⟩
    clear f0 d0
    refine wp_region_noPanic ?_
    refine wp_region_held_drew (S:=(fun w'=>(w'.cell? (adf.add i)=some (.func (.func 85) #[] #[])/\w'.cell? (adn.add (j*5))=some (.int .i64 kd))/\Below wq.heap.size wq w')) (by kernel_rfl) HS (fun hHeld=>?_)
    clear HS
    refine tk 0 rfl ?_
    refine tk 1 rfl ?_
    refine tk 2 rfl ?_
    refine tk 3 rfl ?_
    refine tk 4 rfl ?_
    refine tk 5 rfl ?_
    refine tk 6 rfl ?_
    refine tk 7 rfl ?_
    refine tk 8 rfl ?_
    (try simp only [cl,Act.put])
    refine rd 9 rfl fun K hK=>?_
    go_simp
    (go_at_call 85;(with_reducible refine (CL.out _ (Zm (by with_reducible assumption))).mono ?_);rintro e5 w5 ⟨rfl,hb⟩)
    go_wp2_with fail
    refine hK.out _ _ (STB.out _ _ hb (by with_reducible assumption)) (fun hH2=>?_)
    clear hK K hHeld hb;have hHeld:=hH2;clear hH2
    (try simp only [cl,Act.put])
    refine tk 10 rfl ?_
    (try simp only [cl,Act.put])
    refine wpAnyH_done (by kernel_rfl) ?_ _
    refine NoPanic.normal ?_
    have HB:=zh (HK.out.2.2.trans ((Zm hHeld).mono HK.out.2.2.size))
    clear hHeld
    cases BV
    ·have FIN:=zh (NX1.out.2 (by first | rfl | trivial))
     go_wp2_with fail
     go_ret
     exact ⟨by rw [FIN.out];rfl,HB.out⟩
    ·go_wp2_with fail
     go_roundg (n-(i+1))
     case measure=>have:=HK.out.1;have:=HK.out.2.1;omega
     case rel=>exact ⟨HB.out,i+1,by push_cast;rfl,by have:=HK.out.1;omega,rfl,NX1.out.1⟩
   | expr=>
    obtain rfl:u=.func (.func 86) #[] #[]:=hu
    have CL:=zh (show ∀ w':World,Below wq.heap.size wq w'->Calls Tryz.prog 86 #[.int .i64 kd] w' (fun e w2=>e=.returned (.bool (Zat kd))/\Below w'.heap.size w' w2) from fun w' hb=>ZcU (Zih w' kd))
    have nx1:=NX.out
    dsimp only [Tst.f] at nx1
    have NX1:=zh nx1
    clear nx1
    generalize Zat kd=BV at *
    have STB:=zh (show Stb (fun w'=>(w'.cell? (adf.add i)=some (.func (.func 86) #[] #[])/\w'.cell? (adn.add (j*5))=some (.int .i64 kd))/\Below wq.heap.size wq w') from Zau (Zau (Zac _ _) (Zac _ _)) (ZcW wq))
    go_upto_region 6 with fail
    have HS:((wq.drew.cell? (adf.add i)=some (.func (.func 86) #[] #[])/\wq.drew.cell? (adn.add (j*5))=some (.int .i64 kd))/\Below wq.heap.size wq wq.drew):=⟨⟨f0,d0⟩,Za7 wq⟩
    clear f0 d0
    refine wp_region_noPanic ?_
    refine wp_region_held_drew (S:=(fun w'=>(w'.cell? (adf.add i)=some (.func (.func 86) #[] #[])/\w'.cell? (adn.add (j*5))=some (.int .i64 kd))/\Below wq.heap.size wq w')) (by kernel_rfl) HS (fun hHeld=>?_)
    clear HS
    refine tk 0 rfl ?_
    refine tk 1 rfl ?_
    refine tk 2 rfl ?_
    refine tk 3 rfl ?_
    refine tk 4 rfl ?_
    refine tk 5 rfl ?_
    refine tk 6 rfl ?_
    refine tk 7 rfl ?_
    refine tk 8 rfl ?_
    (try simp only [cl,Act.put])
    refine rd 9 rfl fun K hK=>?_
    go_simp
    (go_at_call 86;(with_reducible refine (CL.out _ (Zm (by with_reducible assumption))).mono ?_);rintro e5 w5 ⟨rfl,hb⟩)
    go_wp2_with fail
    refine hK.out _ _ (STB.out _ _ hb (by with_reducible assumption)) (fun hH2=>?_)
    clear hK K hHeld hb;have hHeld:=hH2;clear hH2
    (try simp only [cl,Act.put])
    refine tk 10 rfl ?_
    (try simp only [cl,Act.put])
    refine wpAnyH_done (by kernel_rfl) ?_ _
    refine NoPanic.normal ?_
    have HB:=zh (HK.out.2.2.trans ((Zm hHeld).mono HK.out.2.2.size))
    clear hHeld
    cases BV
    ·have FIN:=zh (NX1.out.2 (by first | rfl | trivial))
     go_wp2_with fail
     go_ret
     exact ⟨by rw [FIN.out];rfl,HB.out⟩
    ·go_wp2_with fail
     go_roundg (n-(i+1))
     case measure=>have:=HK.out.1;have:=HK.out.2.1;omega
     case rel=>exact ⟨HB.out,i+1,by push_cast;rfl,by have:=HK.out.1;omega,rfl,NX1.out.1⟩
   | arg=>
    obtain rfl:u=.func (.func 88) #[] #[]:=hu
    have CL:=zh (show ∀ w':World,Below wq.heap.size wq w'->Calls Tryz.prog 88 #[.int .i64 kd] w' (fun e w2=>e=.returned (.bool (Zef kd))/\Below w'.heap.size w' w2) from fun w' hb=>ZcU (Zmn w' kd))
    have nx1:=NX.out
    dsimp only [Tst.f] at nx1
    have NX1:=zh nx1
    clear nx1
    generalize Zef kd=BV at *
    have STB:=zh (show Stb (fun w'=>(w'.cell? (adf.add i)=some (.func (.func 88) #[] #[])/\w'.cell? (adn.add (j*5))=some (.int .i64 kd))/\Below wq.heap.size wq w') from Zau (Zau (Zac _ _) (Zac _ _)) (ZcW wq))
    go_upto_region 6 with fail
    have HS:((wq.drew.cell? (adf.add i)=some (.func (.func 88) #[] #[])/\wq.drew.cell? (adn.add (j*5))=some (.int .i64 kd))/\Below wq.heap.size wq wq.drew):=⟨⟨f0,d0⟩,Za7 wq⟩
    clear f0 d0
    refine wp_region_noPanic ?_
    refine wp_region_held_drew (S:=(fun w'=>(w'.cell? (adf.add i)=some (.func (.func 88) #[] #[])/\w'.cell? (adn.add (j*5))=some (.int .i64 kd))/\Below wq.heap.size wq w')) (by kernel_rfl) HS (fun hHeld=>?_)
    clear HS
    refine tk 0 rfl ?_
    refine tk 1 rfl ?_
    refine tk 2 rfl ?_
    refine tk 3 rfl ?_
    refine tk 4 rfl ?_
    refine tk 5 rfl ?_
    refine tk 6 rfl ?_
    refine tk 7 rfl ?_
    refine tk 8 rfl ?_
    (try simp only [cl,Act.put])
    refine rd 9 rfl fun K hK=>?_
    go_simp
    (go_at_call 88;(with_reducible refine (CL.out _ (Zm (by with_reducible assumption))).mono ?_);rintro e5 w5 ⟨rfl,hb⟩)
    go_wp2_with fail
    refine hK.out _ _ (STB.out _ _ hb (by with_reducible assumption)) (fun hH2=>?_)
    clear hK K hHeld hb;have hHeld:=hH2;clear hH2
    (try simp only [cl,Act.put])
    refine tk 10 rfl ?_
    (try simp only [cl,Act.put])
    refine wpAnyH_done (by kernel_rfl) ?_ _
    refine NoPanic.normal ?_
    have HB:=zh (HK.out.2.2.trans ((Zm hHeld).mono HK.out.2.2.size))
    clear hHeld
    cases BV
    ·have FIN:=zh (NX1.out.2 (by first | rfl | trivial))
     go_wp2_with fail
     go_ret
     exact ⟨by rw [FIN.out];rfl,HB.out⟩
    ·go_wp2_with fail
     go_roundg (n-(i+1))
     case measure=>have:=HK.out.1;have:=HK.out.2.1;omega
     case rel=>exact ⟨HB.out,i+1,by push_cast;rfl,by have:=HK.out.1;omega,rfl,NX1.out.1⟩
end
section
open Go.RowKit
theorem ZkG (w:World) (cs:Array Value) (ty:TypeId) (j:Nat) (u:Value) (h:cs[j]? = some u):(w.alloc (.cells cs ty)).cell? (Addr.add ⟨w.heap.size,0,none⟩ j)=some u:=by
 rw [Addr.add_lit,Nat.zero_add,(Blk.start w cs ty).cell j]
 exact h
theorem ZhI (w:World) (us:List Value) (ty:TypeId):ZM (w.alloc (.cells us.toArray ty)) (w.alloc (.cells us.toArray ty)).heap.size 1 (some ⟨w.heap.size,0,none⟩) us.length us:=
 ⟨by simp,fun _=>⟨_,rfl,(Blk.start w us.toArray ty).lt,fun j u hj=>ZkG w us.toArray ty j u (by simpa using hj)⟩⟩
theorem Ze6 (w:World) (l:List Int) (ty:TypeId) (h:l.length<=maxLen):Zbh (w.alloc (.cells (l.map (Value.int .i64)).toArray ty)) (.slice (some ⟨w.heap.size,0,none⟩) l.length l.length) l:=
 ⟨_,_,rfl,Nat.le_refl _,h,by simpa using ZhI w (l.map (Value.int .i64)) ty⟩
def Zkx (w:World):List Tst->List Value->Prop
 | [],[]=>True
 | t::ts,u::us=>Za6 w t u/\Zkx w ts us
 | _,_=>False
theorem ZmX {w:World}:∀ {ts:List Tst} {us:List Value},Zkx w ts us->us.length=ts.length/\∀ (i:Nat) (t:Tst) (u:Value),ts[i]? = some t->us[i]? = some u->Za6 w t u
 | [],[],_=>⟨rfl,fun i t u h=>by simp at h⟩
 | [],_::_,h=>h.elim
 | _::_,[],h=>h.elim
 | t::ts,u::us,h=>by
  obtain ⟨h1,h2⟩:=ZmX h.2
  refine ⟨by rw [List.length_cons,List.length_cons,h1],fun i t' u' a b=>?_⟩
  cases i with
  | zero=>
   obtain rfl:t=t':=by simpa using a
   obtain rfl:u=u':=by simpa using b
   exact h.1
  | succ i=>exact h2 i t' u' (by simpa using a) (by simpa using b)
theorem ZcZ (w:World) (ts:List Tst) (us:List Value) (ty:TypeId) (hm:us.length<=maxLen) (h:Zkx (w.alloc (.cells us.toArray ty)) ts us):ZfZ (w.alloc (.cells us.toArray ty)) (.slice (some ⟨w.heap.size,0,none⟩) us.length us.length) ts:=by
 obtain ⟨h1,h2⟩:=ZmX h
 exact ⟨_,us.length,us,by rw [h1],by rw [h1];exact Nat.le_refl _,hm,h1,by rw [<- h1];exact ZhI w us ty,h2⟩
theorem ZbI (w:World) (a:Int) (ty:TypeId):Calls Tryz.prog 80 #[.slice (some ⟨w.heap.size,0,none⟩) 1 1] (w.alloc (.cells #[.int .i64 a] ty)) fun e w'=>(∃ u,e=.returned u/\Za6 w' (.is [a]) u)/\Below (w.alloc (.cells #[.int .i64 a] ty)).heap.size (w.alloc (.cells #[.int .i64 a] ty)) w':=ZkT _ _ [a] (Ze6 w [a] ty (by simp [maxLen]))
theorem Zdu (w:World) (a:Int) (ty:TypeId):Calls Tryz.prog 80 #[.slice (some ⟨w.heap.size,0,none⟩) 1 1] (w.alloc (.cells #[.int .i64 a] ty)).drew fun e w'=>(∃ u,e=.returned u/\Za6 w' (.is [a]) u)/\Below (w.alloc (.cells #[.int .i64 a] ty)).drew.heap.size (w.alloc (.cells #[.int .i64 a] ty)).drew w':=ZkT _ _ [a] ((Ze6 w [a] ty (by simp [maxLen])).below (Za7 _))
theorem ZfV (w:World) (a b:Int) (ty:TypeId):Calls Tryz.prog 80 #[.slice (some ⟨w.heap.size,0,none⟩) 2 2] (w.alloc (.cells #[.int .i64 a,.int .i64 b] ty)) fun e w'=>(∃ u,e=.returned u/\Za6 w' (.is [a,b]) u)/\Below (w.alloc (.cells #[.int .i64 a,.int .i64 b] ty)).heap.size (w.alloc (.cells #[.int .i64 a,.int .i64 b] ty)) w':=ZkT _ _ [a,b] (Ze6 w [a,b] ty (by simp [maxLen]))
theorem ZfS {n:Nd} {a b:Nat} (h:ZF n a b=true):n.words.length=a/\n.nums.length=b:=by
 unfold ZF at h
 rw [Bool.and_eq_true,decide_eq_true_eq,decide_eq_true_eq] at h
 exact h
theorem ZeH (w:World):ZfZ w (.slice none 0 0) []:=⟨none,0,[],rfl,Nat.le_refl _,by decide,rfl,ZM.none_,fun i t u h=>by simp at h⟩
end
end Go.Proofs.YtkongcicmajolaaGreatDoor
