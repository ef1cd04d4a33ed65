import Derived.Test.YtkgkmdhpnhmcpaaGreatDoorQBE
set_option maxRecDepth 100000
set_option maxHeartbeats 8000000
namespace Go.Proofs.YtkgkmdhpnhmcpaaGreatDoor
section
open Go.RowKit
def ZU (w:World) (v:Value) (ts:List Tst):Prop:=
 ∃ A c us,v=.slice A ts.length c/\ts.length<=c/\c<=maxLen/\us.length=ts.length/\Zr w w.heap.size 1 A ts.length us/\∀ (i:Nat) (t:Tst) (u:Value),ts[i]? = some t->us[i]? = some u->Zp w t u
theorem ZU.below {w w':World} {v:Value} {l:List Tst} (h:ZU w v l) (hb:Below w.heap.size w w'):ZU w' v l:=by
 obtain ⟨A,c,us,h1,h2,h3,h4,h5,h6⟩:=h
 exact ⟨A,c,us,h1,h2,h3,h4,(h5.below hb).more hb.size,fun i t u a b=>(h6 i t u a b).below hb⟩
theorem Zdy (ns:List Nd):∀ (ks:List Int) (fs:List (Int->Bool)),ks.length≠fs.length->Zk ns ks fs=false
 | [],[],h=>absurd rfl h
 | [],_::_,_=>rfl
 | _::_,[],_=>rfl
 | k::r,f::g,h=>by
  rw [Zk,Zdy ns r g (fun e=>h (by simp [e])),Bool.and_false]
theorem Zes (ns:List Nd):∀ (ks:List Int) (fs:List (Int->Bool)) (k:Nat) (x:Int) (f:Int->Bool),ks[k]? = some x->fs[k]? = some f->Zk ns (ks.take k) (fs.take k)=true->Zk ns (ks.take (k+1)) (fs.take (k+1))=f (ZI ns x)
 | [],fs,k,x,f,h,_,_=>by simp at h
 | _::_,[],k,x,f,_,h,_=>by simp at h
 | y::r,g::s,0,x,f,h1,h2,_=>by
  obtain rfl:y=x:=by simpa using h1
  obtain rfl:g=f:=by simpa using h2
  simp [Zk]
 | y::r,g::s,k+1,x,f,h1,h2,h3=>by
  rw [List.take_succ_cons,List.take_succ_cons,Zk,Bool.and_eq_true] at h3
  rw [List.take_succ_cons,List.take_succ_cons,Zk,h3.1,Bool.true_and]
  exact Zes ns r s k x f (by simpa using h1) (by simpa using h2) h3.2
theorem ZfH (ns:List Nd):∀ (ks:List Int) (fs:List (Int->Bool)) (k:Nat) (x:Int) (f:Int->Bool),ks[k]? = some x->fs[k]? = some f->f (ZI ns x)=false->Zk ns ks fs=false
 | [],fs,k,x,f,h,_,_=>by simp at h
 | _::_,[],k,x,f,_,h,_=>by simp at h
 | y::r,g::s,0,x,f,h1,h2,h=>by
  obtain rfl:y=x:=by simpa using h1
  obtain rfl:g=f:=by simpa using h2
  rw [Zk,h,Bool.false_and]
 | y::r,g::s,k+1,x,f,h1,h2,h=>by
  rw [Zk,ZfH ns r s k x f (by simpa using h1) (by simpa using h2) h,Bool.and_false]
theorem ZC (w:World) (v vk vf:Value) (ns:List Nd) (ks:List Int) (ts:List Tst) (hN:Zn w v ns) (hK:ZH w vk ks) (hF:ZU w vf ts) (hk:ZA ks ns.length) :
  Calls Tryz.prog 97 #[v,vk,vf] w fun e w'=>e=.returned (.bool (Zk ns ks (ts.map Tst.f)))/\Below w.heap.size w w':=by
 obtain ⟨A,c,rs,rfl,_,_,h4,h5,_⟩:=hN
 obtain ⟨Ak,ck,rfl,_,k3,k4⟩:=hK
 obtain ⟨Af,cf0,us,rfl,_,f3,f4,f5,f6⟩:=hF
 obtain ⟨nn,hnn⟩:∃ n,n=ns.length:=⟨_,rfl⟩
 obtain ⟨n,hn⟩:∃ n,n=ks.length:=⟨_,rfl⟩
 obtain ⟨m,hm⟩:∃ n,n=ts.length:=⟨_,rfl⟩
 rw [<- hnn] at h5 hk ⊢
 rw [<- hn] at k4 ⊢
 rw [<- hm] at f5 ⊢
 by_cases hmn:n=m
 rotate_left
 ·have e:=Zdy ns ks (ts.map Tst.f) (by rw [List.length_map,<- hn,<- hm];exact hmn)
  rw [e]
  have i1:((n:Int) != (m:Int))=true:=by simpa using fun e=>hmn (by omega)
  clear h4 h5 k3 k4 f3 f4 f5 f6 hnn hn hm hk hmn e
  go_enter Tryz.func97,Tryz.ntmps97
  go_wp2_with fail
  go_ret
  exact ⟨rfl,Below.refl _ _⟩
 have i0:((n:Int) != (n:Int))=false:=by simp
 have hrn:rs.length=nn:=by rw [hnn,<- h4,List.length_map]
 have hmx:n<=9223372036854775807:=by unfold maxLen at k3;omega
 subst hmn
 have HN:=zh (zi hn (zi hm (zi hnn (zi hrn (zi hmx (zi hk (zi f6 f4)))))))
 have HR:=zh (zi h4 (zi h5 (zi k4 f5)))
 clear hn hm hnn hrn hmx hk f6 f4 h4 h5 k4 f5 k3 f3
 go_enter Tryz.func97,Tryz.ntmps97
 go_wp2_with fail
 go_loopg [16] n (fun g v16 wr=>Below w.heap.size w wr/\∃ i:Nat,v16=.int .i64 i/\i<=n/\g=n-i/\Zk ns (ks.take i) ((ts.map Tst.f).take i)=true)
 case atStart=>exact ⟨Below.refl _ _,0,rfl,Nat.zero_le _,rfl,rfl⟩
 case round=>
  obtain ⟨hb,i,rfl,hi,hg,hall⟩:=hrel
  by_cases hin:i=n
  ·have e1:ks.take i=ks:=by rw [hin,HN.out.1];exact List.take_length
   have e2:(ts.map Tst.f).take i=ts.map Tst.f:=by rw [hin,HN.out.2.1,show ts.length=(ts.map Tst.f).length by rw [List.length_map]];exact List.take_length
   rw [e1,e2] at hall
   have FIN:=zh (zi hall hb)
   subst hin
   clear hi hg hall e1 e2 hb
   go_wp2_with fail
   go_ret
   exact ⟨by rw [FIN.out.1];rfl,FIN.out.2⟩
  ·have hlt:i<n:=by omega
   obtain ⟨x,hx⟩:∃ x,ks[i]? = some x:=⟨_,List.getElem?_eq_getElem (by rw [<- HN.out.1];exact hlt)⟩
   obtain ⟨t,ht⟩:∃ t,ts[i]? = some t:=⟨_,List.getElem?_eq_getElem (by rw [<- HN.out.2.1];exact hlt)⟩
   obtain ⟨u,hu0⟩:∃ u,us[i]? = some u:=⟨_,List.getElem?_eq_getElem (by rw [HN.out.2.2.2.2.2.2.2,<- HN.out.2.1];exact hlt)⟩
   have hu:=(HN.out.2.2.2.2.2.2.1 i t u ht hu0).below hb
   obtain ⟨adk,rfl,k0⟩:=ints_at HR.out.2.2.1 hb hx (by omega)
   have f0':∃ ad,Af=some ad/\wr.cell? (ad.add i)=some u:=by
    obtain ⟨ad,e,hbk,hc⟩:=HR.out.2.2.2.2 (by omega)
    exact ⟨ad,e,(hb.cell (p:=ad.add i) (by rw [ZQ];exact hbk)).trans (hc i u hu0)⟩
   obtain ⟨adf,rfl,f0⟩:=f0'
   have hkx:=HN.out.2.2.2.2.2.1 x (List.mem_of_getElem? hx)
   obtain ⟨j,rfl⟩:∃ j:Nat,x=j:=⟨x.toNat,by omega⟩
   obtain ⟨y,hy⟩:∃ y,rs[j]? = some y:=⟨_,List.getElem?_eq_getElem (by have:=HN.out.2.2.2.1;omega)⟩
   have hny:ns[j]? = some y.2:=by rw [<- HR.out.1,List.getElem?_map,hy];rfl
   obtain ⟨adn,rfl,d0,_⟩:=ZS HR.out.2.1 hb hy (by omega)
   have hkd:ZI ns j=y.2.kind:=by unfold ZI Zu;rw [Int.toNat_natCast,hny];rfl
   have hft:(ts.map Tst.f)[i]? = some t.f:=by rw [List.getElem?_map,ht];rfl
   have nxt:=Zes ns ks (ts.map Tst.f) i j t.f hx hft hall
   have bad:=ZfH ns ks (ts.map Tst.f) i j t.f hx hft
   rw [hkd] at nxt bad
   have i1:(i:Int)<(n:Int):=by omega
   have i2:(0:Int)<=(i:Int):=by omega
   have i3:(j:Int)<(nn:Int):=by omega
   have i4:(0:Int)<=(j:Int):=by omega
   have wk:IntKind.i64.wrap ((i:Int)+1)=(i:Int)+1:=IntWalk.i64_in _ (by have:=HN.out.2.2.2.2.1;omega)
   generalize y.2.kind=kd at *
   have HK:=zh (zi hlt (zi hg hb))
   have NX:=zh (zi nxt bad)
   clear nxt bad hx ht hu0 hin hlt hi hg hall hb hft hkd hny hy hkx
   generalize wr=wq at *
   cases t with
   | is ks=>
    obtain ⟨bf,Af,cf,rfl,h1,h2⟩:=hu
    have CL:=zh (show ∀ w':World,Below wq.heap.size wq w'->Calls Tryz.prog 129 #[.int .i64 kd,.pointer (some ⟨bf,0,none⟩)] w' (fun e w2=>e=.returned (.bool (isB ks kd))/\Below w'.heap.size w' w2) from fun w' hb=>Zai (ZfP w' bf Af _ cf ks kd (h1.keep hb) (h2.below hb)))
    clear h1 h2
    have nx1:=NX.out
    dsimp only [Tst.f] at nx1
    have NX1:=zh nx1
    clear nx1
    generalize isB ks kd=BV at *
    have STB:=zh (show Stb (fun w'=>(w'.cell? (adf.add i)=some (.func (.func 129) #[] #[.pointer (some ⟨bf,0,none⟩)])/\w'.cell? (adn.add (j*5))=some (.int .i64 kd))/\Below wq.heap.size wq w') from Zc (Zc (Zb _ _) (Zb _ _)) (Zq wq))
    go_upto_region 6 with fail
    have HS:((wq.drew.cell? (adf.add i)=some (.func (.func 129) #[] #[.pointer (some ⟨bf,0,none⟩)])/\wq.drew.cell? (adn.add (j*5))=some (.int .i64 kd))/\Below wq.heap.size wq wq.drew):=⟨⟨f0,d0⟩,Zo wq⟩
    clear f0 d0
    refine wp_region_noPanic ?_
    refine wp_region_held_drew (S:=(fun w'=>(w'.cell? (adf.add i)=some (.func (.func 129) #[] #[.pointer (some ⟨bf,0,none⟩)])/\w'.cell? (adn.add (j*5))=some (.int .i64 kd))/\Below wq.heap.size wq w')) (by kernel_rfl) HS (fun hHeld=>?_)
    clear HS
    refine tk 0 rfl ?_
    refine tk 1 rfl ?_
    refine tk 2 rfl ?_
    refine tk 3 rfl ?_
    refine tk 4 rfl ?_
    refine tk 5 rfl ?_
    refine tk 6 rfl ?_
    refine tk 7 rfl ?_
    refine tk 8 rfl ?_
    (try simp only [cl,Act.put])
    refine rd 9 rfl fun K hK=>?_
    go_simp
    (go_at_call 129;(with_reducible refine (CL.out _ (Za (by with_reducible assumption))).mono ?_);rintro e5 w5 ⟨rfl,hb⟩)
    go_wp2_with fail
    refine hK.out _ _ (STB.out _ _ hb (by with_reducible assumption)) (fun hH2=>?_)
    clear hK K hHeld hb;have hHeld:=hH2;clear hH2
    (try simp only [cl,Act.put])
    refine tk 10 rfl ?_
    (try simp only [cl,Act.put])
    refine wpAnyH_done (by kernel_rfl) ?_ _
    refine NoPanic.normal ?_
    have HB:=zh (HK.out.2.2.trans ((Za hHeld).mono HK.out.2.2.size))
    clear hHeld
    cases BV
    ·have FIN:=zh (NX1.out.2 (by first | rfl | trivial))
     go_wp2_with fail
     go_ret
     exact ⟨by rw [FIN.out];rfl,HB.out⟩
    ·go_wp2_with fail
     go_roundg (n-(i+1))
     case measure=>have:=HK.out.1;have:=HK.out.2.1;omega
     case rel=>exact ⟨HB.out,i+1,by push_cast;rfl,by have:=HK.out.1;omega,rfl,NX1.out.1⟩
   | stmt=>
    obtain rfl:u=.func (.func 99) #[] #[]:=hu
    have CL:=zh (show ∀ w':World,Below wq.heap.size wq w'->Calls Tryz.prog 99 #[.int .i64 kd] w' (fun e w2=>e=.returned (.bool (ZbU kd))/\Below w'.heap.size w' w2) from fun w' hb=>Zai (Ze8 w' kd))
    have nx1:=NX.out
    dsimp only [Tst.f] at nx1
    have NX1:=zh nx1
    clear nx1
    generalize ZbU kd=BV at *
    have STB:=zh (show Stb (fun w'=>(w'.cell? (adf.add i)=some (.func (.func 99) #[] #[])/\w'.cell? (adn.add (j*5))=some (.int .i64 kd))/\Below wq.heap.size wq w') from Zc (Zc (Zb _ _) (Zb _ _)) (Zq wq))
    go_upto_region 6 with fail
    have HS:((wq.drew.cell? (adf.add i)=some (.func (.func 99) #[] #[])/\wq.drew.cell? (adn.add (j*5))=some (.int .i64 kd))/\Below wq.heap.size wq wq.drew):=⟨⟨f0,d0⟩,Zo wq⟩
    clear f0 d0
    refine wp_region_noPanic ?_
    refine wp_region_held_drew (S:=(fun w'=>(w'.cell? (adf.add i)=some (.func (.func 99) #[] #[])/\w'.cell? (adn.add (j*5))=some (.int .i64 kd))/\Below wq.heap.size wq w')) (by kernel_rfl) HS (fun hHeld=>?_)
    clear HS
    refine tk 0 rfl ?_
    refine tk 1 rfl ?_
    refine tk 2 rfl ?_
    refine tk 3 rfl ?_
    refine tk 4 rfl ?_
    refine tk 5 rfl ?_
    refine tk 6 rfl ?_
    refine tk 7 rfl ?_
    refine tk 8 rfl ?_
    (try simp only [cl,Act.put])
    refine rd 9 rfl fun K hK=>?_
    go_simp
    (go_at_call 99;(with_reducible refine (CL.out _ (Za (by with_reducible assumption))).mono ?_);rintro e5 w5 ⟨rfl,hb⟩)
    go_wp2_with fail
    refine hK.out _ _ (STB.out _ _ hb (by with_reducible assumption)) (fun hH2=>?_)
    clear hK K hHeld hb;have hHeld:=hH2;clear hH2
    (try simp only [cl,Act.put])
    refine tk 10 rfl ?_
    (try simp only [cl,Act.put])
    refine wpAnyH_done (by kernel_rfl) ?_ _
    refine NoPanic.normal ?_
    have HB:=zh (HK.out.2.2.trans ((Za hHeld).mono HK.out.2.2.size))
    clear hHeld
    cases BV
    ·have FIN:=zh (NX1.out.2 (by first | rfl | trivial))
     go_wp2_with fail
     go_ret
     exact ⟨by rw [FIN.out];rfl,HB.out⟩
    ·go_wp2_with fail
     go_roundg (n-(i+1))
     case measure=>have:=HK.out.1;have:=HK.out.2.1;omega
     case rel=>exact ⟨HB.out,i+1,by push_cast;rfl,by have:=HK.out.1;omega,rfl,NX1.out.1⟩
   | expr=>
    obtain rfl:u=.func (.func 100) #[] #[]:=hu
    have CL:=zh (show ∀ w':World,Below wq.heap.size wq w'->Calls Tryz.prog 100 #[.int .i64 kd] w' (fun e w2=>e=.returned (.bool (ZK kd))/\Below w'.heap.size w' w2) from fun w' hb=>Zai (Zc0 w' kd))
    have nx1:=NX.out
    dsimp only [Tst.f] at nx1
    have NX1:=zh nx1
    clear nx1
    generalize ZK kd=BV at *
    have STB:=zh (show Stb (fun w'=>(w'.cell? (adf.add i)=some (.func (.func 100) #[] #[])/\w'.cell? (adn.add (j*5))=some (.int .i64 kd))/\Below wq.heap.size wq w') from Zc (Zc (Zb _ _) (Zb _ _)) (Zq wq))
    go_upto_region 6 with fail
    have HS:((wq.drew.cell? (adf.add i)=some (.func (.func 100) #[] #[])/\wq.drew.cell? (adn.add (j*5))=some (.int .i64 kd))/\Below wq.heap.size wq wq.drew):=⟨⟨f0,d0⟩,Zo wq⟩
    clear f0 d0
    refine wp_region_noPanic ?_
    refine wp_region_held_drew (S:=(fun w'=>(w'.cell? (adf.add i)=some (.func (.func 100) #[] #[])/\w'.cell? (adn.add (j*5))=some (.int .i64 kd))/\Below wq.heap.size wq w')) (by kernel_rfl) HS (fun hHeld=>?_)
    clear HS
    refine tk 0 rfl ?_
    refine tk 1 rfl ?_
    refine tk 2 rfl ?_
    refine tk 3 rfl ?_
    refine tk 4 rfl ?_
    refine tk 5 rfl ?_
    refine tk 6 rfl ?_
    refine tk 7 rfl ?_
    refine tk 8 rfl ?_
    (try simp only [cl,Act.put])
    refine rd 9 rfl fun K hK=>?_
    go_simp
    (go_at_call 100;(with_reducible refine (CL.out _ (Za (by with_reducible assumption))).mono ?_);rintro e5 w5 ⟨rfl,hb⟩)
    go_wp2_with fail
    refine hK.out _ _ (STB.out _ _ hb (by with_reducible assumption)) (fun hH2=>?_)
    clear hK K hHeld hb;have hHeld:=hH2;clear hH2
    (try simp only [cl,Act.put])
    refine tk 10 rfl ?_
    (try simp only [cl,Act.put])
    refine wpAnyH_done (by kernel_rfl) ?_ _
    refine NoPanic.normal ?_
    have HB:=zh (HK.out.2.2.trans ((Za hHeld).mono HK.out.2.2.size))
    clear hHeld
    cases BV
    ·have FIN:=zh (NX1.out.2 (by first | rfl | trivial))
     go_wp2_with fail
     go_ret
     exact ⟨by rw [FIN.out];rfl,HB.out⟩
    ·go_wp2_with fail
     go_roundg (n-(i+1))
     case measure=>have:=HK.out.1;have:=HK.out.2.1;omega
     case rel=>exact ⟨HB.out,i+1,by push_cast;rfl,by have:=HK.out.1;omega,rfl,NX1.out.1⟩
   | arg=>
    obtain rfl:u=.func (.func 102) #[] #[]:=hu
    have CL:=zh (show ∀ w':World,Below wq.heap.size wq w'->Calls Tryz.prog 102 #[.int .i64 kd] w' (fun e w2=>e=.returned (.bool (ZcU kd))/\Below w'.heap.size w' w2) from fun w' hb=>Zai (ZfI w' kd))
    have nx1:=NX.out
    dsimp only [Tst.f] at nx1
    have NX1:=zh nx1
    clear nx1
    generalize ZcU kd=BV at *
    have STB:=zh (show Stb (fun w'=>(w'.cell? (adf.add i)=some (.func (.func 102) #[] #[])/\w'.cell? (adn.add (j*5))=some (.int .i64 kd))/\Below wq.heap.size wq w') from Zc (Zc (Zb _ _) (Zb _ _)) (Zq wq))
    go_upto_region 6 with fail
    have HS:((wq.drew.cell? (adf.add i)=some (.func (.func 102) #[] #[])/\wq.drew.cell? (adn.add (j*5))=some (.int .i64 kd))/\Below wq.heap.size wq wq.drew):=⟨⟨f0,d0⟩,Zo wq⟩
    clear f0 d0
    refine wp_region_noPanic ?_
    refine wp_region_held_drew (S:=(fun w'=>(w'.cell? (adf.add i)=some (.func (.func 102) #[] #[])/\w'.cell? (adn.add (j*5))=some (.int .i64 kd))/\Below wq.heap.size wq w')) (by kernel_rfl) HS (fun hHeld=>?_)
    clear HS
    refine tk 0 rfl ?_
    refine tk 1 rfl ?_
    refine tk 2 rfl ?_
    refine tk 3 rfl ?_
    refine tk 4 rfl ?_
    refine tk 5 rfl ?_
    refine tk 6 rfl ?_
    refine tk 7 rfl ?_
    refine tk 8 rfl ?_
    (try simp only [cl,Act.put])
    refine rd 9 rfl fun K hK=>?_
    go_simp
    (go_at_call 102;(with_reducible refine (CL.out _ (Za (by with_reducible assumption))).mono ?_);rintro e5 w5 ⟨rfl,hb⟩)
    go_wp2_with fail
    refine hK.out _ _ (STB.out _ _ hb (by with_reducible assumption)) (fun hH2=>?_)
    clear hK K hHeld hb;have hHeld:=hH2;clear hH2
    (try simp only [cl,Act.put])
    refine tk 10 rfl ?_
    (try simp only [cl,Act.put])
    refine wpAnyH_done (by kernel_rfl) ?_ _
    refine NoPanic.normal ?_
    have HB:=zh (HK.out.2.2.trans ((Za hHeld).mono HK.out.2.2.size))
    clear hHeld
    cases BV
    ·have FIN:=zh (NX1.out.2 (by first | rfl | trivial))
     go_wp2_with fail
     go_ret
     exact ⟨by rw [FIN.out];rfl,HB.out⟩
    ·go_wp2_with fail
     go_roundg (n-(i+1))
     case measure=>have:=HK.out.1;have:=HK.out.2.1;omega
     case rel=>exact ⟨HB.out,i+1,by push_cast;rfl,by have:=HK.out.1;omega,rfl,NX1.out.1⟩
end
end Go.Proofs.YtkgkmdhpnhmcpaaGreatDoor
