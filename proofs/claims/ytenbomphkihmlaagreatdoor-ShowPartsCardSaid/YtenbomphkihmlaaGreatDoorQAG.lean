import Derived.BigQuiet
import Derived.Deep.QuietTactic
import Derived.Test.YtenbomphkihmlaaGreatDoorQAD
import Derived.Test.YtenbomphkihmlaaGreatDoorQAE
import Derived.Test.YtenbomphkihmlaaGreatDoorQAF
set_option maxRecDepth 100000
set_option maxHeartbeats 8000000
namespace Go.Proofs.YtenbomphkihmlaaGreatDoor
section
open Go.RowKit
def Zcg (p:List Int):Prop:=∀ (k:Nat) (x:Int),p[k]? = some x->x<k
theorem Zcg.set {p:List Int} (h:Zcg p) {k:Nat} {x:Int} (hx:x<k):Zcg (p.set k x):=fun i y hi=>by
 rw [List.getElem?_set] at hi
 split at hi
 ·rename_i e
  split at hi
  ·injection hi with hi
   omega
  ·cases hi
 ·exact h i y hi
theorem ZdC (n a:Nat):∀ (x:List Int) (p q:List Int),ZaD n a x p=some q->Zcg p->Zcg q
 | [],p,q,h,hp=>by
  injection h with h
  rwa [<- h]
 | k::r,p,q,h,hp=>by
  rw [ZaD] at h
  split at h
  ·cases h
  ·rename_i hb
   exact ZdC n a r _ q h (hp.set (by omega))
theorem Zef (ns:List Nd):∀ (j:Nat) (p:List Int),ZaO ns j=some p->Zcg p
 | 0,p,h=>by
  injection h with h
  rw [<- h]
  intro k x hx
  rw [List.getElem?_replicate] at hx
  split at hx
  ·injection hx with hx
   omega
  ·cases hx
 | j+1,p,h=>by
  rw [ZaO] at h
  cases hq:ZaO ns j with
  | none=>rw [hq] at h;cases h
  | some q=>
   rw [hq,Option.bind_some] at h
   split at h
   ·cases h
   ·exact ZdC _ _ _ _ _ h (Zef ns j q hq)
theorem ZaW (p:List Int):∀ j,(Zbq p j).length=j
 | 0=>rfl
 | j+1=>by rw [Zbq,List.length_append,ZaW p j];rfl
theorem ZdN {p:List Int} (ha:Zcg p):∀ (j:Nat),j<=p.length->∀ (k:Nat) (x:Int),(Zbq p j)[k]? = some x->1<=x/\x<=(k:Int)+1
 | 0,_,k,x,h=>by simp [Zbq] at h
 | j+1,hj,k,x,h=>by
  rw [Zbq,List.getElem?_append,ZaW] at h
  split at h
  ·exact ZdN ha j (by omega) k x h
  ·rename_i hk
   have e:k=j:=by
    have:=(List.getElem?_eq_some_iff.mp h).1
    simp at this
    omega
   subst e
   rw [Nat.sub_self] at h
   injection h with h
   obtain ⟨y,hy⟩:∃ y,p[k]? = some y:=⟨_,List.getElem?_eq_getElem (by omega)⟩
   rw [ZaQ hy] at h
   have:=ha k y hy
   split at h
   ·rename_i h0
    obtain ⟨m,rfl⟩:∃ m:Nat,y=m:=⟨y.toNat,by omega⟩
    obtain ⟨z,hz⟩:∃ z,(Zbq p k)[m]? = some z:=⟨_,List.getElem?_eq_getElem (by rw [ZaW];omega)⟩
    rw [ZaQ hz] at h
    have:=ZdN ha k (by omega) m z hz
    omega
   ·omega
def Zcc (p:List Int) (n j:Nat):List Int:=Zbq p j++List.replicate (n-j) 0
theorem Zfp {p:List Int} {n j:Nat} (h:j<=n):(Zcc p n j).length=n:=by
 unfold Zcc
 rw [List.length_append,ZaW,List.length_replicate]
 omega
theorem ZjE {p:List Int} {n j k:Nat} (h:k<j):(Zcc p n j)[k]? = (Zbq p j)[k]?:=by
 unfold Zcc
 rw [List.getElem?_append_left (by rw [ZaW];exact h)]
theorem Zfq {p:List Int} {n j:Nat} {x:Int} (h:j<n) (hx:x=if 0<=atI p j then 1+atI (Zbq p j) (atI p j) else 1):(Zcc p n j).set j x=Zcc p n (j+1):=by
 unfold Zcc
 rw [List.set_append_right _ _ (by rw [ZaW];exact Nat.le_refl _),ZaW,Nat.sub_self,Zbq,<- hx,List.append_assoc]
 congr 1
 rw [show n-j=(n-(j+1))+1 by omega,List.replicate_succ,List.set_cons_zero]
 rfl
theorem ZiR (p:List Int):Zcc p p.length p.length=Zay p:=by
 unfold Zcc Zay
 rw [Nat.sub_self,List.replicate_zero,List.append_nil]
theorem Zgg {w:World} {B n:Nat} {v:Value} (h:w.ownsRow B 3 1 v n (madeCells #[Value.int .i64 0] n).toList) (hn:0<n):∃ g c,v=.slice (some ⟨g,0,none⟩) n c/\n<=c/\c<=maxLen/\B<=g/\PIn w g (List.replicate n 0):=by
 rcases h.2 with ⟨e,he⟩ | ⟨g,cap,cur,e,hge,hh,hc,hm,hsz,htk⟩
 ·exfalso
  omega
 ·refine ⟨g,cap,e,hc,hm,hge,cur,⟨_,hh⟩,fun k x hx=>?_⟩
  rw [List.getElem?_replicate] at hx
  split at hx
  ·rename_i q
   injection hx with hx
   have:(cur.toList.take (n*1))[k]? = some (.int .i64 x):=by
    rw [htk,<- hx]
    simp [madeCells,q,Nat.mod_one]
   rw [List.getElem?_take_of_lt (by omega)] at this
   simpa using this
  ·cases hx
theorem PIn.other {w:World} {g:Nat} {p:List Int} (h:PIn w g p) {q:Addr} (hq:q.block≠g) (v:Value):PIn (w.setCell q v) g p:=by
 obtain ⟨cs,h1,hc⟩:=h
 exact ⟨cs,h1.other hq v,hc⟩
theorem PIn.drew {w:World} {g:Nat} {p:List Int} (h:PIn w g p):PIn w.drew g p:=by
 obtain ⟨cs,h1,hc⟩:=h
 exact ⟨cs,h1.drew,hc⟩
theorem ZgS (w:World) (g c n:Nat) (p:List Int) (hp:PIn w g p) (hn:p.length=n) (h1:1<=n) (h2:n<=1500) (ha:Zcg p) :
  Calls Tryz.prog 23 #[.slice (some ⟨g,0,none⟩) n c] w fun e w'=>Below w.heap.size w w'/\∃ g2 c2,e=.returned (.slice (some ⟨g2,0,none⟩) n c2)/\n<=c2/\c2<=maxLen/\PIn w' g2 (Zay p):=by
 obtain ⟨i0,hi,hz0,hz1,hz2⟩:=Zd8 Zgz
 have HN:=Lib.hid (And.intro hn (And.intro h1 (And.intro h2 (And.intro hp ha))))
 clear hn h1 h2 ha hp
 go_enter Tryz.func23,Tryz.ntmps23
 go_upto_region 2 with (at_make;refine wpList_make_full _ rfl _ _ 25 rfl w.heap.size 3 i0 (.int .i64 0) 1 Tryz.underlying25 hi hz0 hz1 .i64 .i64 _ _ n rfl rfl ?c1 ?c2 ?c3 ?c4 ?c5 ?_)
 case c1=>rfl
 case c2=>have:=HN.out;omega
 case c3=>rw [hz2];have:=HN.out;omega
 case c4=>have:=HN.out;unfold maxLen;omega
 case c5=>simp
 intro w2 hown hgrow
 have b2:Below w.heap.size w w2:=(Below.refl _ _).grown hgrow (Nat.le_refl _) (fun k hk=>by cases hk)
 obtain ⟨gd,cd,ed,hcd,hmd,hgd,hD⟩:=Zgg hown (by have:=HN.out;omega)
 rw [ed]
 have p2:=HN.out.2.2.2.1.keep b2
 have H2:=Lib.hid (And.intro hcd (And.intro hmd (And.intro hgd (And.intro HN.out.2.2.2.1.lt b2))))
 have D2:=Lib.hid (And.intro hD p2)
 clear hcd hmd hgd hD p2 b2 hown hgrow ed hi hz0 hz1 hz2 i0
 go_wp2_with fail
 go_loopg [11] n (fun gk v11 wr=>∃ j:Nat,v11=.int .i64 j/\j<=n/\gk=n-j/\PIn wr gd (Zcc p n j)/\PIn wr g p/\Below w.heap.size w wr)
 case atStart=>exact ⟨0,rfl,Nat.zero_le _,rfl,D2.out.1,D2.out.2,H2.out.2.2.2.2⟩
 case round=>
  obtain ⟨j,rfl,hj,hgk,hD,hP,hb⟩:=hrel
  by_cases hjn:j=n
  ·subst hjn
   have e:Zcc p j j=Zay p:=by
    have:=ZiR p
    rwa [HN.out.1] at this
   rw [e] at hD
   have FIN:=Lib.hid (And.intro hb hD)
   clear e hj hgk hD hP hb
   go_wp2_with fail
   go_ret
   exact ⟨FIN.out.1,gd,cd,rfl,H2.out.1,H2.out.2.1,FIN.out.2⟩
  have hlt:j<n:=by omega
  obtain ⟨y,hy⟩:∃ y,p[j]? = some y:=⟨_,List.getElem?_eq_getElem (by have:=HN.out.1;omega)⟩
  have cy:=hP.cell hy
  have ay:=HN.out.2.2.2.2 j y hy
  obtain ⟨z0,hz0⟩:∃ z0,(Zcc p n j)[j]? = some z0:=⟨_,List.getElem?_eq_getElem (by rw [Zfp hj];exact hlt)⟩
  have cz:=hD.cell hz0
  have fz:=hD.free j
  have i2:(j:Int)<(n:Int):=by omega
  have i3:(0:Int)<=(j:Int):=by omega
  have u1:IntKind.i64.wrap ((j:Int)+1)=(j:Int)+1:=IntWalk.i64_in _ (by have:=HN.out;omega)
  have len:=Zfp (p:=p) hj
  have D5:=hD.set (k:=j) (by omega) 1
  have P5:PIn (wr.setCell ⟨gd,j,none⟩ (.int .i64 1)) g p:=hP.other (q:=⟨gd,j,none⟩) (by show gd≠g;have:=H2.out;omega) _
  have b5:Below w.heap.size w (wr.setCell ⟨gd,j,none⟩ (.int .i64 1)):=hb.setCell (p:=⟨gd,j,none⟩) H2.out.2.2.1 _
  have H5:=Lib.hid (And.intro D5 (And.intro P5 b5))
  have HJ:=Lib.hid (And.intro hlt (And.intro hgk (And.intro hy (And.intro ay len))))
  clear hj hgk hP hD hy ay hz0 hlt D5 P5 b5 len hb hjn
  go_upto_region 6 with fail
  clear cy cz fz
  generalize wr.setCell ⟨gd,j,none⟩ (.int .i64 1)=w5 at *
  by_cases h0:0<=y
  ·obtain ⟨m,rfl⟩:∃ m:Nat,y=m:=⟨y.toNat,by omega⟩
   have hm:m<j:=by have:=HJ.out.2.2.2.1;omega
   obtain ⟨z,hz⟩:∃ z,(Zbq p j)[m]? = some z:=⟨_,List.getElem?_eq_getElem (by rw [ZaW];exact hm)⟩
   have bz:=ZdN HN.out.2.2.2.2 j (by have:=HJ.out;have:=HN.out;omega) m z hz
   have cm:=H5.out.1.cell (k:=m) (x:=z) (by rw [List.getElem?_set_ne (by omega),ZjE hm];exact hz)
   have cj:=H5.out.1.cell (k:=j) (x:=1) (by rw [List.getElem?_set_self (by rw [HJ.out.2.2.2.2];exact HJ.out.1)])
   have fj:=H5.out.1.free j
   have u2:IntKind.i64.wrap (1+z)=1+z:=IntWalk.i64_in _ (by have:=HJ.out;have:=HN.out;omega)
   have i5:(m:Int)<(n:Int):=by have:=HJ.out;omega
   have D8:=H5.out.1.set (k:=j) (by rw [List.length_set,HJ.out.2.2.2.2];exact HJ.out.1) (1+z)
   rw [List.set_set,Zfq HJ.out.1 (by rw [ZaQ HJ.out.2.2.1,if_pos h0,ZaQ hz])] at D8
   have P8:=H5.out.2.1.other (q:=⟨gd,j,none⟩) (by show gd≠g;have:=H2.out;omega) (.int .i64 (1+z))
   have b8:=H5.out.2.2.setCell (p:=⟨gd,j,none⟩) H2.out.2.2.1 (.int .i64 (1+z))
   have H8:=Lib.hid (And.intro D8 (And.intro P8 b8))
   clear D8 P8 b8 hz bz hm
   go_wp2_with fail
   go_region
   all_goals
    go_wp2_with fail
    go_roundg (n-(j+1))
    case measure=>have:=HJ.out;omega
    case rel=>exact ⟨j+1,by push_cast;rfl,by have:=HJ.out;omega,rfl,H8.out.1.drew,H8.out.2.1.drew,H8.out.2.2.drew⟩
  ·have i4:y<0:=by omega
   have D8:=H5.out.1
   rw [Zfq HJ.out.1 (by rw [ZaQ HJ.out.2.2.1,if_neg h0])] at D8
   have H8:=Lib.hid D8
   clear D8 h0
   go_wp2_with fail
   go_roundg (n-(j+1))
   case measure=>have:=HJ.out;omega
   case rel=>exact ⟨j+1,by push_cast;rfl,by have:=HJ.out;omega,rfl,H8.out,H5.out.2.1,H5.out.2.2⟩
end
section
open Go.RowKit
theorem ZhV {l:List Int} {k:Nat} {x a:Int} (h:l[k]? = some x):(l.take (k+1)).foldl max a=max ((l.take k).foldl max a) x:=by
 rw [List.take_add_one,h,List.foldl_append]
 rfl
def ZeA (l:List Int) (k:Nat):Int:=ZbV (l.take k)
theorem Zi9 {l:List Int} {x:Int} (h:l[0]? = some x):ZeA l 1=x:=by
 cases l with
 | nil=>simp at h
 | cons a r=>
  obtain rfl:a=x:=by simpa using h
  rfl
theorem Zia {l:List Int} {k:Nat} {x:Int} (hk:0<k) (h:l[k]? = some x):ZeA l (k+1)=max (ZeA l k) x:=by
 cases l with
 | nil=>simp at h
 | cons a r=>
  obtain ⟨m,rfl⟩:∃ m,k=m+1:=⟨k-1,by omega⟩
  rw [List.getElem?_cons_succ] at h
  show ZbV (a::r.take (m+1))=max (ZbV (a::r.take m)) x
  exact ZhV h
theorem Zi8 {l:List Int} {n:Nat} (h:l.length=n):ZeA l n=ZbV l:=by
 unfold ZeA
 rw [<- h,List.take_length]
theorem Zjp (w:World) (g c n:Nat) (p:List Int) (hp:PIn w g p) (hn:p.length=n) (h1:1<=n) (h2:n<=1500) :
  Calls Tryz.prog 22 #[.slice (some ⟨g,0,none⟩) n c] w fun e w'=>e=.returned (.int .i64 (ZbV p))/\w=w':=by
 obtain ⟨x0,hx0⟩:∃ x0,p[0]? = some x0:=⟨_,List.getElem?_eq_getElem (by omega)⟩
 have c0:=hp.cell hx0
 have i1:¬ (n:Int)<1:=by omega
 have i0:(0:Int)<(n:Int):=by omega
 have HN:=Lib.hid (And.intro hn (And.intro h1 (And.intro h2 (And.intro hp (Zi9 hx0)))))
 clear hn h1 h2 hp hx0
 go_enter Tryz.func22,Tryz.ntmps22
 go_wp2_with fail
 go_loopg [3,4] (n-1) (fun gk v3 v4 wr=>w=wr/\∃ k:Nat,v3=.int .i64 (ZeA p k)/\v4=.int .i64 k/\1<=k/\k<=n/\gk=n-k)
 case atStart=>exact ⟨rfl,1,by rw [HN.out.2.2.2.2],rfl,Nat.le_refl _,HN.out.2.1,rfl⟩
 case round=>
  obtain ⟨rfl,k,rfl,rfl,hk1,hk,hgk⟩:=hrel
  by_cases hkn:k=n
  ·subst hkn
   have e:=Lib.hid (Zi8 (l:=p) HN.out.1)
   clear hk1 hk hgk
   go_wp2_with fail
   go_ret
   exact ⟨by rw [<- e.out];rfl,rfl⟩
  ·obtain ⟨x,hx⟩:∃ x,p[k]? = some x:=⟨_,List.getElem?_eq_getElem (by have:=HN.out.1;omega)⟩
   have cx:=HN.out.2.2.2.1.cell hx
   have i2:(k:Int)<(n:Int):=by omega
   have i3:(0:Int)<=(k:Int):=by omega
   have u1:IntKind.i64.wrap ((k:Int)+1)=(k:Int)+1:=IntWalk.i64_in _ (by have:=HN.out;omega)
   have NX:=Lib.hid (Zia (by omega) hx)
   have HK:=Lib.hid (And.intro hk1 (And.intro i2 hgk))
   clear hk1 hk hgk hkn hx
   go_wp2_with fail
   go_roundg (n-(k+1))
   case measure=>have:=HK.out;omega
   case rel=>exact ⟨rfl,k+1,by rw [NX.out],by push_cast;rfl,by omega,by have:=HK.out;omega,rfl⟩
end
section
open Go.RowKit
theorem ZfJ {w:World} {v:Value} {ns:List Nd} (h:Zf w v ns) (hp:ZaL ns=none) :
  Calls Tryz.prog 21 #[v] w fun e w'=>e=.returned (.tuple #[.slice none 0 0,.bool false])/\Below w.heap.size w w':=
 (ZdE w v ns h).mono fun e w' q=>by
  obtain ⟨hb,hm⟩:=q
  rw [hp] at hm
  exact ⟨hm,hb⟩
theorem ZfK {w:World} {v:Value} {ns:List Nd} {p:List Int} (h:Zf w v ns) (hp:ZaL ns=some p) :
  Calls Tryz.prog 21 #[v] w fun e w'=>∃ g c,e=.returned (.tuple #[.slice (some ⟨g,0,none⟩) ns.length c,.bool true])/\PIn w' g p/\Below w.heap.size w w':=
 (ZdE w v ns h).mono fun e w' q=>by
  obtain ⟨hb,hm⟩:=q
  rw [hp] at hm
  obtain ⟨g,c,e,_,_,_,h⟩:=hm
  exact ⟨g,c,e,h,hb⟩
theorem Zc8 {ns:List Nd} {p:List Int} (h:ZaL ns=some p):1<=ns.length/\ns.length<=1500/\p.length=ns.length/\Zcg p:=by
 have h0:=h
 unfold ZaL at h
 split at h
 ·cases h
 ·exact ⟨by omega,by omega,ZdX _ _ _ h,Zef _ _ _ h⟩
theorem ZhL {w:World} {g c:Nat} {ns:List Nd} {p:List Int} (h:ZaL ns=some p) (hP:PIn w g p) :
  Calls Tryz.prog 23 #[.slice (some ⟨g,0,none⟩) ns.length c] w fun e w'=>∃ g2 c2,e=.returned (.slice (some ⟨g2,0,none⟩) ns.length c2)/\PIn w' g2 (Zay p)/\Below w.heap.size w w':=by
 obtain ⟨f1,f2,f3,f4⟩:=Zc8 h
 exact (ZgS w g c ns.length p hP f3 f1 f2 f4).mono fun e w' ⟨b,g2,c2,e,_,_,q⟩=>⟨g2,c2,e,q,b⟩
theorem Zkf {w:World} {g c:Nat} {ns:List Nd} {p:List Int} (h:ZaL ns=some p) (hP:PIn w g (Zay p)) :
  Calls Tryz.prog 22 #[.slice (some ⟨g,0,none⟩) ns.length c] w fun e w'=>e=.returned (.int .i64 (ZbV (Zay p)))/\w=w':=by
 obtain ⟨f1,f2,f3,f4⟩:=Zc8 h
 exact Zjp w g c ns.length (Zay p) hP (by unfold Zay;rw [ZaW,f3]) f1 f2
end
section
open Go.RowKit
theorem ZhB {ns:List Nd} {k:Nat} {d:Nd} (h:ns[k]? = some d) (h0:d.nums=[]):Zac ns k=-1:=by
 unfold Zac
 rw [Zah h,h0]
theorem ZcK {ns:List Nd} {k:Nat} {d:Nd} {x:Int} {r:List Int} (h:ns[k]? = some d) (h0:d.nums=x::r):Zac ns k=x:=by
 unfold Zac
 rw [Zah h,h0]
theorem Ze7 (w:World) (v:Value) (ns:List Nd) (k:Nat) (h:Zf w v ns) (hk:k<ns.length) :
  Calls Tryz.prog 83 #[v,.int .i64 k] w fun e w'=>e=.returned (.int .i64 (Zac ns k))/\w=w':=by
 obtain ⟨A,cp,rs,rfl,h2,h3,h4,h5,h6⟩:=h
 obtain ⟨x,hx⟩:∃ x,rs[k]? = some x:=⟨_,List.getElem?_eq_getElem (by have:=congrArg List.length h4;rw [List.length_map] at this;omega)⟩
 have hd:ns[k]? = some x.2:=by rw [<- h4,List.getElem?_map,hx];rfl
 obtain ⟨ad,rfl,d0,d1,d2,d3,d4⟩:=ZK h5 (Below.refl _ _) hx (by omega)
 obtain ⟨_,⟨A2,c2,ev2,k2,k3,k4⟩,_⟩:=h6 x (List.mem_of_getElem? hx)
 obtain ⟨⟨va,vb,vc⟩,kd,ws,nums,ks,ps⟩:=x
 dsimp only at d0 d1 d2 d3 d4 ev2 k2 k3 k4 hd
 subst ev2
 obtain ⟨n,hn⟩:∃ n,n=ns.length:=⟨_,rfl⟩
 rw [<- hn] at hk ⊢
 have i1:(k:Int)<(n:Int):=by omega
 have i2:(0:Int)<=(k:Int):=by omega
 clear h2 h3 h4 h5 h6 hx hk hn d0 d1 d3 d4
 cases nums with
 | nil=>
  have t1:((0:Int)==0)=true:=rfl
  have FIN:=Lib.hid (ZhB hd rfl)
  simp only [List.length_nil] at d2 k2 k4
  clear hd k2 k3 k4
  go_enter Tryz.func83,Tryz.ntmps83
  go_wp2_with fail
  go_ret
  exact ⟨by rw [FIN.out];rfl,rfl⟩
 | cons y r=>
  obtain ⟨ad2,rfl,e0⟩:=Zp (k:=0) (x:=y) k4 (Below.refl _ _) rfl (by simp)
  rw [show ad2.add 0=ad2 by unfold Addr.add;simp] at e0
  have FIN:=Lib.hid (ZcK hd rfl)
  obtain ⟨m,hm⟩:∃ m,m=(y::r).length:=⟨_,rfl⟩
  rw [<- hm] at d2
  have t1:((m:Int)==0)=false:=by
   have:m=r.length+1:=hm
   simpa using fun e=>by omega
  have i3:(0:Int)<(m:Int):=by
   have:m=r.length+1:=hm
   omega
  clear hd k2 k3 k4 hm
  go_enter Tryz.func83,Tryz.ntmps83
  go_wp2_with fail
  go_ret
  exact ⟨by rw [FIN.out];rfl,rfl⟩
theorem Zbs {n:Nd} {k:Nat} {x:Int} (h:n.nums[k]? = some x):num n k=x:=by
 unfold num
 rw [h]
 rfl
theorem Zdj (w:World) (x:NdV×Nd) (h:Zv w x) (h3:x.2.nums.length=3) :
  Calls Tryz.prog 81 #[ndV x] w fun e w'=>e=.returned (.bool (ZbI x.2))/\Below w.heap.size w w':=by
 obtain ⟨⟨A,c,e1,_⟩,⟨A2,c2,e2,g1,g2,g3⟩,A3,c3,e3,_⟩:=h
 obtain ⟨⟨v1,v2,v3⟩,kd,ws,ns,ks,ps⟩:=x
 dsimp only at e1 e2 e3 h3 g1 g2 g3
 subst e1 e2 e3
 obtain ⟨y1,hy1⟩:∃ y,ns[1]? = some y:=⟨_,List.getElem?_eq_getElem (by omega)⟩
 obtain ⟨y2,hy2⟩:∃ y,ns[2]? = some y:=⟨_,List.getElem?_eq_getElem (by omega)⟩
 unfold ZbI
 rw [Zbs (n:=(⟨kd,ws,ns,ks,ps⟩:Nd)) hy1,Zbs (n:=(⟨kd,ws,ns,ks,ps⟩:Nd)) hy2]
 have hb:=Zb w (.cells #[.int .i64 kd,.slice A ws.length c,.slice A2 ns.length c2,.slice A3 ks.length c3,.int .i64 ps] 29)
 obtain ⟨ad,rfl,a1⟩:=Zp (k:=1) g3 hb hy1 (by omega)
 obtain ⟨ad',ea,a2⟩:=Zp (k:=2) g3 hb hy2 (by omega)
 injection ea with ea
 subst ea
 rw [show ad.add 1=⟨ad.block,ad.off+1,none⟩ by unfold Addr.add;simp] at a1
 rw [show ad.add 2=⟨ad.block,ad.off+2,none⟩ by unfold Addr.add;simp] at a2
 have HB:=Lib.hid hb
 unfold ndV
 dsimp only
 rw [h3] at *
 clear g1 g2 g3 hy1 hy2 hb
 by_cases q1:1<=y1
 ·by_cases q2:1<=y2
  ·have Q:=Lib.hid (And.intro q1 q2)
   go_enter Tryz.func81,Tryz.ntmps81
   go_wp2_with fail
   go_ret
   exact ⟨by first | rfl | (have:=Q.out;simp;omega) | (have:=Q.out;simp_all),HB.out⟩
  ·have q2':y2<1:=by omega
   have Q:=Lib.hid (And.intro q1 q2)
   go_enter Tryz.func81,Tryz.ntmps81
   go_wp2_with fail
   go_ret
   exact ⟨by first | rfl | (have:=Q.out;simp;omega) | (have:=Q.out;simp_all),HB.out⟩
 ·have q1':y1<1:=by omega
  have Q:=Lib.hid q1
  go_enter Tryz.func81,Tryz.ntmps81
  go_wp2_with fail
  go_ret
  exact ⟨by first | rfl | (have:=Q.out;simp;omega) | (have:=Q.out;simp_all),HB.out⟩
end
section
open Go.RowKit
theorem Zek (ns:List Nd):∀ (l:List Int) (a b:Int),ZY ns (l++[a,b])=(ZY ns (l++[a])&&decide (Zac ns a<Zac ns b))
 | [],a,b=>by simp [ZY]
 | [x],a,b=>by simp [ZY,Bool.and_comm]
 | x::y::r,a,b=>by
  have:=Zek ns (y::r) a b
  simp only [List.cons_append] at this ⊢
  rw [ZY,ZY,this,Bool.and_assoc]
theorem Zjl {l:List Int} {k:Nat} {a b:Int} (ha:l[k]? = some a) (hb:l[k+1]? = some b):l.take (k+1)=l.take k++[a]/\l.take (k+1+1)=l.take k++[a,b]:=by
 have e1:l.take (k+1)=l.take k++[a]:=by rw [List.take_add_one,ha];rfl
 exact ⟨e1,by rw [List.take_add_one,hb,e1,List.append_assoc];rfl⟩
theorem Zhq {ns:List Nd} {l:List Int} {k:Nat} {a b:Int} (ha:l[k]? = some a) (hb:l[k+1]? = some b) (h:ZY ns (l.take (k+1))=true):ZY ns (l.take (k+1+1))=decide (Zac ns a<Zac ns b):=by
 obtain ⟨e1,e2⟩:=Zjl ha hb
 rw [e2,Zek,<- e1,h,Bool.true_and]
theorem ZeZ (ns:List Nd):∀ (l m:List Int),ZY ns l=false->ZY ns (l++m)=false
 | [],m,h=>by simp [ZY] at h
 | [x],m,h=>by simp [ZY] at h
 | x::y::r,m,h=>by
  rw [ZY] at h
  simp only [List.cons_append]
  rw [ZY]
  rcases Bool.and_eq_false_iff.mp h with h | h
  ·rw [h,Bool.false_and]
  ·rw [show (y::(r++m))=(y::r)++m from rfl,ZeZ ns (y::r) m h,Bool.and_false]
theorem Zin {ns:List Nd} {l:List Int} {k:Nat} (h:ZY ns (l.take k)=false):ZY ns l=false:=by
 rw [<- List.take_append_drop k l]
 exact ZeZ ns _ _ h
theorem Zex (w:World) (v vk:Value) (ns:List Nd) (ks:List Int) (h:Zf w v ns) (hk:Zad w vk ks) (hi:Zz ks ns.length) :
  Calls Tryz.prog 82 #[v,vk] w fun e w'=>e=.returned (.bool (ZY ns ks))/\Below w.heap.size w w':=by
 have WH:=Lib.hid (fun (wr:World) (hb:Below w.heap.size w wr) (k:Nat) (q:k<ns.length)=>(Ze7 wr v ns k (h.below hb) q).mono (fun _ _ q=>(⟨q.1,q.2.symm⟩:_/\_)))
 obtain ⟨A,cp,rfl,h2,h3,h4⟩:=hk
 obtain ⟨n,hn⟩:∃ n,n=ks.length:=⟨_,rfl⟩
 have hmx:n<=9223372036854775807:=by unfold maxLen at h3;omega
 rw [<- hn] at h2 h4 ⊢
 have HN:=Lib.hid (And.intro hn (And.intro hmx hi))
 have H4:=Lib.hid h4
 clear hn h2 h3 h4 hmx hi h
 go_enter Tryz.func82,Tryz.ntmps82
 go_wp2_with fail
 go_loopg [5] (n-1) (fun g v5 wr=>∃ k:Nat,v5=.int .i64 ((k:Int)+1)/\(k+1<=n\/k=0)/\g=n-(k+1)/\ZY ns (ks.take (k+1))=true/\Below w.heap.size w wr)
 case atStart=>exact ⟨0,rfl,.inr rfl,rfl,by cases ks<;>rfl,Below.refl _ _⟩
 case round=>
  obtain ⟨k,rfl,hk,hg,hr,hb⟩:=hrel
  by_cases hlt:k+1<n
  ·obtain ⟨a,ha⟩:∃ a,ks[k]? = some a:=⟨_,List.getElem?_eq_getElem (by have:=HN.out.1;omega)⟩
   obtain ⟨b,hb2⟩:∃ b,ks[k+1]? = some b:=⟨_,List.getElem?_eq_getElem (by have:=HN.out.1;omega)⟩
   have ka:=HN.out.2.2 a (List.mem_of_getElem? ha)
   have kb:=HN.out.2.2 b (List.mem_of_getElem? hb2)
   obtain ⟨an,rfl⟩:∃ an:Nat,a=an:=⟨a.toNat,by omega⟩
   obtain ⟨bn,rfl⟩:∃ bn:Nat,b=bn:=⟨b.toNat,by omega⟩
   obtain ⟨ad,rfl,da⟩:=Zp H4.out hb ha (by omega)
   obtain ⟨ad',ea,db⟩:=Zp H4.out hb hb2 (by omega)
   injection ea with ea
   subst ea
   have nx:=Zhq ha hb2 hr
   have NX:=Lib.hid (And.intro nx (fun q=>Zin (nx.trans q)))
   have WA:=Lib.hid (fun d=>WH.out (wr.drewN d) (below_drewN hb d) an (by omega))
   have WB:=Lib.hid (fun d=>WH.out (wr.drewN d) (below_drewN hb d) bn (by omega))
   obtain ⟨j,hj⟩:∃ j,j=k+1:=⟨_,rfl⟩
   have ej:(k:Int)+1=(j:Int):=by omega
   rw [ej]
   rw [<- hj] at db
   have i1:(j:Int)<(n:Int):=by omega
   have i2:(0:Int)<=(j:Int):=by omega
   have i3:(k:Int)<(n:Int):=by omega
   have i4:(0:Int)<=(k:Int):=by omega
   have u1:IntKind.i64.wrap ((j:Int)-1)=(k:Int):=by rw [IntWalk.i64_in _ (by have:=HN.out;omega)];omega
   have u2:IntKind.i64.wrap ((j:Int)+1)=(j:Int)+1:=IntWalk.i64_in _ (by have:=HN.out;omega)
   have HK:=Lib.hid (And.intro hlt (And.intro hg (And.intro hj hb)))
   clear hlt hg hj ej nx ha hb2 hk hr hb ka kb
   generalize Zac ns (an:Int)=X at *
   generalize Zac ns (bn:Int)=Y at *
   go_upto_region 4 with fail
   go_quiet (first
    | (go_at_call 83;with_reducible exact Calls.quiet_of_same (WA.out _))
    | (go_at_call 83;with_reducible exact Calls.quiet_of_same (WB.out _)))
   by_cases q:X<Y
   ·have nq:¬ Y<=X:=by omega
    have RN:=Lib.hid (NX.out.1.trans (decide_eq_true q))
    go_wp2_with fail
    go_roundg (n-(k+1+1))
    case measure=>have:=HK.out;omega
    case rel=>exact ⟨k+1,by rw [HK.out.2.2.1],by have:=HK.out;omega,rfl,RN.out,below_drewN HK.out.2.2.2 _⟩
   ·have nq:Y<=X:=by omega
    have FIN:=Lib.hid (NX.out.2 (decide_eq_false q))
    clear q
    go_wp2_with fail
    go_ret
    exact ⟨by rw [FIN.out];rfl,below_drewN HK.out.2.2.2 _⟩
  ·have e:ks.take (k+1)=ks:=List.take_of_length_le (by have:=HN.out.1;omega)
   rw [e] at hr
   have i1:¬ (k:Int)+1<(n:Int):=by omega
   have FIN:=Lib.hid (And.intro hr hb)
   clear hk hg hr hb hlt e
   go_wp2_with fail
   go_ret
   exact ⟨by rw [FIN.out.1];rfl,FIN.out.2⟩
end
section
open Go.RowKit
theorem Zc1 (n a:Nat):∀ (x:List Int) (p q:List Int),ZaD n a x p=some q->∀ k∈x,(a:Int)<k/\k<(n:Int)
 | [],p,q,h,k,hk=>by cases hk
 | y::r,p,q,h,k,hk=>by
  rw [ZaD] at h
  split at h
  ·cases h
  ·rename_i hb
   rcases List.mem_cons.mp hk with e | e
   ·subst e
    omega
   ·exact Zc1 n a r _ q h k e
theorem ZgC (ns:List Nd):∀ (j:Nat) (p:List Int),ZaO ns j=some p->∀ (i:Nat) (d:Nd),i<j->ns[i]? = some d->∀ k∈d.kids,(i:Int)<k/\k<(ns.length:Int)
 | 0,p,h,i,d,hi,hd=>absurd hi (Nat.not_lt_zero _)
 | j+1,p,h,i,d,hi,hd=>by
  rw [ZaO] at h
  cases hq:ZaO ns j with
  | none=>rw [hq] at h;cases h
  | some q=>
   rw [hq,Option.bind_some] at h
   split at h
   ·cases h
   ·by_cases e:i=j
    ·subst e
     rw [Zah hd] at h
     exact Zc1 _ _ _ _ _ h
    ·exact ZgC ns j q hq i d (by omega) hd
theorem ZdA {ns:List Nd} {p:List Int} (h:ZaL ns=some p) {i:Nat} {d:Nd} (hd:ns[i]? = some d):∀ k∈d.kids,(i:Int)<k/\k<(ns.length:Int):=by
 have hi:=(List.getElem?_eq_some_iff.mp hd).1
 unfold ZaL at h
 split at h
 ·cases h
 ·exact ZgC ns _ p h i d hi hd
theorem Zig {ns:List Nd} {p:List Int} (h:ZaL ns=some p) {i:Nat} {d:Nd} (hd:ns[i]? = some d):Zz d.kids ns.length:=fun k hk=>by
 have:=ZdA h hd k hk
 omega
def Zd4:Prop:=∀ (w:World) (v:Value) (ns:List Nd) (x:NdV×Nd),ZV w 3 Zx->Zf w v ns->Zv w x->Zz x.2.kids ns.length ->
 Calls Tryz.prog 24 #[v,ndV x] w fun e w'=>e=.returned (.bool (Zw ns x.2))/\Below w.heap.size w w'
theorem ZcI {ns:List Nd} (h:ZaL ns=none):ZaI ns=false:=by
 unfold ZaI
 rw [h]
theorem ZdF {ns:List Nd} {p:List Int} (h:ZaL ns=some p):ZaI ns=(Zq ns 0==0&&decide (ZbV (Zay p)<=24)&&ns.all (Zw ns)):=by
 unfold ZaI
 rw [h]
theorem Zbi {ns:List Nd} {k:Nat} {d:Nd} (h:ns[k]? = some d):Zq ns k=d.kind:=by
 unfold Zq
 rw [Zah h]
theorem Zjf (hV:Zd4) (w:World) (v:Value) (ns:List Nd) (h:Zf w v ns) (ht:ZV w 3 Zx) :
  Calls Tryz.prog 11 #[v] w fun e w'=>e=.returned (.bool (ZaI ns))/\Below w.heap.size w w':=by
 cases hp:ZaL ns with
 | none=>
  have pn:=ZfJ h hp
  rw [ZcI hp]
  clear h hp ht hV
  go_enter Tryz.func11,Tryz.ntmps11
  go_wp2_with (go_at_call 21;(with_reducible refine pn.mono ?_);rintro e w1 ⟨rfl,hb⟩;have HB:=Lib.hid hb;clear hb)
  go_ret
  exact ⟨rfl,HB.out⟩
 | some p=>
  have pn:=ZfK h hp
  have hr:=ZdF hp
  obtain ⟨f1,f2,_,_⟩:=Zc8 hp
  have de:=fun w g c=>ZhL (w:=w) (g:=g) (c:=c) hp
  have mx:=fun w g c=>Zkf (w:=w) (g:=g) (c:=c) hp
  have hv:=(fun (w':World) (hb:Below w.heap.size w w') (i:Nat) (x:NdV×Nd) (hx:Zv w x) (hd:ns[i]? = some x.2)=>hV w' v ns x (ht.below hb) (h.below hb) (hx.below hb) (Zig hp hd))
  obtain ⟨A,cp,rs,rfl,h2,h3,h4,h5,h6⟩:=h
  obtain ⟨n,hn⟩:∃ n,n=ns.length:=⟨_,rfl⟩
  rw [<- hn] at h2 h5 f1 f2 ⊢
  rw [<- hn] at pn
  simp only [<- hn] at de mx hv
  have HV:=Lib.hid hv
  have DE:=Lib.hid de
  have MX:=Lib.hid mx
  obtain ⟨x0,hx0⟩:∃ x,rs[0]? = some x:=⟨_,List.getElem?_eq_getElem (by have:=congrArg List.length h4;rw [List.length_map] at this;omega)⟩
  have hk0:Zq ns 0=x0.2.kind:=Zbi (k:=0) (by rw [<- h4,List.getElem?_map,hx0];rfl)
  obtain ⟨ad,rfl,_⟩:=ZK h5 (Below.refl _ _) hx0 (by omega)
  have D0:=Lib.hid (fun (w':World) (hb:Below w.heap.size w w')=>show w'.cell? ad=some (.int .i64 (Zq ns 0)) from by
   obtain ⟨ad',e,d0,_⟩:=ZK h5 hb hx0 (by omega)
   injection e with e
   rw [e,hk0]
   rwa [show ad'.add (0*5)=ad' by unfold Addr.add;simp] at d0)
  rw [hr]
  have HN:=Lib.hid (And.intro hn (And.intro f1 f2))
  have H4:=Lib.hid (And.intro h4 (And.intro h5 h6))
  have i0:(0:Int)<(n:Int):=by omega
  clear hn f1 f2 h2 h3 h4 h5 h6 hx0 hk0 hr hp ht hV de mx hv
  generalize Zq ns 0=K0 at *
  generalize ZbV (Zay p)=M at *
  cases t1:(K0==0)
  ·have t2:(K0 != 0)=true:=by rw [bne,t1];rfl
   go_enter Tryz.func11,Tryz.ntmps11
   go_wp2_with (go_at_call 21;(with_reducible refine pn.mono ?_);rintro e w1 ⟨g,c,rfl,hP,hb⟩;have HB:=Lib.hid (And.intro hP hb);have d0:=D0.out w1 hb;clear hP hb)
   go_ret
   exact ⟨rfl,HB.out.2⟩
  ·have t2:(K0 != 0)=false:=by rw [bne,t1];rfl
   by_cases q:24<M
   ·have q2:¬ M<=24:=by omega
    rw [decide_eq_false q2]
    go_enter Tryz.func11,Tryz.ntmps11
    go_wp2_with (first
     | (go_at_call 21;(with_reducible refine pn.mono ?_);rintro e w1 ⟨g,c,rfl,hP,hb⟩;have HB:=Lib.hid (And.intro hP hb);have d0:=D0.out w1 hb;clear hP hb)
     | (go_at_call 23;(with_reducible refine (DE.out _ _ _ HB.out.1).mono ?_);rintro e w2 ⟨g2,c2,rfl,hP2,hb2⟩;have HC:=Lib.hid (And.intro hP2 hb2);clear hP2 hb2)
     | (go_at_call 22;(with_reducible refine (MX.out _ _ _ HC.out.1).mono ?_);rintro e w3 ⟨rfl,rfl⟩))
    go_ret
    exact ⟨rfl,HB.out.2.trans (HC.out.2.mono HB.out.2.size)⟩
   ·have q2:M<=24:=by omega
    rw [decide_eq_true q2]
    go_enter Tryz.func11,Tryz.ntmps11
    go_wp2_with (first
     | (go_at_call 21;(with_reducible refine pn.mono ?_);rintro e w1 ⟨g,c,rfl,hP,hb⟩;have HB:=Lib.hid (And.intro hP hb);have d0:=D0.out w1 hb;clear hP hb)
     | (go_at_call 23;(with_reducible refine (DE.out _ _ _ HB.out.1).mono ?_);rintro e w2 ⟨g2,c2,rfl,hP2,hb2⟩;have HC:=Lib.hid (And.intro hP2 hb2);clear hP2 hb2)
     | (go_at_call 22;(with_reducible refine (MX.out _ _ _ HC.out.1).mono ?_);rintro e w3 ⟨rfl,rfl⟩))
    have bC:=HB.out.2.trans (HC.out.2.mono HB.out.2.size)
    clear DE MX HC d0
    go_loopg [29] n (fun gk v29 wr=>∃ j:Nat,v29=.int .i64 j/\j<=n/\gk=n-j/\(ns.take j).all (Zw ns)=true/\Below w.heap.size w wr)
    case atStart=>exact ⟨0,rfl,Nat.zero_le _,rfl,rfl,bC⟩
    case round=>
     clear bC HB
     obtain ⟨j,rfl,hj,hgk,hall,hb⟩:=hrel
     by_cases hjn:j=n
     ·have e:ns.take j=ns:=by rw [hjn,HN.out.1];exact List.take_length
      rw [e] at hall
      subst hjn
      have FIN:=Lib.hid (And.intro hall hb)
      clear e hall hb hgk hj
      go_wp2_with fail
      go_ret
      exact ⟨by rw [FIN.out.1];rfl,FIN.out.2⟩
     have hlt:j<n:=by omega
     obtain ⟨x,hx⟩:∃ x,rs[j]? = some x:=⟨_,List.getElem?_eq_getElem (by have:=congrArg List.length H4.out.1;rw [List.length_map] at this;have:=HN.out.1;omega)⟩
     have hd:ns[j]? = some x.2:=by rw [<- H4.out.1,List.getElem?_map,hx];rfl
     have VX:=Lib.hid (fun w' hb=>HV.out w' hb j x (H4.out.2.2 x (List.mem_of_getElem? hx)) hd)
     have nxt:=ZaZ (f:=Zw ns) hd hall
     have bad:Zw ns x.2=false->ns.all (Zw ns)=false:=Zdy hd
     obtain ⟨ad',ea,d0,d1,d2,d3,d4⟩:=ZK H4.out.2.1 hb hx (by omega)
     injection ea with ea
     subst ea
     have i2:(j:Int)<(n:Int):=by omega
     have i3:(0:Int)<=(j:Int):=by omega
     have u1:IntKind.i64.wrap ((j:Int)+1)=(j:Int)+1:=IntWalk.i64_in _ (by have:=HN.out;omega)
     obtain ⟨⟨A1,c1,ev1,_⟩,⟨A2,c2',ev2,_⟩,A3,c3,ev3,_⟩:=H4.out.2.2 x (List.mem_of_getElem? hx)
     have HJ:=Lib.hid (And.intro hgk (And.intro hb hlt))
     have NX:=Lib.hid (And.intro nxt bad)
     clear hgk hb hlt hjn hj hx hd hall nxt bad
     obtain ⟨⟨va,vb,vc⟩,kd,ws,nums,ks,ps⟩:=x
     dsimp only at d0 d1 d2 d3 d4 ev1 ev2 ev3
     subst ev1 ev2 ev3
     unfold ndV at VX
     dsimp only at VX
     generalize Zw ns ⟨kd,ws,nums,ks,ps⟩=B at *
     go_upto_region 7 with fail
     have a5:=Zb wr (.cells #[.int .i64 kd,.slice A1 ws.length c1,.slice A2 nums.length c2',.slice A3 ks.length c3,.int .i64 ps] 29)
     have b5:=HJ.out.2.1.trans (a5.mono HJ.out.2.1.size)
     have B5:=Blk.start wr #[.int .i64 kd,.slice A1 ws.length c1,.slice A2 nums.length c2',.slice A3 ks.length c3,.int .i64 ps] 29
     have H5:=Lib.hid b5
     have g0:=B5.cell 0
     have g1:=B5.cell 1
     have g2':=B5.cell 2
     have g3:=B5.cell 3
     have g4:=B5.cell 4
     clear a5 b5 B5 d0 d1 d2 d3 d4
     generalize wr.alloc (.cells #[.int .i64 kd,.slice A1 ws.length c1,.slice A2 nums.length c2',.slice A3 ks.length c3,.int .i64 ps] 29)=w5 at *
     generalize hnb:wr.heap.size=nb at *
     clear hnb
     simp only [List.getElem?_toArray,List.getElem?_cons_zero,List.getElem?_cons_succ] at g0 g1 g2' g3 g4
     cases B
     ·have FIN:=Lib.hid (NX.out.2 rfl)
      go_wp2_with (go_at_call 24;(with_reducible refine (VX.out _ H5.out).mono ?_);rintro e w6 ⟨rfl,hb6⟩;have H6:=Lib.hid hb6;clear hb6)
      go_ret
      exact ⟨by rw [FIN.out];rfl,H5.out.trans (H6.out.mono H5.out.size)⟩
     ·go_wp2_with (go_at_call 24;(with_reducible refine (VX.out _ H5.out).mono ?_);rintro e w6 ⟨rfl,hb6⟩;have H6:=Lib.hid hb6;clear hb6)
      go_roundg (n-(j+1))
      case measure=>have:=HJ.out;omega
      case rel=>exact ⟨j+1,by push_cast;rfl,by have:=HJ.out;omega,rfl,NX.out.1,H5.out.trans (H6.out.mono H5.out.size)⟩
end
section
open Go.RowKit
section
variable {P:Program} {ops:Array Oper} {Q:Exit->Act->World->Prop} {md:Region.Mode} {S:World->Prop} {fuel:Nat} {listed:Array Bool} {a:Act} {w:World}
theorem tkk (i:Nat) {oi:Oper} (hi:ops[i]? = some oi) {v:Value} (h:wpAnyH P md ops Q S fuel (listed.setIfInBounds i true) (a.put oi.dst v) w) (hy:∀ w':World,S w'->Sem.run P (execOp a.eval oi) w'=.ok (.value v) w':=by intro _ hS_;(try dsimp only at hS_);go_simp<;>with_reducible rfl)
  (hs:Region.noSelect ops=true:=by kernel_rfl) (hf:Region.free md ops listed i=true:=by kernel_rfl) (hr:(Region.ready md ops listed).contains i=true:=by kernel_rfl) (hQ:∀ c a w,Q (.panic c) (a.put oi.dst v) w->Q (.panic c) a w:=by exact fun _ _ _ h=>h) (hn:Region.wanted oi (yielded ops a.tmps)=true:=by kernel_rfl) (hS:S w:=by assumption):wpAnyH P md ops Q S (fuel+1) listed a w:=
 wpAnyH_take hi hs hf hr hQ (.inl ⟨hn,hy⟩) hS h
theorem txk (i:Nat) {oi:Oper} (hi:ops[i]? = some oi) (h:wpAnyH P md ops Q S fuel (listed.setIfInBounds i true) (a.put oi.dst undef) w)
  (hs:Region.noSelect ops=true:=by kernel_rfl) (hf:Region.free md ops listed i=true:=by kernel_rfl) (hr:(Region.ready md ops listed).contains i=true:=by kernel_rfl) (hQ:∀ c a w,Q (.panic c) (a.put oi.dst undef) w->Q (.panic c) a w:=by exact fun _ _ _ h=>h) (hn:Region.wanted oi (yielded ops a.tmps)=false:=by kernel_rfl) (hS:S w:=by assumption):wpAnyH P md ops Q S (fuel+1) listed a w:=
 wpAnyH_take hi hs hf hr hQ (.inr ⟨hn,rfl⟩) hS h
end
theorem ZdM (w:World) (cs:Array Value) (ty:TypeId) (j:Nat) (u:Value) (h:cs[j]? = some u):(w.alloc (.cells cs ty)).cell? (Addr.add ⟨w.heap.size,0,none⟩ j)=some u:=by
 rw [Addr.add_lit,Nat.zero_add,(Blk.start w cs ty).cell j]
 exact h
theorem Zca (w:World) (us:List Value) (ty:TypeId):ZB (w.alloc (.cells us.toArray ty)) (w.alloc (.cells us.toArray ty)).heap.size 1 (some ⟨w.heap.size,0,none⟩) us.length us:=
 ⟨by simp,fun _=>⟨_,rfl,(Blk.start w us.toArray ty).lt,fun j u hj=>ZdM w us.toArray ty j u (by simpa using hj)⟩⟩
theorem Zb3 (w:World) (l:List Int) (ty:TypeId) (h:l.length<=maxLen):Zad (w.alloc (.cells (l.map (Value.int .i64)).toArray ty)) (.slice (some ⟨w.heap.size,0,none⟩) l.length l.length) l:=
 ⟨_,_,rfl,Nat.le_refl _,h,by simpa using Zca w (l.map (Value.int .i64)) ty⟩
def Zfj (w:World):List Tst->List Value->Prop
 | [],[]=>True
 | t::ts,u::us=>ZI w t u/\Zfj w ts us
 | _,_=>False
theorem ZgL {w:World}:∀ {ts:List Tst} {us:List Value},Zfj w ts us->us.length=ts.length/\∀ (i:Nat) (t:Tst) (u:Value),ts[i]? = some t->us[i]? = some u->ZI w t u
 | [],[],_=>⟨rfl,fun i t u h=>by simp at h⟩
 | [],_::_,h=>h.elim
 | _::_,[],h=>h.elim
 | t::ts,u::us,h=>by
  obtain ⟨h1,h2⟩:=ZgL h.2
  refine ⟨by rw [List.length_cons,List.length_cons,h1],fun i t' u' a b=>?_⟩
  cases i with
  | zero=>
   obtain rfl:t=t':=by simpa using a
   obtain rfl:u=u':=by simpa using b
   exact h.1
  | succ i=>exact h2 i t' u' (by simpa using a) (by simpa using b)
theorem Zba (w:World) (ts:List Tst) (us:List Value) (ty:TypeId) (hm:us.length<=maxLen) (h:Zfj (w.alloc (.cells us.toArray ty)) ts us):ZaJ (w.alloc (.cells us.toArray ty)) (.slice (some ⟨w.heap.size,0,none⟩) us.length us.length) ts:=by
 obtain ⟨h1,h2⟩:=ZgL h
 exact ⟨_,us.length,us,by rw [h1],by rw [h1];exact Nat.le_refl _,hm,h1,by rw [<- h1];exact Zca w us ty,h2⟩
theorem Zy (w:World) (a:Int) (ty:TypeId):Calls Tryz.prog 53 #[.slice (some ⟨w.heap.size,0,none⟩) 1 1] (w.alloc (.cells #[.int .i64 a] ty)) fun e w'=>(∃ u,e=.returned u/\ZI w' (.is [a]) u)/\Below (w.alloc (.cells #[.int .i64 a] ty)).heap.size (w.alloc (.cells #[.int .i64 a] ty)) w':=Zfw _ _ [a] (Zb3 w [a] ty (by simp [maxLen]))
theorem Zr (w:World) (a:Int) (ty:TypeId):Calls Tryz.prog 53 #[.slice (some ⟨w.heap.size,0,none⟩) 1 1] (w.alloc (.cells #[.int .i64 a] ty)).drew fun e w'=>(∃ u,e=.returned u/\ZI w' (.is [a]) u)/\Below (w.alloc (.cells #[.int .i64 a] ty)).drew.heap.size (w.alloc (.cells #[.int .i64 a] ty)).drew w':=Zfw _ _ [a] ((Zb3 w [a] ty (by simp [maxLen])).below (ZR _))
theorem ZbO (w:World) (a b:Int) (ty:TypeId):Calls Tryz.prog 53 #[.slice (some ⟨w.heap.size,0,none⟩) 2 2] (w.alloc (.cells #[.int .i64 a,.int .i64 b] ty)) fun e w'=>(∃ u,e=.returned u/\ZI w' (.is [a,b]) u)/\Below (w.alloc (.cells #[.int .i64 a,.int .i64 b] ty)).heap.size (w.alloc (.cells #[.int .i64 a,.int .i64 b] ty)) w':=Zfw _ _ [a,b] (Zb3 w [a,b] ty (by simp [maxLen]))
theorem Zcr {n:Nd} {a b:Nat} (h:Zo n a b=true):n.words.length=a/\n.nums.length=b:=by
 unfold Zo at h
 rw [Bool.and_eq_true,decide_eq_true_eq,decide_eq_true_eq] at h
 exact h
theorem ZbN (w:World):ZaJ w (.slice none 0 0) []:=⟨none,0,[],rfl,Nat.le_refl _,by decide,rfl,ZB.none_,fun i t u h=>by simp at h⟩
end
end Go.Proofs.YtenbomphkihmlaaGreatDoor
