import Derived.Test.YtkgkmdhpnhmcpaaGreatDoorQBG
set_option maxRecDepth 100000
set_option maxHeartbeats 8000000
namespace Go.Proofs.YtkgkmdhpnhmcpaaGreatDoor
section
open Go.RowKit
def Zbw (p:List Int):Prop:=∀ (k:Nat) (x:Int),p[k]? = some x->x<k
theorem Zbw.set {p:List Int} (h:Zbw p) {k:Nat} {x:Int} (hx:x<k):Zbw (p.set k x):=fun i y hi=>by
 rw [List.getElem?_set] at hi
 split at hi
 ·rename_i e
  split at hi
  ·injection hi with hi
   omega
  ·cases hi
 ·exact h i y hi
theorem ZcQ (n a:Nat):∀ (x:List Int) (p q:List Int),Zaf n a x p=some q->Zbw p->Zbw q
 | [],p,q,h,hp=>by
  injection h with h
  rwa [<- h]
 | k::r,p,q,h,hp=>by
  rw [Zaf] at h
  split at h
  ·cases h
  ·rename_i hb
   exact ZcQ n a r _ q h (hp.set (by omega))
theorem Zdq (ns:List Nd):∀ (j:Nat) (p:List Int),Zap ns j=some p->Zbw p
 | 0,p,h=>by
  injection h with h
  rw [<- h]
  intro k x hx
  rw [List.getElem?_replicate] at hx
  split at hx
  ·injection hx with hx
   omega
  ·cases hx
 | j+1,p,h=>by
  rw [Zap] at h
  cases hq:Zap ns j with
  | none=>rw [hq] at h;cases h
  | some q=>
   rw [hq,Option.bind_some] at h
   split at h
   ·cases h
   ·exact ZcQ _ _ _ _ _ h (Zdq ns j q hq)
theorem ZaF (p:List Int):∀ j,(Zbe p j).length=j
 | 0=>rfl
 | j+1=>by rw [Zbe,List.length_append,ZaF p j];rfl
theorem ZcX {p:List Int} (ha:Zbw p):∀ (j:Nat),j<=p.length->∀ (k:Nat) (x:Int),(Zbe p j)[k]? = some x->1<=x/\x<=(k:Int)+1
 | 0,_,k,x,h=>by simp [Zbe] at h
 | j+1,hj,k,x,h=>by
  rw [Zbe,List.getElem?_append,ZaF] at h
  split at h
  ·exact ZcX ha j (by omega) k x h
  ·rename_i hk
   have e:k=j:=by
    have:=(List.getElem?_eq_some_iff.mp h).1
    simp at this
    omega
   subst e
   rw [Nat.sub_self] at h
   injection h with h
   obtain ⟨y,hy⟩:∃ y,p[k]? = some y:=⟨_,List.getElem?_eq_getElem (by omega)⟩
   rw [Zbd hy] at h
   have:=ha k y hy
   split at h
   ·rename_i h0
    obtain ⟨m,rfl⟩:∃ m:Nat,y=m:=⟨y.toNat,by omega⟩
    obtain ⟨z,hz⟩:∃ z,(Zbe p k)[m]? = some z:=⟨_,List.getElem?_eq_getElem (by rw [ZaF];omega)⟩
    rw [Zbd hz] at h
    have:=ZcX ha k (by omega) m z hz
    omega
   ·omega
def Zbs (p:List Int) (n j:Nat):List Int:=Zbe p j++List.replicate (n-j) 0
theorem Zez {p:List Int} {n j:Nat} (h:j<=n):(Zbs p n j).length=n:=by
 unfold Zbs
 rw [List.length_append,ZaF,List.length_replicate]
 omega
theorem ZiK {p:List Int} {n j k:Nat} (h:k<j):(Zbs p n j)[k]? = (Zbe p j)[k]?:=by
 unfold Zbs
 rw [List.getElem?_append_left (by rw [ZaF];exact h)]
theorem ZeA {p:List Int} {n j:Nat} {x:Int} (h:j<n) (hx:x=if 0<=atI p j then 1+atI (Zbe p j) (atI p j) else 1):(Zbs p n j).set j x=Zbs p n (j+1):=by
 unfold Zbs
 rw [List.set_append_right _ _ (by rw [ZaF];exact Nat.le_refl _),ZaF,Nat.sub_self,Zbe,<- hx,List.append_assoc]
 congr 1
 rw [show n-j=(n-(j+1))+1 by omega,List.replicate_succ,List.set_cons_zero]
 rfl
theorem ZhL (p:List Int):Zbs p p.length p.length=Zbt p:=by
 unfold Zbs Zbt
 rw [Nat.sub_self,List.replicate_zero,List.append_nil]
theorem Zfv {w:World} {B n:Nat} {v:Value} (h:w.ownsRow B 3 1 v n (madeCells #[Value.int .i64 0] n).toList) (hn:0<n):∃ g c,v=.slice (some ⟨g,0,none⟩) n c/\n<=c/\c<=maxLen/\B<=g/\PIn w g (List.replicate n 0):=by
 rcases h.2 with ⟨e,he⟩ | ⟨g,cap,cur,e,hge,hh,hc,hm,hsz,htk⟩
 ·exfalso
  omega
 ·refine ⟨g,cap,e,hc,hm,hge,cur,⟨_,hh⟩,fun k x hx=>?_⟩
  rw [List.getElem?_replicate] at hx
  split at hx
  ·rename_i q
   injection hx with hx
   have:(cur.toList.take (n*1))[k]? = some (.int .i64 x):=by
    rw [htk,<- hx]
    simp [madeCells,q,Nat.mod_one]
   rw [List.getElem?_take_of_lt (by omega)] at this
   simpa using this
  ·cases hx
theorem PIn.other {w:World} {g:Nat} {p:List Int} (h:PIn w g p) {q:Addr} (hq:q.block≠g) (v:Value):PIn (w.setCell q v) g p:=by
 obtain ⟨cs,h1,hc⟩:=h
 exact ⟨cs,h1.other hq v,hc⟩
theorem PIn.drew {w:World} {g:Nat} {p:List Int} (h:PIn w g p):PIn w.drew g p:=by
 obtain ⟨cs,h1,hc⟩:=h
 exact ⟨cs,h1.drew,hc⟩
theorem Zf5 (w:World) (g c n:Nat) (p:List Int) (hp:PIn w g p) (hn:p.length=n) (h1:1<=n) (h2:n<=1500) (ha:Zbw p) :
  Calls Tryz.prog 39 #[.slice (some ⟨g,0,none⟩) n c] w fun e w'=>Below w.heap.size w w'/\∃ g2 c2,e=.returned (.slice (some ⟨g2,0,none⟩) n c2)/\n<=c2/\c2<=maxLen/\PIn w' g2 (Zbt p):=by
 obtain ⟨i0,hi,hz0,hz1,hz2⟩:=Zdn ZfO
 have HN:=zh (zi hn (zi h1 (zi h2 (zi hp ha))))
 clear hn h1 h2 ha hp
 go_enter Tryz.func39,Tryz.ntmps39
 go_upto_region 2 with (at_make;refine wpList_make_full _ rfl _ _ 23 rfl w.heap.size 3 i0 (.int .i64 0) 1 Tryz.underlying23 hi hz0 hz1 .i64 .i64 _ _ n rfl rfl ?c1 ?c2 ?c3 ?c4 ?c5 ?_)
 case c1=>rfl
 case c2=>have:=HN.out;omega
 case c3=>rw [hz2];have:=HN.out;omega
 case c4=>have:=HN.out;unfold maxLen;omega
 case c5=>simp
 intro w2 hown hgrow
 have b2:Below w.heap.size w w2:=(Below.refl _ _).grown hgrow (Nat.le_refl _) (fun k hk=>by cases hk)
 obtain ⟨gd,cd,ed,hcd,hmd,hgd,hD⟩:=Zfv hown (by have:=HN.out;omega)
 rw [ed]
 have p2:=HN.out.2.2.2.1.keep b2
 have H2:=zh (zi hcd (zi hmd (zi hgd (zi HN.out.2.2.2.1.lt b2))))
 have D2:=zh (zi hD p2)
 clear hcd hmd hgd hD p2 b2 hown hgrow ed hi hz0 hz1 hz2 i0
 go_wp2_with fail
 go_loopg [11] n (fun gk v11 wr=>∃ j:Nat,v11=.int .i64 j/\j<=n/\gk=n-j/\PIn wr gd (Zbs p n j)/\PIn wr g p/\Below w.heap.size w wr)
 case atStart=>exact ⟨0,rfl,Nat.zero_le _,rfl,D2.out.1,D2.out.2,H2.out.2.2.2.2⟩
 case round=>
  obtain ⟨j,rfl,hj,hgk,hD,hP,hb⟩:=hrel
  by_cases hjn:j=n
  ·subst hjn
   have e:Zbs p j j=Zbt p:=by
    have:=ZhL p
    rwa [HN.out.1] at this
   rw [e] at hD
   have FIN:=zh (zi hb hD)
   clear e hj hgk hD hP hb
   go_wp2_with fail
   go_ret
   exact ⟨FIN.out.1,gd,cd,rfl,H2.out.1,H2.out.2.1,FIN.out.2⟩
  have hlt:j<n:=by omega
  obtain ⟨y,hy⟩:∃ y,p[j]? = some y:=⟨_,List.getElem?_eq_getElem (by have:=HN.out.1;omega)⟩
  have cy:=hP.cell hy
  have ay:=HN.out.2.2.2.2 j y hy
  obtain ⟨z0,hz0⟩:∃ z0,(Zbs p n j)[j]? = some z0:=⟨_,List.getElem?_eq_getElem (by rw [Zez hj];exact hlt)⟩
  have cz:=hD.cell hz0
  have fz:=hD.free j
  have i2:(j:Int)<(n:Int):=by omega
  have i3:(0:Int)<=(j:Int):=by omega
  have u1:IntKind.i64.wrap ((j:Int)+1)=(j:Int)+1:=IntWalk.i64_in _ (by have:=HN.out;omega)
  have len:=Zez (p:=p) hj
  have D5:=hD.set (k:=j) (by omega) 1
  have P5:PIn (wr.setCell ⟨gd,j,none⟩ (.int .i64 1)) g p:=hP.other (q:=⟨gd,j,none⟩) (by show gd≠g;have:=H2.out;omega) _
  have b5:Below w.heap.size w (wr.setCell ⟨gd,j,none⟩ (.int .i64 1)):=hb.setCell (p:=⟨gd,j,none⟩) H2.out.2.2.1 _
  have H5:=zh (zi D5 (zi P5 b5))
  have HJ:=zh (zi hlt (zi hgk (zi hy (zi ay len))))
  clear hj hgk hP hD hy ay hz0 hlt D5 P5 b5 len hb hjn
  go_upto_region 6 with fail
  clear cy cz fz
  generalize wr.setCell ⟨gd,j,none⟩ (.int .i64 1)=w5 at *
  by_cases h0:0<=y
  ·obtain ⟨m,rfl⟩:∃ m:Nat,y=m:=⟨y.toNat,by omega⟩
   have hm:m<j:=by have:=HJ.out.2.2.2.1;omega
   obtain ⟨z,hz⟩:∃ z,(Zbe p j)[m]? = some z:=⟨_,List.getElem?_eq_getElem (by rw [ZaF];exact hm)⟩
   have bz:=ZcX HN.out.2.2.2.2 j (by have:=HJ.out;have:=HN.out;omega) m z hz
   have cm:=H5.out.1.cell (k:=m) (x:=z) (by rw [List.getElem?_set_ne (by omega),ZiK hm];exact hz)
   have cj:=H5.out.1.cell (k:=j) (x:=1) (by rw [List.getElem?_set_self (by rw [HJ.out.2.2.2.2];exact HJ.out.1)])
   have fj:=H5.out.1.free j
   have u2:IntKind.i64.wrap (1+z)=1+z:=IntWalk.i64_in _ (by have:=HJ.out;have:=HN.out;omega)
   have i5:(m:Int)<(n:Int):=by have:=HJ.out;omega
   have D8:=H5.out.1.set (k:=j) (by rw [List.length_set,HJ.out.2.2.2.2];exact HJ.out.1) (1+z)
   rw [List.set_set,ZeA HJ.out.1 (by rw [Zbd HJ.out.2.2.1,if_pos h0,Zbd hz])] at D8
   have P8:=H5.out.2.1.other (q:=⟨gd,j,none⟩) (by show gd≠g;have:=H2.out;omega) (.int .i64 (1+z))
   have b8:=H5.out.2.2.setCell (p:=⟨gd,j,none⟩) H2.out.2.2.1 (.int .i64 (1+z))
   have H8:=zh (zi D8 (zi P8 b8))
   clear D8 P8 b8 hz bz hm
   go_wp2_with fail
   go_region
   all_goals
    go_wp2_with fail
    go_roundg (n-(j+1))
    case measure=>have:=HJ.out;omega
    case rel=>exact ⟨j+1,by push_cast;rfl,by have:=HJ.out;omega,rfl,H8.out.1.drew,H8.out.2.1.drew,H8.out.2.2.drew⟩
  ·have i4:y<0:=by omega
   have D8:=H5.out.1
   rw [ZeA HJ.out.1 (by rw [Zbd HJ.out.2.2.1,if_neg h0])] at D8
   have H8:=zh D8
   clear D8 h0
   go_wp2_with fail
   go_roundg (n-(j+1))
   case measure=>have:=HJ.out;omega
   case rel=>exact ⟨j+1,by push_cast;rfl,by have:=HJ.out;omega,rfl,H8.out,H5.out.2.1,H5.out.2.2⟩
end
section
open Go.RowKit
theorem ZgZ {l:List Int} {k:Nat} {x a:Int} (h:l[k]? = some x):(l.take (k+1)).foldl max a=max ((l.take k).foldl max a) x:=by
 rw [List.take_add_one,h,List.foldl_append]
 rfl
def ZdL (l:List Int) (k:Nat):Int:=Zci (l.take k)
theorem Zh6 {l:List Int} {x:Int} (h:l[0]? = some x):ZdL l 1=x:=by
 cases l with
 | nil=>simp at h
 | cons a r=>
  obtain rfl:a=x:=by simpa using h
  rfl
theorem Zhc {l:List Int} {k:Nat} {x:Int} (hk:0<k) (h:l[k]? = some x):ZdL l (k+1)=max (ZdL l k) x:=by
 cases l with
 | nil=>simp at h
 | cons a r=>
  obtain ⟨m,rfl⟩:∃ m,k=m+1:=⟨k-1,by omega⟩
  rw [List.getElem?_cons_succ] at h
  show Zci (a::r.take (m+1))=max (Zci (a::r.take m)) x
  exact ZgZ h
theorem Zh5 {l:List Int} {n:Nat} (h:l.length=n):ZdL l n=Zci l:=by
 unfold ZdL
 rw [<- h,List.take_length]
theorem Zis (w:World) (g c n:Nat) (p:List Int) (hp:PIn w g p) (hn:p.length=n) (h1:1<=n) (h2:n<=1500) :
  Calls Tryz.prog 38 #[.slice (some ⟨g,0,none⟩) n c] w fun e w'=>e=.returned (.int .i64 (Zci p))/\w=w':=by
 obtain ⟨x0,hx0⟩:∃ x0,p[0]? = some x0:=⟨_,List.getElem?_eq_getElem (by omega)⟩
 have c0:=hp.cell hx0
 have i1:¬ (n:Int)<1:=by omega
 have i0:(0:Int)<(n:Int):=by omega
 have HN:=zh (zi hn (zi h1 (zi h2 (zi hp (Zh6 hx0)))))
 clear hn h1 h2 hp hx0
 go_enter Tryz.func38,Tryz.ntmps38
 go_wp2_with fail
 go_loopg [3,4] (n-1) (fun gk v3 v4 wr=>w=wr/\∃ k:Nat,v3=.int .i64 (ZdL p k)/\v4=.int .i64 k/\1<=k/\k<=n/\gk=n-k)
 case atStart=>exact ⟨rfl,1,by rw [HN.out.2.2.2.2],rfl,Nat.le_refl _,HN.out.2.1,rfl⟩
 case round=>
  obtain ⟨rfl,k,rfl,rfl,hk1,hk,hgk⟩:=hrel
  by_cases hkn:k=n
  ·subst hkn
   have e:=zh (Zh5 (l:=p) HN.out.1)
   clear hk1 hk hgk
   go_wp2_with fail
   go_ret
   exact ⟨by rw [<- e.out];rfl,rfl⟩
  ·obtain ⟨x,hx⟩:∃ x,p[k]? = some x:=⟨_,List.getElem?_eq_getElem (by have:=HN.out.1;omega)⟩
   have cx:=HN.out.2.2.2.1.cell hx
   have i2:(k:Int)<(n:Int):=by omega
   have i3:(0:Int)<=(k:Int):=by omega
   have u1:IntKind.i64.wrap ((k:Int)+1)=(k:Int)+1:=IntWalk.i64_in _ (by have:=HN.out;omega)
   have NX:=zh (Zhc (by omega) hx)
   have HK:=zh (zi hk1 (zi i2 hgk))
   clear hk1 hk hgk hkn hx
   go_wp2_with fail
   go_roundg (n-(k+1))
   case measure=>have:=HK.out;omega
   case rel=>exact ⟨rfl,k+1,by rw [NX.out],by push_cast;rfl,by omega,by have:=HK.out;omega,rfl⟩
end
section
open Go.RowKit
theorem Ze0 {w:World} {v:Value} {ns:List Nd} (h:Zn w v ns) (hp:Zat ns=none) :
  Calls Tryz.prog 37 #[v] w fun e w'=>e=.returned (.tuple #[.slice none 0 0,.bool false])/\Below w.heap.size w w':=
 (ZcR w v ns h).mono fun e w' q=>by
  obtain ⟨hb,hm⟩:=q
  rw [hp] at hm
  exact ⟨hm,hb⟩
theorem Ze1 {w:World} {v:Value} {ns:List Nd} {p:List Int} (h:Zn w v ns) (hp:Zat ns=some p) :
  Calls Tryz.prog 37 #[v] w fun e w'=>∃ g c,e=.returned (.tuple #[.slice (some ⟨g,0,none⟩) ns.length c,.bool true])/\PIn w' g p/\Below w.heap.size w w':=
 (ZcR w v ns h).mono fun e w' q=>by
  obtain ⟨hb,hm⟩:=q
  rw [hp] at hm
  obtain ⟨g,c,e,_,_,_,h⟩:=hm
  exact ⟨g,c,e,h,hb⟩
theorem Zcn {ns:List Nd} {p:List Int} (h:Zat ns=some p):1<=ns.length/\ns.length<=1500/\p.length=ns.length/\Zbw p:=by
 have h0:=h
 unfold Zat at h
 split at h
 ·cases h
 ·exact ⟨by omega,by omega,Zc5 _ _ _ h,Zdq _ _ _ h⟩
theorem ZgR {w:World} {g c:Nat} {ns:List Nd} {p:List Int} (h:Zat ns=some p) (hP:PIn w g p) :
  Calls Tryz.prog 39 #[.slice (some ⟨g,0,none⟩) ns.length c] w fun e w'=>∃ g2 c2,e=.returned (.slice (some ⟨g2,0,none⟩) ns.length c2)/\PIn w' g2 (Zbt p)/\Below w.heap.size w w':=by
 obtain ⟨f1,f2,f3,f4⟩:=Zcn h
 exact (Zf5 w g c ns.length p hP f3 f1 f2 f4).mono fun e w' ⟨b,g2,c2,e,_,_,q⟩=>⟨g2,c2,e,q,b⟩
theorem Zjm {w:World} {g c:Nat} {ns:List Nd} {p:List Int} (h:Zat ns=some p) (hP:PIn w g (Zbt p)) :
  Calls Tryz.prog 38 #[.slice (some ⟨g,0,none⟩) ns.length c] w fun e w'=>e=.returned (.int .i64 (Zci (Zbt p)))/\w=w':=by
 obtain ⟨f1,f2,f3,f4⟩:=Zcn h
 exact Zis w g c ns.length (Zbt p) hP (by unfold Zbt;rw [ZaF,f3]) f1 f2
end
section
open Go.RowKit
theorem ZgJ {ns:List Nd} {k:Nat} {d:Nd} (h:ns[k]? = some d) (h0:d.nums=[]):Zan ns k=-1:=by
 unfold Zan
 rw [Zb5 h,h0]
theorem ZfF {ns:List Nd} {k:Nat} {d:Nd} {x:Int} {r:List Int} (h:ns[k]? = some d) (h0:d.nums=x::r):Zan ns k=x:=by
 unfold Zan
 rw [Zb5 h,h0]
theorem Zd4 (w:World) (v:Value) (ns:List Nd) (k:Nat) (h:Zn w v ns) (hk:k<ns.length) :
  Calls Tryz.prog 135 #[v,.int .i64 k] w fun e w'=>e=.returned (.int .i64 (Zan ns k))/\w=w':=by
 obtain ⟨A,cp,rs,rfl,h2,h3,h4,h5,h6⟩:=h
 obtain ⟨x,hx⟩:∃ x,rs[k]? = some x:=⟨_,List.getElem?_eq_getElem (by have:=congrArg List.length h4;rw [List.length_map] at this;omega)⟩
 have hd:ns[k]? = some x.2:=by rw [<- h4,List.getElem?_map,hx];rfl
 obtain ⟨ad,rfl,d0,d1,d2,d3,d4⟩:=ZS h5 (Below.refl _ _) hx (by omega)
 obtain ⟨_,⟨A2,c2,ev2,k2,k3,k4⟩,_⟩:=h6 x (List.mem_of_getElem? hx)
 obtain ⟨⟨va,vb,vc⟩,kd,ws,nums,ks,ps⟩:=x
 dsimp only at d0 d1 d2 d3 d4 ev2 k2 k3 k4 hd
 subst ev2
 obtain ⟨n,hn⟩:∃ n,n=ns.length:=⟨_,rfl⟩
 rw [<- hn] at hk ⊢
 have i1:(k:Int)<(n:Int):=by omega
 have i2:(0:Int)<=(k:Int):=by omega
 clear h2 h3 h4 h5 h6 hx hk hn d0 d1 d3 d4
 cases nums with
 | nil=>
  have t1:((0:Int)==0)=true:=rfl
  have FIN:=zh (ZgJ hd rfl)
  simp only [List.length_nil] at d2 k2 k4
  clear hd k2 k3 k4
  go_enter Tryz.func135,Tryz.ntmps135
  go_wp2_with fail
  go_ret
  exact ⟨by rw [FIN.out];rfl,rfl⟩
 | cons y r=>
  obtain ⟨ad2,rfl,e0⟩:=ints_at (k:=0) (x:=y) k4 (Below.refl _ _) rfl (by simp)
  rw [show ad2.add 0=ad2 by unfold Addr.add;simp] at e0
  have FIN:=zh (ZfF hd rfl)
  obtain ⟨m,hm⟩:∃ m,m=(y::r).length:=⟨_,rfl⟩
  rw [<- hm] at d2
  have t1:((m:Int)==0)=false:=by
   have:m=r.length+1:=hm
   simpa using fun e=>by omega
  have i3:(0:Int)<(m:Int):=by
   have:m=r.length+1:=hm
   omega
  clear hd k2 k3 k4 hm
  go_enter Tryz.func135,Tryz.ntmps135
  go_wp2_with fail
  go_ret
  exact ⟨by rw [FIN.out];rfl,rfl⟩
theorem ZaL {n:Nd} {k:Nat} {x:Int} (h:n.nums[k]? = some x):num n k=x:=by
 unfold num
 rw [h]
 rfl
theorem ZcC (w:World) (x:NdV×Nd) (h:ZJ w x) (h3:x.2.nums.length=3) :
  Calls Tryz.prog 133 #[ndV x] w fun e w'=>e=.returned (.bool (Zbl x.2))/\Below w.heap.size w w':=by
 obtain ⟨⟨A,c,e1,_⟩,⟨A2,c2,e2,g1,g2,g3⟩,A3,c3,e3,_⟩:=h
 obtain ⟨⟨v1,v2,v3⟩,kd,ws,ns,ks,ps⟩:=x
 dsimp only at e1 e2 e3 h3 g1 g2 g3
 subst e1 e2 e3
 obtain ⟨y1,hy1⟩:∃ y,ns[1]? = some y:=⟨_,List.getElem?_eq_getElem (by omega)⟩
 obtain ⟨y2,hy2⟩:∃ y,ns[2]? = some y:=⟨_,List.getElem?_eq_getElem (by omega)⟩
 unfold Zbl
 rw [ZaL (n:=(⟨kd,ws,ns,ks,ps⟩:Nd)) hy1,ZaL (n:=(⟨kd,ws,ns,ks,ps⟩:Nd)) hy2]
 have hb:=below_alloc1 w (.cells #[.int .i64 kd,.slice A ws.length c,.slice A2 ns.length c2,.slice A3 ks.length c3,.int .i64 ps] 27)
 obtain ⟨ad,rfl,a1⟩:=ints_at (k:=1) g3 hb hy1 (by omega)
 obtain ⟨ad',ea,a2⟩:=ints_at (k:=2) g3 hb hy2 (by omega)
 injection ea with ea
 subst ea
 rw [show ad.add 1=⟨ad.block,ad.off+1,none⟩ by unfold Addr.add;simp] at a1
 rw [show ad.add 2=⟨ad.block,ad.off+2,none⟩ by unfold Addr.add;simp] at a2
 have HB:=zh hb
 unfold ndV
 dsimp only
 rw [h3] at *
 clear g1 g2 g3 hy1 hy2 hb
 by_cases q1:1<=y1
 ·by_cases q2:1<=y2
  ·have Q:=zh (zi q1 q2)
   go_enter Tryz.func133,Tryz.ntmps133
   go_wp2_with fail
   go_ret
   exact ⟨by first | rfl | (have:=Q.out;simp;omega) | (have:=Q.out;simp_all),HB.out⟩
  ·have q2':y2<1:=by omega
   have Q:=zh (zi q1 q2)
   go_enter Tryz.func133,Tryz.ntmps133
   go_wp2_with fail
   go_ret
   exact ⟨by first | rfl | (have:=Q.out;simp;omega) | (have:=Q.out;simp_all),HB.out⟩
 ·have q1':y1<1:=by omega
  have Q:=zh q1
  go_enter Tryz.func133,Tryz.ntmps133
  go_wp2_with fail
  go_ret
  exact ⟨by first | rfl | (have:=Q.out;simp;omega) | (have:=Q.out;simp_all),HB.out⟩
end
end Go.Proofs.YtkgkmdhpnhmcpaaGreatDoor
