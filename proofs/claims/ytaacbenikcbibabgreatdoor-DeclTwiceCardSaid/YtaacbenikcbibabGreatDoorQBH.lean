import Derived.Test.YtaacbenikcbibabGreatDoorQBG
set_option maxRecDepth 100000
set_option maxHeartbeats 8000000
namespace Go.Proofs.YtaacbenikcbibabGreatDoor
section
open Go.RowKit
theorem ZgP {l:List Int} {k:Nat} {x a:Int} (h:l[k]? = some x):(l.take (k+1)).foldl max a=max ((l.take k).foldl max a) x:=by
 rw [List.take_add_one,h,List.foldl_append]
 rfl
def ZdE (l:List Int) (k:Nat):Int:=Zce (l.take k)
theorem ZhP {l:List Int} {x:Int} (h:l[0]? = some x):ZdE l 1=x:=by
 cases l with
 | nil=>simp at h
 | cons a r=>
  obtain rfl:a=x:=by simpa using h
  rfl
theorem Zg1 {l:List Int} {k:Nat} {x:Int} (hk:0<k) (h:l[k]? = some x):ZdE l (k+1)=max (ZdE l k) x:=by
 cases l with
 | nil=>simp at h
 | cons a r=>
  obtain ⟨m,rfl⟩:∃ m,k=m+1:=⟨k-1,by omega⟩
  rw [List.getElem?_cons_succ] at h
  show Zce (a::r.take (m+1))=max (Zce (a::r.take m)) x
  exact ZgP h
theorem ZhO {l:List Int} {n:Nat} (h:l.length=n):ZdE l n=Zce l:=by
 unfold ZdE
 rw [<- h,List.take_length]
theorem Zia (w:World) (g c n:Nat) (p:List Int) (hp:PIn w g p) (hn:p.length=n) (h1:1<=n) (h2:n<=1500) :
  Calls Tryz.prog 20 #[.slice (some ⟨g,0,none⟩) n c] w fun e w'=>e=.returned (.int .i64 (Zce p))/\w=w':=by
 obtain ⟨x0,hx0⟩:∃ x0,p[0]? = some x0:=⟨_,List.getElem?_eq_getElem (by omega)⟩
 have c0:=hp.cell hx0
 have i1:¬ (n:Int)<1:=by omega
 have i0:(0:Int)<(n:Int):=by omega
 have HN:=Lib.hid (And.intro hn (And.intro h1 (And.intro h2 (And.intro hp (ZhP hx0)))))
 clear hn h1 h2 hp hx0
 go_enter Tryz.func20,Tryz.ntmps20
 go_wp2_with fail
 go_loopg [3,4] (n-1) (fun gk v3 v4 wr=>w=wr/\∃ k:Nat,v3=.int .i64 (ZdE p k)/\v4=.int .i64 k/\1<=k/\k<=n/\gk=n-k)
 case atStart=>exact ⟨rfl,1,by rw [HN.out.2.2.2.2],rfl,Nat.le_refl _,HN.out.2.1,rfl⟩
 case round=>
  obtain ⟨rfl,k,rfl,rfl,hk1,hk,hgk⟩:=hrel
  by_cases hkn:k=n
  ·subst hkn
   have e:=Lib.hid (ZhO (l:=p) HN.out.1)
   clear hk1 hk hgk
   go_wp2_with fail
   go_ret
   exact ⟨by rw [<- e.out];rfl,rfl⟩
  ·obtain ⟨x,hx⟩:∃ x,p[k]? = some x:=⟨_,List.getElem?_eq_getElem (by have:=HN.out.1;omega)⟩
   have cx:=HN.out.2.2.2.1.cell hx
   have i2:(k:Int)<(n:Int):=by omega
   have i3:(0:Int)<=(k:Int):=by omega
   have u1:IntKind.i64.wrap ((k:Int)+1)=(k:Int)+1:=IntWalk.i64_in _ (by have:=HN.out;omega)
   have NX:=Lib.hid (Zg1 (by omega) hx)
   have HK:=Lib.hid (And.intro hk1 (And.intro i2 hgk))
   clear hk1 hk hgk hkn hx
   go_wp2_with fail
   go_roundg (n-(k+1))
   case measure=>have:=HK.out;omega
   case rel=>exact ⟨rfl,k+1,by rw [NX.out],by push_cast;rfl,by omega,by have:=HK.out;omega,rfl⟩
end
section
open Go.RowKit
theorem ZeS {w:World} {v:Value} {ns:List Nd} (h:Zo w v ns) (hp:Zaw ns=none) :
  Calls Tryz.prog 19 #[v] w fun e w'=>e=.returned (.tuple #[.slice none 0 0,.bool false])/\Below w.heap.size w w':=
 (ZcM w v ns h).mono fun e w' q=>by
  obtain ⟨hb,hm⟩:=q
  rw [hp] at hm
  exact ⟨hm,hb⟩
theorem ZeT {w:World} {v:Value} {ns:List Nd} {p:List Int} (h:Zo w v ns) (hp:Zaw ns=some p) :
  Calls Tryz.prog 19 #[v] w fun e w'=>∃ g c,e=.returned (.tuple #[.slice (some ⟨g,0,none⟩) ns.length c,.bool true])/\PIn w' g p/\Below w.heap.size w w':=
 (ZcM w v ns h).mono fun e w' q=>by
  obtain ⟨hb,hm⟩:=q
  rw [hp] at hm
  obtain ⟨g,c,e,_,_,_,h⟩:=hm
  exact ⟨g,c,e,h,hb⟩
theorem Zci {ns:List Nd} {p:List Int} (h:Zaw ns=some p):1<=ns.length/\ns.length<=1500/\p.length=ns.length/\Zbw p:=by
 have h0:=h
 unfold Zaw at h
 split at h
 ·cases h
 ·exact ⟨by omega,by omega,ZcZ _ _ _ h,Zdl _ _ _ h⟩
theorem ZgH {w:World} {g c:Nat} {ns:List Nd} {p:List Int} (h:Zaw ns=some p) (hP:PIn w g p) :
  Calls Tryz.prog 21 #[.slice (some ⟨g,0,none⟩) ns.length c] w fun e w'=>∃ g2 c2,e=.returned (.slice (some ⟨g2,0,none⟩) ns.length c2)/\PIn w' g2 (Zbt p)/\Below w.heap.size w w':=by
 obtain ⟨f1,f2,f3,f4⟩:=Zci h
 exact (ZfX w g c ns.length p hP f3 f1 f2 f4).mono fun e w' ⟨b,g2,c2,e,_,_,q⟩=>⟨g2,c2,e,q,b⟩
theorem Zi1 {w:World} {g c:Nat} {ns:List Nd} {p:List Int} (h:Zaw ns=some p) (hP:PIn w g (Zbt p)) :
  Calls Tryz.prog 20 #[.slice (some ⟨g,0,none⟩) ns.length c] w fun e w'=>e=.returned (.int .i64 (Zce (Zbt p)))/\w=w':=by
 obtain ⟨f1,f2,f3,f4⟩:=Zci h
 exact Zia w g c ns.length (Zbt p) hP (by unfold Zbt;rw [ZaJ,f3]) f1 f2
end
end Go.Proofs.YtaacbenikcbibabGreatDoor
