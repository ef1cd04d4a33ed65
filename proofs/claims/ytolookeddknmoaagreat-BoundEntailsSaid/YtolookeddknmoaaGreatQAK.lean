import Derived.Deep.LoopGhost
import Derived.BigQuiet
import Derived.Deep.QuietTactic
import Derived.Test.YtolookeddknmoaaGreatQAA
import Derived.Test.YtolookeddknmoaaGreatQAG
import Derived.Test.YtolookeddknmoaaGreatQAI
set_option maxRecDepth 100000
set_option maxHeartbeats 8000000
namespace Go.Proofs.YtolookeddknmoaaGreat
section
open Go.RowKit
def Zr:List (Int×Int)->List Value
 | []=>[]
 | x::r=>.int .i64 x.1::.int .i64 x.2::Zr r
theorem Zck:∀ l,(Zr l).length=l.length*2
 | []=>rfl
 | x::r=>by rw [Zr,List.length_cons,List.length_cons,Zck r,List.length_cons];omega
theorem Zfj:∀ (l:List (Int×Int)) (k:Nat) (x:Int×Int),l[k]? = some x->(Zr l)[k*2]? = some (.int .i64 x.1)/\(Zr l)[k*2+1]? = some (.int .i64 x.2)
 | [],k,x,h=>by simp at h
 | y::r,0,x,h=>by
  obtain rfl:y=x:=by simpa using h
  exact ⟨rfl,rfl⟩
 | y::r,k+1,x,h=>by
  rw [List.getElem?_cons_succ] at h
  obtain ⟨a,b⟩:=Zfj r k x h
  exact ⟨by rw [show (k+1)*2=k*2+1+1 by omega];exact a,by rw [show (k+1)*2+1=k*2+1+1+1 by omega];exact b⟩
def Zb (w:World) (v:Value) (l:List (Int×Int)):Prop:=∃ A c,v=.slice A l.length c/\l.length<=c/\c<=maxLen/\ZB w w.heap.size 2 A l.length (Zr l)
theorem Zb.below {w w':World} {v:Value} {l:List (Int×Int)} (h:Zb w v l) (hb:Below w.heap.size w w'):Zb w' v l:=by
 obtain ⟨A,c,h1,h2,h3,h4⟩:=h
 exact ⟨A,c,h1,h2,h3,(h4.below hb).more hb.size⟩
theorem Zb.nil (w:World):Zb w (.slice none 0 0) []:=⟨none,0,rfl,Nat.le_refl _,by decide,ZB.none_⟩
theorem ZmL {w:World} {A:Option Addr} {n:Nat} {l:List (Int×Int)} (h4:ZB w w.heap.size 2 A n (Zr l)) {k:Nat} {x:Int×Int} (hk:l[k]? = some x) (hn:0<n) :
  ∃ ad,A=some ad/\w.cell? (ad.add (k*2))=some (.int .i64 x.1)/\w.cell? (ad.add (k*2+1))=some (.int .i64 x.2):=by
 obtain ⟨ad,ha,_,hc⟩:=h4.2 hn
 obtain ⟨a,b⟩:=Zfj l k x hk
 exact ⟨ad,ha,hc _ _ a,hc _ _ b⟩
def Zbd (l:List (Int×Int)):Bool:=l.all fun x=>Zas x.1 x.2
def Zv (l:List (Int×Int)):Prop:=∀ x,x∈l->(-9223372036854775808<=x.1/\x.1<=9223372036854775807)/\(-9223372036854775808<=x.2/\x.2<=9223372036854775807)
theorem Zk8 (n d:Int) (w:World) (ra:∀ w,Calls Tryz.prog 34 #[Ze n d] w fun r w'=>r=.returned (.bool (Zas n d))/\Below w.heap.size w w') :
  Calls Tryz.prog 91 #[Ze n d] w fun r w'=>r=.returned (.bool (!Zas n d))/\Below w.heap.size w w':=by
 have L:=(Live.start w).box n d
 generalize Zas n d=R at *
 go_enter Tryz.func91,Tryz.ntmps91
 go_wp2_with (go_at_call 34;(with_reducible refine (ra _).mono ?_);rintro e w1 ⟨rfl,hb⟩;have L:=L.call hb)
 go_ret
 exact ⟨rfl,L.below⟩
theorem ZeX {l:List (Int×Int)} {k:Nat} {x:Int×Int} (hk:l[k]? = some x) (h:Zbd (l.take k)=true):Zbd (l.take (k+1))=Zas x.1 x.2:=by
 have hl:k<l.length:=by
  rcases Nat.lt_or_ge k l.length with g | g
  ·exact g
  ·rw [List.getElem?_eq_none g] at hk;cases hk
 unfold Zbd at *
 rw [List.take_succ_eq_append_getElem hl,List.all_append,h,Bool.true_and]
 have e:l[k]=x:=by rw [List.getElem?_eq_getElem hl] at hk;exact Option.some.inj hk
 rw [e]
 simp
theorem ZfU {l:List (Int×Int)} {k:Nat} {x:Int×Int} (hk:l[k]? = some x) (h:Zas x.1 x.2=false):Zbd l=false:=by
 unfold Zbd
 rw [List.all_eq_false]
 exact ⟨x,List.mem_of_getElem? hk,by rw [h];decide⟩
theorem Zoe (w:World) (v:Value) (l:List (Int×Int)) (h:Zb w v l) (hw:Zv l) :
  Calls Tryz.prog 112 #[v,.func (.func 91) #[] #[]] w fun r w'=>∃ z:Int,r=.returned (.int .i64 z)/\(decide (0<=z)=!Zbd l)/\Below w.heap.size w w':=by
 obtain ⟨A,c,rfl,h2,h3,h4⟩:=h
 have h5:=h3
 unfold maxLen at h5
 obtain ⟨n,hn⟩:∃ n,n=l.length:=⟨_,rfl⟩
 rw [<- hn] at h2 h4 ⊢
 have HN:=Lib.hid (And.intro hn (And.intro hw (And.intro h2 h5)))
 have H4:=Lib.hid h4
 clear hn hw h2 h3 h4 h5
 go_enter Tryz.func112,Tryz.ntmps112
 go_wp2_with fail
 go_loopg [8] n (fun g v8 wr=>∃ k:Nat,v8=.int .i64 k/\k<=n/\g=n-k/\Zbd (l.take k)=true/\Below w.heap.size w wr)
 case atStart=>exact ⟨0,rfl,Nat.zero_le _,rfl,by rw [List.take_zero];rfl,Below.refl _ _⟩
 case round=>
  obtain ⟨k,rfl,hk,hg,hall,hb⟩:=hrel
  by_cases hkn:k=n
  ·have hal:Zbd l=true:=by rw [hkn,HN.out.1,List.take_length] at hall;exact hall
   subst hkn
   have HB:=Lib.hid (And.intro hal hb)
   clear hk hg hall hb hal
   go_wp2_with fail
   go_ret
   exact ⟨-1,rfl,by rw [HB.out.1];rfl,HB.out.2⟩
  ·have hlt:k<n:=by omega
   obtain ⟨x,hx⟩:∃ x,l[k]? = some x:=⟨_,List.getElem?_eq_getElem (by have:=HN.out.1;omega)⟩
   obtain ⟨ad,rfl,c1,c2⟩:=ZmL H4.out hx (by omega)
   obtain ⟨hx1,hx2⟩:=HN.out.2.1 x (List.mem_of_getElem? hx)
   have hbk:ad.block<w.heap.size:=by
    obtain ⟨_,e,hb,_⟩:=H4.out.2 (by omega)
    injection e with e
    subst e
    exact hb
   have d1:=(hb.cell (p:=ad.add (k*2)) (by rw [ZL];exact hbk)).trans c1
   have d2:=(hb.cell (p:=ad.add (k*2+1)) (by rw [ZL];exact hbk)).trans c2
   rw [<- ZcE] at d2
   have d3:wr.cell? ⟨(ad.add (k*2)).block,(ad.add (k*2)).off+1,none⟩=some (.int .i64 x.2):=d2
   clear d2
   have nr:=fun w=>Zk8 x.1 x.2 w (fun w=>Zef x.1 x.2 w hx1.1 hx1.2 hx2.1 hx2.2)
   have nxt:=ZeX hx hall
   have bad:=@ZfU l k x hx
   have i1:(k:Int)<(n:Int):=by omega
   have i2:(0:Int)<=(k:Int):=by omega
   have wk:IntKind.i64.wrap ((k:Int)+1)=(k:Int)+1:=IntWalk.i64_in _ (by have:=HN.out;omega)
   generalize Zas x.1 x.2=R at *
   generalize x.1=xn at *
   generalize x.2=xd at *
   have HK:=Lib.hid (And.intro hlt (And.intro hg hb))
   have NX:=Lib.hid (And.intro nxt bad)
   clear hk hg hall hb hkn hlt hx hx1 hx2 c1 c2 hbk nxt bad
   cases R
   ·go_wp2_with (go_at_call 91;(with_reducible refine (nr _).mono ?_);rintro e w1 ⟨rfl,hb1⟩)
    go_ret
    exact ⟨k,rfl,by rw [NX.out.2 trivial];simp,HK.out.2.2.trans (hb1.mono HK.out.2.2.size)⟩
   ·go_wp2_with (go_at_call 91;(with_reducible refine (nr _).mono ?_);rintro e w1 ⟨rfl,hb1⟩)
    go_roundg (n-(k+1))
    case measure=>have:=HK.out;omega
    case rel=>exact ⟨k+1,by push_cast;rfl,by have:=HK.out;omega,rfl,NX.out.1,HK.out.2.2.trans (hb1.mono HK.out.2.2.size)⟩
theorem ZkL (w:World) (v:Value) (l:List (Int×Int)) (h:Zb w v l) (hw:Zv l) :
  Calls Tryz.prog 90 #[v,.func (.func 91) #[] #[]] w fun r w'=>r=.returned (.bool (!Zbd l))/\Below w.heap.size w w':=by
 have ix:=Zoe w v l h hw
 clear h hw
 generalize Zbd l=R at *
 go_enter Tryz.func90,Tryz.ntmps90
 go_wp2_with (go_at_call 112;(with_reducible refine ix.mono ?_);rintro e w1 ⟨z,rfl,hz,hb⟩)
 go_ret
 exact ⟨by rw [<- hz];rfl,hb⟩
theorem ZgK (w:World) (v:Value) (l:List (Int×Int)) (h:Zb w v l) (hw:Zv l) :
  Calls Tryz.prog 65 #[v] w fun r w'=>r=.returned (.bool (Zbd l))/\Below w.heap.size w w':=by
 have ix:=ZkL w v l h hw
 clear h hw
 generalize Zbd l=R at *
 go_enter Tryz.func65,Tryz.ntmps65
 go_wp2_with (go_at_call 90;(with_reducible refine ix.mono ?_);rintro e w1 ⟨rfl,hb⟩)
 go_ret
 exact ⟨by simp,hb⟩
end
section
open Go.RowKit
def ZO (l:List (Int×Int)) (kn kd:Int):Bool:=decide (l.length<=8)&&Zas kn kd&&Zbd l
theorem ZbN (w:World) (v:Value) (l:List (Int×Int)) (kn kd:Int) (h:Zb w v l) (hw:Zv l) (h1:-9223372036854775808<=kn) (h2:kn<=9223372036854775807) (h3:-9223372036854775808<=kd) (h4:kd<=9223372036854775807) :
  Calls Tryz.prog 33 #[.agg #[v,.int .i64 kn,.int .i64 kd]] w fun r w'=>r=.returned (.bool (ZO l kn kd))/\Below w.heap.size w w':=by
 have ra:=fun w=>Zef kn kd w h1 h2 h3 h4
 have al:=Lib.hid (fun (w':World) (hb:Below w.heap.size w w')=>ZgK w' v l (h.below hb) hw)
 obtain ⟨A,c,rfl,h5,h6,_⟩:=id h
 have hn:l.length<=9223372036854775807:=by unfold maxLen at h6;omega
 unfold ZO
 clear h hw h1 h2 h3 h4 h5 h6
 generalize Zas kn kd=R at *
 generalize Zbd l=Q at *
 generalize l.length=n at *
 have F:=FracBox.start w (.slice A n c) (.int .i64 kn) (.int .i64 kd) 27
 have hb0:=Za w (.cells #[.slice A n c,.int .i64 kn,.int .i64 kd] 27)
 by_cases hl:n<=8
 ·have i1:(n:Int)<=8:=by omega
  have i2:decide ((n:Int)<=8)=true:=decide_eq_true i1
  rw [decide_eq_true hl]
  clear hl hn
  cases R
  ·go_enter Tryz.func33,Tryz.ntmps33
   go_wp2_with (go_at_call 34;(with_reducible refine (ra _).mono ?_);rintro e w1 ⟨rfl,hb⟩)
   go_ret
   exact ⟨rfl,hb0.trans (hb.mono hb0.size)⟩
  ·go_enter Tryz.func33,Tryz.ntmps33
   go_wp2_with (first
    | (go_at_call 34;(with_reducible refine (ra _).mono ?_);rintro e w1 ⟨rfl,hb⟩;have F:=F.keep hb;have b1:=hb0.trans (hb.mono hb0.size);have k0:=F.k0;have k1:=F.k1;have k2:=F.k2)
    | (go_at_call 65;(with_reducible refine (al.out _ b1).mono ?_);rintro e w2 ⟨rfl,hb2⟩))
   go_ret
   exact ⟨rfl,b1.trans (hb2.mono b1.size)⟩
 ·have i2:decide ((n:Int)<=8)=false:=decide_eq_false (by omega)
  have i3:¬ (n:Int)<=8:=by omega
  rw [decide_eq_false hl]
  clear hl hn
  go_enter Tryz.func33,Tryz.ntmps33
  go_wp2_with fail
  go_ret
  exact ⟨rfl,hb0⟩
theorem Za8 {w wr:World} {A:Option Addr} {n k:Nat} {l:List (Int×Int)} {x:Int×Int} (h4:ZB w w.heap.size 2 A n (Zr l)) (hb:Below w.heap.size w wr) (hx:l[k]? = some x) (hn:0<n) :
  ∃ ad,A=some ad/\wr.cell? (ad.add (k*2))=some (.int .i64 x.1)/\wr.cell? ⟨(ad.add (k*2)).block,(ad.add (k*2)).off+1,none⟩=some (.int .i64 x.2):=by
 obtain ⟨ad,rfl,c1,c2⟩:=ZmL h4 hx hn
 have hbk:ad.block<w.heap.size:=by
  obtain ⟨_,e,hb,_⟩:=h4.2 hn
  injection e with e
  subst e
  exact hb
 have d1:=(hb.cell (p:=ad.add (k*2)) (by rw [ZL];exact hbk)).trans c1
 have d2:=(hb.cell (p:=ad.add (k*2+1)) (by rw [ZL];exact hbk)).trans c2
 rw [<- ZcE] at d2
 exact ⟨ad,rfl,d1,d2⟩
theorem Znr {l:List (Int×Int)} {kn kd:Int} (h:Zbd l=false):ZO l kn kd=false:=by
 unfold ZO
 rw [h,Bool.and_false]
theorem ZaP (w:World) (v:Value) (l:List (Int×Int)) (kn kd:Int) (h:Zb w v l) (hw:Zv l) (h1:-9223372036854775808<=kn) (h2:kn<=9223372036854775807) (h3:-9223372036854775808<=kd) (h4:kd<=9223372036854775807) :
  Calls Tryz.prog 30 #[.agg #[v,.int .i64 kn,.int .i64 kd]] w fun r w'=>r=.returned (.bool (ZO l kn kd))/\Below w.heap.size w w':=by
 have ra:=Lib.hid (fun w=>ZaV kn kd w h1 h2 h3 h4)
 obtain ⟨A,c,rfl,h5,h6,h7⟩:=id h
 obtain ⟨n,hn⟩:∃ n,n=l.length:=⟨_,rfl⟩
 have hmx:n<=9223372036854775807:=by unfold maxLen at h6;omega
 rw [<- hn] at h5 h7 ⊢
 have HN:=Lib.hid (And.intro hn (And.intro hw hmx))
 have H7:=Lib.hid h7
 obtain ⟨V,hV⟩:∃ V,V=ZO l kn kd:=⟨_,rfl⟩
 rw [<- hV]
 have HV:=Lib.hid hV
 clear h hn hw h1 h2 h3 h4 h5 h6 h7 hmx hV
 have F:=FracBox.start w (.slice A n c) (.int .i64 kn) (.int .i64 kd) 27
 have hb0:=Za w (.cells #[.slice A n c,.int .i64 kn,.int .i64 kd] 27)
 go_enter Tryz.func30,Tryz.ntmps30
 go_wp2_with fail
 go_loopg [3] n (fun g v3 wr=>∃ k:Nat,v3=.int .i64 k/\k<=n/\g=n-k/\Zbd (l.take k)=true/\FracBox wr w.heap.size (.slice A n c) (.int .i64 kn) (.int .i64 kd)/\Below w.heap.size w wr)
 case atStart=>exact ⟨0,rfl,Nat.zero_le _,rfl,by rw [List.take_zero];rfl,F,hb0⟩
 case round=>
  clear F hb0
  obtain ⟨k,rfl,hk,hg,hall,F,hb⟩:=hrel
  have k0:=F.k0;have k1:=F.k1;have k2:=F.k2
  by_cases hkn:k=n
  ·have hal:Zbd l=true:=by rw [hkn,HN.out.1,List.take_length] at hall;exact hall
   have hv:=HV.out
   unfold ZO at hv
   rw [hal,Bool.and_true,<- HN.out.1] at hv
   subst hkn
   have HB:=Lib.hid hb
   by_cases hl:k<=8
   ·rw [decide_eq_true hl,Bool.true_and] at hv
    have i1:(k:Int)<=8:=by omega
    have i2:decide ((k:Int)<=8)=true:=decide_eq_true i1
    have ra:=ra.out
    rw [<- hv] at ra
    clear hk hg hall hb hal hv hl F
    go_wp2_with (go_at_call 31;(with_reducible refine (ra _).mono ?_);rintro e w1 ⟨rfl,hb1⟩)
    go_ret
    exact ⟨rfl,HB.out.trans (hb1.mono HB.out.size)⟩
   ·rw [decide_eq_false hl,Bool.false_and] at hv
    have i1:¬ (k:Int)<=8:=by omega
    have i2:decide ((k:Int)<=8)=false:=decide_eq_false i1
    subst hv
    clear hk hg hall hb hal hl F
    go_wp2_with fail
    go_ret
    exact ⟨rfl,HB.out⟩
  ·have hlt:k<n:=by omega
   obtain ⟨x,hx⟩:∃ x,l[k]? = some x:=⟨_,List.getElem?_eq_getElem (by have:=HN.out.1;omega)⟩
   obtain ⟨ad,rfl,d1,d3⟩:=Za8 H7.out hb hx (by omega)
   obtain ⟨hx1,hx2⟩:=HN.out.2.1 x (List.mem_of_getElem? hx)
   have nr:=fun w=>ZaV x.1 x.2 w hx1.1 hx1.2 hx2.1 hx2.2
   have nxt:=ZeX hx hall
   have bad:=@ZfU l k x hx
   have i1:(k:Int)<(n:Int):=by omega
   have i2:(0:Int)<=(k:Int):=by omega
   have wk:IntKind.i64.wrap ((k:Int)+1)=(k:Int)+1:=IntWalk.i64_in _ (by have:=HN.out;omega)
   generalize Zas x.1 x.2=R at *
   generalize x.1=xn at *
   generalize x.2=xd at *
   have HK:=Lib.hid (And.intro hlt (And.intro hg hb))
   have NX:=Lib.hid (And.intro nxt bad)
   have HF:=Lib.hid F
   clear hk hg hall hb hkn hlt hx hx1 hx2 nxt bad F
   cases R
   ·obtain rfl:V=false:=HV.out.trans (Znr (NX.out.2 rfl))
    go_wp2_with (go_at_call 31;(with_reducible refine (nr _).mono ?_);rintro e w1 ⟨rfl,hb1⟩)
    go_ret
    exact ⟨rfl,HK.out.2.2.trans (hb1.mono HK.out.2.2.size)⟩
   ·go_wp2_with (go_at_call 31;(with_reducible refine (nr _).mono ?_);rintro e w1 ⟨rfl,hb1⟩)
    go_roundg (n-(k+1))
    case measure=>have:=HK.out;omega
    case rel=>exact ⟨k+1,by push_cast;rfl,by have:=HK.out;omega,rfl,NX.out.1,HF.out.keep hb1,HK.out.2.2.trans (hb1.mono HK.out.2.2.size)⟩
end
section
open Go.RowKit
def Zw (l:List (Int×Int)):List (Int×Int):=(l.reverse.dropWhile fun x=>x.1==0).reverse
theorem Zgu (a:List (Int×Int)) (x:Int×Int):Zw (a++[x])=if x.1=0 then Zw a else a++[x]:=by
 unfold Zw
 rw [List.reverse_append,List.reverse_singleton,List.singleton_append,List.dropWhile_cons]
 by_cases h:x.1=0
 ·rw [if_pos h,if_pos (by simpa using h)]
 ·rw [if_neg h,if_neg (by simpa using h),List.reverse_cons,List.reverse_reverse]
theorem ZgD:∀ (l:List (Int×Int)) (k:Nat),Zr (l.take k)=(Zr l).take (k*2)
 | [],k=>by simp [Zr]
 | x::r,0=>by simp [Zr]
 | x::r,k+1=>by
  rw [List.take_succ_cons,Zr,Zr,ZgD r k,show (k+1)*2=k*2+1+1 by omega,List.take_succ_cons,List.take_succ_cons]
theorem Zb.take {w:World} {A:Option Addr} {n c k:Nat} {l:List (Int×Int)} (h1:l.length=n) (h2:n<=c) (h3:c<=maxLen) (h4:ZB w w.heap.size 2 A n (Zr l)) (hk:k<=n):Zb w (.slice A k c) (l.take k):=by
 have e:(l.take k).length=k:=by rw [List.length_take];omega
 refine ⟨A,c,by rw [e],by omega,h3,?_⟩
 refine ⟨by rw [Zck],fun hn=>?_⟩
 obtain ⟨ad,ha,hb,hc⟩:=h4.2 (by omega)
 refine ⟨ad,ha,hb,fun j u hu=>hc j u ?_⟩
 rw [ZgD,List.getElem?_take] at hu
 split at hu
 ·exact hu
 ·cases hu
def Zo4 (w:World) (v:Value) (l:List (Int×Int)) (e:Ending) (w':World):Prop:=∃ v',e=.returned v'/\Zb w v' l/\w=w'/\v'.ownBlock=v.ownBlock
theorem Zml (w:World) (v:Value) (l:List (Int×Int)) (h:Zb w v l) :
  Calls Tryz.prog 75 #[v] w (Zo4 w v (Zw l)):=by
 obtain ⟨A,c,rfl,h2,h3,h4⟩:=h
 have h5:=h3
 unfold maxLen at h5
 obtain ⟨n,hn⟩:∃ n,n=l.length:=⟨_,rfl⟩
 rw [<- hn] at h2 h4 ⊢
 have HN:=Lib.hid hn
 clear hn
 have hn6:n<=9223372036854775807:=by omega
 go_enter Tryz.func75,Tryz.ntmps75
 go_wp2_with fail
 go_loopg [0] n (fun g v0 wx=>w=wx/\∃ k:Nat,k<=n/\g=k/\v0=.slice A k c/\Zw (l.take k)=Zw l)
 case atStart=>exact ⟨rfl,n,Nat.le_refl _,rfl,rfl,by rw [List.take_of_length_le (by rw [HN.out];exact Nat.le_refl _)]⟩
 case round=>
  obtain ⟨rfl,k,hk,hg,rfl,ht⟩:=hrel
  have HT:=Lib.hid ht
  have HG:=Lib.hid hg
  clear ht hg
  by_cases hk0:k=0
  ·subst hk0
   have fin:Zb w (.slice A 0 c) (Zw l):=by
    rw [<- HT.out]
    exact Zb.take HN.out.symm h2 h3 h4 (Nat.zero_le n)
   have FIN:=Lib.hid fin
   clear fin
   go_wp2_with fail
   go_ret
   exact ⟨_,rfl,FIN.out,rfl,by cases A<;>rfl⟩
  ·have hk1:(0:Int)<(k:Int):=by omega
   have hkl:k-1<l.length:=by have:=HN.out;omega
   have hs:k-1+1=k:=by omega
   have wk:IntKind.i64.wrap ((k:Int)-1)=((k-1:Nat):Int):=by rw [IntWalk.i64_in _ (by omega)];omega
   obtain ⟨x,hx⟩:∃ x,l[k-1]? = some x:=⟨_,List.getElem?_eq_getElem hkl⟩
   obtain ⟨ad,rfl,d1,_⟩:=Za8 h4 (Below.refl _ _) hx (by omega)
   have hi1:((k-1:Nat):Int)<(k:Int):=by omega
   have hi0:(0:Int)<=((k-1:Nat):Int):=by omega
   have hic:((k-1:Nat):Int)<=(c:Int):=by omega
   have et:l.take k=l.take (k-1)++[x]:=by
    have e:l[k-1]=x:=by rw [List.getElem?_eq_getElem hkl] at hx;exact Option.some.inj hx
    rw [<- e,<- List.take_succ_eq_append_getElem hkl,hs]
   have tr:=HT.out
   rw [et,Zgu] at tr
   by_cases hz:x.1=0
   ·rw [if_pos hz] at tr
    rw [hz] at d1
    have TR:=Lib.hid tr
    have HX:=Lib.hid (And.intro hx hs)
    clear et tr hz hx hs hkl
    go_wp2_with fail
    go_roundg (k-1)
    case measure=>have:=HG.out;omega
    case rel=>exact ⟨rfl,k-1,by omega,rfl,rfl,TR.out⟩
   ·rw [if_neg hz,<- et] at tr
    have fin:Zb w (.slice (some ad) k c) (Zw l):=by rw [<- tr];exact Zb.take HN.out.symm h2 h3 h4 hk
    have FIN:=Lib.hid fin
    have hz':(x.1==0)=false:=by simpa using hz
    clear et tr hz hx hs hkl fin
    go_wp2_with fail
    go_ret
    exact ⟨_,rfl,FIN.out,rfl,rfl⟩
theorem Zhb (w:World) (v:Value) (l:List (Int×Int)) (kn kd:Int) (h:Zb w v l) :
  Calls Tryz.prog 6 #[.agg #[v,.int .i64 kn,.int .i64 kd]] w fun r w'=>r=.returned (.bool (decide (l.length<=12)))/\Below w.heap.size w w':=by
 obtain ⟨A,c,rfl,_,_,_⟩:=h
 have e:decide ((l.length:Int)<=12)=decide (l.length<=12):=decide_eq_decide.2 (by omega)
 go_enter Tryz.func6,Tryz.ntmps6
 go_wp2_with fail
 go_ret
 exact ⟨by rw [<- e];rfl,Za _ _⟩
end
section
open Go.RowKit
theorem ZdA:(Tryz.prog.info? 25).map (fun i=>(i.zero,i.size,i.bytes))=some (some (.agg #[.int .i64 0,.int .i64 0]),2,16):=by kernel_rfl
theorem Zdj {w:World} {base:Nat} {l:List (Int×Int)} {v:Value} (h:w.ownsRow base 25 2 v l.length (Zr l)):Zb w v l:=by
 have h0:=h
 rcases h.2 with ⟨rfl,hn⟩ | ⟨g,cap,cur,rfl,_,hh,hnc,hrest⟩
 ·have:l=[]:=List.eq_nil_of_length_eq_zero (by simpa using hn)
  subst this
  exact Zb.nil w
 ·exact ⟨some _,cap,rfl,hnc,hrest.1,ZB.of_own h0⟩
theorem ZjR (w:World):(w.alloc (.cells #[] 25)).ownsRow w.heap.size 25 2 (.slice (some ⟨w.heap.size,0,none⟩) 0 0) 0 []:=
 ⟨rfl,.inr ⟨w.heap.size,0,#[],rfl,Nat.le_refl _,heap_alloc_new w _,Nat.le_refl _,by decide,rfl,rfl⟩⟩
theorem ZeO:∀ (l:List (Int×Int)),∀ u∈Zr l,u.oneCell'=true
 | [],u,h=>by cases h
 | x::r,u,h=>by
  rw [Zr,List.mem_cons,List.mem_cons] at h
  rcases h with rfl | rfl | h
  ·rfl
  ·rfl
  ·exact ZeO r u h
theorem Zg6 {w:World} {base k n:Nat} {v:Value} {xs:List Value} (h:w.ownsRow base 25 2 v n xs) (hk:v.ownBlock=some k):base<=k:=by
 rcases h.2 with ⟨rfl,_⟩ | ⟨g,cap,cur,rfl,hg,_⟩
 ·cases hk
 ·have:g=k:=by simpa [Value.ownBlock] using hk
  omega
end
end Go.Proofs.YtolookeddknmoaaGreat
