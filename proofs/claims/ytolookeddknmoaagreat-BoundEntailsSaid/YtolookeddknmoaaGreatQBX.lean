import Derived.RegionTactic
import Derived.Test.YtolookeddknmoaaGreatQBB
import Derived.Test.YtolookeddknmoaaGreatQBF
import Derived.Test.YtolookeddknmoaaGreatQBS
import Derived.Test.YtolookeddknmoaaGreatQBW
set_option maxRecDepth 100000
set_option maxHeartbeats 8000000
namespace Go.Proofs.YtolookeddknmoaaGreat
section
open Go.RowKit
def ZbK:List ((Value×Value)×Stg)->List Value
 | []=>[]
 | x::r=>x.1.1::x.1.2::ZbK r
theorem Zh3:∀ (l:List ((Value×Value)×Stg)) (k:Nat) (x:(Value×Value)×Stg),l[k]? = some x->(ZbK l)[k*2]? = some x.1.1/\(ZbK l)[k*2+1]? = some x.1.2
 | [],k,x,h=>by simp at h
 | y::r,0,x,h=>by
  obtain rfl:y=x:=by simpa using h
  exact ⟨rfl,rfl⟩
 | y::r,k+1,x,h=>by
  rw [List.getElem?_cons_succ] at h
  obtain ⟨a,b⟩:=Zh3 r k x h
  exact ⟨by rw [show (k+1)*2=k*2+1+1 by omega];exact a,by rw [show (k+1)*2+1=k*2+1+1+1 by omega];exact b⟩
def Zkz (w:World) (v:Value) (st:List Stg):Prop:=
 ∃ A c rs,v=.slice A st.length c/\st.length<=c/\c<=maxLen/\rs.map (·.2)=st/\ZB w w.heap.size 2 A st.length (ZbK rs)/\∀ x∈rs,ZD w x.1.1 x.2.1/\ZD w x.1.2 x.2.2
theorem ZnI {w wr:World} {A:Option Addr} {n k:Nat} {rs:List ((Value×Value)×Stg)} {x:(Value×Value)×Stg} (h4:ZB w w.heap.size 2 A n (ZbK rs)) (hb:Below w.heap.size w wr) (hx:rs[k]? = some x) (hn:0<n) :
  ∃ ad,A=some ad/\wr.cell? (ad.add (k*2))=some x.1.1/\wr.cell? ⟨(ad.add (k*2)).block,(ad.add (k*2)).off+1,none⟩=some x.1.2:=by
 obtain ⟨ad,e,hbk,hc⟩:=h4.2 hn
 obtain ⟨a,b⟩:=Zh3 rs k x hx
 have d0:=(hb.cell (p:=ad.add (k*2)) (by rw [ZL];exact hbk)).trans (hc _ _ a)
 have d1:=(hb.cell (p:=ad.add (k*2+1)) (by rw [ZL];exact hbk)).trans (hc _ _ b)
 rw [<- ZcE] at d1
 exact ⟨ad,e,d0,d1⟩
def Zhu (k:Nat):List (Int×Int):=List.replicate k (0,1)
theorem Zmn (k:Nat):Zhu (k+1)=Zhu k++[(0,1)]:=List.replicate_succ'
theorem ZoX {P:List Int} {st:List Stg} {j:Nat} {m:List (Int×Int)}:ZdJ P st (j+1) m=if P.contains (j:Int)=true then ZdJ P st j m else (Zdx (ZcL st j).1 (ZcL st j).2 m).bind fun x=>ZdJ P st j (m.set j x):=rfl
end
section
open Go.RowKit
theorem Zrj (x y:Int):∀ u∈[Value.int .i64 x,.int .i64 y],u.oneCell'=true:=fun u hu=>by
 simp only [List.mem_cons,List.not_mem_nil,or_false] at hu
 rcases hu with rfl | rfl<;>rfl
theorem ZqT {s:Stg} {m:List (Int×Int)} (h:Zep (.inl (s.1,s.2))) (hm:ZF m) {x:Int×Int} (e:Zdx s.1 s.2 m=some x):OkR x:=ZhJ (x:=.inl (s.1,s.2)) h hm e
def Zht (P:List Int) (st:List Stg) (Z:List (Trm×Int)):List (Int×Int)×Int:=
 match (ZdJ P st 8 m0).bind (Zbk (ZaM Z)) with
 | none=>([],2)
 | some m=>(m,0)
theorem Zlm (w:World) (v vs vp:Value) (st:List Stg) (sel:List Trm) (piv:List Int) (h:Zkz w v st) (hs:Zal w vs sel) (hp:ZaT w vp piv) (h8:st.length=8) (hlen:sel.length=piv.length) (hl2:sel.length<=1000)
  (hst:∀ s∈st,Zep (.inl (s.1,s.2))/\s.1.length<=1000/\s.2.length<=1000) (hso:∀ s∈sel,TrmOk s) (hpv:∀ p∈piv,∃ n:Nat,p=n/\n<8) :
  Calls Tryz.prog 81 #[v,vs,vp] w (ZbJ w (Zht piv st (sel.zip piv))):=by
 obtain ⟨i0,hi,hz0,hz1,hz2⟩:=info_parts ZdA
 obtain ⟨A,c,rs,rfl,h2,h3,h4,h5,h6⟩:=h
 rw [h8] at h5 ⊢
 have hrn:rs.length=8:=by rw [<- h8,<- h4,List.length_map]
 have HN:=Lib.hid (And.intro hrn (And.intro h4 (And.intro h5 (And.intro h6 (And.intro h8 hst)))))
 have HM:=Lib.hid (And.intro hs (And.intro hp (And.intro hlen (And.intro hl2 (And.intro hso hpv)))))
 obtain ⟨Z,hZ⟩:∃ Z,Z=sel.zip piv:=⟨_,rfl⟩
 rw [<- hZ]
 have HZ:=Lib.hid hZ
 obtain ⟨Res,hRes⟩:∃ Res,Res=Zht piv st Z:=⟨_,rfl⟩
 rw [<- hRes]
 have HR:=Lib.hid hRes
 obtain ⟨As,cs,rfl⟩:∃ A c,vs=.slice A sel.length c:=by obtain ⟨A,c,_,e,_⟩:=hs;exact ⟨A,c,e⟩
 obtain ⟨Ap,cp,rfl⟩:∃ A c,vp=.slice A piv.length c:=by obtain ⟨A,c,e,_⟩:=hp;exact ⟨A,c,e⟩
 clear h2 h3 h4 h5 h6 hrn h8 hst hs hp hlen hl2 hso hpv hZ hRes
 go_enter Tryz.func81,Tryz.ntmps81
 go_wp2_with fail
 go_loopg [8,9] 8 (fun g v8 v9 wr=>∃ (k:Nat) (va:Value),va=v8/\v9=.int .i64 k/\k<=8/\g=8-k/\wr.ownsRow w.heap.size 25 2 va k (Zr (Zhu k))/\Below w.heap.size w wr)
 case atStart=>exact ⟨0,_,rfl,rfl,Nat.zero_le _,rfl,⟨rfl,.inl ⟨rfl,rfl⟩⟩,Below.refl _ _⟩
 case round=>
  obtain ⟨k,va,rfl,rfl,hk,hg,ho,hb⟩:=hrel
  by_cases hk8:k<8
  ·have i1:(k:Int)<8:=by omega
   have wk:IntKind.i64.wrap ((k:Int)+1)=(k:Int)+1:=IntWalk.i64_in _ (by omega)
   have a1:=Za wr (.cells #[.int .i64 0,.int .i64 1] 25)
   have NA:Zbl (wr.alloc (.cells #[.int .i64 0,.int .i64 1] 25)) 0 wr.heap.size [.int .i64 0,.int .i64 1]:=by
    have B:=Blk.start wr #[.int .i64 0,.int .i64 1] 25
    exact ⟨Nat.zero_le _,B.lt,fun j u hu=>by rw [B.cell j];simpa using hu⟩
   have OW:=Lib.hid (ho.kept (Zac a1 none) (by cases hv:va.ownBlock<;>simp))
   have NR:=Lib.hid (NA.reads (size:=2) rfl)
   have HB:=Lib.hid (hb.trans (a1.mono hb.size))
   have HK:=Lib.hid (And.intro hk8 hg)
   clear ho hb a1 NA hk hg hk8
   go_wp2_with (at_builtin;refine Zm _ rfl _ _ 23 rfl w.heap.size 25 i0 (.agg #[.int .i64 0,.int .i64 0]) 2 16 Tryz.underlying23 hi hz0 hz1 hz2 rfl (by decide) _ k (Zr (Zhu k)) rfl OW.out (wr.heap.size+1) (some ⟨wr.heap.size,0,none⟩) 1 1 [.int .i64 0,.int .i64 1] rfl NR.out (Zrj _ _) (by have:=HK.out;unfold maxLen;omega) (by have:=HK.out;omega) HB.out.size ?_)
   intro v9 w9 hown hgrow hat
   have bb:=HB.out.grown hgrow HB.out.size (fun b q=>(World.ownsRow.lt OW.out b q).1)
   have OK:=Lib.hid (And.intro (show w9.ownsRow w.heap.size 25 2 v9 (k+1) (Zr (Zhu (k+1))) from by rw [Zmn,ZdF];exact hown) bb)
   clear hown hgrow hat bb OW NR
   go_wp2_with fail
   go_roundg (8-(k+1))
   case measure=>have:=HK.out;omega
   case rel=>exact ⟨k+1,v9,rfl,by push_cast;rfl,by have:=HK.out;omega,rfl,OK.out.1,OK.out.2⟩
  ·obtain rfl:k=8:=by omega
   obtain ⟨gb,cap,rfl⟩:∃ g cap,va=.slice (some ⟨g,0,none⟩) 8 cap:=by
    rcases ho.2 with ⟨_,q⟩ | ⟨g,cap,_,e,_⟩
    ·omega
    ·exact ⟨g,cap,e⟩
   have D0:=Lib.hid (show WitS w wr gb cap m0 from ⟨ho,rfl,fun x hx=>by rw [List.eq_of_mem_replicate hx];exact Zah,hb⟩)
   clear ho hb hg hk hk8
   go_upto_region 7 with fail
   generalize wr=wo at *
   go_wp2_with fail
   go_loopg [10] 8 (fun g v10 wr=>∃ (k:Nat) (m:List (Int×Int)),v10=.int .i64 ((k:Int)-1)/\k<=8/\g=k/\ZdJ piv st 8 m0=ZdJ piv st k m/\WitS w wr gb cap m)
   case atStart=>exact ⟨8,m0,by simp,Nat.le_refl _,rfl,rfl,D0.out⟩
   case round=>
    clear D0
    obtain ⟨k,m,rfl,hk,hg,hwk,D⟩:=hrel
    cases k with
    | zero=>
     have hwz:ZdJ piv st 8 m0=some m:=hwk
     have i0':¬ (0:Int)<=(((0:Nat):Int)-1):=by omega
     have RS:=Lib.hid (show Res=(match Zbk (ZaM Z) m with | none=>([],2) | some m'=>(m',0)) from by rw [HR.out];unfold Zht;rw [hwz];rfl)
     have D1:=Lib.hid D
     have hml:=HM.out.2.2.2.1
     clear hwk hwz D hk hg
     obtain ⟨ns,hns⟩:∃ ns,sel.length=ns:=⟨_,rfl⟩
     rw [hns]
     rw [hns] at hml
     go_upto_region 15 with fail
     generalize hwo2:wr=wo2 at *
     go_wp2_with fail
     go_loopg [13] ns (fun g v13 wr=>∃ (i:Nat) (m':List (Int×Int)),v13=.int .i64 i/\i<=ns/\g=ns-i/\Zbk (ZaM (Z.take i)) m=some m'/\WitS w wr gb cap m')
     case atStart=>exact ⟨0,m,rfl,Nat.zero_le _,rfl,rfl,D1.out⟩
     case round=>
      clear D1
      obtain ⟨i,m',rfl,hk,hg,hwi,D⟩:=hrel
      have hzl:Z.length=ns:=by rw [HZ.out,List.length_zip,<- HM.out.2.2.1,hns];exact Nat.min_self _
      by_cases hin:i=ns
      ·have he:Z.take i=Z:=by rw [hin,<- hzl];exact List.take_length
       rw [he] at hwi
       have FIN:=Lib.hid (show ZbJ w Res (.returned (.tuple #[.slice (some ⟨gb,0,none⟩) 8 cap,.int .i64 0])) wr from by
        have hr:Res=(m',0):=by rw [RS.out,hwi]
        rw [hr]
        exact ⟨some ⟨gb,0,none⟩,cap,by rw [D.len],by rw [D.len];exact D.rats,D.ok,D.below⟩)
       subst hin
       clear hk hg D he hwi hzl
       go_wp2_with fail
       go_ret2
       exact FIN.out
      ·have hlt:i<ns:=by omega
       have hm1:=HM.out.1
       obtain ⟨A2,c2,ss,es,_,_,g4,g5,g6⟩:=hm1
       have ea:As=A2:=by injection es
       rw [<- ea,hns] at g5
       clear es ea
       have hsn:ss.length=ns:=by rw [<- hns,<- g4,List.length_map]
       obtain ⟨y,hy⟩:∃ y,ss[i]? = some y:=⟨_,List.getElem?_eq_getElem (by omega)⟩
       have hys:sel[i]? = some y.2:=by rw [<- g4,List.getElem?_map,hy];rfl
       obtain ⟨p,hpi⟩:∃ p,piv[i]? = some p:=⟨_,List.getElem?_eq_getElem (by rw [<- HM.out.2.2.1,hns];exact hlt)⟩
       obtain ⟨p8,hp8,hp9⟩:=HM.out.2.2.2.2.2 p (List.mem_of_getElem? hpi)
       have hzi:Z[i]? = some (y.2,p):=by rw [HZ.out,List.getElem?_zip_eq_some];exact ⟨hys,hpi⟩
       have nx:Zbk (ZaM (Z.take (i+1))) m=(Zd2 (.inr y.2) m').bind fun x=>some (m'.set p8 x):=by
        rw [List.take_add_one,hzi]
        show Zbk (ZaM (Z.take i++[(y.2,p)])) m=_
        unfold ZaM at hwi ⊢
        rw [List.map_append,ZeW,hwi,Option.bind_some,List.map_singleton,Zbk,hp8]
        rfl
       have nn:Zd2 (.inr y.2) m'=none->Zbk (ZaM Z) m=none:=fun q=>by
        have:ZaM Z=ZaM (Z.take (i+1))++ZaM (Z.drop (i+1)):=by unfold ZaM;rw [<- List.map_append,List.take_append_drop]
        rw [this,ZeW,nx,q]
        rfl
       obtain ⟨ad,rfl,d0,d1,d2⟩:=ZaZ g5 D.below hy (by omega)
       have hip:=HM.out.2.1
       obtain ⟨A3,c3,ep,_,_,f4⟩:=hip
       have eb:Ap=A3:=by injection ep
       rw [<- eb] at f4
       clear ep eb
       obtain ⟨adp,rfl,dp⟩:=ZbL f4 D.below hpi (by rw [<- HM.out.2.2.1];omega)
       have tso:=HM.out.2.2.2.2.1 y.2 (List.mem_of_getElem? hys)
       have hry:=(g6 y (List.mem_of_getElem? hy)).below D.below
       have VA:=Lib.hid (Zgk wr y.1 _ y.2.1 m' y.2.2.1 y.2.2.2 hry D.rats tso.ok.wide D.ok.wide tso.k.wide.1.1 tso.k.wide.1.2 tso.k.wide.2.1 tso.k.wide.2.2)
       have ju:=ZcH (ZA (ZS y.2.1 m' y.2.2).1,(ZS y.2.1 m' y.2.2).2)
       have vok:=fun (x:Int×Int) (q:Zd2 (.inr y.2) m'=some x)=>ZhJ (x:=.inr y.2) tso D.ok q
       have vz:Zd2 (.inr y.2) m'=okO (ZA (ZS y.2.1 m' y.2.2).1,(ZS y.2.1 m' y.2.2).2):=rfl
       have wk:IntKind.i64.wrap ((i:Int)+1)=(i:Int)+1:=IntWalk.i64_in _ (by omega)
       have i1:(i:Int)<(ns:Int):=by omega
       have i2:(0:Int)<=(i:Int):=by omega
       have ip:i<piv.length:=by rw [<- HM.out.2.2.1,hns];exact hlt
       have ip2:(i:Int)<(piv.length:Int):=by omega
       subst hp8
       have i5:(0:Int)<=(p8:Int):=by omega
       have i6:(p8:Int)<8:=by omega
       obtain ⟨yv,yl,y1,y2⟩:=y
       dsimp only at *
       obtain ⟨Ay,cy,rfl⟩:=Zd hry
       generalize ZS yl m' (y1,y2)=V at *
       obtain ⟨⟨q1,q2⟩,er⟩:=V
       unfold ZA at ju vz
       dsimp only at *
       rw [<- vz] at ju
       have JU:=Lib.hid ju
       have VOK:=Lib.hid vok
       have NX:=Lib.hid (And.intro nx nn)
       have HK:=Lib.hid (And.intro hlt (And.intro hg hp9))
       have D1:=Lib.hid D
       clear ju vok nx nn vz hry tso f4 hpi hzi hys hy g4 g5 g6 hsn hlt hk hg hwi hin hzl D hp9
       go_upto_region 18 with (go_at_call 11;(with_reducible refine VA.out.mono ?_);rintro e5 w5 ⟨rfl,hb5⟩)
       have a6:=Za w5 (.cells #[.int .i64 q1,.int .i64 q2] 25)
       have D6:=Lib.hid ((D1.out.keep hb5).keep a6)
       have V6:=Lib.hid (Blk.start w5 #[.int .i64 q1,.int .i64 q2] 25)
       have dp6:=ZU a6 (ZU hb5 dp)
       clear a6 hb5 d0 d1 d2 dp
       generalize w5.heap.size=bv at *
       generalize w5.alloc (.cells #[.int .i64 q1,.int .i64 q2] 25)=w6 at *
       rcases JU.out with ⟨he,hz⟩ | ⟨he,hz⟩
       ·subst he
        have ov:=VOK.out (-q1,q2) hz
        have wn:IntKind.i64.wrap (-q1)=-q1:=IntWalk.i64_in _ (by have:=Zp2 ov;dsimp only at this;omega)
        have NX2:=Lib.hid (show Zbk (ZaM (Z.take (i+1))) m=some (m'.set p8 (-q1,q2)) from by rw [NX.out.1,hz];rfl)
        obtain ⟨u,u0,u1,q0,q1'⟩:=D6.out.cells (p:=p8) (by have:=HK.out;omega)
        have D8:=Lib.hid (D6.out.put p8 (-q1,q2) ov)
        have c0:w6.cell? ⟨bv,0,none⟩=some (.int .i64 q1):=V6.out.cell 0
        have c1:w6.cell? ⟨bv,1,none⟩=some (.int .i64 q2):=V6.out.cell 1
        clear ov hz
        go_upto_region 20 with fail
        go_region
        all_goals
         go_wp2_with fail
         go_roundg (ns-(i+1))
         case measure=>have:=HK.out;omega
         case rel=>exact ⟨i+1,m'.set p8 (-q1,q2),by push_cast;rfl,by have:=HK.out;omega,rfl,NX2.out,⟨D8.out.o,D8.out.len,D8.out.ok,D8.out.below.drew⟩⟩
       ·have ne:(er != 0)=true:=by simpa using he
        have FIN:=Lib.hid (show ZbJ w Res (.returned (.tuple #[.slice none 0 0,.int .i64 2])) w6 from by
         have hr:Res=([],2):=by rw [RS.out,NX.out.2 hz]
         rw [hr]
         exact Zbe D6.out.below)
        clear hz he
        go_wp2_with fail
        go_ret2
        exact FIN.out
    | succ j=>
     have e1:(((j+1:Nat):Int)-1)=(j:Int):=by omega
     rw [e1]
     have i0':(0:Int)<=(j:Int):=by omega
     have wk:IntKind.i64.wrap ((j:Int)-1)=(j:Int)-1:=IntWalk.i64_in _ (by omega)
     have hip:=HM.out.2.1.below D.below
     have cn:=Zqt wr _ piv (j:Int) hip
     obtain ⟨B,hc⟩:∃ B,piv.contains (j:Int)=B:=⟨_,rfl⟩
     rw [hc] at cn
     have CN:=Lib.hid cn
     replace hwk:=hwk.trans (ZoX (P:=piv) (st:=st) (j:=j) (m:=m))
     have D1:=Lib.hid D
     have HK:=Lib.hid (And.intro hk hg)
     clear e1 hip D hk hg cn
     cases B with
     | true=>
      replace hwk:=hwk.trans (if_pos hc)
      have HW:=Lib.hid hwk
      clear hwk hc
      go_wp2_with (go_at_call 106;(with_reducible refine CN.out.mono ?_);rintro e w2 ⟨rfl,rfl⟩)
      go_roundg j
      case measure=>have:=HK.out;omega
      case rel=>exact ⟨j,m,rfl,by have:=HK.out;omega,rfl,HW.out,D1.out⟩
     | false=>
      replace hwk:=hwk.trans (if_neg (by rw [hc];decide))
      obtain ⟨x,hx⟩:∃ x,rs[j]? = some x:=⟨_,List.getElem?_eq_getElem (by have:=HN.out.1;have:=HK.out;omega)⟩
      have hxt:st[j]? = some x.2:=by rw [<- HN.out.2.1,List.getElem?_map,hx];rfl
      have hsa:ZcL st j=x.2:=by unfold ZcL;rw [hxt];rfl
      rw [hsa] at hwk
      obtain ⟨ad,rfl,d0,d1⟩:=ZnI HN.out.2.2.1 D1.out.below hx (by omega)
      obtain ⟨q1,q2⟩:=HN.out.2.2.2.1 x (List.mem_of_getElem? hx)
      obtain ⟨f1,f2,f3⟩:=HN.out.2.2.2.2.2 x.2 (List.mem_of_getElem? hxt)
      have HO:=Lib.hid (Zl7 wr x.1.1 x.1.2 _ m x.2.1 x.2.2 (q1.below D1.out.below) (q2.below D1.out.below) (fun r hr=>⟨(f1.1 r hr).ok.wide,(f1.1 r hr).k.wide⟩) (fun r hr=>⟨(f1.2 r hr).ok.wide,(f1.2 r hr).k.wide⟩) D1.out.rats D1.out.ok.wide f2 f3)
      have ok:=fun (y:Int×Int) (hy:Zdx x.2.1 x.2.2 m=some y)=>ZqT (s:=x.2) f1 D1.out.ok hy
      have i8:(j:Int)<8:=by have:=HK.out;omega
      obtain ⟨⟨xa,xb⟩,xs⟩:=x
      dsimp only at *
      have OKK:=Lib.hid ok
      have HW:=Lib.hid hwk
      clear ok hwk hc hsa hxt hx q1 q2 f1 f2 f3
      go_upto_region 10 with (go_at_call 106;(with_reducible refine CN.out.mono ?_);rintro e w2 ⟨rfl,rfl⟩)
      go_upto_region 11 with (go_at_call 107;(with_reducible refine HO.out.mono ?_);rintro e5 w5 ⟨⟨cx,cy,cz,rfl,hz⟩,hb5⟩)
      have a6:=Za w5 (.cells #[.int .i64 cx,.int .i64 cy] 25)
      have D6:=Lib.hid ((D1.out.keep hb5).keep a6)
      have V6:=Lib.hid (Blk.start w5 #[.int .i64 cx,.int .i64 cy] 25)
      clear a6 hb5 d0 d1
      generalize w5.heap.size=bv at *
      generalize w5.alloc (.cells #[.int .i64 cx,.int .i64 cy] 25)=w6 at *
      rcases hz with ⟨rfl,hz⟩ | ⟨hne,hz⟩
      ·have ov:=OKK.out (cx,cy) hz
       have NX:=Lib.hid (show ZdJ piv st 8 m0=ZdJ piv st j (m.set j (cx,cy)) from by rw [HW.out,hz];rfl)
       obtain ⟨u,u0,u1,q0,q1⟩:=D6.out.cells (p:=j) (by omega)
       have D8:=Lib.hid (D6.out.put j (cx,cy) ov)
       have c0:=V6.out.cell 0
       have c1:=V6.out.cell 1
       clear ov hz
       go_wp2_with fail
       go_roundg j
       case measure=>have:=HK.out;omega
       case rel=>exact ⟨j,m.set j (cx,cy),rfl,by have:=HK.out;omega,rfl,NX.out,D8.out⟩
      ·have ne:(cz != 0)=true:=by simpa using hne
       have FIN:=Lib.hid (show ZbJ w Res (.returned (.tuple #[.slice none 0 0,.int .i64 2])) w6 from by
        rw [HR.out,show Zht piv st Z=([],2) from by unfold Zht;rw [HW.out,hz];rfl]
        exact Zbe D6.out.below)
       clear hz hne
       go_wp2_with fail
       go_ret2
       exact FIN.out
end
end Go.Proofs.YtolookeddknmoaaGreat
