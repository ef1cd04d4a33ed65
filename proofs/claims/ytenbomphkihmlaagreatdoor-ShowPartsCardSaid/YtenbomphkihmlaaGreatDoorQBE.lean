import Derived.Test.YtenbomphkihmlaaGreatDoorQBB
set_option maxRecDepth 100000
set_option maxHeartbeats 8000000
namespace Go.Proofs.YtenbomphkihmlaaGreatDoor
section
open Go.RowKit
def ZcE (ns:List Nd) (i:Nat) (k:Int):Nat:=((ns.take i).map fun d=>d.kids.count k).sum
theorem ZeH {ns:List Nd} {i:Nat} {d:Nd} {k:Int} (hd:ns[i]? = some d):ZcE ns (i+1) k=ZcE ns i k+d.kids.count k:=by
 unfold ZcE
 rw [List.take_add_one,hd,List.map_append,List.sum_append]
 simp
theorem ZiP {ns:List Nd} {k:Int}:ZcE ns ns.length k=Zcb ns k:=by
 unfold ZcE Zcb
 rw [List.take_length]
theorem ZgR {l:List Int} {j:Nat} {x k:Int} (h:l[j]? = some x):(l.take (j+1)).count k=(l.take j).count k+(if x==k then 1 else 0):=by
 rw [List.take_add_one,h,List.count_append]
 congr 1
 show [x].count k=_
 rw [List.count_singleton]
theorem Zc2 {w:World} {A:Option Addr} {c:Nat} {ns:List Nd} (hN:Zf w (.slice A ns.length c) ns) {q:Nat} {d:Nd} (hd:ns[q]? = some d):∃ (ad:Addr) (B:Option Addr) (e:Nat),A=some ad/\d.kids.length<=maxLen/\(∀ (j:Nat) (x:Int),d.kids[j]? = some x->∃ ak:Addr,B=some ak/\∀ wr:World,Below w.heap.size w wr->wr.cell? (ak.add j)=some (.int .i64 x))/\∀ wr:World,Below w.heap.size w wr->wr.cell? ⟨(ad.add (q*5)).block,(ad.add (q*5)).off+3,none⟩=some (.slice B d.kids.length e):=by
 obtain ⟨A',c',rs,ev,g2,g3,g4,g5,g6⟩:=hN
 injection ev with ea _ ec
 subst ea ec
 have hq:=(List.getElem?_eq_some_iff.mp hd).1
 obtain ⟨y,hy⟩:∃ y,rs[q]? = some y:=⟨_,List.getElem?_eq_getElem (by have:=congrArg List.length g4;rw [List.length_map] at this;omega)⟩
 have hyd:y.2=d:=by
  have:ns[q]? = some y.2:=by rw [<- g4,List.getElem?_map,hy];rfl
  rw [hd] at this
  exact (Option.some.inj this).symm
 obtain ⟨ad,rfl,_⟩:=ZK g5 (Below.refl _ _) hy (by omega)
 obtain ⟨_,_,B3,e3,h3,j1,j2,j3⟩:=g6 y (List.mem_of_getElem? hy)
 rw [hyd] at j1 j3 h3
 refine ⟨ad,B3,e3,rfl,by omega,fun j x hx=>?_,fun wr hb=>?_⟩
 ·obtain ⟨ak,e,_⟩:=Zp j3 (Below.refl _ _) hx (by have:=(List.getElem?_eq_some_iff.mp hx).1;omega)
  refine ⟨ak,e,fun wr hb=>?_⟩
  obtain ⟨ak',e',h⟩:=Zp j3 hb hx (by have:=(List.getElem?_eq_some_iff.mp hx).1;omega)
  rw [e] at e'
  injection e' with e'
  subst e'
  exact h
 ·obtain ⟨ad',e,_,_,_,d3,_⟩:=ZK g5 hb hy (by omega)
  injection e with e
  subst e
  rw [h3] at d3
  exact d3
def Zbw (ns:List Nd):Prop:=∀ d∈ns,d.words.length*16<=140737488351232/\d.nums.length*8<=140737488351232/\d.kids.length*8<=140737488351232
theorem Zgu {ns:List Nd} (hs:Zbw ns) (k:Int):∀ i,i<=ns.length->ZcE ns i k<=i*140737488355328
 | 0,_=>by simp [ZcE]
 | i+1,h=>by
  have hd:ns[i]? = some ns[i]:=List.getElem?_eq_getElem (by omega)
  have:=Zgu hs k i (by omega)
  have:=(hs _ (List.mem_of_getElem? hd)).2.2
  have:=List.count_le_length (a:=k) (l:=ns[i].kids)
  rw [ZeH hd]
  omega
theorem ZfU (w:World) (v:Value) (ns:List Nd) (k:Nat) (hN:Zf w v ns) (hl:ns.length<=1500) (hs:Zbw ns) :
  Calls Tryz.prog 14 #[v,.int .i64 k] w fun e w'=>e=.returned (.int .i64 (Zcb ns k))/\w=w':=by
 obtain ⟨A,c,rfl⟩:∃ A c,v=.slice A ns.length c:=by obtain ⟨A,c,_,e,_⟩:=hN;exact ⟨A,c,e⟩
 have HN:=Lib.hid (And.intro hN (And.intro hl hs))
 clear hN hl hs
 go_enter Tryz.func14,Tryz.ntmps14
 go_wp2_with fail
 go_loopg [5,6] ns.length (fun gk v5 v6 wr=>w=wr/\∃ i:Nat,v5=.int .i64 (ZcE ns i k)/\v6=.int .i64 i/\i<=ns.length/\gk=ns.length-i)
 case atStart=>exact ⟨rfl,0,rfl,rfl,Nat.zero_le _,rfl⟩
 case round=>
  obtain ⟨rfl,i,rfl,rfl,hi,hgk⟩:=hrel
  by_cases hin:i=ns.length
  ·have ti:¬ (i:Int)<(ns.length:Int):=by omega
   have FIN:=Lib.hid (show ZcE ns i k=Zcb ns k by rw [hin,ZiP])
   clear hi hgk hin
   go_wp2_with fail
   go_ret
   exact ⟨by rw [<- FIN.out];rfl,rfl⟩
  ·have hlt:i<ns.length:=by omega
   have hd:ns[i]? = some ns[i]:=List.getElem?_eq_getElem hlt
   obtain ⟨ad,B,e,rfl,hkl,hkc,hkk⟩:=Zc2 HN.out.1 hd
   have d3:=hkk _ (Below.refl _ _)
   have hle:=Zgu HN.out.2.2 (k:Int) i hi
   have hms:=(HN.out.2.2 _ (List.mem_of_getElem? hd)).2.2
   have nxt:=ZeH (k:=(k:Int)) hd
   have ti:(i:Int)<(ns.length:Int):=by omega
   have ti2:(0:Int)<=(i:Int):=by omega
   have wk:IntKind.i64.wrap ((i:Int)+1)=(i:Int)+1:=IntWalk.i64_in _ (by have:=HN.out.2.1;omega)
   generalize ns[i].kids=ks at *
   generalize ZcE ns i k=cc at *
   have HI:=Lib.hid (And.intro hgk (And.intro hlt (And.intro nxt (And.intro hkc (And.intro hle (And.intro hms HN.out.2.1))))))
   clear hgk hlt nxt hkc hkk hle hms hd hi hin
   go_wp2_with fail
   go_loopg [5,7] ks.length (fun gk2 v5 v7 wr=>w=wr/\∃ j:Nat,v5=.int .i64 ((cc+(ks.take j).count (k:Int):Nat):Int)/\v7=.int .i64 j/\j<=ks.length/\gk2=ks.length-j)
   case atStart=>exact ⟨rfl,0,by simp,rfl,Nat.zero_le _,rfl⟩
   case round=>
    obtain ⟨rfl,j,rfl,rfl,hj,hg2⟩:=hrel
    by_cases hjn:j=ks.length
    ·have tj:¬ (j:Int)<(ks.length:Int):=by omega
     have e2:ks.take j=ks:=by rw [hjn];exact List.take_length
     rw [e2]
     clear hj hg2 hjn e2
     go_wp2_with fail
     go_roundg (ns.length-(i+1))
     case measure=>have:=HI.out;omega
     case rel=>exact ⟨rfl,i+1,by rw [HI.out.2.2.1];first | rfl | (push_cast;rfl),by push_cast;rfl,by have:=HI.out;omega,rfl⟩
    ·have hjl:j<ks.length:=by omega
     obtain ⟨x,hx⟩:∃ x,ks[j]? = some x:=⟨_,List.getElem?_eq_getElem hjl⟩
     obtain ⟨ak,rfl,hak⟩:=HI.out.2.2.2.1 j x hx
     have dx:=hak _ (Below.refl _ _)
     have cm:=ZgR (k:=(k:Int)) hx
     have cl:(ks.take j).count (k:Int)<=j:=Nat.le_trans List.count_le_length (by rw [List.length_take];omega)
     have tj:(j:Int)<(ks.length:Int):=by omega
     have tj2:(0:Int)<=(j:Int):=by omega
     have wj:IntKind.i64.wrap ((j:Int)+1)=(j:Int)+1:=IntWalk.i64_in _ (by have:=HI.out;omega)
     have wc:IntKind.i64.wrap (((cc+(ks.take j).count (k:Int):Nat):Int)+1)=((cc+(ks.take j).count (k:Int):Nat):Int)+1:=IntWalk.i64_in _ (by have:=HI.out;omega)
     have wc2:IntKind.i64.wrap ((cc:Int)+((ks.take j).count (k:Int):Nat)+1)=(cc:Int)+((ks.take j).count (k:Int):Nat)+1:=IntWalk.i64_in _ (by have:=HI.out;omega)
     have HJ:=Lib.hid (And.intro hjl (And.intro hg2 cm))
     clear hjl hg2 cm cl hak hx hj hjn
     generalize (ks.take j).count (k:Int)=m at *
     cases q:(x==(k:Int))
     ·go_wp2_with fail
      go_roundg (ks.length-(j+1))
      case measure=>have:=HJ.out;omega
      case rel=>exact ⟨rfl,j+1,by rw [HJ.out.2.2,q];first | rfl | (push_cast;rfl) | (push_cast;simp),by push_cast;rfl,by have:=HJ.out;omega,rfl⟩
     ·go_wp2_with fail
      go_roundg (ks.length-(j+1))
      case measure=>have:=HJ.out;omega
      case rel=>exact ⟨rfl,j+1,by rw [HJ.out.2.2,q];first | rfl | (push_cast;rfl) | (push_cast;rw [Int.add_assoc];rfl) | (push_cast;simp) | (simp;omega),by push_cast;rfl,by have:=HJ.out;omega,rfl⟩
end
section
open Go.RowKit
def Zfh (ns:List Nd) (j:Nat):Prop:=∀ (i:Nat) (d:Nd),i<j->ns[i]? = some d->Zcb ns i=(if i=0 then 0 else 1)/\∀ k∈d.kids,(i:Int)<k/\k<(ns.length:Int)
def inB (n i:Nat) (l:List Int):Bool:=l.all fun k=>decide ((i:Int)<k)&&decide (k<(n:Int))
theorem Zfh.more {ns:List Nd} {j:Nat} {d:Nd} (h:Zfh ns j) (hd:ns[j]? = some d) (hc:Zcb ns j=(if j=0 then 0 else 1)) (hk:inB ns.length j d.kids=true):Zfh ns (j+1):=fun i e hi he=>by
 by_cases q:i=j
 ·subst q
  obtain rfl:d=e:=Option.some.inj (hd.symm.trans he)
  refine ⟨hc,fun k hkk=>?_⟩
  have:=List.all_eq_true.mp hk k hkk
  simpa using this
 ·exact h i e (by omega) he
theorem Zgl (w:World) (v:Value) (ns:List Nd) (hN:Zf w v ns) (hl:ns.length<=1500) (hs:Zbw ns) :
  Calls Tryz.prog 8 #[v] w fun e w'=>OkB (ZbY ns) e/\w=w':=by
 have PA:=Lib.hid (fun (k:Nat)=>ZfU w v ns k hN hl hs)
 obtain ⟨A,c,rfl⟩:∃ A c,v=.slice A ns.length c:=by obtain ⟨A,c,_,e,_⟩:=hN;exact ⟨A,c,e⟩
 have HN:=Lib.hid (And.intro hN (And.intro hl hs))
 clear hN hl hs
 go_enter Tryz.func8,Tryz.ntmps8
 go_wp2_with fail
 go_loopg [3] ns.length (fun gk v3 wr=>w=wr/\∃ i:Nat,v3=.int .i64 i/\i<=ns.length/\gk=ns.length-i/\Zfh ns i)
 case atStart=>exact ⟨rfl,0,rfl,Nat.zero_le _,rfl,fun i _ h=>absurd h (Nat.not_lt_zero _)⟩
 case round=>
  obtain ⟨rfl,i,rfl,hi,hgk,hL⟩:=hrel
  by_cases hin:i=ns.length
  ·have ti:¬ (i:Int)<(ns.length:Int):=by omega
   by_cases h0:0<ns.length
   ·have FIN:=Lib.hid (show ZbY ns from ⟨h0,fun j d hd=>hL j d (by have:=(List.getElem?_eq_some_iff.mp hd).1;omega) hd⟩)
    have tz:(0:Int)<(ns.length:Int):=by omega
    clear hi hgk hL hin h0
    go_wp2_with fail
    go_ret
    exact ⟨Zae FIN.out,rfl⟩
   ·have tz:¬ (0:Int)<(ns.length:Int):=by omega
    have tz2:(ns.length:Int)<=0:=by omega
    have H0:=Lib.hid h0
    clear hi hgk hL hin h0
    go_wp2_with fail
    go_ret
    exact ⟨by first | exact Zj | (show OkB _ (.returned (.bool (decide (0<ns.length))));rw [decide_eq_false H0.out];exact Zj),rfl⟩
  ·have hlt:i<ns.length:=by omega
   have hd:ns[i]? = some ns[i]:=List.getElem?_eq_getElem hlt
   obtain ⟨ad,B,e,rfl,hkl,hkc,hkk⟩:=Zc2 HN.out.1 hd
   have d3:=hkk _ (Below.refl _ _)
   have hms:=(HN.out.2.2 _ (List.mem_of_getElem? hd)).2.2
   have ti:(i:Int)<(ns.length:Int):=by omega
   have ti2:(0:Int)<=(i:Int):=by omega
   have wk:IntKind.i64.wrap ((i:Int)+1)=(i:Int)+1:=IntWalk.i64_in _ (by have:=HN.out.2.1;omega)
   have MR:=Lib.hid (fun hc hk=>hL.more hd hc hk)
   have PI:=Lib.hid (PA.out i)
   generalize ns[i].kids=ks at *
   generalize Zcb ns (i:Int)=cc at *
   have HI:=Lib.hid (And.intro hgk (And.intro hlt (And.intro hkc hms)))
   clear hgk hlt hkc hkk hms hd hi hin hL
   by_cases hz:i=0
   ·have ez:((i:Int)==0)=true:=by rw [beq_iff_eq];omega
    by_cases hc:cc=0
    ·have tc:((cc:Int)==0)=true:=by rw [beq_iff_eq];omega
     have tc2:((cc:Int) != 0)=false:=by rw [bne,tc];rfl
     have MR2:=Lib.hid (MR.out (by rw [hc];simp [hz]))
     clear hz hc
     go_wp2_with (go_at_call 14;(with_reducible refine PI.out.mono ?_);rintro e1 w1 ⟨rfl,rfl⟩)
     go_loopg [5] ks.length (fun gk2 v5 wr=>w=wr/\∃ j:Nat,v5=.int .i64 j/\j<=ks.length/\gk2=ks.length-j/\inB ns.length i (ks.take j)=true)
     case atStart=>exact ⟨rfl,0,rfl,Nat.zero_le _,rfl,rfl⟩
     case round=>
      obtain ⟨rfl,j,rfl,hj,hg2,hall⟩:=hrel
      by_cases hjn:j=ks.length
      ·have tj:¬ (j:Int)<(ks.length:Int):=by omega
       have e2:ks.take j=ks:=by rw [hjn];exact List.take_length
       rw [e2] at hall
       have NX:=Lib.hid (MR2.out hall)
       clear hj hg2 hjn e2 hall
       go_wp2_with fail
       go_roundg (ns.length-(i+1))
       case measure=>have:=HI.out;omega
       case rel=>exact ⟨rfl,i+1,by push_cast;rfl,by have:=HI.out;omega,rfl,NX.out⟩
      ·have hjl:j<ks.length:=by omega
       obtain ⟨x,hx⟩:∃ x,ks[j]? = some x:=⟨_,List.getElem?_eq_getElem hjl⟩
       obtain ⟨ak,rfl,hak⟩:=HI.out.2.2.1 j x hx
       have dx:=hak _ (Below.refl _ _)
       have nxt:=ZaZ (f:=fun k=>decide ((i:Int)<k)&&decide (k<(ns.length:Int))) hx hall
       have tj:(j:Int)<(ks.length:Int):=by omega
       have tj2:(0:Int)<=(j:Int):=by omega
       have wj:IntKind.i64.wrap ((j:Int)+1)=(j:Int)+1:=IntWalk.i64_in _ (by have:=HI.out;omega)
       have HJ:=Lib.hid (And.intro hjl (And.intro hg2 nxt))
       clear hjl hg2 nxt hak hx hj hjn hall
       by_cases q1:x<=(i:Int)
       ·go_wp2_with fail
        go_ret
        exact ⟨Zj,rfl⟩
       ·have q1':(i:Int)<x:=by omega
        by_cases q2:(ns.length:Int)<=x
        ·go_wp2_with fail
         go_ret
         exact ⟨Zj,rfl⟩
        ·have q2':x<(ns.length:Int):=by omega
         have NY:=Lib.hid (HJ.out.2.2.trans (by rw [decide_eq_true q1',decide_eq_true q2'];rfl:_=true))
         go_wp2_with fail
         go_roundg (ks.length-(j+1))
         case measure=>have:=HJ.out;omega
         case rel=>exact ⟨rfl,j+1,by push_cast;rfl,by have:=HJ.out;omega,rfl,NY.out⟩
    ·have tc:((cc:Int)==0)=false:=by rw [beq_eq_false_iff_ne];omega
     have tc2:((cc:Int) != 0)=true:=by rw [bne,tc];rfl
     clear hz hc
     go_wp2_with (go_at_call 14;(with_reducible refine PI.out.mono ?_);rintro e1 w1 ⟨rfl,rfl⟩)
     go_ret
     exact ⟨Zj,rfl⟩
   ·have ez:((i:Int)==0)=false:=by rw [beq_eq_false_iff_ne];omega
    by_cases hc:cc=1
    ·have tc:((cc:Int)==1)=true:=by rw [beq_iff_eq];omega
     have tc2:((cc:Int) != 1)=false:=by rw [bne,tc];rfl
     have MR2:=Lib.hid (MR.out (by rw [hc];simp [hz]))
     clear hz hc
     go_wp2_with (go_at_call 14;(with_reducible refine PI.out.mono ?_);rintro e1 w1 ⟨rfl,rfl⟩)
     go_loopg [5] ks.length (fun gk2 v5 wr=>w=wr/\∃ j:Nat,v5=.int .i64 j/\j<=ks.length/\gk2=ks.length-j/\inB ns.length i (ks.take j)=true)
     case atStart=>exact ⟨rfl,0,rfl,Nat.zero_le _,rfl,rfl⟩
     case round=>
      obtain ⟨rfl,j,rfl,hj,hg2,hall⟩:=hrel
      by_cases hjn:j=ks.length
      ·have tj:¬ (j:Int)<(ks.length:Int):=by omega
       have e2:ks.take j=ks:=by rw [hjn];exact List.take_length
       rw [e2] at hall
       have NX:=Lib.hid (MR2.out hall)
       clear hj hg2 hjn e2 hall
       go_wp2_with fail
       go_roundg (ns.length-(i+1))
       case measure=>have:=HI.out;omega
       case rel=>exact ⟨rfl,i+1,by push_cast;rfl,by have:=HI.out;omega,rfl,NX.out⟩
      ·have hjl:j<ks.length:=by omega
       obtain ⟨x,hx⟩:∃ x,ks[j]? = some x:=⟨_,List.getElem?_eq_getElem hjl⟩
       obtain ⟨ak,rfl,hak⟩:=HI.out.2.2.1 j x hx
       have dx:=hak _ (Below.refl _ _)
       have nxt:=ZaZ (f:=fun k=>decide ((i:Int)<k)&&decide (k<(ns.length:Int))) hx hall
       have tj:(j:Int)<(ks.length:Int):=by omega
       have tj2:(0:Int)<=(j:Int):=by omega
       have wj:IntKind.i64.wrap ((j:Int)+1)=(j:Int)+1:=IntWalk.i64_in _ (by have:=HI.out;omega)
       have HJ:=Lib.hid (And.intro hjl (And.intro hg2 nxt))
       clear hjl hg2 nxt hak hx hj hjn hall
       by_cases q1:x<=(i:Int)
       ·go_wp2_with fail
        go_ret
        exact ⟨Zj,rfl⟩
       ·have q1':(i:Int)<x:=by omega
        by_cases q2:(ns.length:Int)<=x
        ·go_wp2_with fail
         go_ret
         exact ⟨Zj,rfl⟩
        ·have q2':x<(ns.length:Int):=by omega
         have NY:=Lib.hid (HJ.out.2.2.trans (by rw [decide_eq_true q1',decide_eq_true q2'];rfl:_=true))
         go_wp2_with fail
         go_roundg (ks.length-(j+1))
         case measure=>have:=HJ.out;omega
         case rel=>exact ⟨rfl,j+1,by push_cast;rfl,by have:=HJ.out;omega,rfl,NY.out⟩
    ·have tc:((cc:Int)==1)=false:=by rw [beq_eq_false_iff_ne];omega
     have tc2:((cc:Int) != 1)=true:=by rw [bne,tc];rfl
     clear hz hc
     go_wp2_with (go_at_call 14;(with_reducible refine PI.out.mono ?_);rintro e1 w1 ⟨rfl,rfl⟩)
     go_ret
     exact ⟨Zj,rfl⟩
def ZcL (ns:List Nd):Prop:=∀ (i:Nat) (d:Nd),ns[i]? = some d->∀ k∈d.kids,(i:Int)<k/\k<(ns.length:Int)
theorem ZhY (ns:List Nd):∀ (f:Nat) (k:Int),htF ns f k<=(f:Int)+1
 | 0,_=>by rw [htF];omega
 | f+1,k=>by
  rw [htF]
  have:=Zcv ((Ze ns k).kids.map (htF ns f)) 0 ((f:Int)+1) (by omega) (fun x hx=>by
   obtain ⟨y,_,rfl⟩:=List.mem_map.mp hx
   exact ZhY ns f y)
  unfold Zc4
  push_cast
  omega
def ZcH (g:Int->Int) (l:List Int):Int:=Zc4 (l.map g)
theorem Zh9 {g:Int->Int} {l:List Int} {j:Nat} {x:Int} (h:l[j]? = some x):ZcH g (l.take (j+1))=max (ZcH g (l.take j)) (g x):=by
 unfold ZcH Zc4
 rw [List.take_add_one,h,List.map_append,List.foldl_append]
 rfl
theorem Zeh (w:World) (v:Value) (ns:List Nd) (k:Nat) (d:Nd) (hN:Zf w v ns) (hs:Zbw ns) (hd:ns[k]? = some d) (g:Int->Int) (hg:∀ x,0<=g x/\g x<=1501)
  (hK:∀ c∈d.kids,Calls Tryz.prog 9 #[v,.int .i64 c] w fun e w'=>e=.returned (.int .i64 (g c))/\w=w') :
  Calls Tryz.prog 9 #[v,.int .i64 k] w fun e w'=>e=.returned (.int .i64 (ZcH g d.kids+1))/\w=w':=by
 obtain ⟨A,c,rfl⟩:∃ A c,v=.slice A ns.length c:=by obtain ⟨A,c,_,e,_⟩:=hN;exact ⟨A,c,e⟩
 obtain ⟨ad,B,e,rfl,hkl,hkc,hkk⟩:=Zc2 hN hd
 have d3:=hkk _ (Below.refl _ _)
 have hms:=(hs _ (List.mem_of_getElem? hd)).2.2
 have hlt:=(List.getElem?_eq_some_iff.mp hd).1
 have ti:(k:Int)<(ns.length:Int):=by omega
 have ti2:(0:Int)<=(k:Int):=by omega
 obtain ⟨ks,hks⟩:∃ ks,ks=d.kids:=⟨_,rfl⟩
 rw [<- hks] at hkl hkc d3 hms hK ⊢
 have bnd:∀ j,0<=ZcH g (ks.take j)/\ZcH g (ks.take j)<=1501:=fun j=>⟨ZbB _ 0 0 (Int.le_refl _),Zcv _ 0 1501 (by omega) (fun x hx=>by obtain ⟨y,_,rfl⟩:=List.mem_map.mp hx;exact (hg y).2)⟩
 have HI:=Lib.hid (And.intro hkc (And.intro hms (And.intro hK bnd)))
 clear hkc hkk hms hd hlt hK bnd hs hN hks hg
 go_enter Tryz.func9,Tryz.ntmps9
 go_wp2_with fail
 go_loopg [5,6] ks.length (fun gk v5 v6 wr=>w=wr/\∃ j:Nat,v5=.int .i64 (ZcH g (ks.take j))/\v6=.int .i64 j/\j<=ks.length/\gk=ks.length-j)
 case atStart=>exact ⟨rfl,0,rfl,rfl,Nat.zero_le _,rfl⟩
 case round=>
  obtain ⟨rfl,j,rfl,rfl,hj,hgk⟩:=hrel
  have bj:=HI.out.2.2.2 j
  by_cases hjn:j=ks.length
  ·have tj:¬ (j:Int)<(ks.length:Int):=by omega
   have e2:ks.take j=ks:=by rw [hjn];exact List.take_length
   rw [e2] at bj ⊢
   have wz:IntKind.i64.wrap (ZcH g ks+1)=ZcH g ks+1:=IntWalk.i64_in _ (by omega)
   clear hj hgk hjn e2 bj
   go_wp2_with fail
   go_ret
   exact ⟨rfl,rfl⟩
  ·have hjl:j<ks.length:=by omega
   obtain ⟨x,hx⟩:∃ x,ks[j]? = some x:=⟨_,List.getElem?_eq_getElem hjl⟩
   obtain ⟨ak,rfl,hak⟩:=HI.out.1 j x hx
   have dx:=hak _ (Below.refl _ _)
   have KD:=Lib.hid (HI.out.2.2.1 x (List.mem_of_getElem? hx))
   have mm:=Zh9 (g:=g) hx
   have tj:(j:Int)<(ks.length:Int):=by omega
   have tj2:(0:Int)<=(j:Int):=by omega
   have wj:IntKind.i64.wrap ((j:Int)+1)=(j:Int)+1:=IntWalk.i64_in _ (by have:=HI.out.2.1;omega)
   have HJ:=Lib.hid (And.intro hjl (And.intro hgk mm))
   clear hjl hgk mm hak hx hj hjn bj
   generalize ZcH g (ks.take j)=mx at *
   generalize g x=gx at *
   go_wp2_with (go_at_call 9;(with_reducible refine KD.out.mono ?_);rintro e1 w1 ⟨rfl,rfl⟩)
   go_roundg (ks.length-(j+1))
   case measure=>have:=HJ.out;omega
   case rel=>exact ⟨rfl,j+1,by rw [HJ.out.2.2],by push_cast;rfl,by have:=HJ.out;omega,rfl⟩
theorem ZeW (w:World) (v:Value) (ns:List Nd) (hN:Zf w v ns) (hs:Zbw ns) (hI:ZcL ns):∀ (f k:Nat),f<=1500->k<ns.length->ns.length<=k+f+1 ->
  Calls Tryz.prog 9 #[v,.int .i64 k] w fun e w'=>e=.returned (.int .i64 (htF ns f k))/\w=w'
 | 0,k,_,hk,hn=>by
  have hd:ns[k]? = some ns[k]:=List.getElem?_eq_getElem hk
  have e:ns[k].kids=[]:=List.eq_nil_iff_forall_not_mem.mpr (fun y hy=>by have:=hI k _ hd y hy;omega)
  have:=Zeh w v ns k _ hN hs hd (fun _=>0) (fun _=>by omega) (fun c hc=>by rw [e] at hc;cases hc)
  rw [e] at this
  exact this
 | f+1,k,hf,hk,hn=>by
  have hd:ns[k]? = some ns[k]:=List.getElem?_eq_getElem hk
  have:=Zeh w v ns k _ hN hs hd (htF ns f) (fun x=>by have:=Zew ns f x;have:=ZhY ns f x;omega) (fun c hc=>by
   have hb:=hI k _ hd c hc
   obtain ⟨c',rfl⟩:∃ c':Nat,c=c':=⟨c.toNat,by omega⟩
   exact ZeW w v ns hN hs hI f c' (by omega) (by omega) (by omega))
  rw [htF,Zah hd]
  exact this
end
end Go.Proofs.YtenbomphkihmlaaGreatDoor
