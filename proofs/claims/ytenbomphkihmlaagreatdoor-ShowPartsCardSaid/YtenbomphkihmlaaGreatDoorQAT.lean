import Derived.Test.YtenbomphkihmlaaGreatDoorQAS
set_option maxRecDepth 100000
set_option maxHeartbeats 8000000
namespace Go.Proofs.YtenbomphkihmlaaGreatDoor
section
open Go.RowKit
theorem ZN (w:World) (x:NdV×Nd) (a b:Int) (h:Zv w x) :
  Calls Tryz.prog 16 #[ndV x,.int .i64 a,.int .i64 b] w fun e w'=>e=.returned (.bool (Zt x.2 a b))/\Below w.heap.size w w':=by
 obtain ⟨⟨A1,c1,e1,g1,g2,g3,g4⟩,⟨A2,c2,e2,_⟩,A3,c3,e3,_⟩:=h
 obtain ⟨⟨v1,v2,v3⟩,kd,ws,nums,ks,ps⟩:=x
 dsimp only at e1 e2 e3 g1 g3 g4
 subst e1 e2 e3
 have hB:=Blk.start w #[.int .i64 kd,.slice A1 ws.length c1,.slice A2 nums.length c2,.slice A3 ks.length c3,.int .i64 ps] 29
 have hb:=Zb w (.cells #[.int .i64 kd,.slice A1 ws.length c1,.slice A2 nums.length c2,.slice A3 ks.length c3,.int .i64 ps] 29)
 unfold ndV Zt
 dsimp only
 obtain ⟨n,hn⟩:∃ n,n=ws.length:=⟨_,rfl⟩
 have hmx:n<=9223372036854775807:=by unfold maxLen at g2;omega
 rw [<- hn] at g3 hB hb ⊢
 have HN:=Lib.hid (And.intro hn (And.intro hmx g4))
 have H4:=Lib.hid g3
 have HH:=Lib.hid (And.intro hB hb)
 clear hn hmx g1 g2 g3 g4 hB hb
 go_enter Tryz.func16,Tryz.ntmps16
 go_wp2_with fail
 generalize w.alloc (.cells #[.int .i64 kd,.slice A1 n c1,.slice A2 nums.length c2,.slice A3 ks.length c3,.int .i64 ps] 29)=w1 at *
 go_loopg [7] n (fun g v7 wr=>∃ k:Nat,v7=.int .i64 k/\k<=n/\g=n-k/\Zbr (ws.take k)=true/\Blk wr w.heap.size #[.int .i64 kd,.slice A1 n c1,.slice A2 nums.length c2,.slice A3 ks.length c3,.int .i64 ps]/\Below w.heap.size w wr)
 case atStart=>exact ⟨0,rfl,Nat.zero_le _,rfl,rfl,HH.out.1,HH.out.2⟩
 case round=>
  clear HH
  obtain ⟨k,rfl,hk,hg,hall,hB,hb⟩:=hrel
  have c1':=hB.cell 1
  simp only [List.getElem?_toArray,List.getElem?_cons_zero,List.getElem?_cons_succ] at c1'
  by_cases hkn:k=n
  ·have e:ws.take k=ws:=by rw [hkn,HN.out.1];exact List.take_length
   rw [e] at hall
   have FIN:=Lib.hid (And.intro hall hb)
   subst hkn
   clear hk hg hall e hB hb
   by_cases qa:a<=(k:Int)
   ·by_cases qb:(k:Int)<=b
    ·have Q:=Lib.hid (And.intro (decide_eq_true qa) (decide_eq_true qb))
     go_wp2_with fail
     go_ret
     exact ⟨by first | (rw [FIN.out.1,Q.out.1,Q.out.2];rfl) | (rw [FIN.out.1,Q.out.2];rfl) | (rw [FIN.out.1,Q.out.1];rfl) | (rw [FIN.out.1];rfl),FIN.out.2⟩
    ·have qb':b<(k:Int):=by omega
     have Q:=Lib.hid (And.intro (decide_eq_true qa) (decide_eq_false qb))
     go_wp2_with fail
     go_ret
     exact ⟨by first | (rw [FIN.out.1,Q.out.1,Q.out.2];rfl) | (rw [FIN.out.1,Q.out.2];rfl) | (rw [FIN.out.1,Q.out.1];rfl) | (rw [FIN.out.1];rfl),FIN.out.2⟩
   ·have qa':(k:Int)<a:=by omega
    have Q:=Lib.hid (decide_eq_false qa)
    go_wp2_with fail
    go_ret
    exact ⟨by first | (rw [FIN.out.1,Q.out];rfl) | (rw [FIN.out.1];rfl),FIN.out.2⟩
  ·have hlt:k<n:=by omega
   obtain ⟨x,hx⟩:∃ x,ws[k]? = some x:=⟨_,List.getElem?_eq_getElem (by have:=HN.out.1;omega)⟩
   obtain ⟨ad,rfl,d0⟩:=ZaH H4.out hb hx (by omega)
   have nxt:Zbr (ws.take (k+1))=ZaR x:=ZaZ hx hall
   have bad:ZaR x=false->Zbr ws=false:=Zdy hx
   have na:=Zip ⟨x.toArray⟩ wr (by show x.toArray.size<=maxLen;simpa using HN.out.2.2 x (List.mem_of_getElem? hx))
   have na:Calls Tryz.prog 34 #[txt x] wr (fun e w'=>e=.returned (.bool (ZaR x))/\Below wr.heap.size wr w'):=by simpa using na
   have i1:(k:Int)<(n:Int):=by omega
   have i2:(0:Int)<=(k:Int):=by omega
   have wk:IntKind.i64.wrap ((k:Int)+1)=(k:Int)+1:=IntWalk.i64_in _ (by have:=HN.out.2.1;omega)
   have HK:=Lib.hid (And.intro hlt (And.intro hg (And.intro hB hb)))
   have NX:=Lib.hid (And.intro nxt bad)
   have NA:=Lib.hid na
   clear nxt bad hx hkn hlt hk hg hall na hB hb
   generalize ZaR x=B at *
   cases B
   ·have FIN:=Lib.hid (NX.out.2 rfl)
    go_wp2_with (go_at_call 34;(with_reducible refine NA.out.mono ?_);rintro e1 w1 ⟨rfl,hb1⟩;have B1:=Lib.hid (HK.out.2.2.2.trans (hb1.mono HK.out.2.2.2.size));clear hb1)
    go_ret
    exact ⟨by rw [FIN.out];rfl,B1.out⟩
   ·go_wp2_with (go_at_call 34;(with_reducible refine NA.out.mono ?_);rintro e1 w1 ⟨rfl,hb1⟩;have B1:=Lib.hid (And.intro (HK.out.2.2.1.keep hb1) (HK.out.2.2.2.trans (hb1.mono HK.out.2.2.2.size)));clear hb1)
    go_roundg (n-(k+1))
    case measure=>have:=HK.out;omega
    case rel=>exact ⟨k+1,by push_cast;rfl,by have:=HK.out;omega,rfl,NX.out.1,B1.out.1,B1.out.2⟩
def Zax (ns:List Nd) (n:Nd) (f:Nat) (a b:Int):Bool:=ZQ ns (n.kids.drop f) (isB [7])&&decide (a<=(n.kids.length:Int)-f)&&decide ((n.kids.length:Int)-f<=b)
theorem ZhN {l:List Int} {f i:Nat} {x:Int} {t:Int->Bool} (ns:List Nd) (hf:f<=i) (hx:l[i]? = some x) (h:ZQ ns ((l.take i).drop f) t=true):ZQ ns ((l.take (i+1)).drop f) t=t (Zq ns x):=by
 have hl:=(List.getElem?_eq_some_iff.mp hx).1
 rw [List.take_add_one,hx,List.drop_append,show f-(List.take i l).length=0 by rw [List.length_take];omega]
 unfold ZQ at h ⊢
 rw [List.all_append,h,Bool.true_and]
 simp
theorem ZiS {l:List Int} {f i:Nat} {x:Int} {t:Int->Bool} (ns:List Nd) (hf:f<=i) (hx:l[i]? = some x) (h:t (Zq ns x)=false):ZQ ns (l.drop f) t=false:=by
 unfold ZQ
 rw [List.all_eq_false]
 refine ⟨x,List.mem_iff_getElem?.mpr ⟨i-f,?_⟩,by rw [h];decide⟩
 rw [List.getElem?_drop,show f+(i-f)=i by omega]
 exact hx
theorem ZF (w:World) (v:Value) (ns:List Nd) (x:NdV×Nd) (f:Nat) (a b:Int) (hN:Zf w v ns) (h:Zv w x) (hk:Zz x.2.kids ns.length) (hf:f<=x.2.kids.length) (hf1:f<=1) :
  Calls Tryz.prog 36 #[v,ndV x,.int .i64 f,.int .i64 a,.int .i64 b] w fun e w'=>e=.returned (.bool (Zax ns x.2 f a b))/\Below w.heap.size w w':=by
 have KD:=Lib.hid (fun (wr:World) (hb:Below w.heap.size w wr) (i:Nat) (hi:i<x.2.kids.length)=>Zaa wr v ns x i (hN.below hb) (h.below hb) hk hi)
 obtain ⟨⟨A1,c1,e1,_⟩,⟨A2,c2,e2,_⟩,A3,c3,e3,g1,g2,g3⟩:=h
 obtain ⟨⟨v1,v2,v3⟩,kd,ws,nums,ks,ps⟩:=x
 dsimp only at e1 e2 e3 g1 g3 hf hk KD
 subst e1 e2 e3
 have hB:=Blk.start w #[.int .i64 kd,.slice A1 ws.length c1,.slice A2 nums.length c2,.slice A3 ks.length c3,.int .i64 ps] 29
 have hb:=Zb w (.cells #[.int .i64 kd,.slice A1 ws.length c1,.slice A2 nums.length c2,.slice A3 ks.length c3,.int .i64 ps] 29)
 unfold ndV at KD ⊢
 unfold Zax
 dsimp only at KD ⊢
 have hmx:ks.length<=9223372036854775807:=by unfold maxLen at g2;omega
 have HN:=Lib.hid (And.intro hf (And.intro hmx hf1))
 have HH:=Lib.hid (And.intro hB hb)
 have u0:IntKind.i64.wrap ((ks.length:Int)-(f:Int))=(ks.length:Int)-(f:Int):=IntWalk.i64_in _ (by omega)
 clear hmx g1 g2 g3 hB hb hf hf1 hk hN
 go_enter Tryz.func36,Tryz.ntmps36
 go_wp2_with fail
 generalize w.alloc (.cells #[.int .i64 kd,.slice A1 ws.length c1,.slice A2 nums.length c2,.slice A3 ks.length c3,.int .i64 ps] 29)=w1 at *
 go_loopg [12] (ks.length-f) (fun g v12 wr=>∃ k:Nat,v12=.int .i64 k/\f<=k/\k<=ks.length/\g=ks.length-k/\ZQ ns ((ks.take k).drop f) (isB [7])=true/\Blk wr w.heap.size #[.int .i64 kd,.slice A1 ws.length c1,.slice A2 nums.length c2,.slice A3 ks.length c3,.int .i64 ps]/\Below w.heap.size w wr)
 case atStart=>exact ⟨f,rfl,Nat.le_refl _,HN.out.1,rfl,by rw [List.drop_of_length_le (by rw [List.length_take];omega)];rfl,HH.out.1,HH.out.2⟩
 case round=>
  clear HH
  obtain ⟨k,rfl,hfk,hk,hg,hall,hB,hb⟩:=hrel
  have g0:=hB.cell 0
  have g1:=hB.cell 1
  have g2:=hB.cell 2
  have g3:=hB.cell 3
  have g4:=hB.cell 4
  simp only [List.getElem?_toArray,List.getElem?_cons_zero,List.getElem?_cons_succ] at g0 g1 g2 g3 g4
  by_cases hkn:k=ks.length
  ·have e:ks.take k=ks:=by rw [hkn];exact List.take_length
   rw [e] at hall
   have FIN:=Lib.hid (And.intro hall hb)
   subst hkn
   clear hk hg hall e hB hb hfk
   by_cases qa:a<=(ks.length:Int)-(f:Int)
   ·by_cases qb:(ks.length:Int)-(f:Int)<=b
    ·have Q:=Lib.hid (And.intro (decide_eq_true qa) (decide_eq_true qb))
     go_wp2_with fail
     go_ret
     exact ⟨by first | (rw [FIN.out.1,Q.out.1,Q.out.2];rfl) | (rw [FIN.out.1,Q.out.2];rfl) | (rw [FIN.out.1,Q.out.1];rfl) | (rw [FIN.out.1];rfl),FIN.out.2⟩
    ·have qb':b<(ks.length:Int)-(f:Int):=by omega
     have Q:=Lib.hid (And.intro (decide_eq_true qa) (decide_eq_false qb))
     go_wp2_with fail
     go_ret
     exact ⟨by first | (rw [FIN.out.1,Q.out.1,Q.out.2];rfl) | (rw [FIN.out.1,Q.out.2];rfl) | (rw [FIN.out.1,Q.out.1];rfl) | (rw [FIN.out.1];rfl),FIN.out.2⟩
   ·have qa':(ks.length:Int)-(f:Int)<a:=by omega
    have Q:=Lib.hid (decide_eq_false qa)
    go_wp2_with fail
    go_ret
    exact ⟨by first | (rw [FIN.out.1,Q.out];rfl) | (rw [FIN.out.1];rfl),FIN.out.2⟩
  ·have hlt:k<ks.length:=by omega
   obtain ⟨y,hy⟩:∃ y,ks[k]? = some y:=⟨_,List.getElem?_eq_getElem hlt⟩
   have nxt:=ZhN (t:=isB [7]) ns hfk hy hall
   have bad:=ZiS (t:=isB [7]) ns hfk hy
   have kk:kdR ns ⟨kd,ws,nums,ks,ps⟩ k=Zq ns y:=by unfold kdR;dsimp only;rw [ZaQ hy]
   have K1:=Lib.hid (KD.out wr hb k hlt)
   rw [kk] at K1
   have i1:(k:Int)<(ks.length:Int):=by omega
   have i2:(0:Int)<=(k:Int):=by omega
   have wk:IntKind.i64.wrap ((k:Int)+1)=(k:Int)+1:=IntWalk.i64_in _ (by have:=HN.out.2.1;omega)
   have HK:=Lib.hid (And.intro hlt (And.intro hg (And.intro hB (And.intro hb hfk))))
   have NX:=Lib.hid (And.intro nxt bad)
   clear nxt bad hy hkn hlt hk hg hall hB hb hfk kk
   generalize Zq ns y=Z at *
   cases q:(Z==7)
   ·have q':(Z != 7)=true:=by rw [bne,q];rfl
    have FIN:=Lib.hid (NX.out.2 (by unfold isB;rw [List.contains_cons,q];rfl))
    go_wp2_with (go_at_call 19;(with_reducible refine K1.out.mono ?_);rintro e1 w1 ⟨rfl,hb1⟩;have B1:=Lib.hid (HK.out.2.2.2.1.trans (hb1.mono HK.out.2.2.2.1.size));clear hb1)
    go_ret
    exact ⟨by rw [FIN.out];rfl,B1.out⟩
   ·have q':(Z != 7)=false:=by rw [bne,q];rfl
    have NY:=Lib.hid (NX.out.1.trans (by unfold isB;rw [List.contains_cons,q];rfl:_=true))
    go_wp2_with (go_at_call 19;(with_reducible refine K1.out.mono ?_);rintro e1 w1 ⟨rfl,hb1⟩;have B1:=Lib.hid (And.intro (HK.out.2.2.1.keep hb1) (HK.out.2.2.2.1.trans (hb1.mono HK.out.2.2.2.1.size)));clear hb1)
    go_roundg (ks.length-(k+1))
    case measure=>have:=HK.out;omega
    case rel=>exact ⟨k+1,by push_cast;rfl,by have:=HK.out;omega,by have:=HK.out;omega,rfl,NY.out,B1.out.1,B1.out.2⟩
end
section
open Go.RowKit
def OkB (P:Prop) (e:Ending):Prop:=∃ b:Bool,e=.returned (.bool b)/\(b=true->P)
theorem Zj {P:Prop}:OkB P (.returned (.bool false)):=⟨false,rfl,fun h=>Bool.noConfusion h⟩
theorem Zae {P:Prop} {b:Bool} (h:P):OkB P (.returned (.bool b)):=⟨b,rfl,fun _=>h⟩
theorem Zaw {ns:List Nd} {n:Nd} (h1:Zbr n.words=true) (h2:ZaK n.nums=true) (h3:Zl ns n=true):Zw ns n=true:=by
 unfold Zw
 rw [h1,h2,h3]
 rfl
theorem Zak {kd ps:Int} {ws:List (List UInt8)} {nums ks:List Int} {a b:Int} (h:Zt ⟨kd,ws,nums,ks,ps⟩ a b=true):Zbr ws=true/\a<=(ws.length:Int)/\(ws.length:Int)<=b:=by
 unfold Zt at h
 rw [Bool.and_eq_true,Bool.and_eq_true,decide_eq_true_eq,decide_eq_true_eq] at h
 exact ⟨h.1.1,h.1.2,h.2⟩
theorem Zao {kd ps:Int} {ws:List (List UInt8)} {nums ks:List Int} (h:ZJ ⟨kd,ws,nums,ks,ps⟩=true):nums=[]:=List.length_eq_zero_iff.mp (of_decide_eq_true h)
theorem Zau {n:Nd} {a b:Nat} (h1:n.words.length=a) (h2:n.nums.length=b):Zo n a b=true:=by
 unfold Zo
 rw [decide_eq_true h1,decide_eq_true h2]
 rfl
theorem Zbx {ns:List Nd} {kd ps:Int} {ws:List (List UInt8)} {nums ks:List Int} {f:Nat} {a b:Int} (h:Zax ns ⟨kd,ws,nums,ks,ps⟩ f a b=true):ZQ ns (ks.drop f) (isB [7])=true/\a<=(ks.length:Int)-f/\(ks.length:Int)-f<=b:=by
 unfold Zax at h
 rw [Bool.and_eq_true,Bool.and_eq_true,decide_eq_true_eq,decide_eq_true_eq] at h
 exact ⟨h.1.1,h.1.2,h.2⟩
section
variable {ns:List Nd} {ws:List (List UInt8)} {nums ks:List Int} {ps:Int}
theorem Zb0 {k:Int} {f:Int->Bool} (h:f (Zq ns k)=true):Zk ns [k] [f]=true:=by simp [Zk,h]
theorem ZcN {k l:Int} {f g:Int->Bool} (h:f (Zq ns k)=true) (h2:g (Zq ns l)=true):Zk ns [k,l] [f,g]=true:=by simp [Zk,h,h2]
theorem ZhE {k l m:Int} {f g e:Int->Bool} (h:f (Zq ns k)=true) (h2:g (Zq ns l)=true) (h3:e (Zq ns m)=true):Zk ns [k,l,m] [f,g,e]=true:=by simp [Zk,h,h2,h3]
theorem all_cons {k:Int} {r:List Int} {f:Int->Bool} (h:ZQ ns (k::r) f=true):f (Zq ns k)=true/\ZQ ns r f=true:=by
 unfold ZQ at h ⊢
 rwa [List.all_cons,Bool.and_eq_true] at h
theorem ZcQ {l:List Int} (h:l.length=2):∃ a b,l=[a,b]:=by
 match l,h with
 | [a,b],_=>exact ⟨a,b,rfl⟩
theorem Zdo {l:List Int} (h:l.length=3):∃ a b c,l=[a,b,c]:=by
 match l,h with
 | [a,b,c],_=>exact ⟨a,b,c,rfl⟩
theorem Zgq (h:ZQ ns ks (isB [1,4])=true) (hw:Zt ⟨0,ws,nums,ks,ps⟩ 0 0=true) (hn:ZJ ⟨0,ws,nums,ks,ps⟩=true):Zw ns ⟨0,ws,nums,ks,ps⟩=true:=by
 obtain ⟨a,b,c⟩:=Zak hw
 obtain rfl:nums=[]:=Zao hn
 refine Zaw a rfl ?_
 show (Zo _ 0 0&&ZQ ns ks (isB [1,4]))=true
 rw [h,Zau (a:=0) (b:=0) (by show ws.length=0;omega) rfl]
 rfl
theorem ZiF (h:ZQ ns ks (isB [2,3])=true) (hw:Zt ⟨1,ws,nums,ks,ps⟩ 1 1=true) (hn:ZJ ⟨1,ws,nums,ks,ps⟩=true):Zw ns ⟨1,ws,nums,ks,ps⟩=true:=by
 obtain ⟨a,b,c⟩:=Zak hw
 obtain rfl:nums=[]:=Zao hn
 refine Zaw a rfl ?_
 show (Zo _ 1 0&&ZQ ns ks (isB [2,3]))=true
 rw [h,Zau (a:=1) (b:=0) (by show ws.length=1;omega) rfl]
 rfl
theorem Zdz {y:Int} (h0:0<=y) (h1:y<1000000000000000000):ZaK [y]=true:=by
 simp [ZaK,h0,h1]
theorem Ze6 {y:Int} (hw:Zt ⟨2,ws,nums,ks,ps⟩ 1 1=true) (hy:nums=[y]) (h:y=0\/y=1) (hk:ks.length=0):Zw ns ⟨2,ws,nums,ks,ps⟩=true:=by
 obtain ⟨a,b,c⟩:=Zak hw
 obtain rfl:=List.length_eq_zero_iff.mp hk
 subst hy
 refine Zaw a (Zdz (by omega) (by omega)) ?_
 show (Zo _ 1 1&&decide (y<=1)&&Zk ns [] [])=true
 rw [Zau (a:=1) (b:=1) (by show ws.length=1;omega) rfl,decide_eq_true (by omega)]
 rfl
theorem Zkt (hw:Zt ⟨3,ws,nums,ks,ps⟩ 4 1500=true) (h2:ws.length % 2=0) (hn:ZJ ⟨3,ws,nums,ks,ps⟩=true) (hk:ks.length=0):Zw ns ⟨3,ws,nums,ks,ps⟩=true:=by
 obtain ⟨a,b,c⟩:=Zak hw
 obtain rfl:=List.length_eq_zero_iff.mp hk
 obtain rfl:nums=[]:=Zao hn
 refine Zaw a rfl ?_
 show (decide (4<=ws.length)&&decide (ws.length % 2=0)&&Zo _ ws.length 0&&Zk ns [] [])=true
 rw [Zau (a:=ws.length) (b:=0) rfl rfl,decide_eq_true h2,decide_eq_true (by omega)]
 rfl
theorem Zkr {k:Int} {r:List Int} (hr:ks=r++[k]) (h:ZQ ns r (isB [5])=true) (hw:Zt ⟨4,ws,nums,ks,ps⟩ 1 1=true) (hn:ZJ ⟨4,ws,nums,ks,ps⟩=true) (hl:Zq ns k=7):Zw ns ⟨4,ws,nums,ks,ps⟩=true:=by
 obtain ⟨a,b,c⟩:=Zak hw
 obtain rfl:nums=[]:=Zao hn
 refine Zaw a rfl ?_
 show (Zo _ 1 0&&ZQ ns (ks.take (ks.length-1)) (isB [5])&&Zk ns (ks.drop (ks.length-1)) [isB [7]])=true
 have e:ks.length-1=r.length:=by rw [hr];simp
 rw [e,hr,List.take_left',List.drop_left',h,Zb0 (by rw [hl];rfl),Zau (a:=1) (b:=0) (by show ws.length=1;omega) rfl]<;>rfl
theorem ZiE {y:Int} (hw:Zt ⟨6,ws,nums,ks,ps⟩ 1 1500=true) (hy:nums=[y]) (h0:0<=y) (h2:y<=2) (hk:ks.length=0):Zw ns ⟨6,ws,nums,ks,ps⟩=true:=by
 obtain ⟨a,b,c⟩:=Zak hw
 obtain rfl:=List.length_eq_zero_iff.mp hk
 subst hy
 refine Zaw a (Zdz h0 (by omega)) ?_
 show (decide (1<=ws.length)&&Zo _ ws.length 1&&decide (y<=2)&&Zk ns [] [])=true
 rw [Zau (a:=ws.length) (b:=1) rfl rfl,decide_eq_true h2,decide_eq_true (by omega)]
 rfl
theorem ZiD (h:ZQ ns ks Zbk=true) (hn:ZJ ⟨7,ws,nums,ks,ps⟩=true) (hw:Zt ⟨7,ws,nums,ks,ps⟩ 0 0=true):Zw ns ⟨7,ws,nums,ks,ps⟩=true:=by
 obtain ⟨a,b,c⟩:=Zak hw
 obtain rfl:nums=[]:=Zao hn
 refine Zaw a rfl ?_
 show (Zo _ 0 0&&ZQ ns ks Zbk)=true
 rw [h,Zau (a:=0) (b:=0) (by show ws.length=0;omega) rfl]
 rfl
theorem Zkq (h:ZQ ns ks (isB [12])=true) (hn:ZJ ⟨11,ws,nums,ks,ps⟩=true) (hw:Zt ⟨11,ws,nums,ks,ps⟩ 2 2=true):Zw ns ⟨11,ws,nums,ks,ps⟩=true:=by
 obtain ⟨a,b,c⟩:=Zak hw
 obtain rfl:nums=[]:=Zao hn
 refine Zaw a rfl ?_
 show (Zo _ 2 0&&ZQ ns ks (isB [12]))=true
 rw [h,Zau (a:=2) (b:=0) (by show ws.length=2;omega) rfl]
 rfl
theorem Zj3 (hw:Zt ⟨8,ws,nums,ks,ps⟩ 1 1=true) (hn:ZJ ⟨8,ws,nums,ks,ps⟩=true) (hk:ks.length=1) (he:ZE (kdR ns ⟨8,ws,nums,ks,ps⟩ 0)=true):Zw ns ⟨8,ws,nums,ks,ps⟩=true:=by
 obtain ⟨a,b,c⟩:=Zak hw
 obtain rfl:nums=[]:=Zao hn
 obtain ⟨k,rfl⟩:=List.length_eq_one_iff.mp hk
 refine Zaw a rfl ?_
 show (Zo _ 1 0&&Zk ns [k] [ZE])=true
 rw [Zau (a:=1) (b:=0) (by show ws.length=1;omega) rfl,Zb0 (k:=k) he]
 rfl
theorem Zj6 (hw:Zt ⟨9,ws,nums,ks,ps⟩ 1 1=true) (hn:ZJ ⟨9,ws,nums,ks,ps⟩=true) (hk:ks.length=1) (he:ZE (kdR ns ⟨9,ws,nums,ks,ps⟩ 0)=true):Zw ns ⟨9,ws,nums,ks,ps⟩=true:=by
 obtain ⟨a,b,c⟩:=Zak hw
 obtain rfl:nums=[]:=Zao hn
 obtain ⟨k,rfl⟩:=List.length_eq_one_iff.mp hk
 refine Zaw a rfl ?_
 show (Zo _ 1 0&&Zk ns [k] [ZE])=true
 rw [Zau (a:=1) (b:=0) (by show ws.length=1;omega) rfl,Zb0 (k:=k) he]
 rfl
theorem Zjt (hw:Zt ⟨10,ws,nums,ks,ps⟩ 2 2=true) (hn:ZJ ⟨10,ws,nums,ks,ps⟩=true) (hb:Zax ns ⟨10,ws,nums,ks,ps⟩ 0 2 2=true):Zw ns ⟨10,ws,nums,ks,ps⟩=true:=by
 obtain ⟨a,b,c⟩:=Zak hw
 obtain rfl:nums=[]:=Zao hn
 obtain ⟨d,e,f⟩:=Zbx hb
 obtain ⟨x,y,rfl⟩:=ZcQ (l:=ks) (by omega)
 obtain ⟨d1,d2⟩:=all_cons d
 refine Zaw a rfl ?_
 show (Zo _ 2 0&&Zk ns [x,y] [isB [7],isB [7]])=true
 rw [Zau (a:=2) (b:=0) (by show ws.length=2;omega) rfl,ZcN d1 (all_cons d2).1]
 rfl
theorem Zjr (hw:Zt ⟨12,ws,nums,ks,ps⟩ 1 1=true) (hn:ZJ ⟨12,ws,nums,ks,ps⟩=true) (hb:Zax ns ⟨12,ws,nums,ks,ps⟩ 0 1 1=true):Zw ns ⟨12,ws,nums,ks,ps⟩=true:=by
 obtain ⟨a,b,c⟩:=Zak hw
 obtain rfl:nums=[]:=Zao hn
 obtain ⟨d,e,f⟩:=Zbx hb
 obtain ⟨x,rfl⟩:=List.length_eq_one_iff.mp (show ks.length=1 by omega)
 refine Zaw a rfl ?_
 show (Zo _ 1 0&&Zk ns [x] [isB [7]])=true
 rw [Zau (a:=1) (b:=0) (by show ws.length=1;omega) rfl,Zb0 (all_cons d).1]
 rfl
theorem Zjq (h:ZQ ns ks ZbF=true) (hw:Zt ⟨14,ws,nums,ks,ps⟩ 1 2=true) (hn:ZJ ⟨14,ws,nums,ks,ps⟩=true):Zw ns ⟨14,ws,nums,ks,ps⟩=true:=by
 obtain ⟨a,b,c⟩:=Zak hw
 obtain rfl:nums=[]:=Zao hn
 refine Zaw a rfl ?_
 show ((Zo _ 1 0||Zo _ 2 0)&&ZQ ns ks ZbF)=true
 rw [h]
 by_cases q:ws.length=1
 ·rw [Zau (a:=1) (b:=0) q rfl]
  rfl
 ·rw [Zau (a:=2) (b:=0) (show ws.length=2 by omega) rfl,Bool.or_true]
  rfl
theorem Zks (hw:Zt ⟨16,ws,nums,ks,ps⟩ 0 0=true) (hn:ZJ ⟨16,ws,nums,ks,ps⟩=true) (hk:0<ks.length) (he:ZE (kdR ns ⟨16,ws,nums,ks,ps⟩ 0)=true) (hb:Zax ns ⟨16,ws,nums,ks,ps⟩ 1 1 2=true):Zw ns ⟨16,ws,nums,ks,ps⟩=true:=by
 obtain ⟨a,b,c⟩:=Zak hw
 obtain rfl:nums=[]:=Zao hn
 obtain ⟨d,e,f⟩:=Zbx hb
 refine Zaw a rfl ?_
 show (Zo _ 0 0&&(Zk ns ks [ZE,isB [7]]||Zk ns ks [ZE,isB [7],isB [7]]))=true
 rw [Zau (a:=0) (b:=0) (by show ws.length=0;omega) rfl]
 by_cases q:ks.length=2
 ·obtain ⟨x,y,rfl⟩:=ZcQ q
  rw [ZcN (k:=x) (l:=y) he (all_cons d).1]
  rfl
 ·obtain ⟨x,y,z,rfl⟩:=Zdo (l:=ks) (by omega)
  rw [ZhE (k:=x) (l:=y) (m:=z) he (all_cons d).1 (all_cons (all_cons d).2).1,Bool.or_true]
  rfl
theorem ZiG (hw:Zt ⟨17,ws,nums,ks,ps⟩ 0 0=true) (hn:ZJ ⟨17,ws,nums,ks,ps⟩=true) (hk:0<ks.length) (he:ZE (kdR ns ⟨17,ws,nums,ks,ps⟩ 0)=true) (hb:Zax ns ⟨17,ws,nums,ks,ps⟩ 1 1 1=true):Zw ns ⟨17,ws,nums,ks,ps⟩=true:=by
 obtain ⟨a,b,c⟩:=Zak hw
 obtain rfl:nums=[]:=Zao hn
 obtain ⟨d,e,f⟩:=Zbx hb
 refine Zaw a rfl ?_
 show (Zo _ 0 0&&Zk ns ks [ZE,isB [7]])=true
 rw [Zau (a:=0) (b:=0) (by show ws.length=0;omega) rfl]
 obtain ⟨x,y,rfl⟩:=ZcQ (l:=ks) (by omega)
 rw [ZcN (k:=x) (l:=y) he (all_cons d).1]
 rfl
theorem Zhy (hw:Zt ⟨18,ws,nums,ks,ps⟩ 0 0=true) (hn:ZJ ⟨18,ws,nums,ks,ps⟩=true) (hk:ks.length=1) (he:ZE (kdR ns ⟨18,ws,nums,ks,ps⟩ 0)=true):Zw ns ⟨18,ws,nums,ks,ps⟩=true:=by
 obtain ⟨a,b,c⟩:=Zak hw
 obtain rfl:nums=[]:=Zao hn
 obtain ⟨k,rfl⟩:=List.length_eq_one_iff.mp hk
 refine Zaw a rfl ?_
 show (Zo _ 0 0&&Zk ns [k] [ZE])=true
 rw [Zau (a:=0) (b:=0) (by show ws.length=0;omega) rfl,Zb0 (k:=k) he]
 rfl
theorem Zj4 (hw:Zt ⟨23,ws,nums,ks,ps⟩ 0 0=true) (hn:ZJ ⟨23,ws,nums,ks,ps⟩=true) (hk:ks.length=1) (he:ZE (kdR ns ⟨23,ws,nums,ks,ps⟩ 0)=true):Zw ns ⟨23,ws,nums,ks,ps⟩=true:=by
 obtain ⟨a,b,c⟩:=Zak hw
 obtain rfl:nums=[]:=Zao hn
 obtain ⟨k,rfl⟩:=List.length_eq_one_iff.mp hk
 refine Zaw a rfl ?_
 show (Zo _ 0 0&&Zk ns [k] [ZE])=true
 rw [Zau (a:=0) (b:=0) (by show ws.length=0;omega) rfl,Zb0 (k:=k) he]
 rfl
theorem Zjs (hw:Zt ⟨19,ws,nums,ks,ps⟩ 0 0=true) (hn:ZJ ⟨19,ws,nums,ks,ps⟩=true) (hk:ks.length=0):Zw ns ⟨19,ws,nums,ks,ps⟩=true:=by
 obtain ⟨a,b,c⟩:=Zak hw
 obtain rfl:nums=[]:=Zao hn
 obtain rfl:=List.length_eq_zero_iff.mp hk
 refine Zaw a rfl ?_
 show (Zo _ 0 0&&Zk ns [] [])=true
 rw [Zau (a:=0) (b:=0) (by show ws.length=0;omega) rfl]
 rfl
theorem Zhw (hw:Zt ⟨15,ws,nums,ks,ps⟩ 1 1=true) (hn:ZJ ⟨15,ws,nums,ks,ps⟩=true) (hk:ks.length=0):Zw ns ⟨15,ws,nums,ks,ps⟩=true:=by
 obtain ⟨a,b,c⟩:=Zak hw
 obtain rfl:nums=[]:=Zao hn
 obtain rfl:=List.length_eq_zero_iff.mp hk
 refine Zaw a rfl ?_
 show (Zo _ 1 0&&Zk ns [] [])=true
 rw [Zau (a:=1) (b:=0) (by show ws.length=1;omega) rfl]
 rfl
theorem Zj7 (hw:Zt ⟨21,ws,nums,ks,ps⟩ 1 1=true) (hn:ZJ ⟨21,ws,nums,ks,ps⟩=true) (hk:ks.length=0):Zw ns ⟨21,ws,nums,ks,ps⟩=true:=by
 obtain ⟨a,b,c⟩:=Zak hw
 obtain rfl:nums=[]:=Zao hn
 obtain rfl:=List.length_eq_zero_iff.mp hk
 refine Zaw a rfl ?_
 show (Zo _ 1 0&&Zk ns [] [])=true
 rw [Zau (a:=1) (b:=0) (by show ws.length=1;omega) rfl]
 rfl
theorem Zj5 {y:Int} (hw:Zt ⟨20,ws,nums,ks,ps⟩ 0 0=true) (hy:nums=[y]) (h0:0<=y) (h2:y<1000000000000000000) (hk:ks.length=0):Zw ns ⟨20,ws,nums,ks,ps⟩=true:=by
 obtain ⟨a,b,c⟩:=Zak hw
 obtain rfl:=List.length_eq_zero_iff.mp hk
 subst hy
 refine Zaw a (Zdz h0 h2) ?_
 show (Zo _ 0 1&&Zk ns [] [])=true
 rw [Zau (a:=0) (b:=1) (by show ws.length=0;omega) rfl]
 rfl
theorem Zj1 {y:Int} (hw:Zt ⟨22,ws,nums,ks,ps⟩ 0 0=true) (hy:nums=[y]) (h0:0<=y) (h2:y<=5) (hk:ks.length=2) (he:ZE (kdR ns ⟨22,ws,nums,ks,ps⟩ 0)=true) (hf:ZE (kdR ns ⟨22,ws,nums,ks,ps⟩ 1)=true):Zw ns ⟨22,ws,nums,ks,ps⟩=true:=by
 obtain ⟨a,b,c⟩:=Zak hw
 obtain ⟨x,z,rfl⟩:=ZcQ hk
 subst hy
 refine Zaw a (Zdz h0 (by omega)) ?_
 show (Zo _ 0 1&&decide (y<=5)&&Zk ns [x,z] [ZE,ZE])=true
 rw [Zau (a:=0) (b:=1) (by show ws.length=0;omega) rfl,decide_eq_true h2,ZcN (k:=x) (l:=z) he hf]
 rfl
end
end
end Go.Proofs.YtenbomphkihmlaaGreatDoor
