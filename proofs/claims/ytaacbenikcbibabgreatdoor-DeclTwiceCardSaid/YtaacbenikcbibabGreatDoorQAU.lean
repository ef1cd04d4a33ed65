import Derived.Maps.OwnSet
import Derived.RangeFuncNested
import Derived.RangeFuncBound
import Derived.RangeFuncCalls
import Derived.RangeFuncLeaves
import Derived.Shelf.Abstract
import Derived.Shelf.RegionOpen
import Derived.OwnWalkIn
import Derived.TacticsInMore
import Derived.LoopNIn
import Derived.LoopIn
import Derived.Test.YtaacbenikcbibabGreatDoorQAT
set_option maxRecDepth 100000
set_option maxHeartbeats 8000000
namespace Go.Proofs.YtaacbenikcbibabGreatDoor
section
open Go.RowKit Go.Maps
theorem Zey (s:List UInt8) (h:s.length<=maxLen):keyOf Tryz.prog 9 (txt s)=some (.string s):=WideMaps.keyOf_string_mk Tryz.underlying9 (by show s.toArray.size<=maxLen;rw [List.size_toArray];exact h)
def Za2 (w:World) (bm:Nat) (ss:List Sta):Prop:=
 ∃ D:DataW Unit,w.ownsMap Tryz.prog 9 (plainElem Tryz.prog 3) bm ss.length D/\IsMap D/\∀ s:List UInt8,has D (.string s)=decide (0<=ZF ss s)/\(0<=ZF ss s->D.atKey (.string s) (.lit (.int .i64 0))=.lit (.int .i64 (ZF ss s)))
theorem Za2.keepE {w w':World} {bm:Nat} {ss:List Sta} (h:Za2 w bm ss) (he:w'.heap[bm]? = w.heap[bm]?):Za2 w' bm ss:=by
 obtain ⟨D,⟨es,cl,h1,h2⟩,h3⟩:=h
 exact ⟨D,⟨es,cl,he.trans h1,h2⟩,h3⟩
theorem Za2.lt {w:World} {bm:Nat} {ss:List Sta} (h:Za2 w bm ss):bm<w.heap.size:=by
 obtain ⟨D,h1,_⟩:=h
 exact h1.lt
theorem Za2.keep {w w':World} {bm:Nat} {ss:List Sta} (h:Za2 w bm ss) (hb:Below w.heap.size w w'):Za2 w' bm ss:=h.keepE (hb.block bm h.lt)
theorem Za2.not_blk {w:World} {bm b:Nat} {ss:List Sta} {ty:TypeId} {cs:Array Value} (h:Za2 w bm ss) (k:Ze w b ty cs):bm≠b:=by
 rintro rfl
 obtain ⟨D,⟨es,cl,h1,_⟩,_⟩:=h
 unfold Ze at k
 rw [h1] at k
 cases k
theorem Za2.put {w':World} {bm:Nat} {ss:List Sta} {x:Sta} {D:DataW Unit} (hm:IsMap D) (h:∀ s:List UInt8,has D (.string s)=decide (0<=ZF ss s)/\(0<=ZF ss s->D.atKey (.string s) (.lit (.int .i64 0))=.lit (.int .i64 (ZF ss s))))
  (ho:w'.ownsMap Tryz.prog 9 (plainElem Tryz.prog 3) bm (ss.length+1) (D.put (.string x.name) (.lit (.int .i64 (ss.length:Int))))):Za2 w' bm (ss++[x]):=by
 refine ⟨_,by rw [List.length_append];exact ho,hm.put _ _,fun s=>?_⟩
 rw [Zdj]
 by_cases e:x.name=s
 ·rw [if_pos e,<- e]
  exact ⟨by rw [has_put_same hm (by trivial)];simp,fun _=>atKey_put_same hm (by trivial) _ _⟩
 ·rw [if_neg e]
  have ne:(Lit.string s)≠.string x.name:=by intro q;injection q with q;exact e q.symm
  rw [has_put_other ne,atKey_put_other ne]
  exact h s
structure PlcS (w:World) (bx bm:Nat) (ss:List Sta):Prop where
 box:Ze w bx 71 #[.map (some bm)]
 map:Za2 w bm ss
theorem PlcS.keep {w w':World} {bx bm:Nat} {ss:List Sta} (h:PlcS w bx bm ss) (hb:Below w.heap.size w w'):PlcS w' bx bm ss:=⟨h.box.keep hb,h.map.keep hb⟩
def ZbY (bx:Nat):Value:=.func (.func 43) #[] #[.pointer (some ⟨bx,0,none⟩)]
theorem ZbX (w:World) (bx bm:Nat) (ss:List Sta) (s:List UInt8) (h:PlcS w bx bm ss) (hs:s.length<=maxLen) :
  Calls Tryz.prog 43 #[txt s,.pointer (some ⟨bx,0,none⟩)] w fun e w'=>e=.returned (.int .i64 (ZF ss s))/\w=w':=by
 have c0:=h.box.blk.cell 0
 simp only [List.getElem?_toArray,List.getElem?_cons_zero] at c0
 obtain ⟨D,h1,h2,h3⟩:=h.map
 obtain ⟨q1,q2⟩:=h3 s
 have l0:=(ZeB s ss).1
 have HH:=Lib.hid (And.intro h1 (And.intro hs q2))
 clear h h1 h2 h3 hs q2
 by_cases q:0<=ZF ss s
 ·rw [decide_eq_true q] at q1
  have HE:=Lib.hid (HH.out.2.2 q)
  have HQ:=Lib.hid q1
  generalize ZF ss s=P at *
  clear l0 q q1
  go_enter Tryz.func43,Tryz.ntmps43
  go_wp2_with (at_lookup;refine wpList_lookup_own_ok_int _ rfl _ _ _ rfl 9 3 .i64 ZcW Tryz.underlying71 Tryz.underlying3 (Zcm w) bm _ D rfl HH.out.1 (txt s) _ rfl (Zey s HH.out.2.1) ?_;intro c hc _;rw [HE.out] at hc;injection hc with hc;injection hc with _ hc;subst hc;rw [HQ.out])
  go_ret
  exact ⟨rfl,rfl⟩
 ·rw [decide_eq_false q] at q1
  have HQ:=Lib.hid q1
  have e:ZF ss s=-1:=by omega
  rw [e]
  clear l0 q q1 e
  go_enter Tryz.func43,Tryz.ntmps43
  go_wp2_with (at_lookup;refine wpList_lookup_own_ok_int _ rfl _ _ _ rfl 9 3 .i64 ZcW Tryz.underlying71 Tryz.underlying3 (Zcm w) bm _ D rfl HH.out.1 (txt s) _ rfl (Zey s HH.out.2.1) ?_;intro c hc _;rw [HQ.out])
  go_ret
  exact ⟨rfl,rfl⟩
theorem Zgn (w:World) (v:Value) (ss:List Sta) (h:ZaH w v ss) (hn:ss.length<=1000):Calls Tryz.prog 27 #[v] w fun e w'=>∃ bx bm,e=.returned (ZbY bx)/\PlcS w' bx bm ss/\w.heap.size<=bx/\w.heap.size<=bm/\Below w.heap.size w w':=by
 have hmm:=@run_makeMap Tryz.prog
 have hmf:∀ (fn:Fn) (first cap:Array Value) (w:World),(Instr.makeFunc fn first cap).run Tryz.prog w=.ok (.func fn first cap) w:=fun _ _ _ _=>rfl
 obtain ⟨A,c,rfl,h1,h2,h3,h4⟩:=h
 have a1:=Za w (.map #[] 0)
 have a2:=Za (w.alloc (.map #[] 0)) (.cells #[.map (some w.heap.size)] 71)
 have b:=Ze.start (w.alloc (.map #[] 0)) #[.map (some w.heap.size)] 71
 rw [World.size_alloc] at b
 have m0:Za2 (w.alloc (.map #[] 0)) w.heap.size []:=⟨.map [],World.ownsMap_made _ _ _ _,isMap_empty,fun s=>⟨rfl,fun h=>absurd h (by rw [ZdP];decide)⟩⟩
 have HF:=Lib.hid (show PlcS _ (w.heap.size+1) w.heap.size [] from ⟨b,m0.keep a2⟩)
 have HB:=Lib.hid (a1.trans (a2.mono a1.size))
 have H3:=Lib.hid (And.intro h3 (And.intro h4 hn))
 clear a1 a2 b m0 h1 h2 h3 h4
 go_enter Tryz.func27,Tryz.ntmps27
 go_upto_region 2 with fail
 generalize hW:(w.alloc (.map #[] 0)).alloc (.cells #[.map (some w.heap.size)] 71)=W at *
 clear hW
 go_wp2_with fail
 go_loopg [9] ss.length (fun g v9 wr=>∃ k:Nat,v9=.int .i64 k/\k<=ss.length/\g=ss.length-k/\Below w.heap.size w wr/\PlcS wr (w.heap.size+1) w.heap.size (ss.take k))
 case atStart=>exact ⟨0,rfl,Nat.zero_le _,rfl,HB.out,HF.out⟩
 case round=>
  obtain ⟨k,rfl,hk,hg,hb,hr⟩:=hrel
  by_cases hkn:k=ss.length
  ·have j1:decide (k<ss.length)=false:=decide_eq_false (by omega)
   have FIN:=Lib.hid (And.intro hb (show PlcS wr (w.heap.size+1) w.heap.size ss by rw [hkn,List.take_length] at hr;exact hr))
   clear hk hg hb hr hkn
   go_wp2_with fail
   go_ret
   exact ⟨_,_,rfl,FIN.out.2,Nat.le_succ _,Nat.le_refl _,FIN.out.1⟩
  ·have hlt:k<ss.length:=by omega
   obtain ⟨x,hx⟩:∃ x,ss[k]? = some x:=⟨_,List.getElem?_eq_getElem hlt⟩
   obtain ⟨ad,rfl,d0,d1⟩:=ZaP ZbB H3.out.1 hb hx (by omega)
   unfold stC at d0 d1
   simp only [List.getElem?_cons_zero,List.getElem?_cons_succ] at d0 d1
   have j1:(k:Int)<(ss.length:Int):=by omega
   have j2:(0:Int)<=(k:Int):=by omega
   have wk:IntKind.i64.wrap ((k:Int)+1)=(k:Int)+1:=IntWalk.i64_in _ (by have:=H3.out.2.2;omega)
   have a5:=Za wr (.cells #[txt x.name,.bool x.final] 74)
   have B5:=Blk.start wr #[txt x.name,.bool x.final] 74
   have S5:=hr.keep a5
   have HK:=Lib.hid (And.intro hlt (And.intro hg (And.intro (hb.trans (a5.mono hb.size)) (And.intro hx (H3.out.2.1 x (List.mem_of_getElem? hx))))))
   clear hkn hlt hk hg hb hr hx a5
   go_upto_region 5 with fail
   generalize wr.alloc (.cells #[txt x.name,.bool x.final] 74)=W5 at *
   have c0:=B5.cell 0
   have e0:=S5.box.blk.cell 0
   simp only [List.getElem?_toArray,List.getElem?_cons_zero] at c0 e0
   obtain ⟨D,m1,m2,m3⟩:=S5.map
   have tl:(ss.take k).length=k:=by rw [List.length_take];have:=HK.out.1;omega
   rw [tl] at m1
   have MM:=Lib.hid (And.intro m1 (And.intro m2 m3))
   have SB:=Lib.hid S5
   clear m1 m2 m3 S5 B5
   go_wp2_with (at_mapUpdate;refine wpList_mapUpdate_own _ rfl _ _ _ _ rfl 9 3 ZcW Tryz.underlying71 _ _ _ D rfl MM.out.1 (by have:=HK.out.1;have:=H3.out.2.2;unfold maxLen;omega) (txt x.name) (.int .i64 k) _ rfl rfl (Zey x.name HK.out.2.2.2.2) (.lit (.int .i64 (k:Int))) [] (plainElem_int Tryz.underlying3 (WalkArith.wf_i64 (by have:=HK.out.1;have:=H3.out.2.2;omega))) ?_;intro w1 hm1 hg1;have H1:=Lib.hid (And.intro hm1 hg1);clear hm1 hg1)
   go_roundg (ss.length-(k+1))
   case measure=>have:=HK.out.1;have:=HK.out.2.1;omega
   case rel=>
    have bx1:=SB.out.box.grown H1.out.2 (fun e=>by injection e with e;omega)
    have pm:=Za2.put (ss:=ss.take k) (x:=x) MM.out.2.1 MM.out.2.2 (by rw [tl];exact H1.out.1)
    refine ⟨k+1,by push_cast;rfl,HK.out.1,rfl,HK.out.2.2.1.trans (Zv H1.out.2 HK.out.2.2.1.size (fun k hk=>by injection hk with hk;omega)),⟨bx1,?_⟩⟩
    rw [List.take_add_one,HK.out.2.2.2.1]
    exact pm
end
section
open Go.RowKit Go.Shelf
attribute [local go_sem] Oper.semAt_some
theorem ZgF (w:World) (A:Option Addr) (n c:Nat):Calls Tryz.prog 44 #[.slice A n c,.int .i64 2] w fun e w'=>e=.returned (.func (.func 67) #[] #[.pointer (some ⟨w.heap.size,0,none⟩),.pointer (some ⟨w.heap.size+1,0,none⟩)])/\w'=(w.alloc (.cells #[.slice A n c] 23)).alloc (.cells #[.int .i64 2] 3):=by
 have hmf:∀ (fn:Fn) (first cap:Array Value) (w:World),(Instr.makeFunc fn first cap).run Tryz.prog w=.ok (.func fn first cap) w:=fun _ _ _ _=>rfl
 go_enter Tryz.func44,Tryz.ntmps44
 go_wp2_with fail
 go_ret
 exact ⟨rfl,rfl⟩
theorem Zh6 {m k:Nat} (h:k<m):(List.finRange m).take (k+1)=(List.finRange m).take k++[⟨k,h⟩]:=by
 rw [List.take_add_one,List.getElem?_eq_getElem (by simpa using h)]
 simp
def KpC (b1 b2:Nat) (W W':World):Prop:=(∀ v,W.cell? ⟨b1,0,none⟩=some v->W'.cell? ⟨b1,0,none⟩=some v)/\(∀ v,W.cell? ⟨b2,0,none⟩=some v->W'.cell? ⟨b2,0,none⟩=some v)
theorem KpC.trans {b1 b2:Nat} {A B C:World} (h:KpC b1 b2 A B) (k:KpC b1 b2 B C):KpC b1 b2 A C:=⟨fun v q=>k.1 v (h.1 v q),fun v q=>k.2 v (h.2 v q)⟩
theorem ZgE (n:Nat) (l b1 b2 m c:Nat) (ad:Addr) (J Jx:List (Fin m)->World->Prop) (hm:m<=1000) (hc:2*m<=c)
  (hY:∀ pre x W,J pre W->pre.length<m->YieldAt Fence.wide (n-1) Tryz.prog l #[.slice (some (ad.add (2*x.1))) 2 2] W fun e W'=>
   (e=.returned (.bool true)/\J (pre++[x]) W'/\KpC b1 b2 W W')\/(e=.returned (.bool false)/\Jx (pre++[x]) W'))
  (W:World) (h1:W.cell? ⟨b1,0,none⟩=some (.slice (some ad) (2*m) c)) (h2:W.cell? ⟨b2,0,none⟩=some (.int .i64 2)) (h0:J [] W) (hJd:∀ pre W,J pre W->J pre W.drew) :
  CallsIn Fence.wide n Tryz.prog 67 #[.func (.yield l) #[] #[],.pointer (some ⟨b1,0,none⟩),.pointer (some ⟨b2,0,none⟩)] W fun e W'=>(∃ v,e=.returned v) ∧
   ((∃ ys,ys=List.finRange m/\J ys W')\/(∃ pre:List (Fin m),True/\Jx pre W')):=by
 refine callsIn_of_wp Tryz.func67 rfl trivial ?_ rfl
 simp only [Tryz.ntmps67,List.size_toArray,List.length_cons,List.length_nil,Nat.reduceAdd,Nat.reduceSub,Array.replicate_succ,Array.replicate_zero,List.push_toArray,List.append_toArray,List.nil_append,List.cons_append]
 gi_wp2
 gi_loopw [4] (fun p wr=>∃ k:Nat,p=.int .i64 ((2*k:Nat):Int)/\k<=m/\J ((List.finRange m).take k) wr/\wr.cell? ⟨b1,0,none⟩=some (.slice (some ad) (2*m) c)/\wr.cell? ⟨b2,0,none⟩=some (.int .i64 2))
  (fun p _=>match p with | .int _ i=>2*m-i.toNat | _=>0)
 case atStart=>exact ⟨0,rfl,Nat.zero_le _,by simpa using h0,h1,h2⟩
 case round=>
  obtain ⟨k,rfl,hk,hJ,c1,c2⟩:=hrel
  by_cases hkm:k=m
  ·subst hkm
   have j1:¬ (((2*k:Nat):Int)<((2*k:Nat):Int)):=by omega
   gi_wp2
   go_end0
   exact ⟨⟨_,rfl⟩,.inl (by rw [List.take_of_length_le (by simp)] at hJ;simpa using hJ)⟩
  ·have hlt:k<m:=by omega
   have j1:((2*k:Nat):Int)<((2*m:Nat):Int):=by omega
   have i0:(0:Int)<=((2*k:Nat):Int):=by omega
   have i1:((2*k:Nat):Int)<=((2*m:Nat):Int):=by omega
   have i2:(((2*k:Nat):Int)).toNat=2*k:=by omega
   gi_wp2
   refine wpIn_wide.2 ?_
   go_region
   obtain ⟨fn,tmps,assign,body,hy,hR⟩:=hY _ ⟨k,hlt⟩ wr.drew (hJd _ _ hJ) (by simp;omega)
   dsimp only at hy
   have mn:min 2 (((2*m-2*k:Nat):Int))=2:=by omega
   have c1d:wr.drew.cell? ⟨b1,0,none⟩=some (.slice (some ad) (2*m) c):=c1
   have i3:IntKind.i64.wrap (((2*k:Nat):Int)+2)=((2*k+2:Nat):Int):=by rw [IntWalk.i64_in _ (by omega)];omega
   have i4:(((2*k+2:Nat):Int)).toNat=2*k+2:=by omega
   have i5:((2*k:Nat):Int)<=((2*k+2:Nat):Int):=by omega
   have i6:((2*k+2:Nat):Int)<=(c:Int):=by omega
   rw [mn]
   gi_wp2
   refine ⟨fun h=>by simp [Fence.wide] at h,hR.mono ?_⟩
   rintro e W3 (⟨rfl,hJ3,hk3⟩ | ⟨rfl,hJx3⟩)
   ·have d1:W3.cell? ⟨b1,0,none⟩=some (.slice (some ad) (2*m) c):=hk3.1 _ c1
    have d2:W3.cell? ⟨b2,0,none⟩=some (.int .i64 2):=hk3.2 _ c2
    have hJ4:J ((List.finRange m).take (k+1)) W3:=by rw [Zh6 hlt];exact hJ3
    gi_wp2
    go_roundw
    case rel=>exact ⟨k+1,by push_cast;rfl,hlt,hJ4,d1,d2⟩
    case measure=>show 2*m-(2*(k:Int)+2).toNat<2*m-((2*k:Nat):Int).toNat;omega
   ·gi_wp2
    refine bodyPost_ret (results_none rfl _ _ _) rfl ?_
    exact ⟨⟨_,rfl⟩,.inr ⟨_,trivial,hJx3⟩⟩
theorem Zfa (n b1 b2 m c:Nat) (ad:Addr) (hm:m<=1000) (hc:2*m<=c) (w:World) (h1:w.cell? ⟨b1,0,none⟩=some (.slice (some ad) (2*m) c)) (h2:w.cell? ⟨b2,0,none⟩=some (.int .i64 2)) :
  SeqStopsK Fence.wide n Tryz.prog 67 #[.pointer (some ⟨b1,0,none⟩),.pointer (some ⟨b2,0,none⟩)] (fun x:Fin m=>#[Value.slice (some (ad.add (2*x.1))) 2 2]) (KpC b1 b2) (fun ys=>ys=List.finRange m) (fun _=>True) m w:=fun l J Jx W hW hJ _ hY h0=>
 ZgE n l b1 b2 m c ad J Jx hm hc hY W ((hW.cell (p:=⟨b1,0,none⟩) (World.block_lt_of_cell? _ _ h1)).trans h1) ((hW.cell (p:=⟨b2,0,none⟩) (World.block_lt_of_cell? _ _ h2)).trans h2) h0 (fun pre V h=>hJ pre V V.drew none h (ZfY (World.grownBy.refl V none)) (fun r e=>by cases e))
end
end Go.Proofs.YtaacbenikcbibabGreatDoor
