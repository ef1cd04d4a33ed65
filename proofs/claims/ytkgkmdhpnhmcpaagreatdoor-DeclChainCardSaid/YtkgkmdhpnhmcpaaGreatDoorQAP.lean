import Derived.Deep.RegionLaw
import Derived.Maps.OwnSet
import Derived.Test.YtkgkmdhpnhmcpaaGreatDoorQAM
import Derived.Test.YtkgkmdhpnhmcpaaGreatDoorQAO
set_option maxRecDepth 100000
set_option maxHeartbeats 8000000
namespace Go.Proofs.YtkgkmdhpnhmcpaaGreatDoor
section
open Go.RowKit Go.Maps
def tkF (bx:Nat):Value:=.func (.func 42) #[] #[.pointer (some ⟨bx,0,none⟩)]
theorem Zdv (w:World) (bx bm:Nat) (L:List (List UInt8)) (s:List UInt8) (h:FreS w bx bm L) (hn:L.length<1000000) (hs:s.length<=maxLen) :
  Calls Tryz.prog 42 #[txt s,.pointer (some ⟨bx,0,none⟩)] w fun e w'=>e=.returned (.bool (L.contains s))/\FreS w' bx bm (s::L)/\w.grownBy w' (some bm):=by
 have c0:=h.box.cell 0
 have HH:=zh h
 have hc:L.count s<=L.length:=List.count_le_length
 have wk:IntKind.i64.wrap ((L.count s:Int)+1)=(L.count s:Int)+1:=IntWalk.i64_in _ (by omega)
 have hct:(L.contains s=true/\1<(L.count s:Int)+1)\/(L.contains s=false/\¬ (1<(L.count s:Int)+1)):=by
  cases q:L.contains s with
  | true=>
   have:=List.count_pos_iff.mpr (List.contains_iff_mem.mp q)
   exact .inl ⟨rfl,by omega⟩
  | false=>
   have:=List.count_eq_zero.mpr (fun m=>by rw [List.contains_iff_mem.mpr m] at q;cases q)
   exact .inr ⟨rfl,by omega⟩
 simp only [List.getElem?_toArray,List.getElem?_cons_zero] at c0
 have K:=zh (zi hn hs)
 clear h hn hs hc
 generalize L.contains s=B at *
 have HT:=zh hct
 clear hct
 generalize hC:L.count s=C at *
 have HC:=zh hC
 clear hC
 go_enter Tryz.func42,Tryz.ntmps42
 go_upto_region 2 with (first
  | (at_lookup;refine Zcp _ _ _ rfl rfl Tryz.underlying93 bm L rfl HH.out.map s rfl K.out.2 ?_;rw [HC.out])
  | (at_mapUpdate;refine ZfY _ _ _ _ rfl rfl Tryz.underlying93 bm L rfl HH.out.map (by have:=K.out.1;unfold maxLen;omega) s rfl (by first | (rw [HC.out];rfl) | (rw [HC.out];simp [wk];done)) K.out.2 ?_;intro w1 hm1 hg1;have H1:=zh (zi hm1 hg1);clear hm1 hg1))
 have hb1:=HH.out.box.grown H1.out.2 (fun e=>by injection e with e;exact HH.out.map.not_blk HH.out.box e)
 have c1:=hb1.cell 0
 simp only [List.getElem?_toArray,List.getElem?_cons_zero] at c1
 have H2:=zh (zi (FreS.mk hb1 H1.out.1) H1.out.2)
 have HC2:=zh (show (s::L).count s=C+1 from by rw [List.count_cons_self,HC.out])
 clear hb1 H1
 go_wp2_with (at_lookup;refine Zcp _ _ _ rfl rfl Tryz.underlying93 bm (s::L) rfl H2.out.1.map s rfl K.out.2 ?_;rw [HC2.out])
 go_ret
 refine ⟨?_,H2.out⟩
 show Ending.returned (.bool (decide (1<(C:Int)+1)))=_
 rcases HT.out with ⟨q,i1⟩ | ⟨q,i1⟩
 ·rw [q,decide_eq_true i1]
 ·rw [q,decide_eq_false (by omega)]
end
section
open Go.RowKit
def Zz (w w':World) (bd:Nat) (e1 e2:TypeId):Prop:=
 w.heap.size<=w'.heap.size/\∀ b,b<w.heap.size->b≠bd->(∀ cs,¬ Zd w b e1 cs)->(∀ cs,¬ Zd w b e2 cs)->w'.heap[b]? = w.heap[b]?
theorem ZaW {w w':World} {b:Nat} {ty:TypeId} {cs cs':Array Value} (h:Zd w b ty cs) (e:w'.heap[b]? = w.heap[b]?) {ty':TypeId} (h':Zd w' b ty' cs'):ty=ty':=by
 unfold Zd at h h'
 rw [e,h] at h'
 injection h' with h'
 injection h' with _ h' _
theorem Zz.refl (w:World) (bd:Nat) (e1 e2:TypeId):Zz w w bd e1 e2:=⟨Nat.le_refl _,fun _ _ _ _ _=>rfl⟩
theorem Zz.trans {w w' w2:World} {bd:Nat} {e1 e2:TypeId} (h:Zz w w' bd e1 e2) (k:Zz w' w2 bd e1 e2):Zz w w2 bd e1 e2:=
 ⟨Nat.le_trans h.1 k.1,fun b hb hne h1 h2=>by
  have e:=h.2 b hb hne h1 h2
  refine (k.2 b (Nat.lt_of_lt_of_le hb h.1) hne (fun cs q=>h1 cs ?_) (fun cs q=>h2 cs ?_)).trans e
  ·unfold Zd at q ⊢;rw [<- e];exact q
  ·unfold Zd at q ⊢;rw [<- e];exact q⟩
theorem Zz.of_below {w w':World} {bd:Nat} {e1 e2:TypeId} (h:Below w.heap.size w w'):Zz w w' bd e1 e2:=⟨h.size,fun b hb _ _ _=>h.block b hb⟩
theorem Zz.set {w:World} {bd:Nat} {e1 e2:TypeId} (i:Nat) (v:Value):Zz w (w.setCell ⟨bd,i,none⟩ v) bd e1 e2:=
 ⟨by simp [World.setCell],fun b _ hne _ _=>Below.heap_setCell _ _ _ _ (fun e=>hne e)⟩
theorem Zz.row1 {w w':World} {bd base n size:Nat} {e1 e2:TypeId} {v:Value} {xs:List Value} (ho:w.ownsRow base e1 size v n xs) (hg:w.grownBy w' v.ownBlock):Zz w w' bd e1 e2:=
 ⟨hg.size,fun b hb _ h1 _=>hg.block b hb (fun e=>by
  rcases ho.2 with ⟨q,_⟩ | ⟨g,cap,cur,q,_,k,_⟩
  ·rw [q] at e;cases e
  ·rw [q] at e
   injection e with e
   dsimp only at e
   subst e
   exact h1 cur k)⟩
theorem Zz.row2 {w w':World} {bd base n size:Nat} {e1 e2:TypeId} {v:Value} {xs:List Value} (ho:w.ownsRow base e2 size v n xs) (hg:w.grownBy w' v.ownBlock):Zz w w' bd e1 e2:=
 ⟨hg.size,fun b hb _ _ h1=>hg.block b hb (fun e=>by
  rcases ho.2 with ⟨q,_⟩ | ⟨g,cap,cur,q,_,k,_⟩
  ·rw [q] at e;cases e
  ·rw [q] at e
   injection e with e
   dsimp only at e
   subst e
   exact h1 cur k)⟩
theorem Zz.tblk {w w':World} {bd b:Nat} {e1 e2 ty:TypeId} {cs:Array Value} (h:Zz w w' bd e1 e2) (k:Zd w b ty cs) (hne:b≠bd) (h1:ty≠e1) (h2:ty≠e2):Zd w' b ty cs:=
 (h.2 b k.lt hne (fun _ q=>h1 (ZaW k rfl q)) (fun _ q=>h2 (ZaW k rfl q))).trans k
structure RdS (B:Nat) (w:World) (bd:Nat) (nm:List UInt8) (at_:Int) (ss:List Sta) (ps:List Int):Prop where
 box:∃ vs va,Zd w bd 66 #[txt nm,vs,.slice none 0 0,.int .i64 at_,va,.slice none 0 0]/\w.ownsRow B 82 2 vs ss.length (Zt stC ss)/\w.ownsRow B 3 1 va ps.length (ps.map (Value.int .i64))
 ge:B<=bd
theorem RdS.keep {B:Nat} {w w':World} {bd:Nat} {nm:List UInt8} {at_:Int} {ss:List Sta} {ps:List Int} (h:RdS B w bd nm at_ ss ps) (hb:Below w.heap.size w w'):RdS B w' bd nm at_ ss ps:=by
 obtain ⟨vs,va,h1,h2,h3⟩:=h.box
 exact ⟨⟨vs,va,h1.keep hb,Ze h2 hb,Ze h3 hb⟩,h.ge⟩
theorem Zjw (s:List UInt8) (b:Bool):∀ u∈[txt s,Value.bool b],u.oneCell'=true:=by
 intro u hu
 rcases List.mem_cons.1 hu with rfl | hu
 ·rfl
 ·rw [List.mem_singleton.1 hu];rfl
theorem Zjn (x:Int):∀ u∈[Value.int .i64 x],u.oneCell'=true:=fun u hu=>by rw [List.mem_singleton.1 hu];rfl
theorem ZbS (w:World) (x y:Value) (ty:TypeId):Zr (w.alloc (.cells #[x,y] ty)) (w.heap.size+1) 2 (some ⟨w.heap.size,0,none⟩) 1 [x,y]:=
 ⟨rfl,fun _=>⟨_,rfl,Nat.lt_succ_self _,fun j u hj=>by
  have T:=(Zd.start w #[x,y] ty).blk
  match j,hj with
  | 0,hj=>injection hj with hj;subst hj;exact T.cell 0
  | 1,hj=>injection hj with hj;subst hj;exact T.cell 1
  | j+2,hj=>simp at hj⟩⟩
theorem Zal {w:World} {base n size:Nat} {e:TypeId} {v:Value} {xs:List Value} (h:w.ownsRow base e size v n xs) (o:Obj):((w.alloc o).drew).ownsRow base e size v n xs:=Ze (w:=w) h (below_alloc1 w o).drew
theorem Zar {w:World} {b:Nat} {ty:TypeId} {cs:Array Value} (h:Zd w b ty cs) (o:Obj):Zd (w.alloc o).drew b ty cs:=(h.keep (below_alloc1 w o):Zd (w.alloc o) b ty cs)
end
section
open Go.RowKit Go.Maps
theorem ZdI (s:List UInt8) (h:s.length<=maxLen):keyOf Tryz.prog 9 (txt s)=some (.string s):=WideMaps.keyOf_string_mk Tryz.underlying9 (by show s.toArray.size<=maxLen;rw [List.size_toArray];exact h)
def Za2 (w:World) (bm:Nat) (ss:List Sta):Prop:=
 ∃ D:DataW Unit,w.ownsMap Tryz.prog 9 (plainElem Tryz.prog 3) bm ss.length D/\IsMap D/\∀ s:List UInt8,has D (.string s)=decide (0<=ZD ss s)/\(0<=ZD ss s->D.atKey (.string s) (.lit (.int .i64 0))=.lit (.int .i64 (ZD ss s)))
theorem Za2.keepE {w w':World} {bm:Nat} {ss:List Sta} (h:Za2 w bm ss) (he:w'.heap[bm]? = w.heap[bm]?):Za2 w' bm ss:=by
 obtain ⟨D,⟨es,cl,h1,h2⟩,h3⟩:=h
 exact ⟨D,⟨es,cl,he.trans h1,h2⟩,h3⟩
theorem Za2.lt {w:World} {bm:Nat} {ss:List Sta} (h:Za2 w bm ss):bm<w.heap.size:=by
 obtain ⟨D,h1,_⟩:=h
 exact h1.lt
theorem Za2.keep {w w':World} {bm:Nat} {ss:List Sta} (h:Za2 w bm ss) (hb:Below w.heap.size w w'):Za2 w' bm ss:=h.keepE (hb.block bm h.lt)
theorem Za2.not_blk {w:World} {bm b:Nat} {ss:List Sta} {ty:TypeId} {cs:Array Value} (h:Za2 w bm ss) (k:Zd w b ty cs):bm≠b:=by
 rintro rfl
 obtain ⟨D,⟨es,cl,h1,_⟩,_⟩:=h
 unfold Zd at k
 rw [h1] at k
 cases k
theorem Za2.put {w':World} {bm:Nat} {ss:List Sta} {x:Sta} {D:DataW Unit} (hm:IsMap D) (h:∀ s:List UInt8,has D (.string s)=decide (0<=ZD ss s)/\(0<=ZD ss s->D.atKey (.string s) (.lit (.int .i64 0))=.lit (.int .i64 (ZD ss s))))
  (ho:w'.ownsMap Tryz.prog 9 (plainElem Tryz.prog 3) bm (ss.length+1) (D.put (.string x.name) (.lit (.int .i64 (ss.length:Int))))):Za2 w' bm (ss++[x]):=by
 refine ⟨_,by rw [List.length_append];exact ho,hm.put _ _,fun s=>?_⟩
 rw [Zdo]
 by_cases e:x.name=s
 ·rw [if_pos e,<- e]
  exact ⟨by rw [has_put_same hm (by trivial)];simp,fun _=>atKey_put_same hm (by trivial) _ _⟩
 ·rw [if_neg e]
  have ne:(Lit.string s)≠.string x.name:=by intro q;injection q with q;exact e q.symm
  rw [has_put_other ne,atKey_put_other ne]
  exact h s
structure PlcS (w:World) (bx bm:Nat) (ss:List Sta):Prop where
 box:Zd w bx 93 #[.map (some bm)]
 map:Za2 w bm ss
theorem PlcS.keep {w w':World} {bx bm:Nat} {ss:List Sta} (h:PlcS w bx bm ss) (hb:Below w.heap.size w w'):PlcS w' bx bm ss:=⟨h.box.keep hb,h.map.keep hb⟩
def Zb1 (bx:Nat):Value:=.func (.func 75) #[] #[.pointer (some ⟨bx,0,none⟩)]
theorem Zb0 (w:World) (bx bm:Nat) (ss:List Sta) (s:List UInt8) (h:PlcS w bx bm ss) (hs:s.length<=maxLen) :
  Calls Tryz.prog 75 #[txt s,.pointer (some ⟨bx,0,none⟩)] w fun e w'=>e=.returned (.int .i64 (ZD ss s))/\w=w':=by
 have c0:=h.box.blk.cell 0
 simp only [List.getElem?_toArray,List.getElem?_cons_zero] at c0
 obtain ⟨D,h1,h2,h3⟩:=h.map
 obtain ⟨q1,q2⟩:=h3 s
 have l0:=(ZeH s ss).1
 have HH:=zh (zi h1 (zi hs q2))
 clear h h1 h2 h3 hs q2
 by_cases q:0<=ZD ss s
 ·rw [decide_eq_true q] at q1
  have HE:=zh (HH.out.2.2 q)
  have HQ:=zh q1
  generalize ZD ss s=P at *
  clear l0 q q1
  go_enter Tryz.func75,Tryz.ntmps75
  go_wp2_with (at_lookup;refine wpList_lookup_own_ok_int _ rfl _ _ _ rfl 9 3 .i64 ZcJ Tryz.underlying93 Tryz.underlying3 (Zcr w) bm _ D rfl HH.out.1 (txt s) _ rfl (ZdI s HH.out.2.1) ?_;intro c hc _;rw [HE.out] at hc;injection hc with hc;injection hc with _ hc;subst hc;rw [HQ.out])
  go_ret
  exact ⟨rfl,rfl⟩
 ·rw [decide_eq_false q] at q1
  have HQ:=zh q1
  have e:ZD ss s=-1:=by omega
  rw [e]
  clear l0 q q1 e
  go_enter Tryz.func75,Tryz.ntmps75
  go_wp2_with (at_lookup;refine wpList_lookup_own_ok_int _ rfl _ _ _ rfl 9 3 .i64 ZcJ Tryz.underlying93 Tryz.underlying3 (Zcr w) bm _ D rfl HH.out.1 (txt s) _ rfl (ZdI s HH.out.2.1) ?_;intro c hc _;rw [HQ.out])
  go_ret
  exact ⟨rfl,rfl⟩
theorem Zgx (w:World) (v:Value) (ss:List Sta) (h:ZaD w v ss) (hn:ss.length<=1000):Calls Tryz.prog 45 #[v] w fun e w'=>∃ bx bm,e=.returned (Zb1 bx)/\PlcS w' bx bm ss/\w.heap.size<=bx/\w.heap.size<=bm/\Below w.heap.size w w':=by
 have hmm:=@run_makeMap Tryz.prog
 have hmf:∀ (fn:Fn) (first cap:Array Value) (w:World),(Instr.makeFunc fn first cap).run Tryz.prog w=.ok (.func fn first cap) w:=fun _ _ _ _=>rfl
 obtain ⟨A,c,rfl,h1,h2,h3,h4⟩:=h
 have a1:=below_alloc1 w (.map #[] 0)
 have a2:=below_alloc1 (w.alloc (.map #[] 0)) (.cells #[.map (some w.heap.size)] 93)
 have b:=Zd.start (w.alloc (.map #[] 0)) #[.map (some w.heap.size)] 93
 rw [World.size_alloc] at b
 have m0:Za2 (w.alloc (.map #[] 0)) w.heap.size []:=⟨.map [],World.ownsMap_made _ _ _ _,isMap_empty,fun s=>⟨rfl,fun h=>absurd h (by rw [ZdV];decide)⟩⟩
 have HF:=zh (show PlcS _ (w.heap.size+1) w.heap.size [] from ⟨b,m0.keep a2⟩)
 have HB:=zh (a1.trans (a2.mono a1.size))
 have H3:=zh (zi h3 (zi h4 hn))
 clear a1 a2 b m0 h1 h2 h3 h4
 go_enter Tryz.func45,Tryz.ntmps45
 go_upto_region 2 with fail
 generalize hW:(w.alloc (.map #[] 0)).alloc (.cells #[.map (some w.heap.size)] 93)=W at *
 clear hW
 go_wp2_with fail
 go_loopg [9] ss.length (fun g v9 wr=>∃ k:Nat,v9=.int .i64 k/\k<=ss.length/\g=ss.length-k/\Below w.heap.size w wr/\PlcS wr (w.heap.size+1) w.heap.size (ss.take k))
 case atStart=>exact ⟨0,rfl,Nat.zero_le _,rfl,HB.out,HF.out⟩
 case round=>
  obtain ⟨k,rfl,hk,hg,hb,hr⟩:=hrel
  by_cases hkn:k=ss.length
  ·have j1:decide (k<ss.length)=false:=decide_eq_false (by omega)
   have FIN:=zh (zi hb (show PlcS wr (w.heap.size+1) w.heap.size ss by rw [hkn,List.take_length] at hr;exact hr))
   clear hk hg hb hr hkn
   go_wp2_with fail
   go_ret
   exact ⟨_,_,rfl,FIN.out.2,Nat.le_succ _,Nat.le_refl _,FIN.out.1⟩
  ·have hlt:k<ss.length:=by omega
   obtain ⟨x,hx⟩:∃ x,ss[k]? = some x:=⟨_,List.getElem?_eq_getElem hlt⟩
   obtain ⟨ad,rfl,d0,d1⟩:=ZaN ZbC H3.out.1 hb hx (by omega)
   unfold stC at d0 d1
   simp only [List.getElem?_cons_zero,List.getElem?_cons_succ] at d0 d1
   have j1:(k:Int)<(ss.length:Int):=by omega
   have j2:(0:Int)<=(k:Int):=by omega
   have wk:IntKind.i64.wrap ((k:Int)+1)=(k:Int)+1:=IntWalk.i64_in _ (by have:=H3.out.2.2;omega)
   have a5:=below_alloc1 wr (.cells #[txt x.name,.bool x.final] 82)
   have B5:=Blk.start wr #[txt x.name,.bool x.final] 82
   have S5:=hr.keep a5
   have HK:=zh (zi hlt (zi hg (zi (hb.trans (a5.mono hb.size)) (zi hx (H3.out.2.1 x (List.mem_of_getElem? hx))))))
   clear hkn hlt hk hg hb hr hx a5
   go_upto_region 5 with fail
   generalize wr.alloc (.cells #[txt x.name,.bool x.final] 82)=W5 at *
   have c0:=B5.cell 0
   have e0:=S5.box.blk.cell 0
   simp only [List.getElem?_toArray,List.getElem?_cons_zero] at c0 e0
   obtain ⟨D,m1,m2,m3⟩:=S5.map
   have tl:(ss.take k).length=k:=by rw [List.length_take];have:=HK.out.1;omega
   rw [tl] at m1
   have MM:=zh (zi m1 (zi m2 m3))
   have SB:=zh S5
   clear m1 m2 m3 S5 B5
   go_wp2_with (at_mapUpdate;refine wpList_mapUpdate_own _ rfl _ _ _ _ rfl 9 3 ZcJ Tryz.underlying93 _ _ _ D rfl MM.out.1 (by have:=HK.out.1;have:=H3.out.2.2;unfold maxLen;omega) (txt x.name) (.int .i64 k) _ rfl rfl (ZdI x.name HK.out.2.2.2.2) (.lit (.int .i64 (k:Int))) [] (plainElem_int Tryz.underlying3 (WalkArith.wf_i64 (by have:=HK.out.1;have:=H3.out.2.2;omega))) ?_;intro w1 hm1 hg1;have H1:=zh (zi hm1 hg1);clear hm1 hg1)
   go_roundg (ss.length-(k+1))
   case measure=>have:=HK.out.1;have:=HK.out.2.1;omega
   case rel=>
    have bx1:=SB.out.box.grown H1.out.2 (fun e=>by injection e with e;omega)
    have pm:=Za2.put (ss:=ss.take k) (x:=x) MM.out.2.1 MM.out.2.2 (by rw [tl];exact H1.out.1)
    refine ⟨k+1,by push_cast;rfl,HK.out.1,rfl,HK.out.2.2.1.trans (Zv H1.out.2 HK.out.2.2.1.size (fun k hk=>by injection hk with hk;omega)),⟨bx1,?_⟩⟩
    rw [List.take_add_one,HK.out.2.2.2.1]
    exact pm
end
end Go.Proofs.YtkgkmdhpnhmcpaaGreatDoor
