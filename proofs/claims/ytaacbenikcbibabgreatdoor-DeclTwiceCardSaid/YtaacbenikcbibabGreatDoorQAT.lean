import Derived.Deep.RegionLaw
import Derived.Test.YtaacbenikcbibabGreatDoorQAR
import Derived.Test.YtaacbenikcbibabGreatDoorQAS
set_option maxRecDepth 100000
set_option maxHeartbeats 8000000
namespace Go.Proofs.YtaacbenikcbibabGreatDoor
section
open Go.RowKit Go.Maps
def tkF (bx:Nat):Value:=.func (.func 24) #[] #[.pointer (some ⟨bx,0,none⟩)]
theorem Zdp (w:World) (bx bm:Nat) (L:List (List UInt8)) (s:List UInt8) (h:FreS w bx bm L) (hn:L.length<1000000) (hs:s.length<=maxLen) :
  Calls Tryz.prog 24 #[txt s,.pointer (some ⟨bx,0,none⟩)] w fun e w'=>e=.returned (.bool (L.contains s))/\FreS w' bx bm (s::L)/\w.grownBy w' (some bm):=by
 have c0:=h.box.cell 0
 have HH:=Lib.hid h
 have hc:L.count s<=L.length:=List.count_le_length
 have wk:IntKind.i64.wrap ((L.count s:Int)+1)=(L.count s:Int)+1:=IntWalk.i64_in _ (by omega)
 have hct:(L.contains s=true/\1<(L.count s:Int)+1)\/(L.contains s=false/\¬ (1<(L.count s:Int)+1)):=by
  cases q:L.contains s with
  | true=>
   have:=List.count_pos_iff.mpr (List.contains_iff_mem.mp q)
   exact .inl ⟨rfl,by omega⟩
  | false=>
   have:=List.count_eq_zero.mpr (fun m=>by rw [List.contains_iff_mem.mpr m] at q;cases q)
   exact .inr ⟨rfl,by omega⟩
 simp only [List.getElem?_toArray,List.getElem?_cons_zero] at c0
 have K:=Lib.hid (And.intro hn hs)
 clear h hn hs hc
 generalize L.contains s=B at *
 have HT:=Lib.hid hct
 clear hct
 generalize hC:L.count s=C at *
 have HC:=Lib.hid hC
 clear hC
 go_enter Tryz.func24,Tryz.ntmps24
 go_upto_region 2 with (first
  | (at_lookup;refine Zck _ _ _ rfl rfl Tryz.underlying71 bm L rfl HH.out.map s rfl K.out.2 ?_;rw [HC.out])
  | (at_mapUpdate;refine ZfS _ _ _ _ rfl rfl Tryz.underlying71 bm L rfl HH.out.map (by have:=K.out.1;unfold maxLen;omega) s rfl (by first | (rw [HC.out];rfl) | (rw [HC.out];simp [wk];done)) K.out.2 ?_;intro w1 hm1 hg1;have H1:=Lib.hid (And.intro hm1 hg1);clear hm1 hg1))
 have hb1:=HH.out.box.grown H1.out.2 (fun e=>by injection e with e;exact HH.out.map.not_blk HH.out.box e)
 have c1:=hb1.cell 0
 simp only [List.getElem?_toArray,List.getElem?_cons_zero] at c1
 have H2:=Lib.hid (And.intro (FreS.mk hb1 H1.out.1) H1.out.2)
 have HC2:=Lib.hid (show (s::L).count s=C+1 from by rw [List.count_cons_self,HC.out])
 clear hb1 H1
 go_wp2_with (at_lookup;refine Zck _ _ _ rfl rfl Tryz.underlying71 bm (s::L) rfl H2.out.1.map s rfl K.out.2 ?_;rw [HC2.out])
 go_ret
 refine ⟨?_,H2.out⟩
 show Ending.returned (.bool (decide (1<(C:Int)+1)))=_
 rcases HT.out with ⟨q,i1⟩ | ⟨q,i1⟩
 ·rw [q,decide_eq_true i1]
 ·rw [q,decide_eq_false (by omega)]
end
section
open Go.RowKit
def Zz (w w':World) (bd:Nat) (e1 e2:TypeId):Prop:=
 w.heap.size<=w'.heap.size/\∀ b,b<w.heap.size->b≠bd->(∀ cs,¬ Ze w b e1 cs)->(∀ cs,¬ Ze w b e2 cs)->w'.heap[b]? = w.heap[b]?
theorem ZaW {w w':World} {b:Nat} {ty:TypeId} {cs cs':Array Value} (h:Ze w b ty cs) (e:w'.heap[b]? = w.heap[b]?) {ty':TypeId} (h':Ze w' b ty' cs'):ty=ty':=by
 unfold Ze at h h'
 rw [e,h] at h'
 injection h' with h'
 injection h' with _ h' _
theorem Zz.refl (w:World) (bd:Nat) (e1 e2:TypeId):Zz w w bd e1 e2:=⟨Nat.le_refl _,fun _ _ _ _ _=>rfl⟩
theorem Zz.trans {w w' w2:World} {bd:Nat} {e1 e2:TypeId} (h:Zz w w' bd e1 e2) (k:Zz w' w2 bd e1 e2):Zz w w2 bd e1 e2:=
 ⟨Nat.le_trans h.1 k.1,fun b hb hne h1 h2=>by
  have e:=h.2 b hb hne h1 h2
  refine (k.2 b (Nat.lt_of_lt_of_le hb h.1) hne (fun cs q=>h1 cs ?_) (fun cs q=>h2 cs ?_)).trans e
  ·unfold Ze at q ⊢;rw [<- e];exact q
  ·unfold Ze at q ⊢;rw [<- e];exact q⟩
theorem Zz.of_below {w w':World} {bd:Nat} {e1 e2:TypeId} (h:Below w.heap.size w w'):Zz w w' bd e1 e2:=⟨h.size,fun b hb _ _ _=>h.block b hb⟩
theorem Zz.set {w:World} {bd:Nat} {e1 e2:TypeId} (i:Nat) (v:Value):Zz w (w.setCell ⟨bd,i,none⟩ v) bd e1 e2:=
 ⟨by simp [World.setCell],fun b _ hne _ _=>Below.heap_setCell _ _ _ _ (fun e=>hne e)⟩
theorem Zz.row1 {w w':World} {bd base n size:Nat} {e1 e2:TypeId} {v:Value} {xs:List Value} (ho:w.ownsRow base e1 size v n xs) (hg:w.grownBy w' v.ownBlock):Zz w w' bd e1 e2:=
 ⟨hg.size,fun b hb _ h1 _=>hg.block b hb (fun e=>by
  rcases ho.2 with ⟨q,_⟩ | ⟨g,cap,cur,q,_,k,_⟩
  ·rw [q] at e;cases e
  ·rw [q] at e
   injection e with e
   dsimp only at e
   subst e
   exact h1 cur k)⟩
theorem Zz.row2 {w w':World} {bd base n size:Nat} {e1 e2:TypeId} {v:Value} {xs:List Value} (ho:w.ownsRow base e2 size v n xs) (hg:w.grownBy w' v.ownBlock):Zz w w' bd e1 e2:=
 ⟨hg.size,fun b hb _ _ h1=>hg.block b hb (fun e=>by
  rcases ho.2 with ⟨q,_⟩ | ⟨g,cap,cur,q,_,k,_⟩
  ·rw [q] at e;cases e
  ·rw [q] at e
   injection e with e
   dsimp only at e
   subst e
   exact h1 cur k)⟩
theorem Zz.tblk {w w':World} {bd b:Nat} {e1 e2 ty:TypeId} {cs:Array Value} (h:Zz w w' bd e1 e2) (k:Ze w b ty cs) (hne:b≠bd) (h1:ty≠e1) (h2:ty≠e2):Ze w' b ty cs:=
 (h.2 b k.lt hne (fun _ q=>h1 (ZaW k rfl q)) (fun _ q=>h2 (ZaW k rfl q))).trans k
structure RdS (B:Nat) (w:World) (bd:Nat) (nm:List UInt8) (at_:Int) (ss:List Sta) (ps:List Int):Prop where
 box:∃ vs va,Ze w bd 54 #[txt nm,vs,.slice none 0 0,.int .i64 at_,va,.slice none 0 0]/\w.ownsRow B 74 2 vs ss.length (Zt stC ss)/\w.ownsRow B 3 1 va ps.length (ps.map (Value.int .i64))
 ge:B<=bd
theorem RdS.keep {B:Nat} {w w':World} {bd:Nat} {nm:List UInt8} {at_:Int} {ss:List Sta} {ps:List Int} (h:RdS B w bd nm at_ ss ps) (hb:Below w.heap.size w w'):RdS B w' bd nm at_ ss ps:=by
 obtain ⟨vs,va,h1,h2,h3⟩:=h.box
 exact ⟨⟨vs,va,h1.keep hb,Zf h2 hb,Zf h3 hb⟩,h.ge⟩
theorem Zja (s:List UInt8) (b:Bool):∀ u∈[txt s,Value.bool b],u.oneCell'=true:=by
 intro u hu
 rcases List.mem_cons.1 hu with rfl | hu
 ·rfl
 ·rw [List.mem_singleton.1 hu];rfl
theorem Zi2 (x:Int):∀ u∈[Value.int .i64 x],u.oneCell'=true:=fun u hu=>by rw [List.mem_singleton.1 hu];rfl
theorem ZbQ (w:World) (x y:Value) (ty:TypeId):Zs (w.alloc (.cells #[x,y] ty)) (w.heap.size+1) 2 (some ⟨w.heap.size,0,none⟩) 1 [x,y]:=
 ⟨rfl,fun _=>⟨_,rfl,Nat.lt_succ_self _,fun j u hj=>by
  have T:=(Ze.start w #[x,y] ty).blk
  match j,hj with
  | 0,hj=>injection hj with hj;subst hj;exact T.cell 0
  | 1,hj=>injection hj with hj;subst hj;exact T.cell 1
  | j+2,hj=>simp at hj⟩⟩
theorem Zal {w:World} {base n size:Nat} {e:TypeId} {v:Value} {xs:List Value} (h:w.ownsRow base e size v n xs) (o:Obj):((w.alloc o).drew).ownsRow base e size v n xs:=Zf (w:=w) h (Za w o).drew
theorem Zau {w:World} {b:Nat} {ty:TypeId} {cs:Array Value} (h:Ze w b ty cs) (o:Obj):Ze (w.alloc o).drew b ty cs:=(h.keep (Za w o):Ze (w.alloc o) b ty cs)
end
end Go.Proofs.YtaacbenikcbibabGreatDoor
