import Derived.Test.YtaacbenikcbibabGreatDoorRows
import Derived.WalkKit
import Derived.WalkSpells
import Derived.WalkLawsBesides
import Derived.IntWalk
import Derived.Lib.Hide
import Derived.WalkSmall
import Derived.Deep.QuietTactic
import Derived.BigQuiet
import Derived.Deep.LoopGhost
import Derived.Lib.Strings
import Derived.StillTailTactics
import Derived.BigRegion
import Derived.Deep.RegionHeld3
import Derived.Deep.Cut
import Derived.Maps.OwnOps
import Derived.Maps.Views
import Derived.Test.YtaacbenikcbibabGreatDoorQAA
set_option maxRecDepth 100000
set_option maxHeartbeats 8000000
namespace Go.Proofs.YtaacbenikcbibabGreatDoor
section
open Go.RowKit
structure Ou where
 name:List UInt8
 to:Int
structure Sta where
 name:List UInt8
 final:Bool
structure Mov where
 op:List UInt8
 at_:Int
 outs:List Ou
structure Pro where
 name:List UInt8
 states:List Sta
 moves:List Mov
section
variable {α:Type}
def Zt (f:α->List Value):List α->List Value
 | []=>[]
 | x::r=>f x++Zt f r
theorem ZaC (f:α->List Value):∀ l k,Zt f (l++k)=Zt f l++Zt f k
 | [],k=>rfl
 | x::r,k=>by rw [List.cons_append,Zt,Zt,ZaC f r k,List.append_assoc]
theorem Zat {f:α->List Value} {m:Nat} (hf:∀ x,(f x).length=m):∀ (l:List α) (k j:Nat) (x:α),l[k]? = some x->j<m->(Zt f l)[k*m+j]? = (f x)[j]?
 | [],k,j,x,h,_=>by simp at h
 | y::r,0,j,x,h,hj=>by
  obtain rfl:y=x:=by simpa using h
  rw [Zt,Nat.zero_mul,Nat.zero_add,List.getElem?_append_left (by rw [hf];exact hj)]
 | y::r,k+1,j,x,h,hj=>by
  rw [List.getElem?_cons_succ] at h
  rw [Zt,List.getElem?_append_right (by rw [hf,Nat.add_mul];omega),hf,show (k+1)*m+j-m=k*m+j by rw [Nat.add_mul];omega]
  exact Zat hf r k j x h hj
def Zak (m:Nat) (f:α->List Value) (P:World->α->Prop) (w:World) (v:Value) (l:List α):Prop:=
 ∃ A c,v=.slice A l.length c/\l.length<=c/\c<=maxLen/\Zs w w.heap.size m A l.length (Zt f l)/\∀ x∈l,P w x
theorem Zak.below {m:Nat} {f:α->List Value} {P:World->α->Prop} (hP:∀ w w' x,P w x->Below w.heap.size w w'->P w' x) {w w':World} {v:Value} {l:List α} (h:Zak m f P w v l) (hb:Below w.heap.size w w'):Zak m f P w' v l:=by
 obtain ⟨A,c,h1,h2,h3,h4,h5⟩:=h
 exact ⟨A,c,h1,h2,h3,(h4.below hb).more hb.size,fun x hx=>hP w w' x (h5 x hx) hb⟩
theorem Zak.nil (m:Nat) (f:α->List Value) (P:World->α->Prop) (w:World):Zak m f P w (.slice none 0 0) []:=⟨none,0,rfl,Nat.le_refl _,by decide,Zs.none_,fun x hx=>by cases hx⟩
theorem ZfN {m:Nat} {f:α->List Value} (hf:∀ x,(f x).length=m) {w wr:World} {A:Option Addr} {n k:Nat} {l:List α} {x:α} (h4:Zs w w.heap.size m A n (Zt f l)) (hb:Below w.heap.size w wr) (hx:l[k]? = some x) (hn:0<n) :
  ∃ ad,A=some ad/\∀ j,j<m->wr.cell? ((ad.add (k*m)).add j)=(f x)[j]?:=by
 obtain ⟨ad,e,hbk,hc⟩:=h4.2 hn
 refine ⟨ad,e,fun j hj=>?_⟩
 rw [ZaI,hb.cell (p:=ad.add (k*m+j)) (by rw [ZT];exact hbk)]
 have hu:(f x)[j]? = some ((f x)[j]'(by rw [hf];exact hj)):=List.getElem?_eq_getElem _
 rw [hu]
 exact hc _ _ ((Zat hf l k j x hx hj).trans hu)
end
section
variable {α:Type}
theorem ZaP {f:α->List Value} (hf:∀ x,(f x).length=2) {w wr:World} {A:Option Addr} {n k:Nat} {l:List α} {x:α} (h4:Zs w w.heap.size 2 A n (Zt f l)) (hb:Below w.heap.size w wr) (hx:l[k]? = some x) (hn:0<n) :
  ∃ ad,A=some ad/\wr.cell? (ad.add (k*2))=(f x)[0]?/\wr.cell? ⟨(ad.add (k*2)).block,(ad.add (k*2)).off+1,none⟩=(f x)[1]?:=by
 obtain ⟨ad,e,h⟩:=ZfN hf h4 hb hx hn
 have h0:=h 0 (by decide)
 have h1:=h 1 (by decide)
 rw [ZaI,Nat.add_zero] at h0
 exact ⟨ad,e,h0,h1⟩
theorem ZbI {f:α->List Value} (hf:∀ x,(f x).length=3) {w wr:World} {A:Option Addr} {n k:Nat} {l:List α} {x:α} (h4:Zs w w.heap.size 3 A n (Zt f l)) (hb:Below w.heap.size w wr) (hx:l[k]? = some x) (hn:0<n) :
  ∃ ad,A=some ad/\wr.cell? (ad.add (k*3))=(f x)[0]?/\wr.cell? ⟨(ad.add (k*3)).block,(ad.add (k*3)).off+1,none⟩=(f x)[1]?/\wr.cell? ⟨(ad.add (k*3)).block,(ad.add (k*3)).off+2,none⟩=(f x)[2]?:=by
 obtain ⟨ad,e,h⟩:=ZfN hf h4 hb hx hn
 have h0:=h 0 (by decide)
 have h1:=h 1 (by decide)
 have h2:=h 2 (by decide)
 rw [ZaI,Nat.add_zero] at h0
 exact ⟨ad,e,h0,h1,h2⟩
end
def ouC (x:Ou):List Value:=[txt x.name,.int .i64 x.to]
def stC (x:Sta):List Value:=[txt x.name,.bool x.final]
def mvC (x:Value×Mov):List Value:=[txt x.2.op,.int .i64 x.2.at_,x.1]
def Zaj:World->Value->List Ou->Prop:=Zak 2 ouC fun _ x=>x.name.length<=maxLen
def ZaH:World->Value->List Sta->Prop:=Zak 2 stC fun _ x=>x.name.length<=maxLen
def Zby (w:World) (v:Value) (ms:List Mov):Prop:=∃ rs:List (Value×Mov),rs.map (·.2)=ms/\Zak 3 mvC (fun w x=>x.2.op.length<=maxLen/\Zaj w x.1 x.2.outs) w v rs
theorem Zaj.below {w w':World} {v:Value} {l:List Ou} (h:Zaj w v l) (hb:Below w.heap.size w w'):Zaj w' v l:=Zak.below (fun _ _ _ h _=>h) h hb
theorem ZaH.below {w w':World} {v:Value} {l:List Sta} (h:ZaH w v l) (hb:Below w.heap.size w w'):ZaH w' v l:=Zak.below (fun _ _ _ h _=>h) h hb
theorem Zby.below {w w':World} {v:Value} {l:List Mov} (h:Zby w v l) (hb:Below w.heap.size w w'):Zby w' v l:=by
 obtain ⟨rs,e,h⟩:=h
 exact ⟨rs,e,Zak.below (fun _ _ _ h hb=>⟨h.1,h.2.below hb⟩) h hb⟩
theorem Zaj.len {w:World} {v:Value} {l:List Ou} (h:Zaj w v l):∃ A c,v=.slice A l.length c/\l.length<=maxLen:=by
 obtain ⟨A,c,e,a,b,_⟩:=h
 exact ⟨A,c,e,Nat.le_trans a b⟩
theorem ZaH.len {w:World} {v:Value} {l:List Sta} (h:ZaH w v l):∃ A c,v=.slice A l.length c/\l.length<=maxLen:=by
 obtain ⟨A,c,e,a,b,_⟩:=h
 exact ⟨A,c,e,Nat.le_trans a b⟩
theorem Zby.len {w:World} {v:Value} {l:List Mov} (h:Zby w v l):∃ A c,v=.slice A l.length c/\l.length<=maxLen:=by
 obtain ⟨rs,rfl,A,c,e,a,b,_⟩:=h
 rw [List.length_map]
 exact ⟨A,c,e,Nat.le_trans a b⟩
structure ProAt (w:World) (vs vm:Value) (p:Pro):Prop where
 name:p.name.length<=maxLen
 states:ZaH w vs p.states
 moves:Zby w vm p.moves
theorem ProAt.below {w w':World} {vs vm:Value} {p:Pro} (h:ProAt w vs vm p) (hb:Below w.heap.size w w'):ProAt w' vs vm p:=⟨h.name,h.states.below hb,h.moves.below hb⟩
abbrev ZaF (vs vm:Value) (p:Pro):Value:=.agg #[txt p.name,vs,vm]
end
section
open Go.RowKit Go.Maps
theorem ZcW:Keyed Tryz.prog 9:=string_keyed Tryz.underlying9
theorem Zcm (w:World):(zeroValue 3).run Tryz.prog w=.ok (.int .i64 0) w:=by kernel_rfl
def Zao (w:World) (b:Nat) (L:List (List UInt8)):Prop:=
 ∃ D:DataW Unit,w.ownsMap Tryz.prog 9 (plainElem Tryz.prog 3) b L.length D/\IsMap D/\∀ s:List UInt8,D.atKey (.string s) (.lit (.int .i64 0))=.lit (.int .i64 (L.count s))
theorem Zao.made (w:World):Zao (w.alloc (.map #[] 0)) w.heap.size []:=⟨.map [],World.ownsMap_made _ _ _ _,isMap_empty,fun _=>rfl⟩
theorem Zao.lt {w:World} {b:Nat} {L:List (List UInt8)} (h:Zao w b L):b<w.heap.size:=by
 obtain ⟨D,h1,_⟩:=h
 exact h1.lt
theorem Zao.keepB {w w':World} {b B:Nat} {L:List (List UInt8)} (h:Zao w b L) (hb:Below B w w') (hlt:b<B):Zao w' b L:=by
 obtain ⟨D,⟨es,cl,h1,h2⟩,h3⟩:=h
 exact ⟨D,⟨es,cl,(hb.block b hlt).trans h1,h2⟩,h3⟩
theorem Zao.keep {w w':World} {b:Nat} {L:List (List UInt8)} (h:Zao w b L) (hb:Below w.heap.size w w'):Zao w' b L:=h.keepB hb h.lt
theorem Zao.grown {w w':World} {row:Option Nat} {b:Nat} {L:List (List UInt8)} (h:Zao w b L) (hg:w.grownBy w' row) (hne:row≠some b):Zao w' b L:=by
 have hlt:=h.lt
 obtain ⟨D,⟨es,cl,h1,h2⟩,h3⟩:=h
 exact ⟨D,⟨es,cl,(hg.block b hlt (fun e=>hne e.symm)).trans h1,h2⟩,h3⟩
theorem Zao.not_blk {w:World} {b c:Nat} {L:List (List UInt8)} {cs:Array Value} (h:Zao w b L) (k:Blk w c cs):b≠c:=by
 rintro rfl
 obtain ⟨D,⟨es,cl,h1,_⟩,_⟩:=h
 obtain ⟨ty,h2⟩:=k
 rw [h1] at h2
 cases h2
section
variable {w:World} {ops:Array Oper} {rest:List Oper} {o:Oper} {a:Act} {Q:Exit->Act->World->Prop}
theorem Zck (m x:Operand) (t:TypeId) (hg:o.guard=none) (hop:o.op=Op.lookup t m x false) (ht:Tryz.prog.underlying t=some (.map 9 3)) (b:Nat) (L:List (List UInt8))
  (hm:a.eval m=.map (some b)) (h:Zao w b L) (s:List UInt8) (hx:a.eval x=txt s) (hk:s.length<=maxLen)
  (hK:wpList Tryz.prog ops Q rest (a.put o.dst (.int .i64 (L.count s))) w):wpList Tryz.prog ops Q (o::rest) a w:=by
 obtain ⟨D,h1,h2,h3⟩:=h
 refine wpList_lookup_own_int w hg m x t hop 9 3 .i64 ZcW ht Tryz.underlying3 (Zcm w) b _ D hm h1 _ _ hx (WideMaps.keyOf_string_mk Tryz.underlying9 (by show s.toArray.size<=maxLen;rw [List.size_toArray];exact hk)) ?_
 intro c hat _
 have e:=(h3 s).symm.trans hat
 injection e with e
 injection e with _ e
 rw [<- e]
 exact hK
theorem ZfS (m x v:Operand) (t:TypeId) (hg:o.guard=none) (hop:o.op=Op.mapUpdate t m x v) (ht:Tryz.prog.underlying t=some (.map 9 3)) (b:Nat) (L:List (List UInt8))
  (hm:a.eval m=.map (some b)) (h:Zao w b L) (hn:L.length<maxLen) (s:List UInt8) (hx:a.eval x=txt s) (hv:a.eval v=.int .i64 ((L.count s:Int)+1)) (hk:s.length<=maxLen)
  (hK:∀ w',Zao w' b (s::L)->w.grownBy w' (some b)->wpList Tryz.prog ops Q rest (a.put o.dst undef) w'):wpList Tryz.prog ops Q (o::rest) a w:=by
 obtain ⟨D,h1,h2,h3⟩:=h
 have hc:L.count s<=L.length:=List.count_le_length
 refine wpList_mapUpdate_own w hg m x v t hop 9 3 ZcW ht _ b _ D hm h1 hn _ _ _ hx hv (WideMaps.keyOf_string_mk Tryz.underlying9 (by show s.toArray.size<=maxLen;rw [List.size_toArray];exact hk)) (.lit (.int .i64 ((L.count s:Int)+1))) [] (plainElem_int Tryz.underlying3 (WalkArith.wf_i64 (by unfold maxLen at hn;omega))) ?_
 intro w' k1 k2
 refine hK w' ⟨_,k1,h2.put _ _,fun u=>?_⟩ k2
 by_cases e:s=u
 ·subst e
  rw [List.count_cons_self]
  exact atKey_put_same h2 (by trivial) _ _
 ·rw [List.count_cons_of_ne e]
  exact (atKey_put_other (by intro q;injection q with q;exact e q.symm) _ _).trans (h3 u)
end
def frF (bx:Nat):Value:=.func (.func 96) #[] #[.pointer (some ⟨bx,0,none⟩)]
structure FreS (w:World) (bx bm:Nat) (L:List (List UInt8)):Prop where
 box:Blk w bx #[.map (some bm)]
 map:Zao w bm L
theorem FreS.keep {w w':World} {bx bm:Nat} {L:List (List UInt8)} (h:FreS w bx bm L) (hb:Below w.heap.size w w'):FreS w' bx bm L:=⟨h.box.keep hb,h.map.keep hb⟩
theorem FreS.grown {w w':World} {row:Option Nat} {bx bm:Nat} {L:List (List UInt8)} (h:FreS w bx bm L) (hg:w.grownBy w' row) (h1:row≠some bx) (h2:row≠some bm):FreS w' bx bm L:=⟨h.box.grown hg h1,h.map.grown hg h2⟩
theorem ZdN (w:World):Calls Tryz.prog 69 #[] w fun e w'=>∃ bx bm,e=.returned (frF bx)/\FreS w' bx bm []/\w.heap.size<=bx/\w.heap.size<=bm/\Below w.heap.size w w':=by
 have hmm:=@run_makeMap Tryz.prog
 have hmf:∀ (fn:Fn) (first cap:Array Value) (w:World),(Instr.makeFunc fn first cap).run Tryz.prog w=.ok (.func fn first cap) w:=fun _ _ _ _=>rfl
 go_enter Tryz.func69,Tryz.ntmps69
 go_wp2_with fail
 go_ret
 have a1:=Za w (.map #[] 0)
 have a2:=Za (w.alloc (.map #[] 0)) (.cells #[.map (some w.heap.size)] 71)
 have b:=Blk.start (w.alloc (.map #[] 0)) #[.map (some w.heap.size)] 71
 rw [World.size_alloc] at b
 exact ⟨w.heap.size+1,w.heap.size,rfl,⟨b,(Zao.made w).keep a2⟩,Nat.le_succ _,Nat.le_refl _,a1.trans (a2.mono a1.size)⟩
theorem Zdb (w:World) (bx bm:Nat) (L:List (List UInt8)) (s:List UInt8) (h:FreS w bx bm L) (hn:L.length<1000000) (hs:s.length<=maxLen) :
  Calls Tryz.prog 96 #[txt s,.pointer (some ⟨bx,0,none⟩)] w fun e w'=>e=.returned (.bool (!L.contains s))/\FreS w' bx bm (s::L)/\w.grownBy w' (some bm):=by
 have c0:=h.box.cell 0
 have HH:=Lib.hid h
 have hc:L.count s<=L.length:=List.count_le_length
 have wk:IntKind.i64.wrap ((L.count s:Int)+1)=(L.count s:Int)+1:=IntWalk.i64_in _ (by omega)
 have hct:(L.contains s=true/\¬ ((L.count s:Int)+1=1))\/(L.contains s=false/\(L.count s:Int)+1=1):=by
  cases q:L.contains s with
  | true=>
   have:=List.count_pos_iff.mpr (List.contains_iff_mem.mp q)
   exact .inl ⟨rfl,by omega⟩
  | false=>
   have:=List.count_eq_zero.mpr (fun m=>by rw [List.contains_iff_mem.mpr m] at q;cases q)
   exact .inr ⟨rfl,by omega⟩
 simp only [List.getElem?_toArray,List.getElem?_cons_zero] at c0
 have K:=Lib.hid (And.intro hn hs)
 clear h hn hs hc
 generalize L.contains s=B at *
 have HT:=Lib.hid hct
 clear hct
 generalize hC:L.count s=C at *
 have HC:=Lib.hid hC
 clear hC
 go_enter Tryz.func96,Tryz.ntmps96
 go_upto_region 2 with (first
  | (at_lookup;refine Zck _ _ _ rfl rfl Tryz.underlying71 bm L rfl HH.out.map s rfl K.out.2 ?_;rw [HC.out])
  | (at_mapUpdate;refine ZfS _ _ _ _ rfl rfl Tryz.underlying71 bm L rfl HH.out.map (by have:=K.out.1;unfold maxLen;omega) s rfl (by first | (rw [HC.out];rfl) | (rw [HC.out];simp [wk];done)) K.out.2 ?_;intro w1 hm1 hg1;have H1:=Lib.hid (And.intro hm1 hg1);clear hm1 hg1))
 have hb1:=HH.out.box.grown H1.out.2 (fun e=>by injection e with e;exact HH.out.map.not_blk HH.out.box e)
 have c1:=hb1.cell 0
 simp only [List.getElem?_toArray,List.getElem?_cons_zero] at c1
 have H2:=Lib.hid (And.intro (FreS.mk hb1 H1.out.1) H1.out.2)
 have HC2:=Lib.hid (show (s::L).count s=C+1 from by rw [List.count_cons_self,HC.out])
 clear hb1 H1
 go_wp2_with (at_lookup;refine Zck _ _ _ rfl rfl Tryz.underlying71 bm (s::L) rfl H2.out.1.map s rfl K.out.2 ?_;rw [HC2.out])
 go_ret
 refine ⟨?_,H2.out⟩
 show Ending.returned (.bool ((C:Int)+1==1))=_
 rcases HT.out with ⟨q,i1⟩ | ⟨q,i1⟩
 ·rw [q,show ((C:Int)+1==1)=false from beq_eq_false_iff_ne.mpr i1]
  rfl
 ·rw [q,show ((C:Int)+1==1)=true from beq_iff_eq.mpr i1]
  rfl
end
end Go.Proofs.YtaacbenikcbibabGreatDoor
