import Derived.Deep.RegionWith
import Derived.Deep.CutRange
import Derived.Test.YtaacbenikcbibabGreatDoorQAJ
set_option maxRecDepth 100000
set_option maxHeartbeats 8000000
namespace Go.Proofs.YtaacbenikcbibabGreatDoor
section
open Go.RowKit
theorem ZiJ {l:List Ou}:∀ u∈Zt ouC l,u.oneCell'=true:=by
 induction l with
 | nil=>intro u hu;cases hu
 | cons x r ih=>
  intro u hu
  rw [Zt,List.mem_append] at hu
  rcases hu with hu | hu
  ·unfold ouC at hu
   simp only [List.mem_cons,List.not_mem_nil,or_false] at hu
   rcases hu with rfl | rfl<;>rfl
  ·exact ih u hu
theorem ZiS {l:List Sta}:∀ u∈Zt stC l,u.oneCell'=true:=by
 induction l with
 | nil=>intro u hu;cases hu
 | cons x r ih=>
  intro u hu
  rw [Zt,List.mem_append] at hu
  rcases hu with hu | hu
  ·unfold stC at hu
   simp only [List.mem_cons,List.not_mem_nil,or_false] at hu
   rcases hu with rfl | rfl<;>rfl
  ·exact ih u hu
theorem Zcj {α:Type} {l:List α} {i:Nat} {x:α} (h:l[i]? = some x):l.set i x=l:=by
 obtain ⟨hi,e⟩:=List.getElem?_eq_some_iff.1 h
 rw [<- e]
 exact List.set_getElem_self hi
theorem Zh0 {os:List Ou} {r:Nat} {x:Ou} (h:os[r]? = some x):(Zt ouC os)[r*2]? = some (txt x.name)/\(Zt ouC os)[r*2+1]? = some (.int .i64 x.to):=
 ⟨(Zat ZbA os r 0 x h (by omega)).trans rfl,(Zat ZbA os r 1 x h (by omega)).trans rfl⟩
theorem Zgq {os:List Sta} {r:Nat} {x:Sta} (h:os[r]? = some x):(Zt stC os)[r*2]? = some (txt x.name)/\(Zt stC os)[r*2+1]? = some (.bool x.final):=
 ⟨(Zat ZbB os r 0 x h (by omega)).trans rfl,(Zat ZbB os r 1 x h (by omega)).trans rfl⟩
theorem ZdW {os:List (Value×Mov)} {r:Nat} {x:Value×Mov} (h:os[r]? = some x):(Zt mvC os)[r*3]? = some (txt x.2.op)/\(Zt mvC os)[r*3+1]? = some (.int .i64 x.2.at_)/\(Zt mvC os)[r*3+2]? = some x.1:=
 ⟨(Zat ZaR os r 0 x h (by omega)).trans rfl,(Zat ZaR os r 1 x h (by omega)).trans rfl,(Zat ZaR os r 2 x h (by omega)).trans rfl⟩
def Zay (w:World) (B:Nat) (v:Value) (os:List Ou):Prop:=w.ownsRow B 100 2 v os.length (Zt ouC os)
theorem Zay.outs {w:World} {B:Nat} {v:Value} {os:List Ou} (h:Zay w B v os) (hs:∀ o∈os,o.name.length<=maxLen):Zaj w v os:=by
 obtain ⟨A,c,rfl⟩:=Zm h
 obtain ⟨a,b,d⟩:=Zab h
 exact ⟨A,c,rfl,a,b,d,hs⟩
theorem Zdt (w:World) (v:Value) (os:List Ou) (h:Zaj w v os) (hl:os.length<=80) (hs:∀ o∈os,o.name.length<=281474976710656) :
  Calls Tryz.prog 36 #[v] w fun e w'=>∃ A c,e=.returned (.slice A os.length c)/\Zay w' w.heap.size (.slice A os.length c) os/\Below w.heap.size w w':=by
 obtain ⟨A,c,rfl,h1,h2,h3,h4⟩:=h
 have CL:=Lib.hid (Zgv w A os.length c _ h3 ZiJ (Nat.le_trans h1 h2) (by omega))
 have HS:=Lib.hid (And.intro hl hs)
 clear h1 h2 h3 h4 hl hs
 go_enter Tryz.func36,Tryz.ntmps36
 go_wp2_with (go_at_call 52;(with_reducible refine CL.out.mono ?_);rintro e w1 ⟨A1,c1,rfl,ho,hb⟩;have H1:=Lib.hid (And.intro ho hb);clear ho hb)
 go_loopg [10] os.length (fun g v10 wr=>∃ r:Nat,v10=.int .i64 r/\r<=os.length/\g=os.length-r/\Zay wr w.heap.size (.slice A1 os.length c1) os/\Below w.heap.size w wr)
 case atStart=>exact ⟨0,rfl,Nat.zero_le _,rfl,H1.out.1,H1.out.2⟩
 case round=>
  obtain ⟨r,rfl,hr,hg,ho,hb⟩:=hrel
  by_cases hrn:r=os.length
  ·have FIN:=Lib.hid (And.intro ho hb)
   have i1:decide (r<os.length)=false:=decide_eq_false (by omega)
   clear hr hg hrn ho hb
   go_wp2_with fail
   go_ret
   exact ⟨_,_,rfl,FIN.out⟩
  ·have hlt:r<os.length:=by omega
   obtain ⟨x,hx⟩:∃ x,os[r]? = some x:=⟨_,List.getElem?_eq_getElem hlt⟩
   obtain ⟨g,cp,e3,hgb,_⟩:=World.ownsRow.form ho (by omega)
   injection e3 with e3 _ e4
   subst e3 e4
   obtain ⟨q0,q1⟩:=Zh0 hx
   have d0:=(World.ownsRow.cellAt ho (r*2) (by omega)).trans q0
   have d1:=(World.ownsRow.cellAt ho (r*2+1) (by omega)).trans q1
   have f0:=World.ownsRow.frozenAt ho (r*2)
   have i1:(r:Int)<(os.length:Int):=by omega
   have i2:(0:Int)<=(r:Int):=by omega
   have wk:IntKind.i64.wrap ((r:Int)+1)=(r:Int)+1:=IntWalk.i64_in _ (by have:=HS.out.1;omega)
   have SC:=Lib.hid (fun (wr:World)=>Zbh x.name wr (HS.out.2 x (List.mem_of_getElem? hx)))
   have HK:=Lib.hid (And.intro hlt (And.intro hg (And.intro ho (And.intro hb (And.intro q0 hgb)))))
   clear hrn hlt hr hg hx ho hb q0 q1 hgb
   go_wp2_with (go_at_call 25;(with_reducible refine (SC.out _).mono ?_);rintro e w2 ⟨rfl,hb2⟩;have a3:=(Za wr _).trans (hb2.mono (Za wr _).size);have O2:=Zf HK.out.2.2.1 a3;have f2:=World.ownsRow.frozenAt O2 (r*2);have d2:=(World.ownsRow.cellAt O2 (r*2) (by have:=HK.out.1;omega)).trans HK.out.2.2.2.2.1;have H2:=Lib.hid (And.intro O2 a3);clear O2 a3 hb2)
   go_roundg (os.length-(r+1))
   case measure=>have:=HK.out.1;have:=HK.out.2.1;omega
   case rel=>
    refine ⟨r+1,by push_cast;rfl,HK.out.1,rfl,?_,(HK.out.2.2.2.1.trans (H2.out.2.mono HK.out.2.2.2.1.size)).setCell HK.out.2.2.2.2.2 _⟩
    have:=(World.ownsRow.stored H2.out.1 (r*2) (txt x.name)).1
    rw [Zcj HK.out.2.2.2.2.1] at this
    exact this
end
section
open Go.RowKit
def ZaD (w:World) (a:Addr):Value:=(w.cell? a).getD undef
theorem Zb5 {w:World} {a:Addr} {v:Value} (h:w.cell? a=some v):w.cell? a=some (ZaD w a):=by
 unfold ZaD;rw [h];rfl
theorem Zcp {w1:World} {p q:Addr} {x v:Value} (h:w1.cell? q=some v):∃ v',(w1.setCell p x).cell? q=some v':=by
 by_cases e:q=p
 ·subst e;exact ⟨x,World.cell?_setCell_same _ _ _ h⟩
 ·exact ⟨v,(World.cell?_setCell_other _ _ _ _ (fun q=>e q.symm)).trans h⟩
theorem ZgD {w1:World} {p q:Addr} {x v:Value} (h:w1.cell? q=some v):(w1.setCell p x).cell? q=some (ZaD (w1.setCell p x) q):=by
 obtain ⟨v',h'⟩:=Zcp (p:=p) (x:=x) h
 exact Zb5 h'
theorem ZaK {w1 w2:World} {p:Addr} {x:Value} (hb:Below w1.heap.size w1 w2) (h:w1.cell? p=some x):w2.cell? p=some x:=(hb.cell (World.block_lt_of_cell? _ _ h)).trans h
def Zb2 (P:World->Prop):Prop:=∀ w1 w2:World,Below w1.heap.size w1 w2->P w1->P w2
theorem Zba (p:Addr) (x:Value):Zb2 fun w=>w.cell? p=some x:=fun _ _ hb h=>ZaK hb h
theorem Za6 {P Q:World->Prop} (hp:Zb2 P) (hq:Zb2 Q):Zb2 fun w=>P w/\Q w:=fun _ _ hb h=>⟨hp _ _ hb h.1,hq _ _ hb h.2⟩
theorem Zgt (wq:World):Zb2 fun w=>Below wq.heap.size wq w:=fun _ _ hb h=>h.trans (hb.mono h.size)
theorem Zeh {P:World->Prop} (hp:Zb2 P) {wo:World} {o:Obj} (h:P wo.drew):P (wo.alloc o).drew:=hp _ _ (Za wo.drew o) h
structure HoleP (wA wr:World) (c:Nat):Prop where
 b:Ze wr c 41 #[.string ⟨#[]⟩,.slice none 0 0,.slice none 0 0]
 below:Below wA.heap.size wA wr
 ge:wA.heap.size<=c
theorem HoleP.start (wA:World):HoleP wA (wA.alloc (.cells #[.string ⟨#[]⟩,.slice none 0 0,.slice none 0 0] 41)) wA.heap.size:=⟨Ze.start _ _ _,Za _ _,Nat.le_refl _⟩
theorem HoleP.keep {wA wr w2:World} {c:Nat} (h:HoleP wA wr c) (hb:Below wr.heap.size wr w2):HoleP wA w2 c:=⟨h.b.keep hb,h.below.trans (hb.mono h.below.size),h.ge⟩
theorem Zcb {A:Prop} {W wA:World} (_:A/\Below W.heap.size W (wA.alloc (.cells #[.string ⟨#[]⟩,.slice none 0 0,.slice none 0 0] 41))):HoleP wA (wA.alloc (.cells #[.string ⟨#[]⟩,.slice none 0 0,.slice none 0 0] 41)) wA.heap.size:=HoleP.start wA
theorem ZbL {A:Prop} {W wA:World} (_:A/\Below W.heap.size W (wA.alloc (.cells #[.string ⟨#[]⟩,.slice none 0 0,.slice none 0 0] 41)).drew):HoleP wA.drew (wA.alloc (.cells #[.string ⟨#[]⟩,.slice none 0 0,.slice none 0 0] 41)).drew wA.heap.size:=HoleP.start wA.drew
theorem HoleP.fill {wA wr:World} {c:Nat} (h:HoleP wA wr c) (x y z:Value):Below wA.heap.size wA (((wr.setCell ⟨c,0,none⟩ x).setCell ⟨c,1,none⟩ y).setCell ⟨c,2,none⟩ z):=((h.below.setCell h.ge _).setCell h.ge _).setCell h.ge _
theorem HoleP.cells {wA wr:World} {c:Nat} (h:HoleP wA wr c):wr.cell? ⟨c,0,none⟩=some (.string ⟨#[]⟩)/\wr.cell? ⟨c,1,none⟩=some (.slice none 0 0)/\wr.cell? ⟨c,2,none⟩=some (.slice none 0 0)/\wr.frozen? ⟨c,0,none⟩=false/\wr.frozen? ⟨c,1,none⟩=false/\wr.frozen? ⟨c,2,none⟩=false:=
 ⟨h.b.blk.cell 0,h.b.blk.cell 1,h.b.blk.cell 2,h.b.blk.free 0,h.b.blk.free 1,h.b.blk.free 2⟩
structure CopS (w0 wr:World) (c:Nat) (vs vm:Value) (nm:List UInt8) (ss:List Sta) (rs:List (Value×Mov)):Prop where
 box:Ze wr c 41 #[txt nm,vs,vm]
 st:wr.ownsRow w0.heap.size 74 2 vs ss.length (Zt stC ss)
 mv:wr.ownsRow w0.heap.size 79 3 vm rs.length (Zt mvC rs)
 below:Below w0.heap.size w0 wr
 ge:w0.heap.size<=c
def Zei (w0:World) (nm:List UInt8) (ss:List Sta) (rs:List (Value×Mov)) (v3:Value) (wx:World):Prop:=
 ∃ c vs vm,v3=.pointer (some ⟨c,0,none⟩)/\CopS w0 wx c vs vm nm ss rs
theorem ZbR (a:Addr):Zb2 fun w=>w.cell? a=some (ZaD w a)/\w.frozen? a=false:=fun _ _ hb h=>⟨Zb5 (ZaK hb h.1),(hb.frozen (World.block_lt_of_cell? _ _ h.1)).trans h.2⟩
theorem ZeY {w:World} {a q:Addr} {x:Value} (h:w.cell? a=some (ZaD w a)/\w.frozen? a=false):(w.setCell q x).cell? a=some (ZaD (w.setCell q x) a)/\(w.setCell q x).frozen? a=false:=⟨ZgD h.1,(World.frozen?_setCell _ _ _ _).trans h.2⟩
theorem ZcQ {w:World} {a q:Addr} {x v:Value} (hne:a.block≠q.block) (h:w.cell? a=some v):(w.setCell q x).cell? a=some v:=(World.cell?_setCell_other _ _ _ _ (fun e=>hne (by rw [e]))).trans h
section
variable {w0 wA wr:World} {c:Nat} {vs vm:Value} {nm:List UInt8} {ss:List Sta} {rs:List (Value×Mov)}
theorem CopS.keep {w2:World} (h:CopS w0 wr c vs vm nm ss rs) (hb:Below wr.heap.size wr w2):CopS w0 w2 c vs vm nm ss rs:=⟨h.box.keep hb,Zf h.st hb,Zf h.mv hb,h.below.trans (hb.mono h.below.size),h.ge⟩
theorem ZgG (h0:Below w0.heap.size w0 wA) (hs:wA.ownsRow w0.heap.size 74 2 vs ss.length (Zt stC ss)) (hm:wA.ownsRow w0.heap.size 79 3 vm rs.length (Zt mvC rs)) :
  Zei w0 nm ss rs (.pointer (some ⟨wA.heap.size,0,none⟩)) (wA.alloc (.cells #[txt nm,vs,vm] 41)):=
 have a:=Za wA (.cells #[txt nm,vs,vm] 41)
 ⟨_,_,_,rfl,Ze.start _ _ _,Zf hs a,Zf hm a,h0.trans (a.mono h0.size),h0.size⟩
theorem Zhu (h0:Below w0.heap.size w0 wA) (hc:HoleP wA wr c) (hs:wr.ownsRow w0.heap.size 74 2 vs ss.length (Zt stC ss)) (hm:wr.ownsRow w0.heap.size 79 3 vm rs.length (Zt mvC rs)) :
  Zei w0 nm ss rs (.pointer (some ⟨c,0,none⟩)) (((wr.setCell ⟨c,0,none⟩ (txt nm)).setCell ⟨c,1,none⟩ vs).setCell ⟨c,2,none⟩ vm):=by
 have o1:=hc.b.off hs (by decide)
 have o2:=hc.b.off hm (by decide)
 have ge:=Nat.le_trans h0.size hc.ge
 refine ⟨_,_,_,rfl,?_,Zk (Zk (Zk hs o1) o1) o1,Zk (Zk (Zk hm o2) o2) o2,(((h0.trans (hc.below.mono h0.size)).setCell ge _).setCell ge _).setCell ge _,ge⟩
 have:=((hc.b.set 0 (txt nm)).set 1 vs).set 2 vm
 simpa using this
theorem CopS.same {n cp g j:Nat} {u:Value} (h:CopS w0 wr c (.slice (some ⟨g,0,none⟩) n cp) vm nm ss rs) (hn:n=ss.length) (hq:(Zt stC ss)[j]? = some u):CopS w0 (wr.setCell ⟨g,j,none⟩ u) c (.slice (some ⟨g,0,none⟩) n cp) vm nm ss rs:=by
 subst hn
 have o1:g≠c:=fun e=>h.box.off h.st (by decide) (by rw [e];rfl)
 have o2:=Zar h.st h.mv (by decide) g rfl
 have:=(World.ownsRow.stored h.st j u).1
 rw [Zcj hq] at this
 exact ⟨h.box.other o1 _,this,Zk h.mv o2,h.below.setCell (h.st.lt g rfl).1 _,h.ge⟩
theorem Zh1 {rs:List (Value×Mov)} {j:Nat} {x:Value×Mov} (h:rs[j]? = some x) (y:Value):Zt mvC (rs.set j (y,x.2))=(Zt mvC rs).set (j*3+2) y:=by
 induction rs generalizing j with
 | nil=>cases h
 | cons z r ih=>
  cases j with
  | zero=>
   obtain rfl:z=x:=by simpa using h
   rfl
  | succ j=>
   rw [List.getElem?_cons_succ] at h
   rw [List.set_cons_succ,Zt,Zt,ih h]
   have e:(j+1)*3+2=(mvC z).length+(j*3+2):=by rw [ZaR];omega
   rw [e,List.set_append_right _ _ (by omega),Nat.add_sub_cancel_left]
structure MvS (w0 wr:World) (c:Nat) (vs vm:Value) (nm:List UInt8) (ss:List Sta) (r0 rs:List (Value×Mov)) (j:Nat):Prop where
 cop:CopS w0 wr c vs vm nm ss rs
 done:∀ i x,rs[i]? = some x->i<j->Zay wr w0.heap.size x.1 x.2.outs
 rest:∀ i,j<=i->rs[i]? = r0[i]?
 all:rs.map (·.2)=r0.map (·.2)
theorem MvS.keep {w2:World} {r0:List (Value×Mov)} {j:Nat} (h:MvS w0 wr c vs vm nm ss r0 rs j) (hb:Below wr.heap.size wr w2):MvS w0 w2 c vs vm nm ss r0 rs j:=
 ⟨h.cop.keep hb,fun i x hx hi=>Zf (h.done i x hx hi) hb,h.rest,h.all⟩
theorem MvS.step {r0:List (Value×Mov)} {g n cp j:Nat} {x:Value×Mov} {y:Value} (h:MvS w0 wr c vs (.slice (some ⟨g,0,none⟩) n cp) nm ss r0 rs j) (hn:n=rs.length) (hx:rs[j]? = some x) (hy:Zay wr w0.heap.size y x.2.outs) :
  MvS w0 ((wr.setCell ⟨g,j*3,none⟩ (txt x.2.op)).setCell ⟨g,j*3+2,none⟩ y) c vs (.slice (some ⟨g,0,none⟩) n cp) nm ss r0 (rs.set j (y,x.2)) (j+1):=by
 subst hn
 have hj:=(List.getElem?_eq_some_iff.1 hx).1
 have o1:g≠c:=fun e=>h.cop.box.off h.cop.mv (by decide) (by rw [e];rfl)
 have o2:vs.ownBlock≠some g:=fun e=>Zar h.cop.st h.cop.mv (by decide) g e rfl
 have o3:∀ {v:Value} {os:List Ou},Zay wr w0.heap.size v os->v.ownBlock≠some g:=fun hv e=>Zar hv h.cop.mv (by decide) g e rfl
 have ge:=(h.cop.mv.lt g rfl).1
 have s1:=(World.ownsRow.stored h.cop.mv (j*3) (txt x.2.op)).1
 rw [Zcj (ZdW hx).1] at s1
 have s2:=(World.ownsRow.stored s1 (j*3+2) y).1
 rw [<- Zh1 hx y] at s2
 refine ⟨⟨(h.cop.box.other o1 _).other o1 _,Zk (Zk h.cop.st o2) o2,by rw [List.length_set];exact s2,(h.cop.below.setCell ge _).setCell ge _,h.cop.ge⟩,?_,?_,?_⟩
 ·intro i z hz hi
  by_cases e:j=i
  ·subst e
   rw [List.getElem?_set_self hj] at hz
   obtain rfl:=Option.some.inj hz
   exact Zk (Zk hy (o3 hy)) (o3 hy)
  ·rw [List.getElem?_set_ne e] at hz
   have:=h.done i z hz (by omega)
   exact Zk (Zk this (o3 this)) (o3 this)
 ·intro i hi
  rw [List.getElem?_set_ne (by omega)]
  exact h.rest i (by omega)
 ·rw [List.map_set,<- h.all]
  exact Zcj (by rw [List.getElem?_map,hx];rfl)
theorem MvS.len {r0:List (Value×Mov)} {j:Nat} (h:MvS w0 wr c vs vm nm ss r0 rs j):rs.length=r0.length:=by have:=congrArg List.length h.all;rwa [List.length_map,List.length_map] at this
end
theorem Zdf:(Tryz.prog.info? 41).map (fun i=>(i.zero,i.size,i.bytes))=some (some (.agg #[.string ⟨#[]⟩,.slice none 0 0,.slice none 0 0]),3,64):=by kernel_rfl
def ZM (w:World) (B:Nat) (vs vm:Value) (p:Pro):Prop:=
 ∃ rs:List (Value×Mov),rs.map (·.2)=p.moves/\w.ownsRow B 74 2 vs p.states.length (Zt stC p.states)/\w.ownsRow B 79 3 vm rs.length (Zt mvC rs)/\∀ x∈rs,Zay w B x.1 x.2.outs
structure LenP (p:Pro):Prop where
 name:p.name.length<=maxLen
 ns:∀ s∈p.states,s.name.length<=maxLen
 no:∀ m∈p.moves,m.op.length<=maxLen/\∀ o∈m.outs,o.name.length<=maxLen
theorem ZM.pro {w:World} {B:Nat} {vs vm:Value} {p:Pro} (h:ZM w B vs vm p) (hl:LenP p):ProAt w vs vm p:=by
 obtain ⟨rs,hm,s1,s2,s3⟩:=h
 refine ⟨hl.name,?_,?_⟩
 ·obtain ⟨A,cc,rfl⟩:=Zm s1
  obtain ⟨a,b',d⟩:=Zab s1
  exact ⟨A,cc,rfl,a,b',d,hl.ns⟩
 ·obtain ⟨A,cc,rfl⟩:=Zm s2
  obtain ⟨a,b',d⟩:=Zab s2
  refine ⟨rs,hm,A,cc,rfl,a,b',d,fun x hx=>?_⟩
  have hmem:x.2∈p.moves:=by rw [<- hm];exact List.mem_map.2 ⟨x,hx,rfl⟩
  exact ⟨(hl.no x.2 hmem).1,Zay.outs (s3 x hx) (hl.no x.2 hmem).2⟩
theorem ZM.set {w:World} {B b i:Nat} {u:Value} {vs vm:Value} {p:Pro} (h:ZM w B vs vm p) (hb:b<B):ZM (w.setCell ⟨b,i,none⟩ u) B vs vm p:=by
 obtain ⟨rs,hm,s1,s2,s3⟩:=h
 exact ⟨rs,hm,Zcg s1 hb,Zcg s2 hb,fun x hx=>Zcg (s3 x hx) hb⟩
theorem MvS.out {w w0 wr:World} {c b j:Nat} {vs vm:Value} {p:Pro} {r0 rs:List (Value×Mov)} {x0 x1 x2:Value} (h:MvS w0 wr c vs vm p.name p.states r0 rs j) (hw:Below w.heap.size w wr) (h0:w.heap.size<=w0.heap.size) (hj:r0.length<=j) (hm:r0.map (·.2)=p.moves)
  (hB:Ze wr b 41 #[x0,x1,x2]) (hb:w.heap.size<=b) :
  Ze (((wr.setCell ⟨b,0,none⟩ (txt p.name)).setCell ⟨b,1,none⟩ vs).setCell ⟨b,2,none⟩ vm) b 41 #[txt p.name,vs,vm] ∧
  ZM (((wr.setCell ⟨b,0,none⟩ (txt p.name)).setCell ⟨b,1,none⟩ vs).setCell ⟨b,2,none⟩ vm) w.heap.size vs vm p ∧
  Below w.heap.size w (((wr.setCell ⟨b,0,none⟩ (txt p.name)).setCell ⟨b,1,none⟩ vs).setCell ⟨b,2,none⟩ vm):=by
 have o1:=hB.off h.cop.st (by decide)
 have o2:=hB.off h.cop.mv (by decide)
 refine ⟨?_,⟨rs,h.all.trans hm,ZI (Zk (Zk (Zk h.cop.st o1) o1) o1) h0,ZI (Zk (Zk (Zk h.cop.mv o2) o2) o2) h0,fun x hx=>?_⟩,((hw.setCell hb _).setCell hb _).setCell hb _⟩
 ·have:=((hB.set 0 (txt p.name)).set 1 vs).set 2 vm
  simpa using this
 ·obtain ⟨i,hi⟩:=List.mem_iff_getElem?.1 hx
  have hl:=(List.getElem?_eq_some_iff.1 hi).1
  have ho:=h.done i x hi (by have:=h.len;omega)
  have oo:=hB.off ho (by decide)
  exact ZI (Zk (Zk (Zk ho oo) oo) oo) h0
theorem ZfG {v:World} {c b g i j j':Nat} {x y z u:Value} (hne:c≠g/\b≠g)
  (h:(((v.cell? ⟨c,2,none⟩=some x/\v.cell? ⟨b,0,none⟩=some y)/\v.cell? ⟨b,2,none⟩=some z)/\(v.cell? ⟨g,j,none⟩=some (ZaD v ⟨g,j,none⟩)/\v.frozen? ⟨g,j,none⟩=false))/\(v.cell? ⟨g,j',none⟩=some (ZaD v ⟨g,j',none⟩)/\v.frozen? ⟨g,j',none⟩=false)) :
  ((((v.setCell ⟨g,i,none⟩ u).cell? ⟨c,2,none⟩=some x/\(v.setCell ⟨g,i,none⟩ u).cell? ⟨b,0,none⟩=some y)/\(v.setCell ⟨g,i,none⟩ u).cell? ⟨b,2,none⟩=some z)/\((v.setCell ⟨g,i,none⟩ u).cell? ⟨g,j,none⟩=some (ZaD (v.setCell ⟨g,i,none⟩ u) ⟨g,j,none⟩)/\(v.setCell ⟨g,i,none⟩ u).frozen? ⟨g,j,none⟩=false))/\((v.setCell ⟨g,i,none⟩ u).cell? ⟨g,j',none⟩=some (ZaD (v.setCell ⟨g,i,none⟩ u) ⟨g,j',none⟩)/\(v.setCell ⟨g,i,none⟩ u).frozen? ⟨g,j',none⟩=false):=
 ⟨⟨⟨⟨ZcQ hne.1 h.1.1.1.1,ZcQ hne.2 h.1.1.1.2⟩,ZcQ hne.2 h.1.1.2⟩,ZeY h.1.2⟩,ZeY h.2⟩
end
end Go.Proofs.YtaacbenikcbibabGreatDoor
