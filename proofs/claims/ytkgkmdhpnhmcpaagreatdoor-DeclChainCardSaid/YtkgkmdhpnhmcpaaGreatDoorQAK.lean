import Derived.Deep.RegionWith
import Derived.Deep.CutRange
import Derived.BigQuiet
import Derived.Deep.QuietTactic
import Derived.Laws.CopyOwn
import Derived.Deep.LoopGhost
import Derived.Test.YtkgkmdhpnhmcpaaGreatDoorQAI
import Derived.Test.YtkgkmdhpnhmcpaaGreatDoorQAJ
set_option maxRecDepth 100000
set_option maxHeartbeats 8000000
namespace Go.Proofs.YtkgkmdhpnhmcpaaGreatDoor
section
open Go.RowKit
theorem Zi3 {l:List Ou}:∀ u∈Zt ouC l,u.oneCell'=true:=by
 induction l with
 | nil=>intro u hu;cases hu
 | cons x r ih=>
  intro u hu
  rw [Zt,List.mem_append] at hu
  rcases hu with hu | hu
  ·unfold ouC at hu
   simp only [List.mem_cons,List.not_mem_nil,or_false] at hu
   rcases hu with rfl | rfl<;>rfl
  ·exact ih u hu
theorem Zjb {l:List Sta}:∀ u∈Zt stC l,u.oneCell'=true:=by
 induction l with
 | nil=>intro u hu;cases hu
 | cons x r ih=>
  intro u hu
  rw [Zt,List.mem_append] at hu
  rcases hu with hu | hu
  ·unfold stC at hu
   simp only [List.mem_cons,List.not_mem_nil,or_false] at hu
   rcases hu with rfl | rfl<;>rfl
  ·exact ih u hu
theorem Zco {α:Type} {l:List α} {i:Nat} {x:α} (h:l[i]? = some x):l.set i x=l:=by
 obtain ⟨hi,e⟩:=List.getElem?_eq_some_iff.1 h
 rw [<- e]
 exact List.set_getElem_self hi
theorem Zii {os:List Ou} {r:Nat} {x:Ou} (h:os[r]? = some x):(Zt ouC os)[r*2]? = some (txt x.name)/\(Zt ouC os)[r*2+1]? = some (.int .i64 x.to):=
 ⟨(ZaB ZbB os r 0 x h (by omega)).trans rfl,(ZaB ZbB os r 1 x h (by omega)).trans rfl⟩
theorem Zgz {os:List Sta} {r:Nat} {x:Sta} (h:os[r]? = some x):(Zt stC os)[r*2]? = some (txt x.name)/\(Zt stC os)[r*2+1]? = some (.bool x.final):=
 ⟨(ZaB ZbC os r 0 x h (by omega)).trans rfl,(ZaB ZbC os r 1 x h (by omega)).trans rfl⟩
theorem Zd2 {os:List (Value×Mov)} {r:Nat} {x:Value×Mov} (h:os[r]? = some x):(Zt mvC os)[r*3]? = some (txt x.2.op)/\(Zt mvC os)[r*3+1]? = some (.int .i64 x.2.at_)/\(Zt mvC os)[r*3+2]? = some x.1:=
 ⟨(ZaB ZaR os r 0 x h (by omega)).trans rfl,(ZaB ZaR os r 1 x h (by omega)).trans rfl,(ZaB ZaR os r 2 x h (by omega)).trans rfl⟩
def Zav (w:World) (B:Nat) (v:Value) (os:List Ou):Prop:=w.ownsRow B 110 2 v os.length (Zt ouC os)
theorem Zav.outs {w:World} {B:Nat} {v:Value} {os:List Ou} (h:Zav w B v os) (hs:∀ o∈os,o.name.length<=maxLen):Zaj w v os:=by
 obtain ⟨A,c,rfl⟩:=Zl h
 obtain ⟨a,b,d⟩:=Zac h
 exact ⟨A,c,rfl,a,b,d,hs⟩
theorem Zdz (w:World) (v:Value) (os:List Ou) (h:Zaj w v os) (hl:os.length<=80) (hs:∀ o∈os,o.name.length<=281474976710656) :
  Calls Tryz.prog 68 #[v] w fun e w'=>∃ A c,e=.returned (.slice A os.length c)/\Zav w' w.heap.size (.slice A os.length c) os/\Below w.heap.size w w':=by
 obtain ⟨A,c,rfl,h1,h2,h3,h4⟩:=h
 have CL:=zh (ZgE w A os.length c _ h3 Zi3 (Nat.le_trans h1 h2) (by omega))
 have HS:=zh (zi hl hs)
 clear h1 h2 h3 h4 hl hs
 go_enter Tryz.func68,Tryz.ntmps68
 go_wp2_with (go_at_call 91;(with_reducible refine CL.out.mono ?_);rintro e w1 ⟨A1,c1,rfl,ho,hb⟩;have H1:=zh (zi ho hb);clear ho hb)
 go_loopg [10] os.length (fun g v10 wr=>∃ r:Nat,v10=.int .i64 r/\r<=os.length/\g=os.length-r/\Zav wr w.heap.size (.slice A1 os.length c1) os/\Below w.heap.size w wr)
 case atStart=>exact ⟨0,rfl,Nat.zero_le _,rfl,H1.out.1,H1.out.2⟩
 case round=>
  obtain ⟨r,rfl,hr,hg,ho,hb⟩:=hrel
  by_cases hrn:r=os.length
  ·have FIN:=zh (zi ho hb)
   have i1:decide (r<os.length)=false:=decide_eq_false (by omega)
   clear hr hg hrn ho hb
   go_wp2_with fail
   go_ret
   exact ⟨_,_,rfl,FIN.out⟩
  ·have hlt:r<os.length:=by omega
   obtain ⟨x,hx⟩:∃ x,os[r]? = some x:=⟨_,List.getElem?_eq_getElem hlt⟩
   obtain ⟨g,cp,e3,hgb,_⟩:=World.ownsRow.form ho (by omega)
   injection e3 with e3 _ e4
   subst e3 e4
   obtain ⟨q0,q1⟩:=Zii hx
   have d0:=(World.ownsRow.cellAt ho (r*2) (by omega)).trans q0
   have d1:=(World.ownsRow.cellAt ho (r*2+1) (by omega)).trans q1
   have f0:=World.ownsRow.frozenAt ho (r*2)
   have i1:(r:Int)<(os.length:Int):=by omega
   have i2:(0:Int)<=(r:Int):=by omega
   have wk:IntKind.i64.wrap ((r:Int)+1)=(r:Int)+1:=IntWalk.i64_in _ (by have:=HS.out.1;omega)
   have SC:=zh (fun (wr:World)=>Zbg x.name wr (HS.out.2 x (List.mem_of_getElem? hx)))
   have HK:=zh (zi hlt (zi hg (zi ho (zi hb (zi q0 hgb)))))
   clear hrn hlt hr hg hx ho hb q0 q1 hgb
   go_wp2_with (go_at_call 43;(with_reducible refine (SC.out _).mono ?_);rintro e w2 ⟨rfl,hb2⟩;have a3:=(below_alloc1 wr _).trans (hb2.mono (below_alloc1 wr _).size);have O2:=Ze HK.out.2.2.1 a3;have f2:=World.ownsRow.frozenAt O2 (r*2);have d2:=(World.ownsRow.cellAt O2 (r*2) (by have:=HK.out.1;omega)).trans HK.out.2.2.2.2.1;have H2:=zh (zi O2 a3);clear O2 a3 hb2)
   go_roundg (os.length-(r+1))
   case measure=>have:=HK.out.1;have:=HK.out.2.1;omega
   case rel=>
    refine ⟨r+1,by push_cast;rfl,HK.out.1,rfl,?_,(HK.out.2.2.2.1.trans (H2.out.2.mono HK.out.2.2.2.1.size)).setCell HK.out.2.2.2.2.2 _⟩
    have:=(World.ownsRow.stored H2.out.1 (r*2) (txt x.name)).1
    rw [Zco HK.out.2.2.2.2.1] at this
    exact this
end
section
open Go.RowKit
def Zaz (w:World) (a:Addr):Value:=(w.cell? a).getD undef
theorem Zb9 {w:World} {a:Addr} {v:Value} (h:w.cell? a=some v):w.cell? a=some (Zaz w a):=by
 unfold Zaz;rw [h];rfl
theorem Zcv {w1:World} {p q:Addr} {x v:Value} (h:w1.cell? q=some v):∃ v',(w1.setCell p x).cell? q=some v':=by
 by_cases e:q=p
 ·subst e;exact ⟨x,World.cell?_setCell_same _ _ _ h⟩
 ·exact ⟨v,(World.cell?_setCell_other _ _ _ _ (fun q=>e q.symm)).trans h⟩
theorem ZgN {w1:World} {p q:Addr} {x v:Value} (h:w1.cell? q=some v):(w1.setCell p x).cell? q=some (Zaz (w1.setCell p x) q):=by
 obtain ⟨v',h'⟩:=Zcv (p:=p) (x:=x) h
 exact Zb9 h'
theorem ZaG {w1 w2:World} {p:Addr} {x:Value} (hb:Below w1.heap.size w1 w2) (h:w1.cell? p=some x):w2.cell? p=some x:=(hb.cell (World.block_lt_of_cell? _ _ h)).trans h
def Zb6 (P:World->Prop):Prop:=∀ w1 w2:World,Below w1.heap.size w1 w2->P w1->P w2
theorem Za9 (p:Addr) (x:Value):Zb6 fun w=>w.cell? p=some x:=fun _ _ hb h=>ZaG hb h
theorem Za5 {P Q:World->Prop} (hp:Zb6 P) (hq:Zb6 Q):Zb6 fun w=>P w/\Q w:=fun _ _ hb h=>⟨hp _ _ hb h.1,hq _ _ hb h.2⟩
theorem ZgC (wq:World):Zb6 fun w=>Below wq.heap.size wq w:=fun _ _ hb h=>h.trans (hb.mono h.size)
theorem Zen {P:World->Prop} (hp:Zb6 P) {wo:World} {o:Obj} (h:P wo.drew):P (wo.alloc o).drew:=hp _ _ (below_alloc1 wo.drew o) h
structure HoleP (wA wr:World) (c:Nat):Prop where
 b:Zd wr c 51 #[.string ⟨#[]⟩,.slice none 0 0,.slice none 0 0]
 below:Below wA.heap.size wA wr
 ge:wA.heap.size<=c
theorem HoleP.start (wA:World):HoleP wA (wA.alloc (.cells #[.string ⟨#[]⟩,.slice none 0 0,.slice none 0 0] 51)) wA.heap.size:=⟨Zd.start _ _ _,below_alloc1 _ _,Nat.le_refl _⟩
theorem HoleP.keep {wA wr w2:World} {c:Nat} (h:HoleP wA wr c) (hb:Below wr.heap.size wr w2):HoleP wA w2 c:=⟨h.b.keep hb,h.below.trans (hb.mono h.below.size),h.ge⟩
theorem Zcf {A:Prop} {W wA:World} (_:A/\Below W.heap.size W (wA.alloc (.cells #[.string ⟨#[]⟩,.slice none 0 0,.slice none 0 0] 51))):HoleP wA (wA.alloc (.cells #[.string ⟨#[]⟩,.slice none 0 0,.slice none 0 0] 51)) wA.heap.size:=HoleP.start wA
theorem ZbO {A:Prop} {W wA:World} (_:A/\Below W.heap.size W (wA.alloc (.cells #[.string ⟨#[]⟩,.slice none 0 0,.slice none 0 0] 51)).drew):HoleP wA.drew (wA.alloc (.cells #[.string ⟨#[]⟩,.slice none 0 0,.slice none 0 0] 51)).drew wA.heap.size:=HoleP.start wA.drew
theorem HoleP.fill {wA wr:World} {c:Nat} (h:HoleP wA wr c) (x y z:Value):Below wA.heap.size wA (((wr.setCell ⟨c,0,none⟩ x).setCell ⟨c,1,none⟩ y).setCell ⟨c,2,none⟩ z):=((h.below.setCell h.ge _).setCell h.ge _).setCell h.ge _
theorem HoleP.cells {wA wr:World} {c:Nat} (h:HoleP wA wr c):wr.cell? ⟨c,0,none⟩=some (.string ⟨#[]⟩)/\wr.cell? ⟨c,1,none⟩=some (.slice none 0 0)/\wr.cell? ⟨c,2,none⟩=some (.slice none 0 0)/\wr.frozen? ⟨c,0,none⟩=false/\wr.frozen? ⟨c,1,none⟩=false/\wr.frozen? ⟨c,2,none⟩=false:=
 ⟨h.b.blk.cell 0,h.b.blk.cell 1,h.b.blk.cell 2,h.b.blk.free 0,h.b.blk.free 1,h.b.blk.free 2⟩
structure CopS (w0 wr:World) (c:Nat) (vs vm:Value) (nm:List UInt8) (ss:List Sta) (rs:List (Value×Mov)):Prop where
 box:Zd wr c 51 #[txt nm,vs,vm]
 st:wr.ownsRow w0.heap.size 82 2 vs ss.length (Zt stC ss)
 mv:wr.ownsRow w0.heap.size 85 3 vm rs.length (Zt mvC rs)
 below:Below w0.heap.size w0 wr
 ge:w0.heap.size<=c
def Zeo (w0:World) (nm:List UInt8) (ss:List Sta) (rs:List (Value×Mov)) (v3:Value) (wx:World):Prop:=
 ∃ c vs vm,v3=.pointer (some ⟨c,0,none⟩)/\CopS w0 wx c vs vm nm ss rs
theorem ZbT (a:Addr):Zb6 fun w=>w.cell? a=some (Zaz w a)/\w.frozen? a=false:=fun _ _ hb h=>⟨Zb9 (ZaG hb h.1),(hb.frozen (World.block_lt_of_cell? _ _ h.1)).trans h.2⟩
theorem Ze6 {w:World} {a q:Addr} {x:Value} (h:w.cell? a=some (Zaz w a)/\w.frozen? a=false):(w.setCell q x).cell? a=some (Zaz (w.setCell q x) a)/\(w.setCell q x).frozen? a=false:=⟨ZgN h.1,(World.frozen?_setCell _ _ _ _).trans h.2⟩
theorem ZcV {w:World} {a q:Addr} {x v:Value} (hne:a.block≠q.block) (h:w.cell? a=some v):(w.setCell q x).cell? a=some v:=(World.cell?_setCell_other _ _ _ _ (fun e=>hne (by rw [e]))).trans h
section
variable {w0 wA wr:World} {c:Nat} {vs vm:Value} {nm:List UInt8} {ss:List Sta} {rs:List (Value×Mov)}
theorem CopS.keep {w2:World} (h:CopS w0 wr c vs vm nm ss rs) (hb:Below wr.heap.size wr w2):CopS w0 w2 c vs vm nm ss rs:=⟨h.box.keep hb,Ze h.st hb,Ze h.mv hb,h.below.trans (hb.mono h.below.size),h.ge⟩
theorem ZgQ (h0:Below w0.heap.size w0 wA) (hs:wA.ownsRow w0.heap.size 82 2 vs ss.length (Zt stC ss)) (hm:wA.ownsRow w0.heap.size 85 3 vm rs.length (Zt mvC rs)) :
  Zeo w0 nm ss rs (.pointer (some ⟨wA.heap.size,0,none⟩)) (wA.alloc (.cells #[txt nm,vs,vm] 51)):=
 have a:=below_alloc1 wA (.cells #[txt nm,vs,vm] 51)
 ⟨_,_,_,rfl,Zd.start _ _ _,Ze hs a,Ze hm a,h0.trans (a.mono h0.size),h0.size⟩
theorem ZhJ (h0:Below w0.heap.size w0 wA) (hc:HoleP wA wr c) (hs:wr.ownsRow w0.heap.size 82 2 vs ss.length (Zt stC ss)) (hm:wr.ownsRow w0.heap.size 85 3 vm rs.length (Zt mvC rs)) :
  Zeo w0 nm ss rs (.pointer (some ⟨c,0,none⟩)) (((wr.setCell ⟨c,0,none⟩ (txt nm)).setCell ⟨c,1,none⟩ vs).setCell ⟨c,2,none⟩ vm):=by
 have o1:=hc.b.off hs (by decide)
 have o2:=hc.b.off hm (by decide)
 have ge:=Nat.le_trans h0.size hc.ge
 refine ⟨_,_,_,rfl,?_,Zg (Zg (Zg hs o1) o1) o1,Zg (Zg (Zg hm o2) o2) o2,(((h0.trans (hc.below.mono h0.size)).setCell ge _).setCell ge _).setCell ge _,ge⟩
 have:=((hc.b.set 0 (txt nm)).set 1 vs).set 2 vm
 simpa using this
theorem CopS.same {n cp g j:Nat} {u:Value} (h:CopS w0 wr c (.slice (some ⟨g,0,none⟩) n cp) vm nm ss rs) (hn:n=ss.length) (hq:(Zt stC ss)[j]? = some u):CopS w0 (wr.setCell ⟨g,j,none⟩ u) c (.slice (some ⟨g,0,none⟩) n cp) vm nm ss rs:=by
 subst hn
 have o1:g≠c:=fun e=>h.box.off h.st (by decide) (by rw [e];rfl)
 have o2:=Zaa h.st h.mv (by decide) g rfl
 have:=(World.ownsRow.stored h.st j u).1
 rw [Zco hq] at this
 exact ⟨h.box.other o1 _,this,Zg h.mv o2,h.below.setCell (h.st.lt g rfl).1 _,h.ge⟩
theorem Zij {rs:List (Value×Mov)} {j:Nat} {x:Value×Mov} (h:rs[j]? = some x) (y:Value):Zt mvC (rs.set j (y,x.2))=(Zt mvC rs).set (j*3+2) y:=by
 induction rs generalizing j with
 | nil=>cases h
 | cons z r ih=>
  cases j with
  | zero=>
   obtain rfl:z=x:=by simpa using h
   rfl
  | succ j=>
   rw [List.getElem?_cons_succ] at h
   rw [List.set_cons_succ,Zt,Zt,ih h]
   have e:(j+1)*3+2=(mvC z).length+(j*3+2):=by rw [ZaR];omega
   rw [e,List.set_append_right _ _ (by omega),Nat.add_sub_cancel_left]
structure MvS (w0 wr:World) (c:Nat) (vs vm:Value) (nm:List UInt8) (ss:List Sta) (r0 rs:List (Value×Mov)) (j:Nat):Prop where
 cop:CopS w0 wr c vs vm nm ss rs
 done:∀ i x,rs[i]? = some x->i<j->Zav wr w0.heap.size x.1 x.2.outs
 rest:∀ i,j<=i->rs[i]? = r0[i]?
 all:rs.map (·.2)=r0.map (·.2)
theorem MvS.keep {w2:World} {r0:List (Value×Mov)} {j:Nat} (h:MvS w0 wr c vs vm nm ss r0 rs j) (hb:Below wr.heap.size wr w2):MvS w0 w2 c vs vm nm ss r0 rs j:=
 ⟨h.cop.keep hb,fun i x hx hi=>Ze (h.done i x hx hi) hb,h.rest,h.all⟩
theorem MvS.step {r0:List (Value×Mov)} {g n cp j:Nat} {x:Value×Mov} {y:Value} (h:MvS w0 wr c vs (.slice (some ⟨g,0,none⟩) n cp) nm ss r0 rs j) (hn:n=rs.length) (hx:rs[j]? = some x) (hy:Zav wr w0.heap.size y x.2.outs) :
  MvS w0 ((wr.setCell ⟨g,j*3,none⟩ (txt x.2.op)).setCell ⟨g,j*3+2,none⟩ y) c vs (.slice (some ⟨g,0,none⟩) n cp) nm ss r0 (rs.set j (y,x.2)) (j+1):=by
 subst hn
 have hj:=(List.getElem?_eq_some_iff.1 hx).1
 have o1:g≠c:=fun e=>h.cop.box.off h.cop.mv (by decide) (by rw [e];rfl)
 have o2:vs.ownBlock≠some g:=fun e=>Zaa h.cop.st h.cop.mv (by decide) g e rfl
 have o3:∀ {v:Value} {os:List Ou},Zav wr w0.heap.size v os->v.ownBlock≠some g:=fun hv e=>Zaa hv h.cop.mv (by decide) g e rfl
 have ge:=(h.cop.mv.lt g rfl).1
 have s1:=(World.ownsRow.stored h.cop.mv (j*3) (txt x.2.op)).1
 rw [Zco (Zd2 hx).1] at s1
 have s2:=(World.ownsRow.stored s1 (j*3+2) y).1
 rw [<- Zij hx y] at s2
 refine ⟨⟨(h.cop.box.other o1 _).other o1 _,Zg (Zg h.cop.st o2) o2,by rw [List.length_set];exact s2,(h.cop.below.setCell ge _).setCell ge _,h.cop.ge⟩,?_,?_,?_⟩
 ·intro i z hz hi
  by_cases e:j=i
  ·subst e
   rw [List.getElem?_set_self hj] at hz
   obtain rfl:=Option.some.inj hz
   exact Zg (Zg hy (o3 hy)) (o3 hy)
  ·rw [List.getElem?_set_ne e] at hz
   have:=h.done i z hz (by omega)
   exact Zg (Zg this (o3 this)) (o3 this)
 ·intro i hi
  rw [List.getElem?_set_ne (by omega)]
  exact h.rest i (by omega)
 ·rw [List.map_set,<- h.all]
  exact Zco (by rw [List.getElem?_map,hx];rfl)
theorem MvS.len {r0:List (Value×Mov)} {j:Nat} (h:MvS w0 wr c vs vm nm ss r0 rs j):rs.length=r0.length:=by have:=congrArg List.length h.all;rwa [List.length_map,List.length_map] at this
end
theorem Zge:(Tryz.prog.info? 51).map (fun i=>(i.zero,i.size,i.bytes))=some (some (.agg #[.string ⟨#[]⟩,.slice none 0 0,.slice none 0 0]),3,64):=by kernel_rfl
def ZN (w:World) (B:Nat) (vs vm:Value) (p:Pro):Prop:=
 ∃ rs:List (Value×Mov),rs.map (·.2)=p.moves/\w.ownsRow B 82 2 vs p.states.length (Zt stC p.states)/\w.ownsRow B 85 3 vm rs.length (Zt mvC rs)/\∀ x∈rs,Zav w B x.1 x.2.outs
structure LenP (p:Pro):Prop where
 name:p.name.length<=maxLen
 ns:∀ s∈p.states,s.name.length<=maxLen
 no:∀ m∈p.moves,m.op.length<=maxLen/\∀ o∈m.outs,o.name.length<=maxLen
theorem ZN.pro {w:World} {B:Nat} {vs vm:Value} {p:Pro} (h:ZN w B vs vm p) (hl:LenP p):ProAt w vs vm p:=by
 obtain ⟨rs,hm,s1,s2,s3⟩:=h
 refine ⟨hl.name,?_,?_⟩
 ·obtain ⟨A,cc,rfl⟩:=Zl s1
  obtain ⟨a,b',d⟩:=Zac s1
  exact ⟨A,cc,rfl,a,b',d,hl.ns⟩
 ·obtain ⟨A,cc,rfl⟩:=Zl s2
  obtain ⟨a,b',d⟩:=Zac s2
  refine ⟨rs,hm,A,cc,rfl,a,b',d,fun x hx=>?_⟩
  have hmem:x.2∈p.moves:=by rw [<- hm];exact List.mem_map.2 ⟨x,hx,rfl⟩
  exact ⟨(hl.no x.2 hmem).1,Zav.outs (s3 x hx) (hl.no x.2 hmem).2⟩
theorem ZN.set {w:World} {B b i:Nat} {u:Value} {vs vm:Value} {p:Pro} (h:ZN w B vs vm p) (hb:b<B):ZN (w.setCell ⟨b,i,none⟩ u) B vs vm p:=by
 obtain ⟨rs,hm,s1,s2,s3⟩:=h
 exact ⟨rs,hm,Zck s1 hb,Zck s2 hb,fun x hx=>Zck (s3 x hx) hb⟩
theorem MvS.out {w w0 wr:World} {c b j:Nat} {vs vm:Value} {p:Pro} {r0 rs:List (Value×Mov)} {x0 x1 x2:Value} (h:MvS w0 wr c vs vm p.name p.states r0 rs j) (hw:Below w.heap.size w wr) (h0:w.heap.size<=w0.heap.size) (hj:r0.length<=j) (hm:r0.map (·.2)=p.moves)
  (hB:Zd wr b 51 #[x0,x1,x2]) (hb:w.heap.size<=b) :
  Zd (((wr.setCell ⟨b,0,none⟩ (txt p.name)).setCell ⟨b,1,none⟩ vs).setCell ⟨b,2,none⟩ vm) b 51 #[txt p.name,vs,vm] ∧
  ZN (((wr.setCell ⟨b,0,none⟩ (txt p.name)).setCell ⟨b,1,none⟩ vs).setCell ⟨b,2,none⟩ vm) w.heap.size vs vm p ∧
  Below w.heap.size w (((wr.setCell ⟨b,0,none⟩ (txt p.name)).setCell ⟨b,1,none⟩ vs).setCell ⟨b,2,none⟩ vm):=by
 have o1:=hB.off h.cop.st (by decide)
 have o2:=hB.off h.cop.mv (by decide)
 refine ⟨?_,⟨rs,h.all.trans hm,ZF (Zg (Zg (Zg h.cop.st o1) o1) o1) h0,ZF (Zg (Zg (Zg h.cop.mv o2) o2) o2) h0,fun x hx=>?_⟩,((hw.setCell hb _).setCell hb _).setCell hb _⟩
 ·have:=((hB.set 0 (txt p.name)).set 1 vs).set 2 vm
  simpa using this
 ·obtain ⟨i,hi⟩:=List.mem_iff_getElem?.1 hx
  have hl:=(List.getElem?_eq_some_iff.1 hi).1
  have ho:=h.done i x hi (by have:=h.len;omega)
  have oo:=hB.off ho (by decide)
  exact ZF (Zg (Zg (Zg ho oo) oo) oo) h0
theorem ZfN {v:World} {c b g i j j':Nat} {x y z u:Value} (hne:c≠g/\b≠g)
  (h:(((v.cell? ⟨c,2,none⟩=some x/\v.cell? ⟨b,0,none⟩=some y)/\v.cell? ⟨b,2,none⟩=some z)/\(v.cell? ⟨g,j,none⟩=some (Zaz v ⟨g,j,none⟩)/\v.frozen? ⟨g,j,none⟩=false))/\(v.cell? ⟨g,j',none⟩=some (Zaz v ⟨g,j',none⟩)/\v.frozen? ⟨g,j',none⟩=false)) :
  ((((v.setCell ⟨g,i,none⟩ u).cell? ⟨c,2,none⟩=some x/\(v.setCell ⟨g,i,none⟩ u).cell? ⟨b,0,none⟩=some y)/\(v.setCell ⟨g,i,none⟩ u).cell? ⟨b,2,none⟩=some z)/\((v.setCell ⟨g,i,none⟩ u).cell? ⟨g,j,none⟩=some (Zaz (v.setCell ⟨g,i,none⟩ u) ⟨g,j,none⟩)/\(v.setCell ⟨g,i,none⟩ u).frozen? ⟨g,j,none⟩=false))/\((v.setCell ⟨g,i,none⟩ u).cell? ⟨g,j',none⟩=some (Zaz (v.setCell ⟨g,i,none⟩ u) ⟨g,j',none⟩)/\(v.setCell ⟨g,i,none⟩ u).frozen? ⟨g,j',none⟩=false):=
 ⟨⟨⟨⟨ZcV hne.1 h.1.1.1.1,ZcV hne.2 h.1.1.1.2⟩,ZcV hne.2 h.1.1.2⟩,Ze6 h.1.2⟩,Ze6 h.2⟩
end
section
open Go.RowKit
structure Nd where
 kind:Int
 words:List (List UInt8)
 nums:List Int
 kids:List Int
 pos:Int
deriving DecidableEq
def nd0:Nd:=⟨0,[],[],[],0⟩
def Zu (ns:List Nd) (k:Int):Nd:=(ns[k.toNat]?).getD nd0
def ZI (ns:List Nd) (k:Int):Int:=(Zu ns k).kind
def atI (p:List Int) (k:Int):Int:=(p[k.toNat]?).getD (-1)
def Zaf (n at_:Nat):List Int->List Int->Option (List Int)
 | [],p=>some p
 | k::r,p=>if k<=(at_:Int)\/(n:Int)<=k\/0<=atI p k then none else Zaf n at_ r (p.set k.toNat at_)
def Zap (ns:List Nd):Nat->Option (List Int)
 | 0=>some (List.replicate ns.length (-1))
 | j+1=>(Zap ns j).bind fun p=>if 0<j/\atI p j<0 then none else Zaf ns.length j (Zu ns j).kids p
def Zat (ns:List Nd):Option (List Int):=if ns.length=0\/1500<ns.length then none else Zap ns ns.length
def Zbe (p:List Int):Nat->List Int
 | 0=>[]
 | j+1=>Zbe p j++[if 0<=atI p j then 1+atI (Zbe p j) (atI p j) else 1]
def Zbt (p:List Int):List Int:=Zbe p p.length
def Zci:List Int->Int
 | []=>0
 | x::r=>r.foldl max x
def ZbU (k:Int):Bool:=decide (8<=k)&&decide (k<=19)&&!(k==12)&&!(k==15)
def ZK (k:Int):Bool:=decide (20<=k)&&decide (k<=23)
def ZcU (k:Int):Bool:=k==15||ZK k
def Zb4 (ws:List (List UInt8)):Bool:=ws.all Zbf
def ZaM (l:List Int):Bool:=l.all fun x=>decide (0<=x)&&decide (x<1000000000000000000)
def Zj (n:Nd) (w m:Nat):Bool:=decide (n.words.length=w)&&decide (n.nums.length=m)
def isB (ks:List Int) (k:Int):Bool:=ks.contains k
def Zax (ns:List Nd) (kids:List Int) (f:Int->Bool):Bool:=kids.all fun k=>f (ZI ns k)
def Zk (ns:List Nd):List Int->List (Int->Bool)->Bool
 | [],[]=>true
 | k::r,f::g=>f (ZI ns k)&&Zk ns r g
 | _,_=>false
def Zan (ns:List Nd) (k:Int):Int:=match (Zu ns k).nums with
 | []=>-1
 | x::_=>x
def ZR (ns:List Nd):List Int->Bool
 | []=>true
 | [_]=>true
 | a::b::r=>decide (Zan ns a<Zan ns b)&&ZR ns (b::r)
def num (n:Nd) (k:Nat):Int:=(n.nums[k]?).getD 0
def Zbl (n:Nd):Bool:=decide (1<=num n 1)&&decide (1<=num n 2)
def Zbq (ns:List Nd) (n:Nd):Bool:=decide (num n 0<=4)&&((num n 1==0&&num n 2==0)||Zbl n)&&Zax ns n.kids (isB [6])&&ZR ns n.kids
def Zdr (ns:List Nd) (n:Nd):Bool:=
 !(num n 0==0)&&decide (num n 0<=4)&&Zbl n&&(Zk ns n.kids [isB [7]]||Zk ns n.kids [isB [6],isB [7]]&&Zan ns (atI n.kids 0)==2)
def Zm (ns:List Nd) (n:Nd):Bool:=
 if n.kind=0 then Zj n 0 0&&Zax ns n.kids (isB [1,4])
 else if n.kind=1 then Zj n 1 0&&Zax ns n.kids (isB [2,3])
 else if n.kind=2 then Zj n 1 1&&decide (num n 0<=1)&&Zk ns n.kids []
 else if n.kind=3 then decide (4<=n.words.length)&&decide (n.words.length % 2=0)&&Zj n n.words.length 0&&Zk ns n.kids []
 else if n.kind=4 then Zj n 1 0&&Zax ns (n.kids.take (n.kids.length-1)) (isB [5])&&Zk ns (n.kids.drop (n.kids.length-1)) [isB [7]]
 else if n.kind=5 then Zj n 1 0&&Zk ns n.kids []||Zj n 2 3&&Zbq ns n
 else if n.kind=6 then decide (1<=n.words.length)&&Zj n n.words.length 1&&decide (num n 0<=2)&&Zk ns n.kids []
 else if n.kind=7 then Zj n 0 0&&Zax ns n.kids ZbU
 else if n.kind=8\/n.kind=9 then Zj n 1 0&&Zk ns n.kids [ZK]
 else if n.kind=10 then Zj n 2 0&&Zk ns n.kids [isB [7],isB [7]]
 else if n.kind=11 then Zj n 2 0&&Zax ns n.kids (isB [12])
 else if n.kind=12 then Zj n 1 0&&Zk ns n.kids [isB [7]]
 else if n.kind=13 then Zj n 2 3&&Zdr ns n
 else if n.kind=14 then (Zj n 1 0||Zj n 2 0)&&Zax ns n.kids ZcU
 else if n.kind=15\/n.kind=21 then Zj n 1 0&&Zk ns n.kids []
 else if n.kind=16 then Zj n 0 0&&(Zk ns n.kids [ZK,isB [7]]||Zk ns n.kids [ZK,isB [7],isB [7]])
 else if n.kind=17 then Zj n 0 0&&Zk ns n.kids [ZK,isB [7]]
 else if n.kind=18\/n.kind=23 then Zj n 0 0&&Zk ns n.kids [ZK]
 else if n.kind=19 then Zj n 0 0&&Zk ns n.kids []
 else if n.kind=20 then Zj n 0 1&&Zk ns n.kids []
 else if n.kind=22 then Zj n 0 1&&decide (num n 0<=5)&&Zk ns n.kids [ZK,ZK]
 else false
def Zbi (ns:List Nd) (n:Nd):Bool:=Zb4 n.words&&ZaM n.nums&&Zm ns n
def ZbJ (ns:List Nd):Bool:=match Zat ns with
 | none=>false
 | some p=>ZI ns 0==0&&decide (Zci (Zbt p)<=24)&&ns.all (Zbi ns)
end
section
open Go.RowKit
def ZH (w:World) (v:Value) (l:List Int):Prop:=∃ A c,v=.slice A l.length c/\l.length<=c/\c<=maxLen/\Zr w w.heap.size 1 A l.length (l.map (Value.int .i64))
theorem ZH.below {w w':World} {v:Value} {l:List Int} (h:ZH w v l) (hb:Below w.heap.size w w'):ZH w' v l:=by
 obtain ⟨A,c,h1,h2,h3,h4⟩:=h
 exact ⟨A,c,h1,h2,h3,(h4.below hb).more hb.size⟩
theorem ZH.nil (w:World):ZH w (.slice none 0 0) []:=⟨none,0,rfl,Nat.le_refl _,by decide,Zr.none_⟩
theorem ZH.len {w:World} {v:Value} {l:List Int} (h:ZH w v l):l.length<=maxLen:=by
 obtain ⟨_,_,_,a,b,_⟩:=h
 omega
theorem ints_at {w wr:World} {A:Option Addr} {n k:Nat} {l:List Int} {x:Int} (h4:Zr w w.heap.size 1 A n (l.map (Value.int .i64))) (hb:Below w.heap.size w wr) (hx:l[k]? = some x) (hn:0<n) :
  ∃ ad,A=some ad/\wr.cell? (ad.add k)=some (.int .i64 x):=by
 obtain ⟨ad,e,hbk,hc⟩:=h4.2 hn
 exact ⟨ad,e,(hb.cell (p:=ad.add k) (by rw [ZQ];exact hbk)).trans (hc k _ (by rw [List.getElem?_map,hx];rfl))⟩
def Za0 (w:World) (v:Value) (l:List (List UInt8)):Prop:=∃ A c,v=.slice A l.length c/\l.length<=c/\c<=maxLen/\Zr w w.heap.size 1 A l.length (l.map txt)/\∀ s∈l,s.length<=maxLen
theorem Za0.below {w w':World} {v:Value} {l:List (List UInt8)} (h:Za0 w v l) (hb:Below w.heap.size w w'):Za0 w' v l:=by
 obtain ⟨A,c,h1,h2,h3,h4,h5⟩:=h
 exact ⟨A,c,h1,h2,h3,(h4.below hb).more hb.size,h5⟩
theorem Za0.nil (w:World):Za0 w (.slice none 0 0) []:=⟨none,0,rfl,Nat.le_refl _,by decide,Zr.none_,fun s hs=>by cases hs⟩
theorem Za0.len {w:World} {v:Value} {l:List (List UInt8)} (h:Za0 w v l):l.length<=maxLen:=by
 obtain ⟨_,_,_,a,b,_⟩:=h
 omega
theorem Zba {w wr:World} {A:Option Addr} {n k:Nat} {l:List (List UInt8)} {x:List UInt8} (h4:Zr w w.heap.size 1 A n (l.map txt)) (hb:Below w.heap.size w wr) (hx:l[k]? = some x) (hn:0<n) :
  ∃ ad,A=some ad/\wr.cell? (ad.add k)=some (txt x):=by
 obtain ⟨ad,e,hbk,hc⟩:=h4.2 hn
 exact ⟨ad,e,(hb.cell (p:=ad.add k) (by rw [ZQ];exact hbk)).trans (hc k _ (by rw [List.getElem?_map,hx];rfl))⟩
abbrev NdV:=Value×Value×Value
def Zs:List (NdV×Nd)->List Value
 | []=>[]
 | x::r=>.int .i64 x.2.kind::x.1.1::x.1.2.1::x.1.2.2::.int .i64 x.2.pos::Zs r
theorem ZbG:∀ (l m:List (NdV×Nd)),Zs (l++m)=Zs l++Zs m
 | [],m=>rfl
 | x::r,m=>by rw [List.cons_append,Zs,Zs,ZbG r m];rfl
theorem ZbH:∀ (l:List (NdV×Nd)) (k:Nat) (x:NdV×Nd),l[k]? = some x->(Zs l)[k*5]? = some (.int .i64 x.2.kind)/\(Zs l)[k*5+1]? = some x.1.1/\(Zs l)[k*5+2]? = some x.1.2.1/\(Zs l)[k*5+3]? = some x.1.2.2/\(Zs l)[k*5+4]? = some (.int .i64 x.2.pos)
 | [],k,x,h=>by simp at h
 | y::r,0,x,h=>by
  obtain rfl:y=x:=by simpa using h
  exact ⟨rfl,rfl,rfl,rfl,rfl⟩
 | y::r,k+1,x,h=>by
  rw [List.getElem?_cons_succ] at h
  obtain ⟨a,b,c,d,e⟩:=ZbH r k x h
  exact ⟨by rw [show (k+1)*5=k*5+1+1+1+1+1 by omega];exact a,by rw [show (k+1)*5+1=k*5+1+1+1+1+1+1 by omega];exact b,by rw [show (k+1)*5+2=k*5+2+1+1+1+1+1 by omega];exact c,by rw [show (k+1)*5+3=k*5+3+1+1+1+1+1 by omega];exact d,by rw [show (k+1)*5+4=k*5+4+1+1+1+1+1 by omega];exact e⟩
def ZJ (w:World) (x:NdV×Nd):Prop:=Za0 w x.1.1 x.2.words/\ZH w x.1.2.1 x.2.nums/\ZH w x.1.2.2 x.2.kids
theorem ZJ.below {w w':World} {x:NdV×Nd} (h:ZJ w x) (hb:Below w.heap.size w w'):ZJ w' x:=⟨h.1.below hb,h.2.1.below hb,h.2.2.below hb⟩
def Zn (w:World) (v:Value) (ns:List Nd):Prop:=
 ∃ A c rs,v=.slice A ns.length c/\ns.length<=c/\c<=maxLen/\rs.map (·.2)=ns/\Zr w w.heap.size 5 A ns.length (Zs rs)/\∀ x∈rs,ZJ w x
theorem Zn.below {w w':World} {v:Value} {ns:List Nd} (h:Zn w v ns) (hb:Below w.heap.size w w'):Zn w' v ns:=by
 obtain ⟨A,c,rs,h1,h2,h3,h4,h5,h6⟩:=h
 exact ⟨A,c,rs,h1,h2,h3,h4,(h5.below hb).more hb.size,fun x hx=>(h6 x hx).below hb⟩
theorem Zn.nil (w:World):Zn w (.slice none 0 0) []:=⟨none,0,[],rfl,Nat.le_refl _,by decide,rfl,Zr.none_,fun x hx=>by cases hx⟩
theorem ZS {w wr:World} {A:Option Addr} {n k:Nat} {rs:List (NdV×Nd)} {x:NdV×Nd} (h4:Zr w w.heap.size 5 A n (Zs rs)) (hb:Below w.heap.size w wr) (hx:rs[k]? = some x) (hn:0<n) :
  ∃ ad,A=some ad/\wr.cell? (ad.add (k*5))=some (.int .i64 x.2.kind)/\wr.cell? ⟨(ad.add (k*5)).block,(ad.add (k*5)).off+1,none⟩=some x.1.1/\wr.cell? ⟨(ad.add (k*5)).block,(ad.add (k*5)).off+2,none⟩=some x.1.2.1/\wr.cell? ⟨(ad.add (k*5)).block,(ad.add (k*5)).off+3,none⟩=some x.1.2.2/\wr.cell? ⟨(ad.add (k*5)).block,(ad.add (k*5)).off+4,none⟩=some (.int .i64 x.2.pos):=by
 obtain ⟨ad,e,hbk,hc⟩:=h4.2 hn
 obtain ⟨a,b,c,d,f⟩:=ZbH rs k x hx
 have d0:=(hb.cell (p:=ad.add (k*5)) (by rw [ZQ];exact hbk)).trans (hc _ _ a)
 have d1:=(hb.cell (p:=ad.add (k*5+1)) (by rw [ZQ];exact hbk)).trans (hc _ _ b)
 have d2:=(hb.cell (p:=ad.add (k*5+2)) (by rw [ZQ];exact hbk)).trans (hc _ _ c)
 have d3:=(hb.cell (p:=ad.add (k*5+3)) (by rw [ZQ];exact hbk)).trans (hc _ _ d)
 have d4:=(hb.cell (p:=ad.add (k*5+4)) (by rw [ZQ];exact hbk)).trans (hc _ _ f)
 rw [<- ZaE] at d1 d2 d3 d4
 exact ⟨ad,e,d0,d1,d2,d3,d4⟩
end
section
open Go.RowKit
theorem Zcg {w:World} {base:Nat} {e:TypeId} {v:Value} {l:List Int} (h:w.ownsRow base e 1 v l.length (l.map (Value.int .i64))):ZH w v l:=by
 obtain ⟨A,c,rfl⟩:=Zl h
 obtain ⟨h1,h2,h3⟩:=Zac h
 exact ⟨A,c,rfl,h1,h2,h3⟩
theorem Zfa {w:World} {base:Nat} {e:TypeId} {v:Value} {l:List (List UInt8)} (h:w.ownsRow base e 1 v l.length (l.map txt)) (hl:∀ s∈l,s.length<=maxLen):Za0 w v l:=by
 obtain ⟨A,c,rfl⟩:=Zl h
 obtain ⟨h1,h2,h3⟩:=Zac h
 exact ⟨A,c,rfl,h1,h2,h3,hl⟩
structure NdO (w:World) (B:Nat) (x:NdV×Nd):Prop where
 ws:w.ownsRow B 9 1 x.1.1 x.2.words.length (x.2.words.map txt)
 us:w.ownsRow B 2 1 x.1.2.1 x.2.nums.length (x.2.nums.map (Value.int .i64))
 ks:w.ownsRow B 3 1 x.1.2.2 x.2.kids.length (x.2.kids.map (Value.int .i64))
 wl:∀ s∈x.2.words,s.length<=maxLen
theorem NdO.at_ {w:World} {B:Nat} {x:NdV×Nd} (h:NdO w B x):ZJ w x:=⟨Zfa h.ws h.wl,Zcg h.us,Zcg h.ks⟩
theorem NdO.keep {w w':World} {B:Nat} {x:NdV×Nd} (h:NdO w B x) (hb:Below w.heap.size w w'):NdO w' B x:=⟨Ze h.ws hb,Ze h.us hb,Ze h.ks hb,h.wl⟩
theorem ZX {w w':World} {base base' n n' size size':Nat} {e e':TypeId} {v v':Value} {xs xs':List Value} (h:w.ownsRow base e size v n xs) (h':w.ownsRow base' e' size' v' n' xs') (hne:e≠e') (hg:w.grownBy w' v'.ownBlock):w'.ownsRow base e size v n xs:=
 h.kept hg (by
  cases q:v.ownBlock with
  | none=>exact .inl rfl
  | some b=>exact .inr fun e=>Zaa h h' hne b q e.symm)
theorem NdO.grown {w w':World} {B base n size:Nat} {e:TypeId} {v:Value} {xs:List Value} {x:NdV×Nd} (h:NdO w B x) (ho:w.ownsRow base e size v n xs) (h1:9≠e) (h2:2≠e) (h3:3≠e) (hg:w.grownBy w' v.ownBlock):NdO w' B x:=
 ⟨ZX h.ws ho h1 hg,ZX h.us ho h2 hg,ZX h.ks ho h3 hg,h.wl⟩
structure RowO (w:World) (B:Nat) (v:Value) (rs:List (NdV×Nd)):Prop where
 own:w.ownsRow B 27 5 v rs.length (Zs rs)
 each:∀ x∈rs,NdO w B x
theorem RowO.keep {w w':World} {B:Nat} {v:Value} {rs:List (NdV×Nd)} (h:RowO w B v rs) (hb:Below w.heap.size w w'):RowO w' B v rs:=⟨Ze h.own hb,fun x hx=>(h.each x hx).keep hb⟩
theorem RowO.push {w w':World} {B:Nat} {v v':Value} {rs:List (NdV×Nd)} {x:NdV×Nd} (h:RowO w B v rs) (hx:NdO w B x) (hown:w'.ownsRow B 27 5 v' (rs.length+1) (Zs rs++Zs [x])) (hg:w.grownBy w' v.ownBlock):RowO w' B v' (rs++[x]):=by
 refine ⟨by rw [List.length_append,ZbG];exact hown,fun y hy=>?_⟩
 rcases List.mem_append.mp hy with hy | hy
 ·exact (h.each y hy).grown h.own (by decide) (by decide) (by decide) hg
 ·rw [List.mem_singleton] at hy
  subst hy
  exact hx.grown h.own (by decide) (by decide) (by decide) hg
theorem RowO.nodes {w:World} {B:Nat} {v:Value} {rs:List (NdV×Nd)} (h:RowO w B v rs):Zn w v (rs.map (·.2)):=by
 obtain ⟨A,c,rfl⟩:=Zl h.own
 obtain ⟨h1,h2,h3⟩:=Zac h.own
 exact ⟨A,c,rs,by rw [List.length_map],by rw [List.length_map];exact h1,h2,rfl,by rw [List.length_map];exact h3,fun x hx=>(h.each x hx).at_⟩
theorem Zbv:∀ (rs:List (NdV×Nd)) (i:Nat) (x:NdV×Nd) (rv:Value) (ks:List Int),rs[i]? = some x->Zs (rs.set i ((x.1.1,x.1.2.1,rv),⟨x.2.kind,x.2.words,x.2.nums,ks,x.2.pos⟩))=(Zs rs).set (i*5+3) rv
 | [],i,x,rv,ks,h=>by simp at h
 | y::r,0,x,rv,ks,h=>by
  obtain rfl:y=x:=by simpa using h
  rfl
 | y::r,i+1,x,rv,ks,h=>by
  rw [List.getElem?_cons_succ] at h
  rw [List.set_cons_succ,Zs,Zs,Zbv r i x rv ks h,show (i+1)*5+3=(i*5+3)+1+1+1+1+1 by omega]
  rfl
theorem RowO.kids {w:World} {B g c n i:Nat} {x:NdV×Nd} {rs:List (NdV×Nd)} {rv:Value} {ks:List Int} (h:RowO w B (.slice (some ⟨g,0,none⟩) n c) rs) (hn:n=rs.length) (hx:rs[i]? = some x) (hr:w.ownsRow B 3 1 rv ks.length (ks.map (Value.int .i64))) :
  RowO (w.setCell ⟨g,i*5+3,none⟩ rv) B (.slice (some ⟨g,0,none⟩) n c) (rs.set i ((x.1.1,x.1.2.1,rv),⟨x.2.kind,x.2.words,x.2.nums,ks,x.2.pos⟩)):=by
 subst hn
 have off:=Zaa h.own hr (by decide) g rfl
 have past:∀ z,NdO w B z->NdO (w.setCell ⟨g,i*5+3,none⟩ rv) B z:=fun z hz=>
  ⟨Zg hz.ws (Zaa h.own hz.ws (by decide) g rfl),Zg hz.us (Zaa h.own hz.us (by decide) g rfl),Zg hz.ks (Zaa h.own hz.ks (by decide) g rfl),hz.wl⟩
 have s:=(World.ownsRow.stored h.own (i*5+3) rv).1
 rw [<- Zbv rs i x rv ks hx] at s
 refine ⟨by rw [List.length_set];exact s,fun y hy=>?_⟩
 rcases List.mem_or_eq_of_mem_set hy with hy | rfl
 ·exact past y (h.each y hy)
 ·have px:=past x (h.each x (List.mem_of_getElem? hx))
  exact ⟨px.ws,px.us,Zg hr off,px.wl⟩
theorem Zjt:(Tryz.prog.info? 27).map (fun i=>(i.zero,i.size,i.bytes))=some (some (.agg #[.int .i64 0,.slice none 0 0,.slice none 0 0,.slice none 0 0,.int .i64 0]),5,88):=by kernel_rfl
theorem Zgd:(Tryz.prog.info? 3).map (fun i=>(i.zero,i.size,i.bytes))=some (some (.int .i64 0),1,8):=by kernel_rfl
end
section
open Go.RowKit
theorem ZcT {α:Type} {f:α->Bool} {l:List α} {k:Nat} {x:α} (hk:l[k]? = some x) (h:(l.take k).all f=true):(l.take (k+1)).all f=f x:=by
 rw [List.take_add_one,hk,List.all_append,h,Bool.true_and]
 simp
theorem Zdx {α:Type} {f:α->Bool} {l:List α} {k:Nat} {x:α} (hk:l[k]? = some x) (h:f x=false):l.all f=false:=by
 rw [List.all_eq_false]
 exact ⟨x,List.mem_of_getElem? hk,by rw [h];decide⟩
theorem Zft (w:World) (v:Value) (l:List Int) (h:ZH w v l) :
  Calls Tryz.prog 71 #[v] w fun e w'=>e=.returned (.bool (ZaM l))/\w=w':=by
 obtain ⟨A,cp,rfl,h2,h3,h4⟩:=h
 obtain ⟨n,hn⟩:∃ n,n=l.length:=⟨_,rfl⟩
 have hmx:n<=9223372036854775807:=by unfold maxLen at h3;omega
 rw [<- hn] at h2 h4 ⊢
 have HN:=zh (zi hn hmx)
 have H4:=zh h4
 clear hn h2 h3 h4 hmx
 go_enter Tryz.func71,Tryz.ntmps71
 go_wp2_with fail
 go_loopg [7] n (fun g v7 wr=>w=wr/\∃ k:Nat,v7=.int .i64 k/\k<=n/\g=n-k/\ZaM (l.take k)=true)
 case atStart=>exact ⟨rfl,0,rfl,Nat.zero_le _,rfl,rfl⟩
 case round=>
  obtain ⟨rfl,k,rfl,hk,hg,hall⟩:=hrel
  by_cases hkn:k=n
  ·have e:l.take k=l:=by rw [hkn,HN.out.1];exact List.take_length
   rw [e] at hall
   have FIN:=zh hall
   subst hkn
   clear hk hg hall e
   go_wp2_with fail
   go_ret
   exact ⟨by rw [FIN.out];rfl,rfl⟩
  ·have hlt:k<n:=by omega
   obtain ⟨x,hx⟩:∃ x,l[k]? = some x:=⟨_,List.getElem?_eq_getElem (by have:=HN.out.1;omega)⟩
   obtain ⟨ad,rfl,d0⟩:=ints_at H4.out (Below.refl _ _) hx (by omega)
   have nxt:ZaM (l.take (k+1))=_:=ZcT hx hall
   have bad:_->ZaM l=false:=Zdx hx
   have i1:(k:Int)<(n:Int):=by omega
   have i2:(0:Int)<=(k:Int):=by omega
   have wk:IntKind.i64.wrap ((k:Int)+1)=(k:Int)+1:=IntWalk.i64_in _ (by have:=HN.out.2;omega)
   have HK:=zh (zi hlt hg)
   have NX:=zh (zi nxt bad)
   clear nxt bad hx hkn hlt hk hg hall
   by_cases q1:x<0
   ·have e:ZaM l=false:=NX.out.2 (by rw [decide_eq_false (show ¬ 0<=x by omega)];rfl)
    have FIN:=zh e
    clear e
    go_wp2_with fail
    go_ret
    exact ⟨by rw [FIN.out];rfl,rfl⟩
   ·by_cases q2:1000000000000000000<=x
    ·have e:ZaM l=false:=NX.out.2 (by rw [decide_eq_false (show ¬ x<1000000000000000000 by omega),Bool.and_false])
     have FIN:=zh e
     clear e
     go_wp2_with fail
     go_ret
     exact ⟨by rw [FIN.out];rfl,rfl⟩
    ·have e:=zh (NX.out.1.trans (by rw [decide_eq_true (show 0<=x by omega),decide_eq_true (show x<1000000000000000000 by omega)];rfl:_=true))
     go_wp2_with fail
     go_roundg (n-(k+1))
     case measure=>have:=HK.out;omega
     case rel=>exact ⟨rfl,k+1,by push_cast;rfl,by have:=HK.out;omega,rfl,e.out⟩
theorem ZdW (w:World) (v:Value) (l:List (List UInt8)) (h:Za0 w v l) (ht:ZZ w 0 Zh) :
  Calls Tryz.prog 70 #[v] w fun e w'=>e=.returned (.bool (Zb4 l))/\w=w':=by
 obtain ⟨A,cp,rfl,h2,h3,h4,h5⟩:=h
 obtain ⟨n,hn⟩:∃ n,n=l.length:=⟨_,rfl⟩
 have hmx:n<=9223372036854775807:=by unfold maxLen at h3;omega
 rw [<- hn] at h2 h4 ⊢
 have HN:=zh (zi hn (zi hmx (zi h5 ht)))
 have H4:=zh h4
 clear hn h2 h3 h4 hmx h5 ht
 go_enter Tryz.func70,Tryz.ntmps70
 go_wp2_with fail
 go_loopg [7] n (fun g v7 wr=>w=wr/\∃ k:Nat,v7=.int .i64 k/\k<=n/\g=n-k/\Zb4 (l.take k)=true)
 case atStart=>exact ⟨rfl,0,rfl,Nat.zero_le _,rfl,rfl⟩
 case round=>
  obtain ⟨rfl,k,rfl,hk,hg,hall⟩:=hrel
  by_cases hkn:k=n
  ·have e:l.take k=l:=by rw [hkn,HN.out.1];exact List.take_length
   rw [e] at hall
   have FIN:=zh hall
   subst hkn
   clear hk hg hall e
   go_wp2_with fail
   go_ret
   exact ⟨by rw [FIN.out];rfl,rfl⟩
  ·have hlt:k<n:=by omega
   obtain ⟨x,hx⟩:∃ x,l[k]? = some x:=⟨_,List.getElem?_eq_getElem (by have:=HN.out.1;omega)⟩
   obtain ⟨ad,rfl,d0⟩:=Zba H4.out (Below.refl _ _) hx (by omega)
   have nxt:Zb4 (l.take (k+1))=Zbf x:=ZcT hx hall
   have bad:Zbf x=false->Zb4 l=false:=Zdx hx
   have na:=Zh7 ⟨x.toArray⟩ w (by show x.toArray.size<=maxLen;simpa using HN.out.2.2.1 x (List.mem_of_getElem? hx)) HN.out.2.2.2
   have na:Calls Tryz.prog 93 #[txt x] w (ZbM w (.bool (Zbf x))):=by simpa using na
   have i1:(k:Int)<(n:Int):=by omega
   have i2:(0:Int)<=(k:Int):=by omega
   have wk:IntKind.i64.wrap ((k:Int)+1)=(k:Int)+1:=IntWalk.i64_in _ (by have:=HN.out.2.1;omega)
   have HK:=zh (zi hlt hg)
   have NX:=zh (zi nxt bad)
   have NA:=zh na
   clear nxt bad hx hkn hlt hk hg hall na
   generalize Zbf x=B at *
   cases B
   ·have FIN:=zh (NX.out.2 rfl)
    go_wp2_with (go_at_call 93;(with_reducible refine NA.out.mono ?_);rintro e1 w1 ⟨rfl,rfl⟩)
    go_ret
    exact ⟨by rw [FIN.out];rfl,rfl⟩
   ·go_wp2_with (go_at_call 93;(with_reducible refine NA.out.mono ?_);rintro e1 w1 ⟨rfl,rfl⟩)
    go_roundg (n-(k+1))
    case measure=>have:=HK.out;omega
    case rel=>exact ⟨rfl,k+1,by push_cast;rfl,by have:=HK.out;omega,rfl,NX.out.1⟩
def ndV (x:NdV×Nd):Value:=.agg #[.int .i64 x.2.kind,x.1.1,x.1.2.1,x.1.2.2,.int .i64 x.2.pos]
theorem ZG (w:World) (x:NdV×Nd) (a b:Nat) (h:ZJ w x) :
  Calls Tryz.prog 95 #[ndV x,.int .i64 a,.int .i64 b] w fun e w'=>e=.returned (.bool (Zj x.2 a b))/\Below w.heap.size w w':=by
 obtain ⟨⟨A,c,e1,_⟩,⟨A2,c2,e2,_⟩,A3,c3,e3,_⟩:=h
 obtain ⟨⟨v1,v2,v3⟩,kd,ws,ns,ks,ps⟩:=x
 dsimp only at e1 e2 e3
 subst e1 e2 e3
 unfold ndV Zj
 dsimp only
 have hb:=zh (below_alloc1 w (.cells #[.int .i64 kd,.slice A ws.length c,.slice A2 ns.length c2,.slice A3 ks.length c3,.int .i64 ps] 27))
 by_cases q:ws.length=a
 ·have t1:((ws.length:Int)==(a:Int))=true:=by rw [q];exact beq_self_eq_true _
  by_cases q2:ns.length=b
  ·have t2:((ns.length:Int)==(b:Int))=true:=by rw [q2];exact beq_self_eq_true _
   have Q:=zh (zi q q2)
   clear q q2
   go_enter Tryz.func95,Tryz.ntmps95
   go_wp2_with fail
   go_ret
   exact ⟨by rw [decide_eq_true Q.out.1,decide_eq_true Q.out.2];rfl,hb.out⟩
  ·have t2:((ns.length:Int)==(b:Int))=false:=by simpa using fun e=>q2 (by omega)
   have Q:=zh (zi q q2)
   clear q q2
   go_enter Tryz.func95,Tryz.ntmps95
   go_wp2_with fail
   go_ret
   exact ⟨by rw [decide_eq_true Q.out.1,decide_eq_false Q.out.2];rfl,hb.out⟩
 ·have t1:((ws.length:Int)==(a:Int))=false:=by simpa using fun e=>q (by omega)
  have Q:=zh q
  clear q
  go_enter Tryz.func95,Tryz.ntmps95
  go_wp2_with fail
  go_ret
  exact ⟨by rw [decide_eq_false Q.out];rfl,hb.out⟩
theorem ZhV {l:List Int} {k:Nat} {x c:Int} (hk:l[k]? = some x) (h:(l.take k).contains c=false):(l.take (k+1)).contains c=(c==x):=by
 rw [List.take_add_one,hk,List.contains_eq_any_beq,List.any_append,<- List.contains_eq_any_beq,h,Bool.false_or]
 simp
theorem Zir (w:World) (v:Value) (l:List Int) (c:Int) (h:ZH w v l) :
  Calls Tryz.prog 143 #[v,.int .i64 c] w fun e w'=>(∃ z:Int,e=.returned (.int .i64 z)/\decide (0<=z)=l.contains c)/\w=w':=by
 obtain ⟨A,cp,rfl,h2,h3,h4⟩:=h
 obtain ⟨n,hn⟩:∃ n,n=l.length:=⟨_,rfl⟩
 have hmx:n<=9223372036854775807:=by unfold maxLen at h3;omega
 rw [<- hn] at h2 h4 ⊢
 have HN:=zh (zi hn hmx)
 have H4:=zh h4
 clear hn h2 h3 h4 hmx
 go_enter Tryz.func143,Tryz.ntmps143
 go_wp2_with fail
 go_loopg [8] n (fun g v8 wr=>w=wr/\∃ k:Nat,v8=.int .i64 k/\k<=n/\g=n-k/\(l.take k).contains c=false)
 case atStart=>exact ⟨rfl,0,rfl,Nat.zero_le _,rfl,rfl⟩
 case round=>
  obtain ⟨rfl,k,rfl,hk,hg,hall⟩:=hrel
  by_cases hkn:k=n
  ·have e:l.take k=l:=by rw [hkn,HN.out.1];exact List.take_length
   rw [e] at hall
   have FIN:=zh (show decide ((0:Int)<=-1)=l.contains c from by rw [hall];rfl)
   subst hkn
   clear hk hg hall e
   go_wp2_with fail
   go_ret
   exact ⟨⟨_,rfl,FIN.out⟩,rfl⟩
  ·have hlt:k<n:=by omega
   obtain ⟨x,hx⟩:∃ x,l[k]? = some x:=⟨_,List.getElem?_eq_getElem (by have:=HN.out.1;omega)⟩
   obtain ⟨ad,rfl,d0⟩:=ints_at H4.out (Below.refl _ _) hx (by omega)
   have nxt:=ZhV (c:=c) hx hall
   have hit:(c==x)=true->decide ((0:Int)<=(k:Int))=l.contains c:=fun q=>by
    have q:c=x:=by simpa using q
    rw [show l.contains c=true by rw [q];simpa using List.mem_of_getElem? hx]
    exact decide_eq_true (by omega)
   have i1:(k:Int)<(n:Int):=by omega
   have i2:(0:Int)<=(k:Int):=by omega
   have wk:IntKind.i64.wrap ((k:Int)+1)=(k:Int)+1:=IntWalk.i64_in _ (by have:=HN.out.2;omega)
   have HK:=zh (zi hlt hg)
   have NX:=zh (zi nxt hit)
   clear nxt hit hx hkn hlt hk hg hall
   cases hq:(c==x)
   ·go_wp2_with fail
    go_roundg (n-(k+1))
    case measure=>have:=HK.out;omega
    case rel=>exact ⟨rfl,k+1,by push_cast;rfl,by have:=HK.out;omega,rfl,NX.out.1.trans hq⟩
   ·go_wp2_with fail
    go_ret
    exact ⟨⟨_,rfl,NX.out.2 hq⟩,rfl⟩
theorem Ziq (w:World) (v:Value) (l:List Int) (c:Int) (h:ZH w v l) :
  Calls Tryz.prog 130 #[v,.int .i64 c] w fun e w'=>e=.returned (.bool (l.contains c))/\w=w':=by
 have ix:=Zir w v l c h
 clear h
 go_enter Tryz.func130,Tryz.ntmps130
 go_wp2_with (go_at_call 143;(with_reducible refine ix.mono ?_);rintro e w1 ⟨⟨z,rfl,hz⟩,rfl⟩;have HZ:=zh hz;clear hz)
 go_ret
 exact ⟨by rw [<- HZ.out];rfl,rfl⟩
end
section
open Go.RowKit
theorem ZfL {P:Program} (w:World) (dT sT ty elem:TypeId) (g o dLen dCap:Nat) (a:Addr) (sLen sCap size n:Nat) (cur:Array Value) (t:TypeId) (cs:List Value)
  (hu:P.underlying dT=some (.slice elem)) (hs:(P.info? elem).map (·.size)=some size)
  (hg:w.heap[g]? = some (.cells cur t (0,0))) (hn:n=Nat.min sLen dLen) (hc:cs.length=n*size)
  (hsrc:∀ j v,cs[j]? = some v->w.cell? (a.add j)=some v) (hfit:o+cs.length<=cur.size) (h1:∀ v∈cs,v.oneCell'=true) :
  (Builtin.copy_ #[dT,sT] ty #[.slice (some ⟨g,o,none⟩) dLen dCap,.slice (some a) sLen sCap]).run P w =
   .ok (goInt n) (w.setRow g (cur.toList.take o++cs++cur.toList.drop (o+cs.length)).toArray):=by
 have hl:=run_loadCells_list (P:=P) w a cs hsrc
 have hst:=run_storeCells_at P g o t cs 0 cur w hg (by simpa using hfit) h1
 rw [hc] at hl
 cases hq:P.info? elem with
 | none=>simp [hq] at hs
 | some i=>
  have hi:i.size=size:=by simpa [hq] using hs
  simp [Builtin.copy_,run_underlying hu,Builtin.lenOf,Builtin.firstCells,sizeOf,typeInfo,hq,hi,<- hn,hl,hst]
theorem ZhK {P:Program} {ops:Array Oper} {o:Oper} {a:Act} {w:World} {K:Act->World->Prop} {Q:Exit->Act->World->Prop} {E:Prop} (hgd:o.guard=none) (d s:Operand) (dT sT:TypeId)
  (ho:o.op=.call { callee:=.builtin .copy,args:=#[d,s],argTypes:=#[dT,sT] }) (elem:TypeId) (size:Nat) (hu:P.underlying dT=some (.slice elem)) (hsz:(P.info? elem).map (·.size)=some size)
  (g off dLen dCap:Nat) (ad:Addr) (sLen sCap n:Nat) (hd:a.eval d=.slice (some ⟨g,off,none⟩) dLen dCap) (hs:a.eval s=.slice (some ad) sLen sCap)
  (cur:Array Value) (t:TypeId) (hg:w.heap[g]? = some (.cells cur t (0,0))) (cs:List Value) (hn:n=Nat.min sLen dLen) (hc:cs.length=n*size)
  (hsrc:∀ j v,cs[j]? = some v->w.cell? (ad.add j)=some v) (hfit:off+cs.length<=cur.size) (h1:∀ v∈cs,v.oneCell'=true)
  (h:∀ w',w'=w.setRow g (cur.toList.take off++(cs++cur.toList.drop (off+cs.length))).toArray->K (a.put o.dst (goInt n)) w') :
  if Region.wanted o (yielded ops a.tmps)=true then Oper.wp P o a w K Q else E:=by
 have hw:Region.wanted o (yielded ops a.tmps)=true:=by simp [Region.wanted,hgd]
 rw [if_pos hw]
 have hrun:=ZfL (P:=P) w dT sT o.type elem g off dLen dCap ad sLen sCap size n cur t cs hu hsz hg hn hc hsrc hfit h1
 unfold Oper.wp
 simp [execOp,ho,resolve,invoke,builtin,hd,hs,hrun,Result.andThen]
 exact h _ rfl
theorem Zd3 {w:World} {b:Nat} {cs:Array Value} (h:Blk w b cs) (j:Nat) (v:Value) (hj:cs.toList[j]? = some v):w.cell? ((⟨b,0,none⟩:Addr).add j)=some v:=by
 rw [Addr.add_lit,Nat.zero_add,h.cell j]
 simpa using hj
theorem ZfO:(Tryz.prog.info? 3).map (fun i=>(i.zero,i.size,i.bytes))=some (some (.int .i64 0),1,8):=by kernel_rfl
theorem Zdn {P:Program} {e:TypeId} {z:Value} {s b:Nat} (h:(P.info? e).map (fun i=>(i.zero,i.size,i.bytes))=some (some z,s,b)):∃ i,P.info? e=some i/\i.zero=some z/\i.size=s/\i.bytes=b:=by
 cases hi:P.info? e with
 | none=>rw [hi] at h;cases h
 | some i=>
  rw [hi] at h
  injection h with h
  injection h with h1 h
  injection h with h2 h3
  exact ⟨i,rfl,h1,h2,h3⟩
theorem Zf0 (w:World):Below w.heap.size w w.drew:=(Below.refl _ _).drew
def Zau (k n:Nat):List Value:=List.replicate k (.int .i64 (-1))++List.replicate (n-k) (.int .i64 0)
theorem ZbI {k n:Nat} (h:k<=n):(Zau k n).length=n:=by
 unfold Zau
 rw [List.length_append,List.length_replicate,List.length_replicate]
 omega
theorem Zd0 {k d n:Nat} (h:k+d<=n):(Zau k n).take k++(List.replicate d (Value.int .i64 (-1))++(Zau k n).drop (k+(List.replicate d (Value.int .i64 (-1))).length))=Zau (k+d) n:=by
 unfold Zau
 rw [List.length_replicate,List.take_append_of_le_length (by simp),List.take_of_length_le (by simp),List.drop_append,List.drop_of_length_le (by simp),List.nil_append,List.length_replicate,List.drop_replicate,<- List.append_assoc,List.replicate_append_replicate]
 congr 2
 omega
theorem Zi7 {k n j:Nat} {v:Value} {d:Nat} (hd:d<=k) (h:(List.replicate d (Value.int .i64 (-1)))[j]? = some v):(Zau k n).toArray.toList[j]? = some v:=by
 rw [List.getElem?_replicate] at h
 split at h
 ·rename_i q
  unfold Zau
  rw [List.toList_toArray,List.getElem?_append_left (by rw [List.length_replicate];omega),List.getElem?_replicate,if_pos (by omega)]
  exact h
 ·cases h
theorem Zi8 (d:Nat):∀ v∈List.replicate d (Value.int .i64 (-1)),v.oneCell'=true:=fun v hv=>by
 rw [List.eq_of_mem_replicate hv]
 rfl
theorem ZiE {w:World} {b:Nat} {cs:Array Value} {ty:TypeId} (h:w.heap[b]? = some (.cells cs ty (0,0))):Blk w b cs:=⟨ty,h⟩
theorem ZfT {w:World} {g:Nat} {cur cs:Array Value} {t:TypeId} (h:w.heap[g]? = some (.cells cur t (0,0))):(w.setRow g cs).heap[g]? = some (.cells cs t (0,0)):=setRow_heap w g _ _ t _ h
theorem ZfE (w:World) (bx c n:Nat) (hx:Blk w bx #[.int .i64 (-1)]) (hn1:1<=n) (hn:n<=1500) :
  Calls Tryz.prog 69 #[.slice (some ⟨bx,0,none⟩) 1 c,.int .i64 n] w fun e w'=>∃ v,e=.returned v/\w'.ownsRow w.heap.size 3 1 v n (Zau n n)/\Below w.heap.size w w':=by
 obtain ⟨i0,hi,hz0,hz1,hz2⟩:=Zdn ZfO
 have HSZ:=zh (show (Tryz.prog.info? 3).map (·.size)=some 1 by rw [hi];simp [hz1])
 have bm:∀ w:World,Calls Tryz.prog 92 #[.int .u64 1,.int .u64 n] w fun e w'=>e=.returned (.tuple #[.int .u64 0,.int .u64 n])/\w=w':=fun w=>by
  have:=Tryz.bits_Mul 1 n (by decide) (by omega) w
  rw [show (1*n / 18446744073709551616:Nat)=0 by omega,show (1*n % 18446744073709551616:Nat)=n by omega] at this
  exact this.mono fun _ _ q=>⟨q.1,q.2.symm⟩
 have u1:IntKind.u64.wrap (n:Int)=(n:Int):=IntWalk.u64_in _ (by omega)
 have u2:IntKind.i64.wrap (n:Int)=(n:Int):=IntWalk.i64_in _ (by omega)
 have u3:¬ (n:Int)<0:=by omega
 have u4:¬ (9223372036854775807:Int)<(n:Int):=by omega
 have BM:=zh bm
 have HN:=zh (zi hn1 hn)
 clear bm hn hn1
 go_enter Tryz.func69,Tryz.ntmps69
 go_upto_region 7 with (first
  | (go_at_call 92;(with_reducible refine (BM.out _).mono ?_);rintro e w1 ⟨rfl,rfl⟩)
  | (at_make;refine wpList_make_full _ rfl _ _ 23 rfl w.heap.size 3 i0 (.int .i64 0) 1 Tryz.underlying23 hi hz0 hz1 .i64 .i64 _ _ n rfl rfl ?c1 ?c2 ?c3 ?c4 ?c5 ?_))
 case c1=>rfl
 case c2=>have:=HN.out;omega
 case c3=>rw [hz2];have:=HN.out;omega
 case c4=>have:=HN.out;unfold maxLen;omega
 case c5=>simp
 intro w2 hown hgrow
 have b2:Below w.heap.size w w2:=(Below.refl _ _).grown hgrow (Nat.le_refl _) (fun k hk=>by cases hk)
 have hg2:w2.heap[w.heap.size]? = some (.cells (Zau 0 n).toArray 3 (0,0)):=by
  rcases hown.2 with ⟨e,_⟩ | ⟨g,cap,cur,e,_,hh,_,_,hsz,htk⟩
  ·cases e
  ·injection e with e1 e2 e3
   injection e1 with e1
   injection e1 with e1
   rw [e1,hh]
   have:cur=(Zau 0 n).toArray:=by
    apply Array.ext'
    have e5:cur.toList.take (n*1)=cur.toList:=List.take_of_length_le (by rw [Array.length_toList,hsz,<- e3];omega)
    rw [<- e5,htk]
    simp only [Zau,madeCells]
    apply List.ext_getElem
    ·simp
    ·intro i h1 h2
     simp [Nat.mod_one]
   rw [this]
 have H2:=zh (zi hg2 (zi b2 (hx.keep b2)))
 clear hown hgrow b2 hg2
 have s1:=Zd3 H2.out.2.2
 have S1:=zh s1
 clear s1 hx
 obtain ⟨w3,hw3⟩:∃ w3,w3=w2.setRow w.heap.size ((Zau 0 n).toArray.toList.take 0++[Value.int .i64 (-1)]++(Zau 0 n).toArray.toList.drop (0+1)).toArray:=⟨_,rfl⟩
 have HW3:=zh hw3
 have rc:(Builtin.copy_ #[23,23] 3 #[.slice (some ⟨w.heap.size,0,none⟩) n n,.slice (some ⟨bx,0,none⟩) 1 c]).run Tryz.prog w2=.ok (.int .i64 1) w3:=by
  rw [hw3]
  exact ZfL w2 23 23 3 3 w.heap.size 0 n n ⟨bx,0,none⟩ 1 c 1 1 (Zau 0 n).toArray 3 [.int .i64 (-1)] Tryz.underlying23 HSZ.out H2.out.1 (by show 1=min 1 n;have:=HN.out;omega) rfl S1.out (by rw [List.size_toArray,ZbI (Nat.zero_le _)];have:=HN.out;simpa using this.1) (fun v hv=>by simp at hv;rw [hv];rfl)
 clear hw3
 go_upto_region 8 with fail
 have hg3:w3.heap[w.heap.size]? = some (.cells (Zau 1 n).toArray 3 (0,0)):=by
  rw [HW3.out,ZfT H2.out.1]
  have:=Zd0 (k:=0) (d:=1) (n:=n) (by have:=HN.out;omega)
  rw [<- this]
  simp
 have b3:Below w.heap.size w w3:=by rw [HW3.out];exact below_setRow H2.out.2.1 (Nat.le_refl _) _
 have H3:=zh (zi hg3 b3)
 clear hg3 b3 S1 H2 rc
 go_wp2_with fail
 go_loopg [8] (n-1) (fun gk v8 wr=>∃ k:Nat,v8=.int .i64 k/\1<=k/\k<=n/\gk=n-k/\wr.heap[w.heap.size]? = some (.cells (Zau k n).toArray 3 (0,0))/\Below w.heap.size w wr)
 case atStart=>exact ⟨1,rfl,Nat.le_refl _,HN.out.1,by omega,H3.out.1,H3.out.2⟩
 case round=>
  clear H3
  obtain ⟨k,rfl,hk1,hk,hgk,hg,hb⟩:=hrel
  have HG:=zh (zi hg (zi hb (zi hgk (zi hk1 hk))))
  have BR:=zh (Zd3 (ZiE hg))
  by_cases hkn:k=n
  ·subst hkn
   clear hg hb hgk hk1 hk
   go_wp2_with fail
   go_ret
   exact ⟨_,rfl,⟨by rw [ZbI (Nat.le_refl _)];omega,.inr ⟨w.heap.size,k,(Zau k k).toArray,rfl,Nat.le_refl _,HG.out.1,Nat.le_refl _,by have:=HN.out;unfold maxLen;omega,by rw [List.size_toArray,ZbI (Nat.le_refl _)];omega,by rw [List.toList_toArray,List.take_of_length_le (by rw [ZbI (Nat.le_refl _)];omega)]⟩⟩,HG.out.2.1⟩
  ·have hlt:k<n:=by omega
   have i1:(k:Int)<(n:Int):=by omega
   have i2:(0:Int)<=(k:Int):=by omega
   have i3:(k:Int)<=(n:Int):=by omega
   clear hg hb hgk hk1 hk hkn
   have HL:=zh hlt
   clear hlt
   go_wp2_with fail
   go_region_law (refine ZhK rfl (.tmp 41) (.tmp 44) 23 23 rfl 3 1 Tryz.underlying23 HSZ.out w.heap.size k (n-k) (n-k) ⟨w.heap.size,0,none⟩ k n (min k (n-k)) (by simp [Act.eval,Act.put];have:=HL.out;omega) (by simp [Act.eval,Act.put]) (Zau k n).toArray 3 HG.out.1 (List.replicate (min k (n-k)) (.int .i64 (-1))) (by first | rfl | exact Nat.min_comm _ _) (by rw [List.length_replicate,Nat.mul_one]) (fun j v hj=>BR.out j v (Zi7 (Nat.min_le_left _ _) hj)) (by rw [List.length_replicate,List.size_toArray,ZbI HG.out.2.2.2.2];have:=HG.out.2.2.2.2;omega) (Zi8 _) ?_;intro w4 hw4;have HW4:=zh hw4;clear hw4)
   have hd4:k+min k (n-k)<=n:=by have:=HL.out;omega
   have hg4:w4.heap[w.heap.size]? = some (.cells (Zau (k+min k (n-k)) n).toArray 3 (0,0)):=by
    rw [HW4.out,<- Zd0 hd4]
    exact ZfT HG.out.1
   have b4:Below w.heap.size w w4:=by rw [HW4.out];exact below_setRow (HG.out.2.1.trans ((Zf0 _).mono HG.out.2.1.size)) (Nat.le_refl _) _
   have u7:IntKind.i64.wrap ((k:Int)+(min k (n-k):Nat))=((k+min k (n-k):Nat):Int):=by
    have:=HN.out
    rw [IntWalk.i64_in _ (by omega)]
    omega
   have H4:=zh (zi hg4 (zi b4 hd4))
   clear hg4 b4 hd4
   go_wp2_with fail
   go_roundg (n-(k+min k (n-k)))
   case measure=>have:=HL.out;have:=HG.out.2.2;omega
   case rel=>exact ⟨k+min k (n-k),rfl,by have:=HG.out.2.2;omega,H4.out.2.2,rfl,H4.out.1,H4.out.2.1⟩
end
section
open Go.RowKit
theorem Ze8 (w:World) (k:Int):Calls Tryz.prog 99 #[.int .i64 k] w fun e w'=>e=.returned (.bool (ZbU k))/\w=w':=by
 by_cases q8:k=8
 ·subst q8
  go_enter Tryz.func99,Tryz.ntmps99
  go_wp2_with fail
  go_ret
  exact ⟨rfl,rfl⟩
 have e8:(k==8)=false:=by simpa using q8
 by_cases q9:k=9
 ·subst q9
  go_enter Tryz.func99,Tryz.ntmps99
  go_wp2_with fail
  go_ret
  exact ⟨rfl,rfl⟩
 have e9:(k==9)=false:=by simpa using q9
 by_cases q10:k=10
 ·subst q10
  go_enter Tryz.func99,Tryz.ntmps99
  go_wp2_with fail
  go_ret
  exact ⟨rfl,rfl⟩
 have e10:(k==10)=false:=by simpa using q10
 by_cases q11:k=11
 ·subst q11
  go_enter Tryz.func99,Tryz.ntmps99
  go_wp2_with fail
  go_ret
  exact ⟨rfl,rfl⟩
 have e11:(k==11)=false:=by simpa using q11
 by_cases q13:k=13
 ·subst q13
  go_enter Tryz.func99,Tryz.ntmps99
  go_wp2_with fail
  go_ret
  exact ⟨rfl,rfl⟩
 have e13:(k==13)=false:=by simpa using q13
 by_cases q14:k=14
 ·subst q14
  go_enter Tryz.func99,Tryz.ntmps99
  go_wp2_with fail
  go_ret
  exact ⟨rfl,rfl⟩
 have e14:(k==14)=false:=by simpa using q14
 by_cases q16:k=16
 ·subst q16
  go_enter Tryz.func99,Tryz.ntmps99
  go_wp2_with fail
  go_ret
  exact ⟨rfl,rfl⟩
 have e16:(k==16)=false:=by simpa using q16
 by_cases q17:k=17
 ·subst q17
  go_enter Tryz.func99,Tryz.ntmps99
  go_wp2_with fail
  go_ret
  exact ⟨rfl,rfl⟩
 have e17:(k==17)=false:=by simpa using q17
 by_cases q18:k=18
 ·subst q18
  go_enter Tryz.func99,Tryz.ntmps99
  go_wp2_with fail
  go_ret
  exact ⟨rfl,rfl⟩
 have e18:(k==18)=false:=by simpa using q18
 by_cases q19:k=19
 ·subst q19
  go_enter Tryz.func99,Tryz.ntmps99
  go_wp2_with fail
  go_ret
  exact ⟨rfl,rfl⟩
 have e19:(k==19)=false:=by simpa using q19
 have hz:ZbU k=false:=by
  unfold ZbU
  simp;omega
 have HZ:=zh hz
 clear hz q8 q9 q10 q11 q13 q14 q16 q17 q18 q19
 go_enter Tryz.func99,Tryz.ntmps99
 go_wp2_with fail
 go_ret
 exact ⟨by rw [HZ.out];rfl,rfl⟩
theorem Zc0 (w:World) (k:Int):Calls Tryz.prog 100 #[.int .i64 k] w fun e w'=>e=.returned (.bool (ZK k))/\w=w':=by
 by_cases q20:k=20
 ·subst q20
  go_enter Tryz.func100,Tryz.ntmps100
  go_wp2_with fail
  go_ret
  exact ⟨rfl,rfl⟩
 have e20:(k==20)=false:=by simpa using q20
 by_cases q21:k=21
 ·subst q21
  go_enter Tryz.func100,Tryz.ntmps100
  go_wp2_with fail
  go_ret
  exact ⟨rfl,rfl⟩
 have e21:(k==21)=false:=by simpa using q21
 by_cases q22:k=22
 ·subst q22
  go_enter Tryz.func100,Tryz.ntmps100
  go_wp2_with fail
  go_ret
  exact ⟨rfl,rfl⟩
 have e22:(k==22)=false:=by simpa using q22
 by_cases q23:k=23
 ·subst q23
  go_enter Tryz.func100,Tryz.ntmps100
  go_wp2_with fail
  go_ret
  exact ⟨rfl,rfl⟩
 have e23:(k==23)=false:=by simpa using q23
 have hz:ZK k=false:=by
  unfold ZK
  simp;omega
 have HZ:=zh hz
 clear hz q20 q21 q22 q23
 go_enter Tryz.func100,Tryz.ntmps100
 go_wp2_with fail
 go_ret
 exact ⟨by rw [HZ.out];rfl,rfl⟩
theorem ZfI (w:World) (k:Int):Calls Tryz.prog 102 #[.int .i64 k] w fun e w'=>e=.returned (.bool (ZcU k))/\w=w':=by
 have ex:=Zc0 w k
 unfold ZcU
 generalize ZK k=B at *
 by_cases q:k=15
 ·subst q
  clear ex
  go_enter Tryz.func102,Tryz.ntmps102
  go_wp2_with fail
  go_ret
  exact ⟨rfl,rfl⟩
 ·have e1:(k==15)=false:=by simpa using q
  rw [e1,Bool.false_or]
  clear q
  go_enter Tryz.func102,Tryz.ntmps102
  go_wp2_with (go_at_call 100;(with_reducible refine ex.mono ?_);rintro e w1 ⟨rfl,rfl⟩)
  go_ret
  exact ⟨rfl,rfl⟩
inductive Tst where
 | is (ks:List Int)
 | stmt
 | expr
 | arg
def Tst.f:Tst->Int->Bool
 | .is ks=>isB ks
 | .stmt=>ZbU
 | .expr=>ZK
 | .arg=>ZcU
def Zp (w:World) (t:Tst) (v:Value):Prop:=match t with
 | .is ks=>∃ b A c,v=.func (.func 129) #[] #[.pointer (some ⟨b,0,none⟩)]/\Blk w b #[.slice A ks.length c]/\ZH w (.slice A ks.length c) ks
 | .stmt=>v=.func (.func 99) #[] #[]
 | .expr=>v=.func (.func 100) #[] #[]
 | .arg=>v=.func (.func 102) #[] #[]
theorem Zp.below {w w':World} {t:Tst} {v:Value} (h:Zp w t v) (hb:Below w.heap.size w w'):Zp w' t v:=by
 cases t with
 | is ks=>
  obtain ⟨b,A,c,e,h1,h2⟩:=h
  exact ⟨b,A,c,e,h1.keep hb,h2.below hb⟩
 | stmt=>exact h
 | expr=>exact h
 | arg=>exact h
theorem ZfP (w:World) (b:Nat) (A:Option Addr) (n c:Nat) (ks:List Int) (k:Int) (hB:Blk w b #[.slice A n c]) (h:ZH w (.slice A n c) ks) :
  Calls Tryz.prog 129 #[.int .i64 k,.pointer (some ⟨b,0,none⟩)] w fun e w'=>e=.returned (.bool (isB ks k))/\w=w':=by
 have cn:=Ziq w _ ks k h
 have c0:=hB.cell 0
 have hz:ks.contains k=isB ks k:=rfl
 rw [hz] at cn
 generalize isB ks k=B at *
 have CN:=zh cn
 clear cn h hB hz
 go_enter Tryz.func129,Tryz.ntmps129
 go_wp2_with (go_at_call 130;(with_reducible refine CN.out.mono ?_);rintro e w1 ⟨rfl,rfl⟩)
 go_ret
 exact ⟨rfl,rfl⟩
theorem ZeE (w:World) (v:Value) (ks:List Int) (h:ZH w v ks):Calls Tryz.prog 94 #[v] w fun e w'=>(∃ u,e=.returned u/\Zp w' (.is ks) u)/\Below w.heap.size w w':=by
 have hmf:∀ (fn:Fn) (first cap:Array Value) (w:World),(Instr.makeFunc fn first cap).run Tryz.prog w=.ok (.func fn first cap) w:=fun _ _ _ _=>rfl
 obtain ⟨A,c,rfl,h2,h3,h4⟩:=id h
 have a:=zh (below_alloc1 w (.cells #[.slice A ks.length c] 23))
 have B:=zh (Blk.start w #[.slice A ks.length c] 23)
 have HI:=zh h
 clear h h2 h3 h4
 generalize hn:ks.length=n at *
 have HN:=zh hn
 clear hn
 go_enter Tryz.func94,Tryz.ntmps94
 go_wp2_with fail
 go_ret
 exact ⟨⟨_,rfl,w.heap.size,A,c,rfl,by rw [HN.out];exact B.out,by rw [HN.out];exact HI.out.below a.out⟩,a.out⟩
end
end Go.Proofs.YtkgkmdhpnhmcpaaGreatDoor
