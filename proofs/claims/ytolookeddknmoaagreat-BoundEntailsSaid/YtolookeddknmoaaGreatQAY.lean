import Derived.Deep.CutRange
import Derived.Test.YtolookeddknmoaaGreatQAJ
import Derived.Test.YtolookeddknmoaaGreatQAX
set_option maxRecDepth 100000
set_option maxHeartbeats 8000000
namespace Go.Proofs.YtolookeddknmoaaGreat
section
open Go.RowKit
structure DivS (W wr:World) (vl vs vp:Value) (L Q:List Trm) (P:List Int) (b8 k g i:Nat) (va:Value) (t:Trm):Prop where
 sol:SolS W wr vl vs vp L Q P
 kk:wr.cell? ⟨b8,0,none⟩=some (.int .i64 k)
 r:Zb wr va t.1
 c0:wr.cell? ⟨g,i*3,none⟩=some va
 c1:wr.cell? ⟨g,i*3+1,none⟩=some (.int .i64 t.2.1)
 c2:wr.cell? ⟨g,i*3+2,none⟩=some (.int .i64 t.2.2)
section
variable {W wr w2:World} {vl vs vp va:Value} {L Q:List Trm} {P:List Int} {b8 k g i:Nat} {t:Trm}
theorem DivS.keep (h:DivS W wr vl vs vp L Q P b8 k g i va t) (hb:Below wr.heap.size wr w2):DivS W w2 vl vs vp L Q P b8 k g i va t:=
 ⟨h.sol.keep hb,Zf hb (World.block_lt_of_cell? _ _ h.kk) h.kk,h.r.below hb,Zf hb (World.block_lt_of_cell? _ _ h.c0) h.c0,Zf hb (World.block_lt_of_cell? _ _ h.c1) h.c1,Zf hb (World.block_lt_of_cell? _ _ h.c2) h.c2⟩
theorem DivS.cells (h:DivS W wr vl vs vp L Q P b8 k g i va t):((wr.cell? ⟨b8,0,none⟩=some (.int .i64 k))/\wr.cell? ⟨g,i*3,none⟩=some va/\wr.cell? ⟨g,i*3+1,none⟩=some (.int .i64 t.2.1)/\wr.cell? ⟨g,i*3+2,none⟩=some (.int .i64 t.2.2))/\DivS W wr vl vs vp L Q P b8 k g i va t:=
 ⟨⟨h.kk,h.c0,h.c1,h.c2⟩,h⟩
theorem ZdP {A:Prop} (hb:Below wr.heap.size wr w2) (h:A/\DivS W wr vl vs vp L Q P b8 k g i va t):((w2.cell? ⟨b8,0,none⟩=some (.int .i64 k))/\w2.cell? ⟨g,i*3,none⟩=some va/\w2.cell? ⟨g,i*3+1,none⟩=some (.int .i64 t.2.1)/\w2.cell? ⟨g,i*3+2,none⟩=some (.int .i64 t.2.2))/\DivS W w2 vl vs vp L Q P b8 k g i va t:=
 (h.2.keep hb).cells
theorem ZjB {A:Prop} {wo:World} {o:Obj} (h:A/\DivS W wo.drew vl vs vp L Q P b8 k g i va t):(((wo.alloc o).drew.cell? ⟨b8,0,none⟩=some (.int .i64 k))/\(wo.alloc o).drew.cell? ⟨g,i*3,none⟩=some va/\(wo.alloc o).drew.cell? ⟨g,i*3+1,none⟩=some (.int .i64 t.2.1)/\(wo.alloc o).drew.cell? ⟨g,i*3+2,none⟩=some (.int .i64 t.2.2))/\DivS W (wo.alloc o).drew vl vs vp L Q P b8 k g i va t:=
 (h.2.keep (Za wo.drew o)).cells
theorem ZiD {A:Prop} (h:A/\DivS W wr vl vs vp L Q P b8 k g i va t):DivS W wr vl vs vp L Q P b8 k g i va t:=h.2
end
structure HoleT (wA wr:World) (c:Nat):Prop where
 F:FracBox wr c (.slice none 0 0) (.int .i64 0) (.int .i64 0)
 hc:c=wA.heap.size
 below:Below wA.heap.size wA wr
theorem HoleT.start (wA:World) (ty:TypeId):HoleT wA (wA.alloc (.cells #[.slice none 0 0,.int .i64 0,.int .i64 0] ty)) wA.heap.size:=⟨FracBox.start _ _ _ _ _,rfl,Za _ _⟩
theorem HoleT.keep {wA wr w2:World} {c:Nat} (h:HoleT wA wr c) (hb:Below wr.heap.size wr w2):HoleT wA w2 c:=⟨h.F.keep hb,h.hc,h.below.trans (hb.mono h.below.size)⟩
theorem HoleT.fill {wA wr:World} {c:Nat} (h:HoleT wA wr c) (x y z:Value):Below wA.heap.size wA (((wr.setCell ⟨c,0,none⟩ x).setCell ⟨c,1,none⟩ y).setCell ⟨c,2,none⟩ z)/\FracBox (((wr.setCell ⟨c,0,none⟩ x).setCell ⟨c,1,none⟩ y).setCell ⟨c,2,none⟩ z) c x y z:=by
 have e:=h.hc
 exact ⟨((h.below.setCell (by show _<=c;omega) _).setCell (by show _<=c;omega) _).setCell (by show _<=c;omega) _,h.F.write x y z⟩
theorem ZkT {A:Prop} {W wA:World} {vl vs vp va:Value} {L Q:List Trm} {P:List Int} {b8 k g i:Nat} {t:Trm} {ty:TypeId} (_:A/\DivS W (wA.alloc (.cells #[.slice none 0 0,.int .i64 0,.int .i64 0] ty)) vl vs vp L Q P b8 k g i va t) :
  HoleT wA (wA.alloc (.cells #[.slice none 0 0,.int .i64 0,.int .i64 0] ty)) wA.heap.size:=HoleT.start wA ty
theorem ZjE {A:Prop} {W wq:World} {vl vs vp va:Value} {L Q:List Trm} {P:List Int} {b8 k g i:Nat} {t:Trm} {ty:TypeId} (_:A/\DivS W (wq.alloc (.cells #[.slice none 0 0,.int .i64 0,.int .i64 0] ty)).drew vl vs vp L Q P b8 k g i va t) :
  HoleT wq.drew (wq.alloc (.cells #[.slice none 0 0,.int .i64 0,.int .i64 0] ty)).drew wq.heap.size:=HoleT.start wq.drew ty
def Zkt (W:World) (vl vs vp:Value) (L Q:List Trm) (P:List Int) (b8 k:Nat) (M:List (Int×Int)) (m1 m2 e:Int) (v10 v11:Value) (wx:World):Prop:=
 ∃ c A d,v10=.pointer (some ⟨c,0,none⟩)/\v11=.int .i64 e/\FracBox wx c (.slice A M.length d) (.int .i64 m1) (.int .i64 m2)/\Zb wx (.slice A M.length d) M/\Off (three vl vs vp) (.slice A M.length d) M/\SolS W wx vl vs vp L Q P/\wx.cell? ⟨b8,0,none⟩=some (.int .i64 k)/\¬ three vl vs vp c
section
variable {W w5 w6 wA wr:World} {vl vs vp va:Value} {L Q:List Trm} {P:List Int} {b8 k g i c:Nat} {t:Trm} {M:List (Int×Int)} {m1 m2 e:Int} {A:Option Addr} {d:Nat}
theorem Zn3 (D:DivS W w6 vl vs vp L Q P b8 k g i va t) (ty:TypeId) (hr:Zb w6 (.slice A M.length d) M) (hf:Off (three vl vs vp) (.slice A M.length d) M) :
  Zkt W vl vs vp L Q P b8 k M m1 m2 e (.pointer (some ⟨w6.heap.size,0,none⟩)) (.int .i64 e) (w6.alloc (.cells #[.slice A M.length d,.int .i64 m1,.int .i64 m2] ty)):=by
 have a:=Za w6 (.cells #[.slice A M.length d,.int .i64 m1,.int .i64 m2] ty)
 have D':=D.keep a
 exact ⟨_,A,d,rfl,rfl,FracBox.start _ _ _ _ _,hr.below a,hf,D'.sol,D'.kk,fun q=>by have:=D.sol.lt _ q;omega⟩
theorem Zpf (D:DivS W wA vl vs vp L Q P b8 k g i va t) (hc:HoleT wA wr c) (hr:Zb wr (.slice A M.length d) M) (ho:Off (three vl vs vp) (.slice A M.length d) M) (hf:Off (fun b=>b=c) (.slice A M.length d) M) :
  Zkt W vl vs vp L Q P b8 k M m1 m2 e (.pointer (some ⟨c,0,none⟩)) (.int .i64 e) (((wr.setCell ⟨c,0,none⟩ (.slice A M.length d)).setCell ⟨c,1,none⟩ (.int .i64 m1)).setCell ⟨c,2,none⟩ (.int .i64 m2)):=by
 obtain ⟨a,F⟩:=hc.fill (.slice A M.length d) (.int .i64 m1) (.int .i64 m2)
 have D':=D.keep a
 have e:=hc.hc
 refine ⟨_,A,d,rfl,rfl,F,?_,ho,D'.sol,D'.kk,fun q=>by have:=D.sol.lt _ q;omega⟩
 exact hr.off hf (Zaa (Zaa ZaK ZaK) ZaK) (fun b hb=>by injection hb with hb;exact hb.symm)
end
theorem FracBox.grown {w w':World} {row:Option Nat} {c:Nat} {x y z:Value} (h:FracBox w c x y z) (hg:w.grownBy w' row) (hne:row≠some c):FracBox w' c x y z where
 k0:=hg.cell h.k0 (fun e=>hne e.symm)
 k1:=hg.cell h.k1 (fun e=>hne e.symm)
 k2:=hg.cell h.k2 (fun e=>hne e.symm)
 l0:=(hg.frozen_far _ h.lt (fun e=>hne e.symm)).trans h.l0
 l1:=(hg.frozen_far _ h.lt (fun e=>hne e.symm)).trans h.l1
 l2:=(hg.frozen_far _ h.lt (fun e=>hne e.symm)).trans h.l2
 lt:=Nat.lt_of_lt_of_le h.lt hg.size
def Zp9 (w:World) (base:Nat) (v:Value) (us:List Trm) (S:Nat->Prop) (e:Ending) (w':World):Prop:=e=.returned (.int .i64 0)/\ZY w' base v us S/\w.grownBy w' v.ownBlock
def ZqL (w:World) (v:Value) (e:Ending) (w':World):Prop:=∃ z:Int,(z != 0)=true/\e=.returned (.int .i64 z)/\w.grownBy w' v.ownBlock
theorem ZhY {w:World} {base:Nat} {v:Value} {ts us:List Trm} {S:Nat->Prop} {p:Trm} {vp:Value} {i:Int} {b bp:Nat} (hm:Zak (ZQ p i) ts=some us) (h:ZY w base v ts S) (hv:∀ g,v.ownBlock=some g->S g) (hS:∀ g,S g->g<w.heap.size) (hok:∀ t∈ts,TrmOk t) (hp:TrmOk p) (E:ElimIn w S b bp vp p i) :
  Calls Tryz.prog 53 #[v,.func (.func 84) #[] #[.pointer (some ⟨b,0,none⟩),.pointer (some ⟨bp,0,none⟩)]] w (Zp9 w base v us S):=by
 refine (ZhX w base v ts S p vp i b bp h hv hS hok hp E).mono fun e w' hh=>?_
 obtain ⟨hg,⟨us',e1,e2,e3⟩ | ⟨e1,_⟩⟩:=hh
 ·rw [hm] at e1
  obtain rfl:=Option.some.inj e1
  exact ⟨e2,e3,hg⟩
 ·rw [hm] at e1
  cases e1
theorem ZiQ {w:World} {base:Nat} {v:Value} {ts:List Trm} {S:Nat->Prop} {p:Trm} {vp:Value} {i:Int} {b bp:Nat} (hm:Zak (ZQ p i) ts=none) (h:ZY w base v ts S) (hv:∀ g,v.ownBlock=some g->S g) (hS:∀ g,S g->g<w.heap.size) (hok:∀ t∈ts,TrmOk t) (hp:TrmOk p) (E:ElimIn w S b bp vp p i) :
  Calls Tryz.prog 53 #[v,.func (.func 84) #[] #[.pointer (some ⟨b,0,none⟩),.pointer (some ⟨bp,0,none⟩)]] w (ZqL w v):=by
 refine (ZhX w base v ts S p vp i b bp h hv hS hok hp E).mono fun e w' hh=>?_
 obtain ⟨hg,⟨us',e1,_⟩ | ⟨_,z,e2,e3⟩⟩:=hh
 ·rw [hm] at e1
  cases e1
 ·exact ⟨z,e2,e3,hg⟩
structure CelS (wr:World) (T3:Nat->Prop) (c b8:Nat) (A:Option Addr) (d:Nat) (M:List (Int×Int)) (m1 m2:Int) (k B:Nat):Prop where
 F:FracBox wr c (.slice A M.length d) (.int .i64 m1) (.int .i64 m2)
 kk:wr.cell? ⟨b8,0,none⟩=some (.int .i64 k)
 r:Zb wr (.slice A M.length d) M
 off:Off T3 (.slice A M.length d) M
 nc:¬ T3 c
 nb:¬ T3 b8
 sz:B<=wr.heap.size
def Zbl (w:World) (B c:Nat) (xs:List Value):Prop:=B<=c/\c<w.heap.size/\∀ (j:Nat) (u:Value),xs[j]? = some u->w.cell? ⟨c,j,none⟩=some u
section
variable {W wr w2 wo:World} {T3:Nat->Prop} {c b8 d k B:Nat} {A:Option Addr} {M:List (Int×Int)} {m1 m2:Int}
theorem CelS.keep (h:CelS wr T3 c b8 A d M m1 m2 k B) (hb:Below wr.heap.size wr w2):CelS w2 T3 c b8 A d M m1 m2 k B:=
 ⟨h.F.keep hb,Zf hb (World.block_lt_of_cell? _ _ h.kk) h.kk,h.r.below hb,h.off,h.nc,h.nb,Nat.le_trans h.sz hb.size⟩
theorem CelS.grown {row:Option Nat} (h:CelS wr T3 c b8 A d M m1 m2 k B) (hg:wr.grownBy w2 row) (hr:∀ b,row=some b->T3 b):CelS w2 T3 c b8 A d M m1 m2 k B:=
 ⟨h.F.grown hg fun e=>h.nc (hr _ e),hg.cell h.kk fun e=>h.nb (hr _ e.symm),h.r.off h.off hg hr,h.off,h.nc,h.nb,Nat.le_trans h.sz hg.size⟩
theorem CelS.cells (h:CelS wr T3 c b8 A d M m1 m2 k B):(wr.cell? ⟨c,0,none⟩=some (.slice A M.length d)/\wr.cell? ⟨c,1,none⟩=some (.int .i64 m1)/\wr.cell? ⟨c,2,none⟩=some (.int .i64 m2)/\wr.cell? ⟨b8,0,none⟩=some (.int .i64 k))/\CelS wr T3 c b8 A d M m1 m2 k B:=
 ⟨⟨h.F.k0,h.F.k1,h.F.k2,h.kk⟩,h⟩
theorem ZbX {Y:Prop} (h:Y/\CelS wr T3 c b8 A d M m1 m2 k B):CelS wr T3 c b8 A d M m1 m2 k B:=h.2
theorem ZdO {Y:Prop} (hb:Below wr.heap.size wr w2) (h:Y/\CelS wr T3 c b8 A d M m1 m2 k B):(w2.cell? ⟨c,0,none⟩=some (.slice A M.length d)/\w2.cell? ⟨c,1,none⟩=some (.int .i64 m1)/\w2.cell? ⟨c,2,none⟩=some (.int .i64 m2)/\w2.cell? ⟨b8,0,none⟩=some (.int .i64 k))/\CelS w2 T3 c b8 A d M m1 m2 k B:=(h.2.keep hb).cells
theorem Zdm {Y:Prop} {row:Option Nat} (hg:wr.grownBy w2 row) (hr:∀ b,row=some b->T3 b) (h:Y/\CelS wr T3 c b8 A d M m1 m2 k B):(w2.cell? ⟨c,0,none⟩=some (.slice A M.length d)/\w2.cell? ⟨c,1,none⟩=some (.int .i64 m1)/\w2.cell? ⟨c,2,none⟩=some (.int .i64 m2)/\w2.cell? ⟨b8,0,none⟩=some (.int .i64 k))/\CelS w2 T3 c b8 A d M m1 m2 k B:=(h.2.grown hg hr).cells
theorem Zec {Y:Prop} {o:Obj} (h:Y/\CelS wo.drew T3 c b8 A d M m1 m2 k B):((wo.alloc o).drew.cell? ⟨c,0,none⟩=some (.slice A M.length d)/\(wo.alloc o).drew.cell? ⟨c,1,none⟩=some (.int .i64 m1)/\(wo.alloc o).drew.cell? ⟨c,2,none⟩=some (.int .i64 m2)/\(wo.alloc o).drew.cell? ⟨b8,0,none⟩=some (.int .i64 k))/\CelS (wo.alloc o).drew T3 c b8 A d M m1 m2 k B:=(h.2.keep (Za wo.drew o)).cells
theorem Zbl.keep {n:Nat} {xs:List Value} (h:Zbl wr B n xs) (hb:Below wr.heap.size wr w2):Zbl w2 B n xs:=
 ⟨h.1,Nat.lt_of_lt_of_le h.2.1 hb.size,fun j u hu=>Zf hb h.2.1 (h.2.2 j u hu)⟩
theorem Zbl.grown {n:Nat} {xs:List Value} {row:Option Nat} (h:Zbl wr B n xs) (hg:wr.grownBy w2 row) (hr:∀ b,row=some b->b<B):Zbl w2 B n xs:=
 ⟨h.1,Nat.lt_of_lt_of_le h.2.1 hg.size,fun j u hu=>hg.cell (h.2.2 j u hu) fun e=>by have:=hr n e.symm;have:=h.1;omega⟩
theorem Zbl.reads {n size:Nat} {xs:List Value} (h:Zbl wr B n xs) (hl:xs.length=1*size):ZB wr (n+1) size (some ⟨n,0,none⟩) 1 xs:=
 ⟨hl,fun _=>⟨_,rfl,Nat.lt_succ_self n,fun j u hu=>by rw [Addr.add_lit,Nat.zero_add];exact h.2.2 j u hu⟩⟩
theorem Zav {x:Array Value} {ty:TypeId} (hB:B<=wo.heap.size):Zbl (wo.alloc (.cells x ty)) B wo.heap.size x.toList:=by
 refine ⟨hB,by simp,fun j u hu=>?_⟩
 rw [cell_of_row _ _ j x ty (0,0) (heap_alloc_new wo _)]
 simpa using hu
theorem Zg5 {Y:Prop} {x:Array Value} {ty:TypeId} (_:Y/\CelS (wo.alloc (.cells x ty)) T3 c b8 A d M m1 m2 k B) (hB:B<=wo.heap.size):Zbl (wo.alloc (.cells x ty)) B wo.heap.size x.toList:=Zav hB
theorem ZfF {Y:Prop} {x:Array Value} {ty:TypeId} (_:Y/\CelS (wo.alloc (.cells x ty)).drew T3 c b8 A d M m1 m2 k B) (hB:B<=wo.heap.size):Zbl (wo.alloc (.cells x ty)).drew B wo.heap.size x.toList:=(Zav (wo:=wo) (ty:=ty) hB).keep (Zq _)
variable {vl vs vp:Value} {L Q:List Trm} {P:List Int}
theorem Zhd {Y:Prop} {o:Obj} (_:Y/\CelS (wo.alloc o) T3 c b8 A d M m1 m2 k B) (h:SolS W wo vl vs vp L Q P):SolS W (wo.alloc o) vl vs vp L Q P:=h.keep (Za _ _)
theorem ZfM {Y:Prop} {o:Obj} (_:Y/\CelS (wo.alloc o).drew T3 c b8 A d M m1 m2 k B) (h:SolS W wo.drew vl vs vp L Q P):SolS W (wo.alloc o).drew vl vs vp L Q P:=h.keep (Za wo.drew o)
theorem ZfG {Y:Prop} {o:Obj} {n:Nat} {xs:List Value} (_:Y/\CelS (wo.alloc o) T3 c b8 A d M m1 m2 k B) (h:Zbl wo B n xs):Zbl (wo.alloc o) B n xs:=h.keep (Za _ _)
theorem ZeM {Y:Prop} {o:Obj} {n:Nat} {xs:List Value} (_:Y/\CelS (wo.alloc o).drew T3 c b8 A d M m1 m2 k B) (h:Zbl wo.drew B n xs):Zbl (wo.alloc o).drew B n xs:=h.keep (Za wo.drew o)
end
def Zbp (w:World) (r:(List Trm×List Int)×Int) (e:Ending) (w':World):Prop:=
 ∃ A c B d,e=.returned (.tuple #[.slice A r.1.1.length c,.slice B r.1.2.length d,.int .i64 r.2])/\Zal w' (.slice A r.1.1.length c) r.1.1/\ZaT w' (.slice B r.1.2.length d) r.1.2/\Below w.heap.size w w'
theorem Zb0 {w w':World} {z:Int} (hb:Below w.heap.size w w'):Zbp w (([],[]),z) (.returned (.tuple #[.slice none 0 0,.slice none 0 0,.int .i64 z])) w':=
 ⟨none,0,none,0,rfl,Zal.nil _,ZaT.nil _,hb⟩
theorem Zm6 (w:World) (v:Value) (ts:List Trm) (h:Zal w v ts) (hw:∀ t∈ts,Zv t.1/\Bd t.2) (hr:¬ (ts.length<=400/\ts.any ZW=false)) :
  Calls Tryz.prog 20 #[v] w (Zbp w (Zy ts)):=by
 rw [Zgn hr]
 obtain ⟨A,c,rs,rfl,h2,h3,_⟩:=id h
 by_cases hl:ts.length<=400
 ·have hq:ts.any ZW=true:=by
   cases e:ts.any ZW
   ·exact absurd ⟨hl,e⟩ hr
   ·rfl
  have cc:=Zgz w _ ts hw h
  rw [hq] at cc
  have CC:=Lib.hid cc
  have i1:¬ (400:Int)<(ts.length:Int):=by omega
  have i2:¬ 400<ts.length:=by omega
  clear hr h hw h2 h3 hq cc hl
  generalize ts.length=n at *
  go_enter Tryz.func20,Tryz.ntmps20
  go_wp2_with (go_at_call 44;(with_reducible refine CC.out.mono ?_);rintro e w1 ⟨rfl,hb⟩)
  go_ret3
  exact Zb0 hb
 ·have i1:(400:Int)<(ts.length:Int):=by omega
  have i2:400<ts.length:=by omega
  clear hr h hw h2 h3 hl
  generalize ts.length=n at *
  go_enter Tryz.func20,Tryz.ntmps20
  go_wp2_with fail
  go_ret3
  exact Zb0 (Below.refl _ _)
theorem Zoc (w:World) (v:Value) (ts:List Trm) (h:Zal w v ts) (hw:∀ t∈ts,Zv t.1/\Bd t.2) (hr:ts.length<=400/\ts.any ZW=false) :
  Calls Tryz.prog 20 #[v] w (Zbp w (Zy ts)):=by
 have hok:∀ t∈ts,TrmOk t:=fun t ht=>by
  have q:ZW t=false:=by
   cases e:ZW t
   ·rfl
   ·have:=List.any_eq_true.2 ⟨t,ht,e⟩
    rw [hr.2] at this
    cases this
  unfold ZW at q
  obtain ⟨p,a,b⟩:=Zam (by simpa using q) (hw t ht).1 (hw t ht).2.1.1 (hw t ht).2.1.2 (hw t ht).2.2.1 (hw t ht).2.2.2
  exact ⟨a,b,p⟩
 obtain ⟨iT,hiT,zT0,zT1,zT2⟩:=info_parts Zf3
 obtain ⟨iI,hiI,zI0,zI1,zI2⟩:=info_parts Znb
 obtain ⟨A,c,rs,rfl,h2,h3,_⟩:=id h
 have cc:=Zgz w _ ts hw h
 rw [hr.2] at cc
 have CC:=Lib.hid cc
 have CL:=Lib.hid (fun (w':World) (hb:Below w.heap.size w w')=>ZnL w' _ ts (h.below hb) (by omega))
 have i1:¬ (400:Int)<(ts.length:Int):=by omega
 have i2:¬ 400<ts.length:=by omega
 have HR:=Lib.hid (And.intro hr (And.intro hok (rfl:ts.length=ts.length)))
 clear hr h hw h2 h3 cc hok
 generalize ts.length=n at i1 i2 CC CL ⊢
 go_enter Tryz.func20,Tryz.ntmps20
 go_upto_region 4 with (first
  | (go_at_call 44;(with_reducible refine CC.out.mono ?_);rintro e w1 ⟨rfl,hb⟩)
  | (go_at_call 46;(with_reducible refine (CL.out _ hb).mono ?_);rintro e w2 ⟨A2,c2,rfl,hT,hb2⟩))
 have D0:SolS w w2 (.slice A2 ts.length c2) (.slice none 0 0) (.slice none 0 0) ts [] []:=by
  have b2:=hb.trans (hb2.mono hb.size)
  refine ⟨(hT.base hb.size).mono fun b q=>.inl ?_,ZY.nil _ _ _,World.ownsRow_nil _ _ _ _,fun b _ q=>(by cases q),fun b _ q=>(by cases q),fun b q=>(by cases q),b2⟩
  rcases q with q | q | q
  ·exact (hT.lt b q).1
  ·cases q
  ·cases q
 have D0:=Lib.hid D0
 clear CL CC hT hb hb2 i1 i2
 generalize Value.slice A2 ts.length c2=V2 at *
 go_wp2_with fail
 go_loopg [5,6,7,22] 8 (fun g v5 v6 v7 v22 wr=>∃ (k:Nat) (s:ZbY) (vl vs vp:Value),vl=v5/\vs=v6/\vp=v7/\v22=.int .i64 k/\k<=8/\g=8-k/\Zat ts k=some s/\SolS w wr vl vs vp s.1 s.2.1 s.2.2)
 case atStart=>exact ⟨0,(ts,[],[]),_,_,_,rfl,rfl,rfl,rfl,by omega,rfl,rfl,D0.out⟩
 case round=>
  clear D0
  obtain ⟨k,⟨L,Q,P⟩,vl,vs,vp,rfl,rfl,rfl,rfl,hk,hg,hs,D⟩:=hrel
  dsimp only at D
  have so:=ZcC HR.out.2.1 k _ hs
  by_cases hk8:8<=k
  ·have i1:¬ (k:Int)<8:=by omega
   have cc:=Zkh wr _ L D.l.terms
   have hA:Zy ts=if L.any prK=true then (([],[]),1) else ((Q,P),0):=by
    unfold Zy
    rw [if_pos HR.out.1,show (8:Nat)=k by omega,hs]
   have hQ:=D.s.terms
   have hP:=ZdU D.p
   have hB:=D.below
   obtain ⟨Aq,cq,rfl⟩:∃ A c,vs=.slice A Q.length c:=by obtain ⟨A,c,_,e,_⟩:=hQ;exact ⟨A,c,e⟩
   obtain ⟨Ap,cp,rfl⟩:∃ A c,vp=.slice A P.length c:=by obtain ⟨A,c,e,_⟩:=hP;exact ⟨A,c,e⟩
   cases hq:L.any prK
   ·rw [hq] at cc
    have FIN:=Lib.hid (fun (w':World) (hb:Below wr.heap.size wr w')=>show Zbp w (Zy ts) (.returned (.tuple #[.slice Aq Q.length cq,.slice Ap P.length cp,.int .i64 0])) w' by rw [hA,hq];exact ⟨Aq,cq,Ap,cp,rfl,hQ.below hb,hP.below hb,hB.trans (hb.mono hB.size)⟩)
    have CC:=Lib.hid cc
    clear cc hA hq hQ hP hB D so hs hk hg hk8
    generalize Q.length=nq at *
    generalize P.length=np at *
    go_wp2_with (go_at_call 44;(with_reducible refine CC.out.mono ?_);rintro e w1 ⟨rfl,hb⟩)
    go_ret3
    exact FIN.out _ hb
   ·rw [hq] at cc
    have CC:=Lib.hid cc
    have FIN:=Lib.hid (fun (w':World) (hb:Below wr.heap.size wr w')=>show Zbp w (Zy ts) (.returned (.tuple #[.slice none 0 0,.slice none 0 0,.int .i64 1])) w' by rw [hA,hq];exact Zb0 (hB.trans (hb.mono hB.size)))
    clear cc hA hq hQ hP hB D so hs hk hg hk8
    go_wp2_with (go_at_call 44;(with_reducible refine CC.out.mono ?_);rintro e w1 ⟨rfl,hb⟩)
    go_ret3
    exact FIN.out _ hb
  ·have i1:(k:Int)<8:=by omega
   have wk:IntKind.i64.wrap ((k:Int)+1)=(k:Int)+1:=IntWalk.i64_in _ (by omega)
   have a0:=Za wr (.cells #[.int .i64 k] 3)
   have D1:=D.keep a0
   have k8:(wr.alloc (.cells #[.int .i64 k] 3)).cell? ⟨wr.heap.size,0,none⟩=some (.int .i64 k):=by go_simp
   have IX:=Lib.hid (Zm9 (wr.alloc (.cells #[.int .i64 k] 3)) vl L wr.heap.size k k8 D1.l.terms)
   have n8:¬ three vl vs vp wr.heap.size:=fun q=>by have:=D.lt _ q;omega
   have KK:=Lib.hid (And.intro k8 (And.intro n8 (And.intro hs (And.intro so (And.intro hk8 hg)))))
   have DD:=Lib.hid D1
   clear k8 n8 hs so a0 D D1 hk hg hk8
   go_upto_region 10 with (go_at_call 47;(with_reducible refine IX.out.mono ?_);rintro e w3 ⟨z,rfl,hz,hb3⟩)
   have DD:=Lib.hid (DD.out.keep hb3)
   have k8:=Zf hb3 (World.block_lt_of_cell? _ _ KK.out.1) KK.out.1
   have KK:=Lib.hid (And.intro k8 KK.out.2)
   clear IX hb3 k8
   generalize wr.heap.size=b8 at *
   rcases hz with ⟨rfl,hno⟩ | ⟨i,rfl,⟨t,ht,hp⟩,htk⟩
   ·have hs1:Zat ts (k+1)=some (L,Q,P):=by
     rw [Zat,KK.out.2.2.1]
     show ZaB (L,Q,P) k=_
     unfold ZaB
     rw [Zpq hno]
    have REL:=Lib.hid (And.intro hs1 DD.out)
    clear hs1 hno DD
    go_wp2_with fail
    go_roundg (8-(k+1))
    case measure=>have:=KK.out.2.2.2.2;omega
    case rel=>exact ⟨k+1,(L,Q,P),_,_,_,rfl,rfl,rfl,by push_cast;rfl,by have:=KK.out.2.2.2.2;omega,rfl,REL.out.1,REL.out.2⟩
   ·have hil:i<L.length:=by
     rcases Nat.lt_or_ge i L.length with q | q
     ·exact q
     ·rw [List.getElem?_eq_none q] at ht;cases ht
    obtain ⟨g,cap,rfl,hbase,hglt,hnc,hcm⟩:=DD.out.l.form (by omega)
    obtain ⟨va,hr,hoff,d0,d1,d2,_,_,_⟩:=DD.out.l.cells ht
    have hok:=KK.out.2.2.2.1.l t (List.mem_of_getElem? ht)
    have hv0:(atL t.1 k).1≠0:=by unfold Zbb at hp;simpa using hp
    have hst:ZaB (L,Q,P) k=if (ZM t k).2.2=0 then (Zak (ZQ ((ZM t k).1,(ZM t k).2.1) k) (L.eraseIdx i)).bind fun l=>(Zak (ZQ ((ZM t k).1,(ZM t k).2.1) k) Q).map fun q=>(l,q++[((ZM t k).1,(ZM t k).2.1)],P++[(k:Int)]) else none:=by
     unfold ZaB
     rw [ZkV ht hp htk]
     dsimp only
     rw [ht,Option.bind_some]
    have dv:∀ (w':World),Zb w' va t.1->Calls Tryz.prog 50 #[.agg #[va,.int .i64 t.2.1,.int .i64 t.2.2],.int .i64 k] w' (ZaS w' (ZM t k).1 (ZM t k).2.1 (ZM t k).2.2):=fun w' h=>ZlT w' va t.1 t.2 k h hok.ok.wide hok.k.wide (hok.ok.at k) hv0
    have DS:DivS w w3 (.slice (some ⟨g,0,none⟩) L.length cap) vs vp L Q P b8 k g i va t:=⟨DD.out,KK.out.1,hr,d0,d1,d2⟩
    have hd:=Zfy hok hp
    have hsk:Zat ts (k+1)=ZaB (L,Q,P) k:=by rw [Zat,KK.out.2.2.1];rfl
    rw [hst] at hsk
    generalize ZM t k=z at *
    obtain ⟨M,⟨m1,m2⟩,er⟩:=z
    obtain ⟨A1,c1,rfl⟩:=Zd hr
    obtain ⟨t0,tn,td⟩:=t
    dsimp only at *
    have i2:(i:Int)<(L.length:Int):=by omega
    have i3:(0:Int)<=(i:Int):=by omega
    have i4:¬ (i:Int)<0:=by omega
    have wi:IntKind.i64.wrap ((i:Int)+1)=(i:Int)+1:=IntWalk.i64_in _ (by unfold maxLen at hcm;omega)
    have DV:=Lib.hid dv
    have SK:=Lib.hid (And.intro hsk (And.intro hd hil))
    have DSH:=Lib.hid DS
    clear hr hoff d0 d1 d2 hok hv0 hst dv hd hsk hp htk ht DD hil hbase hglt hnc hcm DS
    go_upto_region 11 with fail
    go_cut [10,11] from 23 to 67 (fun v10 v11 wx=>Zkt w (.slice (some ⟨g,0,none⟩) L.length cap) vs vp L Q P b8 k M m1 m2 er v10 v11 wx)
    case first=>
     have HS:=ZdP (Zq _) DSH.out.cells
     clear DSH
     refine wp_region_noPanic ?_
     refine wp_region_held_drew (S:=(fun w'=>((w'.cell? ⟨b8,0,none⟩=some (.int .i64 k))/\w'.cell? ⟨g,i*3,none⟩=some (.slice A1 t0.length c1)/\w'.cell? ⟨g,i*3+1,none⟩=some (.int .i64 tn)/\w'.cell? ⟨g,i*3+2,none⟩=some (.int .i64 td))/\DivS w w' (.slice (some ⟨g,0,none⟩) L.length cap) vs vp L Q P b8 k g i (.slice A1 t0.length c1) (t0,tn,td))) (by kernel_rfl) HS (fun hHeld=>?_)
     clear HS
     refine tk 0 rfl ?_
     refine tk 1 rfl ?_
     refine tk 2 rfl ?_
     refine tk 3 rfl ?_
     refine tk 4 rfl ?_
     (try simp only [cl,Act.put])
     refine wpAnyH_ready (rs:=[5,9]) (by kernel_rfl) (by simp) (AllReadyH.cons (o:=_) rfl (fun K hK=>?_) (AllReadyH.cons (o:=_) rfl (fun K hK=>?_) AllReadyH.nil))
     rotate_left
     go_simp
     (first | refine hK.out _ _ (ZjB (by with_reducible assumption)) (fun hH2=>?_) | refine hK.out _ _ (ZdP (Za _ _) (by with_reducible assumption)) (fun hH2=>?_))
     clear hK K
     (first | have HC:=Lib.hid (ZkT hH2) | have HC:=Lib.hid (ZjE hH2))
     have hHeld0:=Lib.hid hHeld
     clear hHeld
     have hHeld:=hH2
     clear hH2
     (try simp only [cl,Act.put])
     refine rd 5 rfl fun K hK=>?_
     rotate_right
     all_goals
      go_simp
      (go_at_call 50;(with_reducible refine (DV.out _ (ZiD (by with_reducible assumption)).r).mono ?_);rintro e6 w6 ⟨v6,rfl,hv6,hb,fr6⟩;obtain ⟨A6,c6,rfl⟩:=Zd hv6;(try (have HF:=Lib.hid (Off.fresh (l:=M) (S:=fun b=>b=_) fr6 (fun b q=>by rw [q];exact HC.out.F.lt));have HC:=Lib.hid (HC.out.keep hb)));have HV:=Lib.hid (And.intro hv6 (Off.fresh (l:=M) fr6 (fun b q=>((ZiD hHeld).sol.lt b q).2)));clear hv6 fr6)
      go_wp2_with fail
      refine hK.out _ _ (ZdP (by with_reducible assumption) (by with_reducible assumption)) (fun hH2=>?_)
      clear hK K hHeld hb;have hHeld:=hH2;clear hH2
      (try simp only [cl,Act.put])
     all_goals
      refine tk 6 rfl ?_
      refine tk 7 rfl ?_
      refine tk 8 rfl ?_
      (try simp only [cl,Act.put])
     refine rd 9 rfl fun K hK=>?_
     go_simp
     (first | refine hK.out _ _ (ZjB (by with_reducible assumption)) (fun hH2=>?_) | refine hK.out _ _ (ZdP (Za _ _) (by with_reducible assumption)) (fun hH2=>?_))
     clear hK K
     (first | have HC:=Lib.hid (ZkT hH2) | have HC:=Lib.hid (ZjE hH2))
     have hHeld0:=Lib.hid hHeld
     clear hHeld
     have hHeld:=hH2
     clear hH2
     (try simp only [cl,Act.put])
     all_goals
      refine rd 10 rfl fun K hK=>?_
      obtain ⟨⟨h0,h1,h2,h3,h4,h5,h6⟩,h7,h8⟩:=HC.out
      clear h7 h8
      go_simp
      clear h0 h1 h2 h3 h4 h5 h6
      (first
       | refine hK.out _ _ (ZdP (Za _ _) hHeld0.out) (fun hH2=>?_)
       | refine hK.out _ _ (ZdP (HC.out.fill _ _ _).1 hHeld0.out) (fun hH2=>?_))
      clear hK K hHeld
      have hHeld:=hH2
      clear hH2
      (try simp only [cl,Act.put])
      refine tk 11 rfl ?_
      (try simp only [cl,Act.put])
      refine wpAnyH_done (by kernel_rfl) ?_ _
      refine NoPanic.normal ?_
      go_wp2_with fail
      go_meet
      case rel=>first | exact Zn3 (ZiD hHeld0.out) 27 HV.out.1 HV.out.2 | exact Zpf (ZiD hHeld0.out) HC.out HV.out.1 HV.out.2 HF.out
    case rest=>
     obtain ⟨c,A6,d6,rfl,rfl,F6,r6,o6,D6,k6,n6⟩:=hcut
     clear DSH
     by_cases he:er=0
     rotate_left
     ·have ne:(er != 0)=true:=by simpa using he
      have hov:=SK.out.1
      rw [if_neg he] at hov
      have FIN:=Lib.hid (show Zbp w (Zy ts) (.returned (.tuple #[.slice none 0 0,.slice none 0 0,.int .i64 2])) wc by rw [Zfl (by have:=KK.out.2.2.2.2;omega) hov];exact Zb0 D6.below)
      clear F6 r6 o6 D6 k6 n6 he hov
      go_wp2_with fail
      go_ret3
      exact FIN.out
     ·subst he
      have hil:=SK.out.2.2
      have hpk:=SK.out.2.1 rfl
      have hsk:=SK.out.1
      rw [if_pos rfl] at hsk
      have so:=KK.out.2.2.2.1
      have j0:=F6.k0;have j1:=F6.k1;have j2:=F6.k2
      have HH:=Lib.hid (And.intro hil (And.intro hpk (And.intro hsk so)))
      have HH2:Hid (¬ three (.slice (some ⟨g,0,none⟩) (L.length-1) cap) vs vp c/\¬ three (.slice (some ⟨g,0,none⟩) (L.length-1) cap) vs vp b8):=⟨n6,KK.out.2.1⟩
      have M6:=Lib.hid (And.intro D6 (And.intro F6 (And.intro r6 (And.intro o6 (And.intro n6 k6)))))
      clear SK hil hpk hsk so D6 F6 r6 o6 n6
      have DELC:=Lib.hid (Zmk _ _ _ _ _ _ _ _ M6.out.1.l (Or.inl rfl) HH.out.1)
      have ELC:=Lib.hid (fun (w':World) (D:SolS w w' (.slice (some ⟨g,0,none⟩) (L.length-1) cap) vs vp (L.eraseIdx i) Q P) (r:Zb w' (.slice A6 M.length d6) M) (o:Off (three (.slice (some ⟨g,0,none⟩) (L.length-1) cap) vs vp) (.slice A6 M.length d6) M)=>Zje w' (three (.slice (some ⟨g,0,none⟩) (L.length-1) cap) vs vp) (.slice A6 M.length d6) (M,m1,m2) k r o (fun b q=>(D.lt b q).2))
      go_upto_region 16 with (first
       | (go_at_call 51;go_loud ((with_reducible refine DELC.out.mono ?_);rintro e7 w7 ⟨rfl,l7,g7⟩;have D7:=M6.out.1.left l7 g7 rfl;have F7:=M6.out.2.1.grown g7 (fun e=>M6.out.2.2.2.2.1 (Or.inl e));have r7:=M6.out.2.2.1.off M6.out.2.2.2.1 g7 (fun b e=>Or.inl e);have k7:=g7.cell M6.out.2.2.2.2.2 (fun e=>KK.out.2.1 (Or.inl e.symm));have o7:Off (three (.slice (some ⟨g,0,none⟩) (L.length-1) cap) vs vp) (.slice A6 M.length d6) M:=M6.out.2.2.2.1;clear j0 j1 j2 k6;have j0:=F7.k0;have j1:=F7.k1;have j2:=F7.k2;have M7:=Lib.hid (And.intro D7 (And.intro F7 (And.intro r7 (And.intro o7 k7))));clear l7 g7 D7 F7 r7 o7 M6))
       | (go_at_call 52;(with_reducible refine (ELC.out _ M7.out.1 M7.out.2.2.1 M7.out.2.2.2.1).mono ?_);rintro e8 w8 ⟨b,bp,rfl,E8,hb8⟩;have M8:=Lib.hid (And.intro (M7.out.1.keep hb8) (And.intro (M7.out.2.1.keep hb8) (And.intro (M7.out.2.2.1.below hb8) (And.intro M7.out.2.2.2.1 (Zf hb8 (World.block_lt_of_cell? _ _ M7.out.2.2.2.2) M7.out.2.2.2.2)))));have E8:=Lib.hid E8;clear hb8 M7 j0 j1 j2 k7))
      have hokL:∀ u∈L.eraseIdx i,TrmOk u:=fun u hu=>HH.out.2.2.2.l u (List.mem_of_mem_eraseIdx hu)
      have HOV:=Lib.hid (fun (h:Zat ts (k+1)=none) (w':World) (hb:Below w.heap.size w w')=>show Zbp w (Zy ts) (.returned (.tuple #[.slice none 0 0,.slice none 0 0,.int .i64 2])) w' by rw [Zfl (by have:=KK.out.2.2.2.2;omega) h];exact Zb0 hb)
      cases hm1:Zak (ZQ (M,m1,m2) k) (L.eraseIdx i) with
      | none=>
       have FIN:=Lib.hid (HOV.out (by rw [HH.out.2.2.1,hm1];rfl))
       have RN:=Lib.hid (ZiQ hm1 M8.out.1.l (fun _ q=>Or.inl q) (fun b q=>(M8.out.1.lt b q).2) hokL HH.out.2.1 E8.out)
       clear hm1 hokL
       go_wp2_with (go_at_call 53;(with_reducible refine RN.out.mono ?_);rintro e9 w9 ⟨z,hz,rfl,g9⟩)
       go_ret3
       exact FIN.out _ (M8.out.1.below.grown g9 M8.out.1.below.size (fun b q=>(M8.out.1.lt b (Or.inl q)).1))
      | some l'=>
       have RY:=Lib.hid (ZhY hm1 M8.out.1.l (fun _ q=>Or.inl q) (fun b q=>(M8.out.1.lt b q).2) hokL HH.out.2.1 E8.out)
       clear hokL
       cases hm2:Zak (ZQ (M,m1,m2) k) Q with
       | none=>
        have FIN:=Lib.hid (HOV.out (by rw [HH.out.2.2.1,hm1,hm2];rfl))
        have RN:=Lib.hid (fun (w9:World) (D9:SolS w w9 (.slice (some ⟨g,0,none⟩) (L.length-1) cap) vs vp l' Q P) (E9:ElimIn w9 (three (.slice (some ⟨g,0,none⟩) (L.length-1) cap) vs vp) b bp (.slice A6 M.length d6) (M,m1,m2) k)=>ZiQ hm2 D9.s (fun _ q=>Or.inr (Or.inl q)) (fun b q=>(D9.lt b q).2) HH.out.2.2.2.q HH.out.2.1 E9)
        clear hm1 hm2
        go_wp2_with (go_at_call 53;(first
         | (with_reducible refine RY.out.mono ?_);rintro e9 w9 ⟨rfl,l9,g9⟩;have D9:=Lib.hid (M8.out.1.left l9 g9 rfl);have E9:=Lib.hid (E8.out.grown g9 (fun b q=>Or.inl q));clear l9 g9
         | (with_reducible refine (RN.out _ D9.out E9.out).mono ?_);rintro e10 w10 ⟨z,hz,rfl,g10⟩))
        go_ret3
        exact FIN.out _ (D9.out.below.grown g10 D9.out.below.size (fun b q=>(D9.out.lt b (Or.inr (Or.inl q))).1))
       | some q'=>
        have hs1:Zat ts (k+1)=some (l',q'++[(M,m1,m2)],P++[(k:Int)]):=by rw [HH.out.2.2.1,hm1,hm2];rfl
        have R2:=Lib.hid (fun (w9:World) (D9:SolS w w9 (.slice (some ⟨g,0,none⟩) (L.length-1) cap) vs vp l' Q P) (E9:ElimIn w9 (three (.slice (some ⟨g,0,none⟩) (L.length-1) cap) vs vp) b bp (.slice A6 M.length d6) (M,m1,m2) k)=>ZhY hm2 D9.s (fun _ q=>Or.inr (Or.inl q)) (fun b q=>(D9.lt b q).2) HH.out.2.2.2.q HH.out.2.1 E9)
        have hql:q'.length+1<=1000:=by
         have h1:=Zc0 hm2
         have h2:Q.length=P.length:=HH.out.2.2.2.ql
         have h3:P.length<=k:=HH.out.2.2.2.k
         have h4:=KK.out.2.2.2.2
         omega
        have HS1:=Lib.hid (And.intro hs1 hql)
        clear hm1 hm2 hs1 hql
        go_upto_region 18 with (go_at_call 53;(first
         | (with_reducible refine RY.out.mono ?_);rintro e9 w9 ⟨rfl,l9,g9⟩;have D9:=Lib.hid (M8.out.1.left l9 g9 rfl);have E9:=Lib.hid (E8.out.grown g9 (fun b q=>Or.inl q));have M9:=Lib.hid (And.intro (M8.out.2.1.grown g9 (fun e=>HH2.out.1 (Or.inl e))) (And.intro (M8.out.2.2.1.off M8.out.2.2.2.1 g9 (fun b e=>Or.inl e)) (g9.cell M8.out.2.2.2.2 (fun e=>HH2.out.2 (Or.inl e.symm)))));clear l9 g9
         | (with_reducible refine (R2.out _ D9.out E9.out).mono ?_);rintro e10 w10 ⟨rfl,s10,g10⟩;have D10:=Lib.hid (D9.out.sel s10 g10 rfl);have M10:=Lib.hid (And.intro (M9.out.1.grown g10 (fun e=>HH2.out.1 (Or.inr (Or.inl e)))) (And.intro (M9.out.2.1.off M8.out.2.2.2.1 g10 (fun b e=>Or.inr (Or.inl e))) (g10.cell M9.out.2.2 (fun e=>HH2.out.2 (Or.inr (Or.inl e.symm))))));clear s10 g10))
        have LBS:=Lib.hid (And.intro (fun b q=>(D10.out.lt b (Or.inr (Or.inl q))).2:∀ b,vs.ownBlock=some b->b<w10.heap.size) (fun b q=>(D10.out.lt b (Or.inr (Or.inr q))).2:∀ b,vp.ownBlock=some b->b<w10.heap.size))
        have CEL:CelS w10 (three (.slice (some ⟨g,0,none⟩) (L.length-1) cap) vs vp) c b8 A6 d6 M m1 m2 k w10.heap.size:=⟨M10.out.1,M10.out.2.2,M10.out.2.1,M8.out.2.2.2.1,HH2.out.1,HH2.out.2,Nat.le_refl _⟩
        have ONE3:=Lib.hid (fun (u:Value) (hu:u∈[Value.slice A6 M.length d6,.int .i64 m1,.int .i64 m2])=>(by simp at hu;rcases hu with rfl | rfl | rfl<;>rfl:u.oneCell'=true))
        have ONE1:=Lib.hid (fun (u:Value) (hu:u∈[Value.int .i64 (k:Int)])=>(by simp at hu;rw [hu];rfl:u.oneCell'=true))
        have LQ:=Lib.hid (And.intro (by have:=HS1.out.2;unfold maxLen;omega:q'.length+1<=maxLen) (by have:=HS1.out.2;omega:(q'.length+1)*40<=140737488355328))
        have hpl:P.length<=8:=by have h3:P.length<=k:=HH.out.2.2.2.k;have:=KK.out.2.2.2.2;omega
        have LP:=Lib.hid (And.intro (by unfold maxLen;omega:P.length+1<=maxLen) (by omega:(P.length+1)*8<=140737488355328))
        clear hpl
        have HS:=ZdO (Zq _) CEL.cells
        have XS:=Lib.hid (D10.out.keep (Zq _))
        clear CEL M8 D9 D10 M9 M10 E8 E9 RY R2 HOV DELC ELC i2 i3 i4 wi
        refine wp_region_noPanic ?_
        refine wp_region_held_drew (S:=(fun w'=>(w'.cell? ⟨c,0,none⟩=some (.slice A6 M.length d6)/\w'.cell? ⟨c,1,none⟩=some (.int .i64 m1)/\w'.cell? ⟨c,2,none⟩=some (.int .i64 m2)/\w'.cell? ⟨b8,0,none⟩=some (.int .i64 k))/\CelS w' (three (.slice (some ⟨g,0,none⟩) (L.length-1) cap) vs vp) c b8 A6 d6 M m1 m2 k w10.heap.size)) (by kernel_rfl) HS (fun hHeld=>?_)
        clear HS
        refine tk 0 rfl ?_
        refine tk 1 rfl ?_
        refine tk 4 rfl ?_
        refine tk 5 rfl ?_
        (try simp only [cl,Act.put])
        refine wpAnyH_ready (rs:=[2,6]) (by kernel_rfl) (by simp) ?_
        refine AllReadyH.cons (o:=_) rfl (fun K hK=>?_) ?_
        ·go_simp
         (first | refine hK.out _ _ (Zec (by with_reducible assumption)) (fun hH2=>?_) | refine hK.out _ _ (ZdO (Za _ _) (by with_reducible assumption)) (fun hH2=>?_))
         (first | have XS:=Lib.hid (ZfM hH2 XS.out) | have XS:=Lib.hid (Zhd hH2 XS.out))
         (try (first | have NI:=Lib.hid (ZeM hH2 NI.out) | have NI:=Lib.hid (ZfG hH2 NI.out)))
         (first | have NT0:=ZfF hH2 (ZbX hHeld).sz | have NT0:=Zg5 hH2 (ZbX hHeld).sz)
         (try rw [World.size_alloc] at NT0)
         have NT:=Lib.hid NT0
         clear NT0
         clear hK K hHeld
         have hHeld:=hH2
         clear hH2
         (try simp only [cl,Act.put])
         refine wpAnyH_ready (rs:=[3,6]) (by kernel_rfl) (by simp) ?_
         refine AllReadyH.cons (o:=_) rfl (fun K hK=>?_) ?_
         ·obtain ⟨rs3,q1,q2,q3⟩:=XS.out.s
          refine Zab _ rfl _ _ 49 rfl w.heap.size 27 iT (.agg #[.slice none 0 0,.int .i64 0,.int .i64 0]) 3 40 Tryz.underlying49 hiT zT0 zT1 zT2 rfl (by decide) _ q'.length (Zg rs3) rfl q2 _ (some _) 1 1 [.slice A6 M.length d6,.int .i64 m1,.int .i64 m2] rfl (NT.out.reads rfl) ONE3.out LQ.out.1 LQ.out.2 XS.out.below.size (fun v15 w15 hown hgrow hat=>?_)
          have XS:=Lib.hid (XS.out.push (t:=(M,m1,m2)) q1 q3 hown hgrow hat (ZbX hHeld).r (ZbX hHeld).off)
          (try have NI:=Lib.hid (NI.out.grown hgrow LBS.out.1))
          refine hK.out _ _ (Zdm hgrow (fun b q=>Or.inr (Or.inl q)) hHeld) (fun hH2=>?_)
          clear hK K hHeld hown hgrow hat q1 q2 q3 NT
          have hHeld:=hH2
          clear hH2
          (try simp only [cl,Act.put])
          refine rd 6 rfl fun K hK=>?_
          go_simp
          (first | refine hK.out _ _ (Zec (by with_reducible assumption)) (fun hH2=>?_) | refine hK.out _ _ (ZdO (Za _ _) (by with_reducible assumption)) (fun hH2=>?_))
          (first | have XS:=Lib.hid (ZfM hH2 XS.out) | have XS:=Lib.hid (Zhd hH2 XS.out))
          (try (first | have NT:=Lib.hid (ZeM hH2 NT.out) | have NT:=Lib.hid (ZfG hH2 NT.out)))
          (first | have NI0:=ZfF hH2 (ZbX hHeld).sz | have NI0:=Zg5 hH2 (ZbX hHeld).sz)
          (try rw [World.size_alloc] at NI0)
          have NI:=Lib.hid NI0
          clear NI0
          clear hK K hHeld
          have hHeld:=hH2
          clear hH2
          (try simp only [cl,Act.put])
          refine rd 7 rfl fun K hK=>?_
          refine Zab _ rfl _ _ 52 rfl w.heap.size 3 iI (.int .i64 0) 1 8 Tryz.underlying52 hiI zI0 zI1 zI2 rfl (by decide) _ P.length (ZbQ P) rfl XS.out.p _ (some _) 1 1 [.int .i64 k] rfl (NI.out.reads rfl) ONE1.out LP.out.1 LP.out.2 XS.out.below.size (fun v17 w17 hown hgrow hat=>?_)
          have XS:=Lib.hid (XS.out.pushp (x:=(k:Int)) hown hgrow hat)
          refine hK.out _ _ (Zdm hgrow (fun b q=>Or.inr (Or.inr q)) hHeld) (fun hH2=>?_)
          clear hK K hHeld hown hgrow hat NI
          have hHeld:=hH2
          clear hH2
          (try simp only [cl,Act.put])
          refine tk 8 rfl ?_
          refine tk 9 rfl ?_
          (try simp only [cl,Act.put])
          refine wpAnyH_done (by kernel_rfl) ?_ _
          refine NoPanic.normal ?_
          go_wp2_with fail
          go_roundg (8-(k+1))
          case measure=>have:=KK.out.2.2.2.2;omega
          case rel=>exact ⟨k+1,(l',q'++[(M,m1,m2)],P++[(k:Int)]),_,_,_,rfl,rfl,rfl,by push_cast;rfl,by have:=KK.out.2.2.2.2;omega,rfl,HS1.out.1,XS.out⟩
         refine AllReadyH.cons (o:=_) rfl (fun K hK=>?_) AllReadyH.nil
         go_simp
         (first | refine hK.out _ _ (Zec (by with_reducible assumption)) (fun hH2=>?_) | refine hK.out _ _ (ZdO (Za _ _) (by with_reducible assumption)) (fun hH2=>?_))
         (first | have XS:=Lib.hid (ZfM hH2 XS.out) | have XS:=Lib.hid (Zhd hH2 XS.out))
         (try (first | have NT:=Lib.hid (ZeM hH2 NT.out) | have NT:=Lib.hid (ZfG hH2 NT.out)))
         (first | have NI0:=ZfF hH2 (ZbX hHeld).sz | have NI0:=Zg5 hH2 (ZbX hHeld).sz)
         (try rw [World.size_alloc] at NI0)
         have NI:=Lib.hid NI0
         clear NI0
         clear hK K hHeld
         have hHeld:=hH2
         clear hH2
         (try simp only [cl,Act.put])
         refine rd 3 rfl fun K hK=>?_
         obtain ⟨rs3,q1,q2,q3⟩:=XS.out.s
         refine Zab _ rfl _ _ 49 rfl w.heap.size 27 iT (.agg #[.slice none 0 0,.int .i64 0,.int .i64 0]) 3 40 Tryz.underlying49 hiT zT0 zT1 zT2 rfl (by decide) _ q'.length (Zg rs3) rfl q2 _ (some _) 1 1 [.slice A6 M.length d6,.int .i64 m1,.int .i64 m2] rfl (NT.out.reads rfl) ONE3.out LQ.out.1 LQ.out.2 XS.out.below.size (fun v15 w15 hown hgrow hat=>?_)
         have XS:=Lib.hid (XS.out.push (t:=(M,m1,m2)) q1 q3 hown hgrow hat (ZbX hHeld).r (ZbX hHeld).off)
         (try have NI:=Lib.hid (NI.out.grown hgrow LBS.out.1))
         refine hK.out _ _ (Zdm hgrow (fun b q=>Or.inr (Or.inl q)) hHeld) (fun hH2=>?_)
         clear hK K hHeld hown hgrow hat q1 q2 q3 NT
         have hHeld:=hH2
         clear hH2
         (try simp only [cl,Act.put])
         refine rd 7 rfl fun K hK=>?_
         refine Zab _ rfl _ _ 52 rfl w.heap.size 3 iI (.int .i64 0) 1 8 Tryz.underlying52 hiI zI0 zI1 zI2 rfl (by decide) _ P.length (ZbQ P) rfl XS.out.p _ (some _) 1 1 [.int .i64 k] rfl (NI.out.reads rfl) ONE1.out LP.out.1 LP.out.2 XS.out.below.size (fun v17 w17 hown hgrow hat=>?_)
         have XS:=Lib.hid (XS.out.pushp (x:=(k:Int)) hown hgrow hat)
         refine hK.out _ _ (Zdm hgrow (fun b q=>Or.inr (Or.inr q)) hHeld) (fun hH2=>?_)
         clear hK K hHeld hown hgrow hat NI
         have hHeld:=hH2
         clear hH2
         (try simp only [cl,Act.put])
         refine tk 8 rfl ?_
         refine tk 9 rfl ?_
         (try simp only [cl,Act.put])
         refine wpAnyH_done (by kernel_rfl) ?_ _
         refine NoPanic.normal ?_
         go_wp2_with fail
         go_roundg (8-(k+1))
         case measure=>have:=KK.out.2.2.2.2;omega
         case rel=>exact ⟨k+1,(l',q'++[(M,m1,m2)],P++[(k:Int)]),_,_,_,rfl,rfl,rfl,by push_cast;rfl,by have:=KK.out.2.2.2.2;omega,rfl,HS1.out.1,XS.out⟩
        refine AllReadyH.cons (o:=_) rfl (fun K hK=>?_) AllReadyH.nil
        go_simp
        (first | refine hK.out _ _ (Zec (by with_reducible assumption)) (fun hH2=>?_) | refine hK.out _ _ (ZdO (Za _ _) (by with_reducible assumption)) (fun hH2=>?_))
        (first | have XS:=Lib.hid (ZfM hH2 XS.out) | have XS:=Lib.hid (Zhd hH2 XS.out))
        (try (first | have NT:=Lib.hid (ZeM hH2 NT.out) | have NT:=Lib.hid (ZfG hH2 NT.out)))
        (first | have NI0:=ZfF hH2 (ZbX hHeld).sz | have NI0:=Zg5 hH2 (ZbX hHeld).sz)
        (try rw [World.size_alloc] at NI0)
        have NI:=Lib.hid NI0
        clear NI0
        clear hK K hHeld
        have hHeld:=hH2
        clear hH2
        (try simp only [cl,Act.put])
        refine rd 2 rfl fun K hK=>?_
        go_simp
        (first | refine hK.out _ _ (Zec (by with_reducible assumption)) (fun hH2=>?_) | refine hK.out _ _ (ZdO (Za _ _) (by with_reducible assumption)) (fun hH2=>?_))
        (first | have XS:=Lib.hid (ZfM hH2 XS.out) | have XS:=Lib.hid (Zhd hH2 XS.out))
        (try (first | have NI:=Lib.hid (ZeM hH2 NI.out) | have NI:=Lib.hid (ZfG hH2 NI.out)))
        (first | have NT0:=ZfF hH2 (ZbX hHeld).sz | have NT0:=Zg5 hH2 (ZbX hHeld).sz)
        (try rw [World.size_alloc] at NT0)
        have NT:=Lib.hid NT0
        clear NT0
        clear hK K hHeld
        have hHeld:=hH2
        clear hH2
        (try simp only [cl,Act.put])
        refine rd 3 rfl fun K hK=>?_
        obtain ⟨rs3,q1,q2,q3⟩:=XS.out.s
        refine Zab _ rfl _ _ 49 rfl w.heap.size 27 iT (.agg #[.slice none 0 0,.int .i64 0,.int .i64 0]) 3 40 Tryz.underlying49 hiT zT0 zT1 zT2 rfl (by decide) _ q'.length (Zg rs3) rfl q2 _ (some _) 1 1 [.slice A6 M.length d6,.int .i64 m1,.int .i64 m2] rfl (NT.out.reads rfl) ONE3.out LQ.out.1 LQ.out.2 XS.out.below.size (fun v15 w15 hown hgrow hat=>?_)
        have XS:=Lib.hid (XS.out.push (t:=(M,m1,m2)) q1 q3 hown hgrow hat (ZbX hHeld).r (ZbX hHeld).off)
        (try have NI:=Lib.hid (NI.out.grown hgrow LBS.out.1))
        refine hK.out _ _ (Zdm hgrow (fun b q=>Or.inr (Or.inl q)) hHeld) (fun hH2=>?_)
        clear hK K hHeld hown hgrow hat q1 q2 q3 NT
        have hHeld:=hH2
        clear hH2
        (try simp only [cl,Act.put])
        refine rd 7 rfl fun K hK=>?_
        refine Zab _ rfl _ _ 52 rfl w.heap.size 3 iI (.int .i64 0) 1 8 Tryz.underlying52 hiI zI0 zI1 zI2 rfl (by decide) _ P.length (ZbQ P) rfl XS.out.p _ (some _) 1 1 [.int .i64 k] rfl (NI.out.reads rfl) ONE1.out LP.out.1 LP.out.2 XS.out.below.size (fun v17 w17 hown hgrow hat=>?_)
        have XS:=Lib.hid (XS.out.pushp (x:=(k:Int)) hown hgrow hat)
        refine hK.out _ _ (Zdm hgrow (fun b q=>Or.inr (Or.inr q)) hHeld) (fun hH2=>?_)
        clear hK K hHeld hown hgrow hat NI
        have hHeld:=hH2
        clear hH2
        (try simp only [cl,Act.put])
        refine tk 8 rfl ?_
        refine tk 9 rfl ?_
        (try simp only [cl,Act.put])
        refine wpAnyH_done (by kernel_rfl) ?_ _
        refine NoPanic.normal ?_
        go_wp2_with fail
        go_roundg (8-(k+1))
        case measure=>have:=KK.out.2.2.2.2;omega
        case rel=>exact ⟨k+1,(l',q'++[(M,m1,m2)],P++[(k:Int)]),_,_,_,rfl,rfl,rfl,by push_cast;rfl,by have:=KK.out.2.2.2.2;omega,rfl,HS1.out.1,XS.out⟩
theorem Zm5 (w:World) (v:Value) (ts:List Trm) (h:Zal w v ts) (hw:∀ t∈ts,Zv t.1/\Bd t.2):Calls Tryz.prog 20 #[v] w (Zbp w (Zy ts)):=by
 by_cases hr:ts.length<=400/\ts.any ZW=false
 ·exact Zoc w v ts h hw hr
 ·exact Zm6 w v ts h hw hr
end
end Go.Proofs.YtolookeddknmoaaGreat
