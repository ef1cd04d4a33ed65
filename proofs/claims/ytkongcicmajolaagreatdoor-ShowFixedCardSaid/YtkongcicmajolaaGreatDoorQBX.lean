import Derived.Lib.BufferRead
import Derived.Lib.LaidTab
import Derived.Test.YtkongcicmajolaaGreatDoorQAL
import Derived.Test.YtkongcicmajolaaGreatDoorQAM
import Derived.Test.YtkongcicmajolaaGreatDoorQBS
import Derived.Test.YtkongcicmajolaaGreatDoorQBV
import Derived.Test.YtkongcicmajolaaGreatDoorQBW
set_option maxRecDepth 100000
set_option maxHeartbeats 8000000
namespace Go.Proofs.YtkongcicmajolaaGreatDoor
section
open Go.RowKit
theorem ZkS {w:World} {A:Option Addr} {c m:Nat} {v:Value} {l:List Int} (h:Zbh w v l) (e:v=.slice A l.length c) (hm:m<=l.length) :
  Zbh w (.slice A m c) (l.take m)/\Zbh w (.slice (if c=m then A else A.map (·.add m)) (l.length-m) (c-m)) (l.drop m):=by
 obtain ⟨A',c',e',h1,h2,h3⟩:=h
 rw [e] at e'
 injection e' with a _ b
 subst a b
 refine ⟨⟨A,c,by rw [List.length_take,Nat.min_eq_left hm],by rw [List.length_take];omega,h2,?_⟩,⟨_,c-m,by rw [List.length_drop],by rw [List.length_drop];omega,by omega,?_⟩⟩
 ·rw [List.length_take,Nat.min_eq_left hm]
  refine ⟨by simp;omega,fun hn=>?_⟩
  obtain ⟨ad,e,hb,hc⟩:=h3.2 (by omega)
  refine ⟨ad,e,hb,fun j u hj=>hc j u ?_⟩
  rw [List.map_take,List.getElem?_take] at hj
  split at hj
  ·exact hj
  ·cases hj
 ·have:=h3.cut (k:=m) (cap:=c) hm h1
  rw [Nat.mul_one] at this
  rw [List.length_drop,List.map_drop]
  exact this
end
section
open Go.RowKit
theorem ZoK (w0:World) (ns:List Nd) (T:PTabs w0) (f:Nat) (hf:f<=1500):Zc1 18 w0 ns 0 (Zfn ns f) (Zcn ns f):=by
 intro w bp t vn x h hN hx hok hl
 rcases hok with ⟨hk,⟨s,hn⟩,hok⟩ | ⟨hk,⟨s,hn⟩,l,k,hks,hol,hok⟩
 ·exact Znm w0 w bp t vn ns f x h hN hx hk s hn hok hl
 ·obtain ⟨m,rfl,hm,hok⟩:=Zew hok
  exact Zrz w0 w bp t vn ns f x h hN hx T.kinds T.names T.ten _ (ZhQ w0 ns T f 1 (by omega)) hk s hn l m hks hol hm hok hl
theorem Zon {w:World} {base:Nat} {t:Txt} {v:Value} (h:w.ownsRow base 5 1 v t.length (u8s t)):(convert 43 9 v).run Tryz.prog w=.ok (txt t) w:=by
 obtain ⟨_,⟨rfl,hn⟩ | ⟨g,cap,cur,rfl,_,hg,_,_,_,htk⟩⟩:=h
 ·obtain rfl:t=[]:=List.length_eq_zero_iff.mp hn
  exact Lib.run_convert_nil_bytes w _ _ 5 0 Tryz.underlying43 Tryz.underlying5 Tryz.underlying9
 ·refine run_convert_bytes_back w _ _ 5 ⟨g,0,none⟩ cap t Tryz.underlying43 Tryz.underlying5 Tryz.underlying9 (Lib.bytes_of_row hg ?_)
  rw [<- ZgI]
  simpa using htk
end
section
open Go.RowKit
theorem Zo1 (w:World) (rs:List (NdV×Nd)) (ty:TypeId) (hm:rs.length<=maxLen) (h:∀ x∈rs,ZaW (w.alloc (.cells (ZaV rs).toArray ty)) x) :
  Zs (w.alloc (.cells (ZaV rs).toArray ty)) (.slice (some ⟨w.heap.size,0,none⟩) rs.length rs.length) (rs.map (·.2)):=by
 refine ⟨_,rs.length,rs,by rw [List.length_map],by rw [List.length_map];exact Nat.le_refl _,hm,rfl,?_,h⟩
 rw [List.length_map]
 exact ⟨Zgf rs,fun _=>⟨_,rfl,(Blk.start w _ ty).lt,fun j u hj=>ZkG w _ ty j u (by simpa using hj)⟩⟩
end
section
open Go.RowKit
structure ShoTabs (W:World):Prop where
 keys:Zay W 3 ZG
 p:PTabs W
theorem PTabs.below {w w':World} (h:PTabs w) (hb:Below w.heap.size w w'):PTabs w':=⟨h.kinds.below hb,h.names.below hb,h.signs.below hb,fun w2 h2=>h.ten w2 (hb.trans (h2.mono hb.size))⟩
theorem ShoTabs.below {w w':World} (h:ShoTabs w) (hb:Below w.heap.size w w'):ShoTabs w':=⟨h.keys.below hb,h.p.below hb⟩
theorem Tryz.gKinds:Tryz.prog.globalNamed "ballcock/show.kinds"=some 1:=by kernel_rfl
theorem Tryz.gKindsType:(Tryz.prog.globals[1]?).map (·.type)=some 90:=by kernel_rfl
theorem Tryz.gNamesW:Tryz.prog.globalNamed "ballcock/show.namesWords"=some 2:=by kernel_rfl
theorem Tryz.gNamesWType:(Tryz.prog.globals[2]?).map (·.type)=some 101:=by kernel_rfl
theorem Tryz.gShoSigns:Tryz.prog.globalNamed "ballcock/show.signs"=some 0:=by kernel_rfl
theorem Tryz.gShoSignsType:(Tryz.prog.globals[0]?).map (·.type)=some 82:=by kernel_rfl
theorem Tryz.gTen:Tryz.prog.globalNamed "internal/strconv.uint64pow10"=some 4:=by kernel_rfl
theorem Tryz.gTenType:(Tryz.prog.globals[4]?).map (·.type)=some 146:=by kernel_rfl
theorem ZqL {W:World} (h:laidMetH Tryz.prog [("math/bits.deBruijn32tab",Rows.laid_math_bits_deBruijn32tab),("math/bits.deBruijn64tab",Rows.laid_math_bits_deBruijn64tab),("internal/strconv.uint64pow10",Rows.laid_internal_strconv_uint64pow10),("ballcock/lex.keywords",Rows.laid_ballcock_lex_keywords),("ballcock/show.signs",Rows.laid_ballcock_show_signs),("ballcock/show.kinds",Rows.laid_ballcock_show_kinds),("ballcock/show.namesWords",Rows.laid_ballcock_show_namesWords)] W):ShoTabs W:=by
 rw [MakeChecks.laidMetH_plain _ _ _ (by kernel_rfl)] at h
 have h2:=laidMet.tail (laidMet.tail h)
 have h3:=laidMet.tail h2
 have h4:=laidMet.tail h3
 have h5:=laidMet.tail h4
 have h6:=laidMet.tail h5
 exact ⟨Ze3 (zs:=ZG) Tryz.gKeys Tryz.gKeysType Tryz.underlying130 Tryz.underlying9 Tryz.cellsS (by kernel_rfl) h3,
  Ze3 (zs:=ZeX) Tryz.gKinds Tryz.gKindsType Tryz.underlying90 Tryz.underlying9 Tryz.cellsS (by kernel_rfl) h5,
  Ze3 (zs:=Zcm) (rest:=[]) Tryz.gNamesW Tryz.gNamesWType Tryz.underlying101 Tryz.underlying9 Tryz.cellsS (by kernel_rfl) h6,
  Ze3 (zs:=Zd7) Tryz.gShoSigns Tryz.gShoSignsType Tryz.underlying82 Tryz.underlying9 Tryz.cellsS (by kernel_rfl) h4,
  Lib.tabBelow_of_tabIs (Lib.tabIs_of_head (zs:=Lib.pow10Tab) Tryz.gTen Tryz.gTenType Tryz.underlying146 Tryz.underlying112 (by kernel_rfl) (by kernel_rfl) h2)⟩
def ns8:List Nd:=[⟨0,[],[],[1],0⟩,⟨4,[[109,97,105,110]],[],[2],0⟩,⟨7,[],[],[3],0⟩,⟨19,[],[],[],0⟩]
def ZsF:Txt:=[102,110,32,109,97,105,110,40,41,32,123,10,32,32,101,120,105,116,59,10,125,10]
theorem Zq2:ZbG ns8=ZsF:=by decide +kernel
theorem ZqK (w:World) (l:List Txt) (ty:TypeId) (h:l.length<=maxLen) (hs:∀ s∈l,s.length<=maxLen):ZdX (w.alloc (.cells (l.map txt).toArray ty)) (.slice (some ⟨w.heap.size,0,none⟩) l.length l.length) l:=
 ⟨_,_,rfl,Nat.le_refl _,h,by simpa using ZhI w (l.map txt) ty,hs⟩
end
end Go.Proofs.YtkongcicmajolaaGreatDoor
