import Derived.Lib.BufferRead
import Derived.Lib.LaidTab
import Derived.Test.YtfbepcelkijgkaaGreatDoorQAM
import Derived.Test.YtfbepcelkijgkaaGreatDoorQAN
import Derived.Test.YtfbepcelkijgkaaGreatDoorQBQ
import Derived.Test.YtfbepcelkijgkaaGreatDoorQBV
import Derived.Test.YtfbepcelkijgkaaGreatDoorQBW
set_option maxRecDepth 100000
set_option maxHeartbeats 8000000
open Go renaming World → Yh
namespace Go.Proofs.YtfbepcelkijgkaaGreatDoor
section
open Go.RowKit
theorem ZkS {w:Yh} {A:Option Addr} {c m:Nat} {v:Value} {l:List Int} (h:Zbh w v l) (e:v=.slice A l.length c) (hm:m<=l.length) :
  Zbh w (.slice A m c) (l.take m)/\Zbh w (.slice (if c=m then A else A.map (·.add m)) (l.length-m) (c-m)) (l.drop m):=by
 obtain⟨q,r,f,n,o,g⟩:=h;rw[e]at f;injection f with a _ b;subst a b;refine⟨⟨A,c,by rw[List.length_take,Nat.min_eq_left hm],by rw[List.length_take];omega,o,?_⟩,⟨_,c-m,by rw[List.length_drop],by rw[List.length_drop];omega,by omega,?_⟩⟩
 ·rw[List.length_take,Nat.min_eq_left hm];refine⟨by simp;omega,fun hn=>?_⟩;obtain⟨i,e,p,hc⟩:=g.2 (by omega);refine⟨i,e,p,fun j u d=>hc j u ?_⟩;rw[List.map_take,List.getElem?_take]at d
  split at d
  ·exact d
  ·cases d
 ·have:=g.cut (k:=m) (cap:=c) hm n;rw[Nat.mul_one]at this;rw[List.length_drop,List.map_drop];exact this
end
section
open Go.RowKit
theorem ZoH (b:Yh) (ns:List Nd) (T:PTabs b) (f:Nat) (n:f<=1500):ZcZ 18 b ns 0 (Zfl ns f) (Zcl ns f):=by
 intro w e t j x h g hx a i;rcases a with⟨hk,⟨s,hn⟩,a⟩|⟨hk,⟨s,hn⟩,l,k,c,d,a⟩
 ·exact Znm b w e t j ns f x h g hx hk s hn a i
 ·obtain⟨m,rfl,hm,a⟩:=Zeu a;exact Zrw b w e t j ns f x h g hx T.kinds T.names T.ten _ (ZhP b ns T f 1 (by omega)) hk s hn l m c d hm a i
theorem Zon {w:Yh} {a:Nat} {t:Txt} {v:Value} (h:w.ownsRow a 5 1 v t.length (u8s t)):(convert 43 9 v).run Tryz.prog w=.ok (txt t) w:=by
 obtain⟨_,⟨rfl,hn⟩|⟨g,b,d,rfl,_,e,_,_,_,c⟩⟩:=h
 ·obtain rfl:t=[]:=List.length_eq_zero_iff.mp hn;exact Lib.run_convert_nil_bytes w _ _ 5 0 Tryz.underlying43 Tryz.underlying5 Tryz.underlying9
 ·refine run_convert_bytes_back w _ _ 5 ⟨g,0,none⟩ b t Tryz.underlying43 Tryz.underlying5 Tryz.underlying9 (Lib.bytes_of_row e ?_);rw[<-ZgG];simpa using c
end
section
open Go.RowKit
theorem ZoY (w:Yh) (a:List (NdV×Nd)) (ty:TypeId) (hm:a.length<=maxLen) (h:∀x∈a,Za5 (w.alloc (.cells (ZaV a).toArray ty)) x) :
  Zu (w.alloc (.cells (ZaV a).toArray ty)) (.slice (some ⟨w.heap.size,0,none⟩) a.length a.length) (a.map (·.2)):=by
 refine⟨_,a.length,a,by rw[List.length_map],by rw[List.length_map];exact Nat.le_refl _,hm,rfl,?_,h⟩;rw[List.length_map];exact⟨Zgd a,fun _=>⟨_,rfl,(Blk.start w _ ty).lt,fun j u b=>ZkG w _ ty j u (by simpa using b)⟩⟩
end
section
open Go.RowKit
structure ShoTabs (W:Yh):Prop where
 keys:ZaI W 3 ZG
 p:PTabs W
theorem PTabs.below {w w':Yh} (h:PTabs w) (a:Below w.heap.size w w'):PTabs w':=⟨h.kinds.below a,h.names.below a,h.signs.below a,fun c b=>h.ten c (a.trans (b.mono a.size))⟩
theorem ShoTabs.below {w w':Yh} (h:ShoTabs w) (a:Below w.heap.size w w'):ShoTabs w':=⟨h.keys.below a,h.p.below a⟩
theorem Tryz.gKinds:Tryz.prog.globalNamed "ballcock/show.kinds"=some 1:=by kernel_rfl
theorem Tryz.gKindsType:(Tryz.prog.globals[1]?).map (·.type)=some 90:=by kernel_rfl
theorem Tryz.gNamesW:Tryz.prog.globalNamed "ballcock/show.namesWords"=some 2:=by kernel_rfl
theorem Tryz.gNamesWType:(Tryz.prog.globals[2]?).map (·.type)=some 101:=by kernel_rfl
theorem Tryz.gShoSigns:Tryz.prog.globalNamed "ballcock/show.signs"=some 0:=by kernel_rfl
theorem Tryz.gShoSignsType:(Tryz.prog.globals[0]?).map (·.type)=some 82:=by kernel_rfl
theorem Tryz.gTen:Tryz.prog.globalNamed "internal/strconv.uint64pow10"=some 4:=by kernel_rfl
theorem Tryz.gTenType:(Tryz.prog.globals[4]?).map (·.type)=some 146:=by kernel_rfl
theorem ZqI {W:Yh} (h:laidMetH Tryz.prog [("math/bits.deBruijn32tab",Rows.laid_math_bits_deBruijn32tab),("math/bits.deBruijn64tab",Rows.laid_math_bits_deBruijn64tab),("internal/strconv.uint64pow10",Rows.laid_internal_strconv_uint64pow10),("ballcock/lex.keywords",Rows.laid_ballcock_lex_keywords),("ballcock/show.signs",Rows.laid_ballcock_show_signs),("ballcock/show.kinds",Rows.laid_ballcock_show_kinds),("ballcock/show.namesWords",Rows.laid_ballcock_show_namesWords)] W):ShoTabs W:=by
 rw[MakeChecks.laidMetH_plain _ _ _ (by kernel_rfl)]at h;have a:=laidMet.tail (laidMet.tail h);have b:=laidMet.tail a;have c:=laidMet.tail b;have d:=laidMet.tail c;have e:=laidMet.tail d
 exact⟨Ze1 (zs:=ZG) Tryz.gKeys Tryz.gKeysType Tryz.underlying130 Tryz.underlying9 Tryz.cellsS (by kernel_rfl) b,
  Ze1 (zs:=ZeU) Tryz.gKinds Tryz.gKindsType Tryz.underlying90 Tryz.underlying9 Tryz.cellsS (by kernel_rfl) d,
  Ze1 (zs:=Zck) (rest:=[]) Tryz.gNamesW Tryz.gNamesWType Tryz.underlying101 Tryz.underlying9 Tryz.cellsS (by kernel_rfl) e,
  Ze1 (zs:=Zfr) Tryz.gShoSigns Tryz.gShoSignsType Tryz.underlying82 Tryz.underlying9 Tryz.cellsS (by kernel_rfl) c,
  Lib.tabBelow_of_tabIs (Lib.tabIs_of_head (zs:=Lib.pow10Tab) Tryz.gTen Tryz.gTenType Tryz.underlying146 Tryz.underlying112 (by kernel_rfl) (by kernel_rfl) a)⟩
def ns8:List Nd:=[⟨0,[],[],[1],0⟩,⟨4,[[109,97,105,110]],[],[2],0⟩,⟨7,[],[],[3],0⟩,⟨19,[],[],[],0⟩]
def ZsC:Txt:=[102,110,32,109,97,105,110,40,41,32,123,10,32,32,101,120,105,116,59,10,125,10]
theorem ZqZ:ZbC ns8=ZsC:=by decide +kernel
theorem ZqH (w:Yh) (l:List Txt) (ty:TypeId) (h:l.length<=maxLen) (hs:∀s∈l,s.length<=maxLen):ZdV (w.alloc (.cells (l.map txt).toArray ty)) (.slice (some ⟨w.heap.size,0,none⟩) l.length l.length) l:=
 ⟨_,_,rfl,Nat.le_refl _,h,by simpa using ZhG w (l.map txt) ty,hs⟩
end
end Go.Proofs.YtfbepcelkijgkaaGreatDoor
