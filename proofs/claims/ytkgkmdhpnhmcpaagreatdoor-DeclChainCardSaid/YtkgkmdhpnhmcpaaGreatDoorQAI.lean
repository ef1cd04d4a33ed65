import Derived.Shelf.LaysM
import Derived.Shelf.Strconv.Clone
import Derived.Shelf.Bits.Mul64
import Derived.Shelf.Slices.Turned
import Derived.Ground.Names2Prog
import Derived.Shelf.Slices.Clone
import Derived.Ground.SlgnProg
import Derived.Shelf.SlicesE.Clone
import Derived.Test.YtkgkmdhpnhmcpaaGreatDoorProg
import Derived.Lib.LaidTab
import Derived.Laws.Rows
import Derived.Stop.LaidErr
import Derived.MakeChecks
import Derived.Lib.PathFns
import Derived.Lib.IndexBytes
import Derived.OneCell
import Derived.StillTailTactics
import Derived.BigRegion
import Derived.Deep.RegionHeld3
import Derived.Deep.Cut
import Derived.Test.YtkgkmdhpnhmcpaaGreatDoorQAA
import Derived.Test.YtkgkmdhpnhmcpaaGreatDoorQAG
import Derived.Test.YtkgkmdhpnhmcpaaGreatDoorQAH
set_option maxRecDepth 100000
set_option maxHeartbeats 8000000
namespace Go.Proofs.YtkgkmdhpnhmcpaaGreatDoor
section
open Go.RowKit
theorem Zl {w:World} {base n size:Nat} {e:TypeId} {v:Value} {xs:List Value} (h:w.ownsRow base e size v n xs):∃ A c,v=.slice A n c:=by
 rcases h.2 with ⟨rfl,rfl⟩ | ⟨g,cap,cur,rfl,_⟩
 ·exact ⟨_,_,rfl⟩
 ·exact ⟨_,_,rfl⟩
theorem Ze {w w1:World} {base n size:Nat} {e:TypeId} {v:Value} {xs:List Value} (h:w.ownsRow base e size v n xs) (hb:Below w.heap.size w w1):w1.ownsRow base e size v n xs:=
 h.kept (row:=none) ⟨hb.os,hb.tape,hb.output,hb.size,fun k hk _=>hb.block k hk⟩ (by
  cases q:v.ownBlock with
  | none=>exact .inl rfl
  | some k=>exact .inr (by simp))
theorem Zac {w:World} {base n size:Nat} {e:TypeId} {A:Option Addr} {c:Nat} {xs:List Value} (h:w.ownsRow base e size (.slice A n c) n xs):n<=c/\c<=maxLen/\Zr w w.heap.size size A n xs:=by
 rcases h.2 with ⟨q,rfl⟩ | ⟨g,cap,cur,q,hb,hg,hnc,hcm,hcs,ht⟩
 ·injection q with q1 q2 q3
  subst q1 q3
  exact ⟨Nat.le_refl _,by decide,⟨h.1,fun hn=>absurd hn (Nat.lt_irrefl _)⟩⟩
 ·injection q with q1 q2 q3
  subst q1 q3
  refine ⟨hnc,hcm,⟨h.1,fun _=>⟨⟨g,0,none⟩,rfl,(Array.getElem?_eq_some_iff.1 hg).1,fun j u hj=>?_⟩⟩⟩
  have hl:=(List.getElem?_eq_some_iff.1 hj).1
  rw [h.1] at hl
  have:=h.cellAt j hl
  rw [hj] at this
  rw [show (⟨g,0,none⟩:Addr).add j=⟨g,j,none⟩ by unfold Addr.add;by_cases e:j=0<;>simp [e]]
  exact this
theorem info_parts {P:Program} {t:TypeId} {z:Option Value} {s b:Nat} (h:(P.info? t).map (fun i=>(i.zero,i.size,i.bytes))=some (z,s,b)):∃ i,P.info? t=some i/\i.zero=z/\i.size=s/\i.bytes=b:=by
 cases q:P.info? t with
 | none=>rw [q] at h;cases h
 | some i=>
  rw [q] at h
  simp only [Option.map_some,Option.some.injEq,Prod.mk.injEq] at h
  exact ⟨i,rfl,h.1,h.2.1,h.2.2⟩
def Zd (w:World) (b:Nat) (ty:TypeId) (cs:Array Value):Prop:=w.heap[b]? = some (.cells cs ty (0,0))
theorem Zd.blk {w:World} {b:Nat} {ty:TypeId} {cs:Array Value} (h:Zd w b ty cs):Blk w b cs:=⟨ty,h⟩
theorem Zd.start (w:World) (cs:Array Value) (ty:TypeId):Zd (w.alloc (.cells cs ty)) w.heap.size ty cs:=heap_alloc_new _ _
theorem Zd.lt {w:World} {b:Nat} {ty:TypeId} {cs:Array Value} (h:Zd w b ty cs):b<w.heap.size:=h.blk.lt
theorem Zd.keep {w w':World} {b:Nat} {ty:TypeId} {cs:Array Value} (h:Zd w b ty cs) (hb:Below w.heap.size w w'):Zd w' b ty cs:=(hb.block b h.lt).trans h
theorem Zd.set {w:World} {b:Nat} {ty:TypeId} {cs:Array Value} (h:Zd w b ty cs) (i:Nat) (v:Value):Zd (w.setCell ⟨b,i,none⟩ v) b ty (cs.setIfInBounds i v):=by
 have hlt:=h.lt
 have h':w.heap[b]=.cells cs ty (0,0):=by
  unfold Zd at h
  simpa [Array.getElem?_eq_getElem hlt] using h
 show (w.heap.modify b _)[b]? = _
 rw [Array.getElem?_eq_getElem (by simpa using hlt),Array.getElem_modify_self,h']
 rfl
theorem Zd.off {w:World} {b base n size:Nat} {ty e:TypeId} {cs:Array Value} {v:Value} {xs:List Value} (h:Zd w b ty cs) (ho:w.ownsRow base e size v n xs) (hne:ty≠e):v.ownBlock≠some b:=by
 rcases ho.2 with ⟨rfl,_⟩ | ⟨g,cap,cur,rfl,_,hg,_⟩
 ·intro q;cases q
 ·intro q
  injection q with q
  dsimp only at q
  subst q
  unfold Zd at h
  rw [hg] at h
  injection h with h
  injection h with _ h _
  exact hne h.symm
theorem Zaa {w:World} {base base' n n' size size':Nat} {e e':TypeId} {v v':Value} {xs xs':List Value} (h:w.ownsRow base e size v n xs) (h':w.ownsRow base' e' size' v' n' xs') (hne:e≠e'):∀ b,v.ownBlock=some b->v'.ownBlock≠some b:=by
 intro b hb
 rcases h.2 with ⟨rfl,_⟩ | ⟨g,cap,cur,rfl,_,hg,_⟩
 ·cases hb
 ·injection hb with hb
  dsimp only at hb
  subst hb
  exact Zd.off (ty:=e) (cs:=cur) hg h' hne
theorem Zd.other {w:World} {b:Nat} {ty:TypeId} {cs:Array Value} (h:Zd w b ty cs) {p:Addr} (hp:p.block≠b) (v:Value):Zd (w.setCell p v) b ty cs:=(heap_setCell_other w p b v (fun e=>hp e.symm)).trans h
theorem Zg {w:World} {base n size g j:Nat} {e:TypeId} {v u:Value} {xs:List Value} (h:w.ownsRow base e size v n xs) (hg:v.ownBlock≠some g):(w.setCell ⟨g,j,none⟩ u).ownsRow base e size v n xs:=
 h.kept (row:=some g) ZcF (.inr hg)
theorem Zd.grown {w w':World} {b:Nat} {ty:TypeId} {cs:Array Value} {row:Option Nat} (h:Zd w b ty cs) (hg:w.grownBy w' row) (hne:row≠some b):Zd w' b ty cs:=(hg.block b h.lt (fun e=>hne e.symm)).trans h
end
end Go.Proofs.YtkgkmdhpnhmcpaaGreatDoor
namespace Go.Proofs
open Go.Shelf
def Tryz.laysM316_ren:Go.Shelf.Ren:=⟨fun | 316=>74 | n=>n,fun | 9=>9 | 3=>3 | 4=>4 | 37=>29 | 0=>0 | 127=>140 | 5=>5 | n=>n,fun | n=>n⟩
theorem Tryz.laysM316:Go.Proofs.LaysM.n316 Tryz.prog Tryz.laysM316_ren:={
 mixed:=by kernel_rfl
 f316:=Tryz.func74.trans (congrArg some (by kernel_rfl))
 t0:=Tryz.underlying0
 a0:=Tryz.isAgg0
 z0:=Tryz.sizeOf0
 v0:=Tryz.zeroValue0
 t3:=Tryz.underlying3
 a3:=Tryz.isAgg3
 z3:=Tryz.sizeOf3
 v3:=Tryz.zeroValue3
 t4:=Tryz.underlying4
 a4:=Tryz.isAgg4
 z4:=Tryz.sizeOf4
 v4:=Tryz.zeroValue4
 t9:=Tryz.underlying9
 a9:=Tryz.isAgg9
 z9:=Tryz.sizeOf9
 v9:=Tryz.zeroValue9
 t37:=Tryz.underlying29
 a37:=Tryz.isAgg29
 z37:=Tryz.sizeOf29
 v37:=Tryz.zeroValue29
 t127:=Tryz.underlying140
 a127:=Tryz.isAgg140
 z127:=Tryz.sizeOf140
 v127:=Tryz.zeroValue140
 t5:=Tryz.underlying5
 a5:=Tryz.isAgg5
 z5:=Tryz.sizeOf5
 v5:=Tryz.zeroValue5
 i0:=by kernel_rfl
 i3:=by kernel_rfl
 i4:=by kernel_rfl
 i5:=by kernel_rfl
 i9:=by kernel_rfl
 i37:=by kernel_rfl
 i127:=by kernel_rfl }
open Go.RowKit in
theorem Tryz.stringslite_Clone (s:ByteArray) (w:World) (hlim:s.size<=281474976710656) :
  Calls Tryz.prog 74 #[.string s] w fun e w'=>e=.returned (.string s)/\Below w.heap.size w w':=Any.stringslite_Clone Tryz.laysM316 s w hlim
def Tryz.lays212_ren:Go.Shelf.Ren:=⟨fun | 212=>92 | 263=>123 | 264=>124 | n=>n,fun | 46=>134 | 51=>41 | 146=>151 | 53=>153 | 148=>154 | n=>n,fun | n=>n⟩
theorem Tryz.lays212:Go.Proofs.Lays.n212 Tryz.prog Tryz.lays212_ren:={
 mixed:=by kernel_rfl
 f212:=Tryz.func92.trans (congrArg some (by kernel_rfl))
 f263:=Tryz.func123.trans (congrArg some (by kernel_rfl))
 f264:=Tryz.func124.trans (congrArg some (by kernel_rfl))
 t46:=Tryz.underlying134
 a46:=Tryz.isAgg134
 z46:=Tryz.sizeOf134
 v46:=Tryz.zeroValue134
 t51:=Tryz.underlying41
 a51:=Tryz.isAgg41
 z51:=Tryz.sizeOf41
 v51:=Tryz.zeroValue41
 t53:=Tryz.underlying153
 a53:=Tryz.isAgg153
 z53:=Tryz.sizeOf153
 v53:=Tryz.zeroValue153
 t146:=Tryz.underlying151
 a146:=Tryz.isAgg151
 z146:=Tryz.sizeOf151
 v146:=Tryz.zeroValue151
 t148:=Tryz.underlying154
 a148:=Tryz.isAgg154
 z148:=Tryz.sizeOf154
 v148:=Tryz.zeroValue154 }
open Go.RowKit Go.Lib in
theorem Tryz.bits_Mul (x y:Nat) (hx:x<18446744073709551616) (hy:y<18446744073709551616) (w:World) :
  Calls Tryz.prog 92 #[.int .u64 x,.int .u64 y] w fun e w'=>e=.returned (.tuple #[.int .u64 ((x*y / 18446744073709551616:Nat):Int),.int .u64 ((x*y % 18446744073709551616:Nat):Int)])/\w'=w:=Any.bits_Mul Tryz.lays212 x y hx hy w
def Tryz.laysNm216_ren:Go.Shelf.Ren:=⟨fun | 16=>36 | n=>n,fun | 24=>24 | 9=>9 | 4=>4 | n=>n,fun | n=>n⟩
theorem Tryz.laysNm216:Go.Proofs.Lays2.n16 Tryz.prog Tryz.laysNm216_ren:={
 mixed:=by kernel_rfl
 f16:=Tryz.func36.trans (congrArg some (by kernel_rfl))
 t4:=Tryz.underlying4
 a4:=Tryz.isAgg4
 z4:=Tryz.sizeOf4
 v4:=Tryz.zeroValue4
 t9:=Tryz.underlying9
 a9:=Tryz.isAgg9
 z9:=Tryz.sizeOf9
 v9:=Tryz.zeroValue9
 t24:=Tryz.underlying24
 a24:=Tryz.isAgg24
 z24:=Tryz.sizeOf24
 v24:=Tryz.zeroValue24
 i9:=by kernel_rfl }
open Go.RowKit Go.Lib in
theorem Tryz.slices_Clone_string (b off n c:Nat) (zs:List ByteArray) (w:World) (hz:n<=zs.length) (hbig:n*16<=140737488355328) (hc:∀ j,j<zs.length->w.cell? ⟨b,off+j,none⟩=some (.string (zs.getD j ByteArray.empty))) :
  Calls Tryz.prog 36 #[.slice (some ⟨b,off,none⟩) n c] w fun e w'=>∃ v',e=.returned v'/\w'.ownsRow w.heap.size 9 1 v' n ((zs.take n).map (Value.string))/\v'≠.slice none 0 0/\Below w.heap.size w w':=Any.slices_Clone_string Tryz.laysNm216 b off n c zs w hz hbig hc
end Go.Proofs
namespace Go.Proofs.YtkgkmdhpnhmcpaaGreatDoor
section
open Go.RowKit
theorem Zbg (s:List UInt8) (w:World) (h:s.length<=281474976710656):Calls Tryz.prog 43 #[txt s] w fun e w'=>e=.returned (txt s)/\Below w.heap.size w w':=by
 have cl:=zh (fun w=>Tryz.stringslite_Clone (⟨s.toArray⟩:ByteArray) w (by show s.toArray.size<=_;rw [List.size_toArray];exact h))
 clear h
 go_enter Tryz.func43,Tryz.ntmps43
 go_wp2_with (go_at_call 74;(with_reducible refine (cl.out _).mono ?_);rintro e w1 ⟨rfl,hb⟩)
 go_ret
 exact ⟨rfl,hb⟩
theorem ZF {w:World} {b b' n size:Nat} {e:TypeId} {v:Value} {xs:List Value} (h:w.ownsRow b e size v n xs) (hb:b'<=b):w.ownsRow b' e size v n xs:=by
 refine ⟨h.1,?_⟩
 rcases h.2 with q | ⟨g,cap,cur,h1,h2,h3⟩
 ·exact .inl q
 ·exact .inr ⟨g,cap,cur,h1,Nat.le_trans hb h2,h3⟩
theorem Zck {w:World} {base n size g j:Nat} {e:TypeId} {v u:Value} {xs:List Value} (h:w.ownsRow base e size v n xs) (hg:g<base):(w.setCell ⟨g,j,none⟩ u).ownsRow base e size v n xs:=
 h.kept (row:=some g) ZcF (by
  cases q:v.ownBlock with
  | none=>exact .inl rfl
  | some k=>exact .inr (by intro e;injection e with e;have:=(h.lt k q).1;omega))
theorem ZeV (w:World) (ad:Addr) (n c:Nat):(binOp .eql 48 (.slice (some ad) n c) (.slice none 0 0)).run Tryz.prog w=.ok (.bool false) w:=by kernel_rfl
theorem Zec (w:World) (n c:Nat):(binOp .eql 48 (.slice none n c) (.slice none 0 0)).run Tryz.prog w=.ok (.bool true) w:=by kernel_rfl
theorem Zfk (w:World):(w.alloc (.cells #[] 82)).ownsRow w.heap.size 82 2 (.slice (some ⟨w.heap.size,0,none⟩) 0 0) 0 []:=
 World.ownsRow_made w #[] 0 (Nat.le_refl _) (Nat.zero_le _) rfl
theorem Zdm:(Tryz.prog.info? 82).map (fun i=>(i.zero,i.size,i.bytes))=some (some (.agg #[.string ⟨#[]⟩,.bool false]),2,24):=by kernel_rfl
theorem Zfb (w:World) (A:Option Addr) (n c:Nat) (us:List Value) (h5:Zr w w.heap.size 2 A n us) (one:∀ u∈us,u.oneCell'=true) (hm:n<=maxLen) (hbz:n*24<=140737488355328) :
  Calls Tryz.prog 66 #[.slice A n c] w fun e w'=>∃ A' c',e=.returned (.slice A' n c')/\w'.ownsRow w.heap.size 82 2 (.slice A' n c') n us/\Below w.heap.size w w':=by
 obtain ⟨i0,hi,hz0,hz1,hz2⟩:=info_parts Zdm
 rcases A with _ | ad
 ·have hn:n=0:=by
   rcases Nat.eq_zero_or_pos n with h0 | h0
   ·exact h0
   ·obtain ⟨_,e,_⟩:=h5.2 h0
    cases e
  subst hn
  have hu:us=[]:=List.eq_nil_of_length_eq_zero (by have:=h5.1;omega)
  subst hu
  have hq:=Zec w 0 c
  clear h5 one hm hbz
  go_enter Tryz.func66,Tryz.ntmps66
  go_wp2_with fail
  go_ret
  exact ⟨_,_,rfl,World.ownsRow_nil _ _ _ _,Below.refl _ _⟩
 ·have hq:=ZeV w ad n c
  have ON:=zh (zi one (zi hm hbz))
  clear one hm hbz
  go_enter Tryz.func66,Tryz.ntmps66
  go_wp2_with (at_builtin;refine ZV _ rfl _ _ 48 rfl w.heap.size 82 i0 (.agg #[.string ⟨#[]⟩,.bool false]) 2 24 Tryz.underlying48 hi hz0 hz1 hz2 rfl (by decide) _ 0 [] rfl (Zfk w) w.heap.size (some ad) _ c _ rfl (h5.alloc (Nat.le_refl _) _) ?c2 ?c3 ?c4 ?c5 ?_)
  case c2=>exact ON.out.1
  case c3=>have:=ON.out.2.1;omega
  case c4=>have:=ON.out.2.2;omega
  case c5=>simp
  intro v' w1 hown' hgrow _
  have hown2:w1.ownsRow w.heap.size 82 2 v' n us:=by simpa using hown'
  have hb:Below w.heap.size w w1:=by
   refine (below_alloc1 w _).grown hgrow (by simp) (fun k hk=>?_)
   have e:w.heap.size=k:=by simpa [Value.ownBlock] using hk
   omega
  obtain ⟨A',c',rfl⟩:=Zl hown2
  have FIN:=zh (zi hown2 hb)
  clear hown' hown2 hgrow hb h5 hq
  go_wp2_with fail
  go_ret
  exact ⟨_,_,rfl,FIN.out⟩
theorem Zfr (w:World) (ad:Addr) (n c:Nat):(binOp .eql 49 (.slice (some ad) n c) (.slice none 0 0)).run Tryz.prog w=.ok (.bool false) w:=by kernel_rfl
theorem ZeW (w:World) (n c:Nat):(binOp .eql 49 (.slice none n c) (.slice none 0 0)).run Tryz.prog w=.ok (.bool true) w:=by kernel_rfl
theorem Zf9 (w:World):(w.alloc (.cells #[] 85)).ownsRow w.heap.size 85 3 (.slice (some ⟨w.heap.size,0,none⟩) 0 0) 0 []:=
 World.ownsRow_made w #[] 0 (Nat.le_refl _) (Nat.zero_le _) rfl
theorem ZcG:(Tryz.prog.info? 85).map (fun i=>(i.zero,i.size,i.bytes))=some (some (.agg #[.string ⟨#[]⟩,.int .i64 0,.slice none 0 0]),3,48):=by kernel_rfl
theorem ZfC (w:World) (A:Option Addr) (n c:Nat) (us:List Value) (h5:Zr w w.heap.size 3 A n us) (one:∀ u∈us,u.oneCell'=true) (hm:n<=maxLen) (hbz:n*48<=140737488355328) :
  Calls Tryz.prog 67 #[.slice A n c] w fun e w'=>∃ A' c',e=.returned (.slice A' n c')/\w'.ownsRow w.heap.size 85 3 (.slice A' n c') n us/\Below w.heap.size w w':=by
 obtain ⟨i0,hi,hz0,hz1,hz2⟩:=info_parts ZcG
 rcases A with _ | ad
 ·have hn:n=0:=by
   rcases Nat.eq_zero_or_pos n with h0 | h0
   ·exact h0
   ·obtain ⟨_,e,_⟩:=h5.2 h0
    cases e
  subst hn
  have hu:us=[]:=List.eq_nil_of_length_eq_zero (by have:=h5.1;omega)
  subst hu
  have hq:=ZeW w 0 c
  clear h5 one hm hbz
  go_enter Tryz.func67,Tryz.ntmps67
  go_wp2_with fail
  go_ret
  exact ⟨_,_,rfl,World.ownsRow_nil _ _ _ _,Below.refl _ _⟩
 ·have hq:=Zfr w ad n c
  have ON:=zh (zi one (zi hm hbz))
  clear one hm hbz
  go_enter Tryz.func67,Tryz.ntmps67
  go_wp2_with (at_builtin;refine ZV _ rfl _ _ 49 rfl w.heap.size 85 i0 (.agg #[.string ⟨#[]⟩,.int .i64 0,.slice none 0 0]) 3 48 Tryz.underlying49 hi hz0 hz1 hz2 rfl (by decide) _ 0 [] rfl (Zf9 w) w.heap.size (some ad) _ c _ rfl (h5.alloc (Nat.le_refl _) _) ?c2 ?c3 ?c4 ?c5 ?_)
  case c2=>exact ON.out.1
  case c3=>have:=ON.out.2.1;omega
  case c4=>have:=ON.out.2.2;omega
  case c5=>simp
  intro v' w1 hown' hgrow _
  have hown2:w1.ownsRow w.heap.size 85 3 v' n us:=by simpa using hown'
  have hb:Below w.heap.size w w1:=by
   refine (below_alloc1 w _).grown hgrow (by simp) (fun k hk=>?_)
   have e:w.heap.size=k:=by simpa [Value.ownBlock] using hk
   omega
  obtain ⟨A',c',rfl⟩:=Zl hown2
  have FIN:=zh (zi hown2 hb)
  clear hown' hown2 hgrow hb h5 hq
  go_wp2_with fail
  go_ret
  exact ⟨_,_,rfl,FIN.out⟩
theorem Zgs (w:World) (ad:Addr) (n c:Nat):(binOp .eql 83 (.slice (some ad) n c) (.slice none 0 0)).run Tryz.prog w=.ok (.bool false) w:=by kernel_rfl
theorem Zfs (w:World) (n c:Nat):(binOp .eql 83 (.slice none n c) (.slice none 0 0)).run Tryz.prog w=.ok (.bool true) w:=by kernel_rfl
theorem ZgU (w:World):(w.alloc (.cells #[] 110)).ownsRow w.heap.size 110 2 (.slice (some ⟨w.heap.size,0,none⟩) 0 0) 0 []:=
 World.ownsRow_made w #[] 0 (Nat.le_refl _) (Nat.zero_le _) rfl
theorem ZeD:(Tryz.prog.info? 110).map (fun i=>(i.zero,i.size,i.bytes))=some (some (.agg #[.string ⟨#[]⟩,.int .i64 0]),2,24):=by kernel_rfl
theorem ZgE (w:World) (A:Option Addr) (n c:Nat) (us:List Value) (h5:Zr w w.heap.size 2 A n us) (one:∀ u∈us,u.oneCell'=true) (hm:n<=maxLen) (hbz:n*24<=140737488355328) :
  Calls Tryz.prog 91 #[.slice A n c] w fun e w'=>∃ A' c',e=.returned (.slice A' n c')/\w'.ownsRow w.heap.size 110 2 (.slice A' n c') n us/\Below w.heap.size w w':=by
 obtain ⟨i0,hi,hz0,hz1,hz2⟩:=info_parts ZeD
 rcases A with _ | ad
 ·have hn:n=0:=by
   rcases Nat.eq_zero_or_pos n with h0 | h0
   ·exact h0
   ·obtain ⟨_,e,_⟩:=h5.2 h0
    cases e
  subst hn
  have hu:us=[]:=List.eq_nil_of_length_eq_zero (by have:=h5.1;omega)
  subst hu
  have hq:=Zfs w 0 c
  clear h5 one hm hbz
  go_enter Tryz.func91,Tryz.ntmps91
  go_wp2_with fail
  go_ret
  exact ⟨_,_,rfl,World.ownsRow_nil _ _ _ _,Below.refl _ _⟩
 ·have hq:=Zgs w ad n c
  have ON:=zh (zi one (zi hm hbz))
  clear one hm hbz
  go_enter Tryz.func91,Tryz.ntmps91
  go_wp2_with (at_builtin;refine ZV _ rfl _ _ 83 rfl w.heap.size 110 i0 (.agg #[.string ⟨#[]⟩,.int .i64 0]) 2 24 Tryz.underlying83 hi hz0 hz1 hz2 rfl (by decide) _ 0 [] rfl (ZgU w) w.heap.size (some ad) _ c _ rfl (h5.alloc (Nat.le_refl _) _) ?c2 ?c3 ?c4 ?c5 ?_)
  case c2=>exact ON.out.1
  case c3=>have:=ON.out.2.1;omega
  case c4=>have:=ON.out.2.2;omega
  case c5=>simp
  intro v' w1 hown' hgrow _
  have hown2:w1.ownsRow w.heap.size 110 2 v' n us:=by simpa using hown'
  have hb:Below w.heap.size w w1:=by
   refine (below_alloc1 w _).grown hgrow (by simp) (fun k hk=>?_)
   have e:w.heap.size=k:=by simpa [Value.ownBlock] using hk
   omega
  obtain ⟨A',c',rfl⟩:=Zl hown2
  have FIN:=zh (zi hown2 hb)
  clear hown' hown2 hgrow hb h5 hq
  go_wp2_with fail
  go_ret
  exact ⟨_,_,rfl,FIN.out⟩
end
section
open Go.RowKit
def ZdP {H:Type} (l:List (List UInt8)):DataW H:=.agg (l.map fun z=>.lit (.string z))
def ZZ (w:World) (g:Nat) (l:List (List UInt8)):Prop:=∃ t fr,w.heap[g]? = some (.cells (l.map txt).toArray t fr)
theorem ZZ.below {w w':World} {g:Nat} {l:List (List UInt8)} (h:ZZ w g l) (hb:Below w.heap.size w w'):ZZ w' g l:=by
 obtain ⟨t,fr,e⟩:=h
 have hg:g<w.heap.size:=by
  rcases Nat.lt_or_ge g w.heap.size with q | q
  ·exact q
  ·rw [Array.getElem?_eq_none q] at e;cases e
 exact ⟨t,fr,(hb.block g hg).trans e⟩
theorem Zd7 {H:Type} {enc:TypeId×Value->H} {P:Program} {w:World} {base:Nat} {sp:Nat->Bool} {held:Bool} {fuel:Nat} {t e:TypeId} {n:Nat} {cs:List Value} {zs:List (List UInt8)} {p:List MemPlace}
  (ht:P.underlying t=some (.array n e)) (he:P.underlying e=some .string) (hce:P.cellsOf e=1) (hct:P.cellsOf t=n)
  (h:DataW.trod enc P w base sp held fuel t cs=some (ZdP zs,p)):cs=zs.map txt:=by
 cases fuel with
 | zero=>simp [DataW.trod] at h
 | succ fuel=>
  simp only [DataW.trod,ht,hce,hct,Nat.mul_one] at h
  split at h
  ·rename_i hl
   obtain ⟨xs,hm,hx⟩:=Option.map_eq_some_iff.1 h
   have hxs:xs.map (·.1)=zs.map fun z=>(DataW.lit (.string z):DataW H):=by
    have:=congrArg Prod.fst hx
    simpa [ZdP] using this
   have hxl:xs.length=n:=by simpa using Lib.mapM_length hm
   have hzl:zs.length=n:=by
    have:=congrArg List.length hxs
    simp at this
    omega
   apply List.ext_getElem?
   intro i
   by_cases hi:i<n
   ·obtain ⟨b,hb,hf⟩:=Lib.mapM_at hm i i (by simp [hi])
    obtain ⟨z,hc,rfl,_⟩:=DataW.trod_string he hf
    have h1:cs[i]? = some (.string z):=by
     have:=congrArg (·[0]?) hc
     simpa [List.getElem?_take,List.getElem?_drop] using this
    have h2:(xs.map (·.1))[i]? = some (DataW.lit (.string z.data.toList):DataW H):=by simp [hb]
    rw [hxs] at h2
    simp only [List.getElem?_map,Option.map_eq_some_iff,DataW.lit.injEq,Lit.string.injEq] at h2
    obtain ⟨z',hz',rfl⟩:=h2
    simp [h1,hz',txt]
   ·rw [List.getElem?_eq_none (by omega),List.getElem?_eq_none (by simp;omega)]
  ·cases h
theorem Ze9 {P:Program} {W:World} {name:String} {zs:List (List UInt8)} {rest:List (String×DataW Unit)} {g:Nat} {t e:TypeId} {n:Nat}
  (hg:P.globalNamed name=some g) (hty:(P.globals[g]?).map (·.type)=some t) (ht:P.underlying t=some (.array n e)) (he:P.underlying e=some .string) (hce:P.cellsOf e=1) (hct:P.cellsOf t=n)
  (h:laidMet P ((name,ZdP zs)::rest) W):ZZ W g zs:=by
 obtain ⟨ps,⟨g',t',cs,fuel,p,q,hg',ht',hvar,hd,_,_⟩,_⟩:=h
 obtain rfl:=Option.some.inj (hg.symm.trans hg')
 obtain rfl:=Option.some.inj (hty.symm.trans ht')
 have hc:=Zd7 ht he hce hct hd
 simp only [World.var?,hg,Option.bind_some] at hvar
 split at hvar
 ·rename_i c ty fr hh
  have hvar:=Option.some.inj hvar
  subst hvar
  exact ⟨ty,fr,by rw [hh,<- hc]⟩
 ·cases hvar
def Zh:List (List UInt8):=[[112,114,111,116,111],[115,116,97,116,101],[102,105,110,97,108],[111,112],[102,110],[108,101,97,115,116],[97,116],[116,111],[105,110],[108,101,116],[111,112,101,110],[101,108,115,101],[100,111],[115,112,108,105,116],[99,97,108,108],[105,102],[119,104,105,108,101],[114,101,116,117,114,110],[101,120,105,116],[117,110,105,113,117,101],[102,117,108,108],[115,104,97,114,101],[105,109,109],[112,117,114,101]]
theorem Tryz.gKeys:Tryz.prog.globalNamed "ballcock/lex.keywords"=some 0:=by kernel_rfl
theorem Tryz.gKeysType:(Tryz.prog.globals[0]?).map (·.type)=some 162:=by kernel_rfl
theorem Tryz.cellsS:Tryz.prog.cellsOf 9=1:=by kernel_rfl
end
section
open Go.RowKit
theorem Zhf {s:ByteArray} {c:UInt8} {r:List UInt8} (h:s.data.toList=c::r):s.toList.isEmpty=false:=by
 rw [Lib.toList_data,h]
 rfl
theorem ZiD {s:ByteArray} {c:UInt8} {r:List UInt8} (h:s.data.toList=c::r) (h0:0<s.size):s[0]=c:=by
 have:=byte_at h0
 rw [h] at this
 simpa using this.symm
end
section
open Go.RowKit
theorem ZZ.grown {w w':World} {g:Nat} {l:List (List UInt8)} {row:Option Nat} (h:ZZ w g l) (hg:w.grownBy w' row) (hne:row≠some g):ZZ w' g l:=by
 obtain ⟨t,fr,e⟩:=h
 exact ⟨t,fr,(hg.block g (lt_of_block e) (fun q=>hne q.symm)).trans e⟩
theorem Zf6 {w w':World} {row:Option Nat} (h:w.grownBy w' row):w.grownBy w'.drew row:=⟨h.os,h.tape,h.output,h.size,h.block⟩
end
end Go.Proofs.YtkgkmdhpnhmcpaaGreatDoor
