import Derived.Shelf.LaysM
import Derived.Shelf.Strconv.Clone
import Derived.Shelf.Bits.Mul64
import Derived.Shelf.Slices.Turned
import Derived.Ground.Names2Prog
import Derived.Shelf.Slices.Clone
import Derived.Test.YtaacbenikcbibabGreatDoorProg
import Derived.Test.YtaacbenikcbibabGreatDoorQAA
import Derived.Test.YtaacbenikcbibabGreatDoorQAI
set_option maxRecDepth 100000
set_option maxHeartbeats 8000000
namespace Go.Proofs.YtaacbenikcbibabGreatDoor
end Go.Proofs.YtaacbenikcbibabGreatDoor
namespace Go.Proofs
open Go.Shelf
def Tryz.laysM316_ren:Go.Shelf.Ren:=⟨fun | 316=>42 | n=>n,fun | 9=>9 | 3=>3 | 4=>4 | 37=>113 | 0=>0 | 127=>114 | 5=>5 | n=>n,fun | n=>n⟩
theorem Tryz.laysM316:Go.Proofs.LaysM.n316 Tryz.prog Tryz.laysM316_ren:={
 mixed:=by kernel_rfl
 f316:=Tryz.func42.trans (congrArg some (by kernel_rfl))
 t0:=Tryz.underlying0
 a0:=Tryz.isAgg0
 z0:=Tryz.sizeOf0
 v0:=Tryz.zeroValue0
 t3:=Tryz.underlying3
 a3:=Tryz.isAgg3
 z3:=Tryz.sizeOf3
 v3:=Tryz.zeroValue3
 t4:=Tryz.underlying4
 a4:=Tryz.isAgg4
 z4:=Tryz.sizeOf4
 v4:=Tryz.zeroValue4
 t9:=Tryz.underlying9
 a9:=Tryz.isAgg9
 z9:=Tryz.sizeOf9
 v9:=Tryz.zeroValue9
 t37:=Tryz.underlying113
 a37:=Tryz.isAgg113
 z37:=Tryz.sizeOf113
 v37:=Tryz.zeroValue113
 t127:=Tryz.underlying114
 a127:=Tryz.isAgg114
 z127:=Tryz.sizeOf114
 v127:=Tryz.zeroValue114
 t5:=Tryz.underlying5
 a5:=Tryz.isAgg5
 z5:=Tryz.sizeOf5
 v5:=Tryz.zeroValue5
 i0:=by kernel_rfl
 i3:=by kernel_rfl
 i4:=by kernel_rfl
 i5:=by kernel_rfl
 i9:=by kernel_rfl
 i37:=by kernel_rfl
 i127:=by kernel_rfl }
open Go.RowKit in
theorem Tryz.stringslite_Clone (s:ByteArray) (w:World) (hlim:s.size<=281474976710656) :
  Calls Tryz.prog 42 #[.string s] w fun e w'=>e=.returned (.string s)/\Below w.heap.size w w':=Any.stringslite_Clone Tryz.laysM316 s w hlim
def Tryz.lays212_ren:Go.Shelf.Ren:=⟨fun | 212=>53 | 263=>81 | 264=>82 | n=>n,fun | 46=>105 | 51=>123 | 146=>126 | 53=>128 | 148=>129 | n=>n,fun | n=>n⟩
theorem Tryz.lays212:Go.Proofs.Lays.n212 Tryz.prog Tryz.lays212_ren:={
 mixed:=by kernel_rfl
 f212:=Tryz.func53.trans (congrArg some (by kernel_rfl))
 f263:=Tryz.func81.trans (congrArg some (by kernel_rfl))
 f264:=Tryz.func82.trans (congrArg some (by kernel_rfl))
 t46:=Tryz.underlying105
 a46:=Tryz.isAgg105
 z46:=Tryz.sizeOf105
 v46:=Tryz.zeroValue105
 t51:=Tryz.underlying123
 a51:=Tryz.isAgg123
 z51:=Tryz.sizeOf123
 v51:=Tryz.zeroValue123
 t53:=Tryz.underlying128
 a53:=Tryz.isAgg128
 z53:=Tryz.sizeOf128
 v53:=Tryz.zeroValue128
 t146:=Tryz.underlying126
 a146:=Tryz.isAgg126
 z146:=Tryz.sizeOf126
 v146:=Tryz.zeroValue126
 t148:=Tryz.underlying129
 a148:=Tryz.isAgg129
 z148:=Tryz.sizeOf129
 v148:=Tryz.zeroValue129 }
open Go.RowKit Go.Lib in
theorem Tryz.bits_Mul (x y:Nat) (hx:x<18446744073709551616) (hy:y<18446744073709551616) (w:World) :
  Calls Tryz.prog 53 #[.int .u64 x,.int .u64 y] w fun e w'=>e=.returned (.tuple #[.int .u64 ((x*y / 18446744073709551616:Nat):Int),.int .u64 ((x*y % 18446744073709551616:Nat):Int)])/\w'=w:=Any.bits_Mul Tryz.lays212 x y hx hy w
def Tryz.laysNm216_ren:Go.Shelf.Ren:=⟨fun | 16=>18 | n=>n,fun | 24=>23 | 9=>9 | 4=>4 | n=>n,fun | n=>n⟩
theorem Tryz.laysNm216:Go.Proofs.Lays2.n16 Tryz.prog Tryz.laysNm216_ren:={
 mixed:=by kernel_rfl
 f16:=Tryz.func18.trans (congrArg some (by kernel_rfl))
 t4:=Tryz.underlying4
 a4:=Tryz.isAgg4
 z4:=Tryz.sizeOf4
 v4:=Tryz.zeroValue4
 t9:=Tryz.underlying9
 a9:=Tryz.isAgg9
 z9:=Tryz.sizeOf9
 v9:=Tryz.zeroValue9
 t24:=Tryz.underlying23
 a24:=Tryz.isAgg23
 z24:=Tryz.sizeOf23
 v24:=Tryz.zeroValue23
 i9:=by kernel_rfl }
open Go.RowKit Go.Lib in
theorem Tryz.slices_Clone_string (b off n c:Nat) (zs:List ByteArray) (w:World) (hz:n<=zs.length) (hbig:n*16<=140737488355328) (hc:∀ j,j<zs.length->w.cell? ⟨b,off+j,none⟩=some (.string (zs.getD j ByteArray.empty))) :
  Calls Tryz.prog 18 #[.slice (some ⟨b,off,none⟩) n c] w fun e w'=>∃ v',e=.returned v'/\w'.ownsRow w.heap.size 9 1 v' n ((zs.take n).map (Value.string))/\v'≠.slice none 0 0/\Below w.heap.size w w':=Any.slices_Clone_string Tryz.laysNm216 b off n c zs w hz hbig hc
end Go.Proofs
namespace Go.Proofs.YtaacbenikcbibabGreatDoor
section
open Go.RowKit
theorem Zbh (s:List UInt8) (w:World) (h:s.length<=281474976710656):Calls Tryz.prog 25 #[txt s] w fun e w'=>e=.returned (txt s)/\Below w.heap.size w w':=by
 have cl:=Lib.hid (fun w=>Tryz.stringslite_Clone (⟨s.toArray⟩:ByteArray) w (by show s.toArray.size<=_;rw [List.size_toArray];exact h))
 clear h
 go_enter Tryz.func25,Tryz.ntmps25
 go_wp2_with (go_at_call 42;(with_reducible refine (cl.out _).mono ?_);rintro e w1 ⟨rfl,hb⟩)
 go_ret
 exact ⟨rfl,hb⟩
theorem ZI {w:World} {b b' n size:Nat} {e:TypeId} {v:Value} {xs:List Value} (h:w.ownsRow b e size v n xs) (hb:b'<=b):w.ownsRow b' e size v n xs:=by
 refine ⟨h.1,?_⟩
 rcases h.2 with q | ⟨g,cap,cur,h1,h2,h3⟩
 ·exact .inl q
 ·exact .inr ⟨g,cap,cur,h1,Nat.le_trans hb h2,h3⟩
theorem Zcg {w:World} {base n size g j:Nat} {e:TypeId} {v u:Value} {xs:List Value} (h:w.ownsRow base e size v n xs) (hg:g<base):(w.setCell ⟨g,j,none⟩ u).ownsRow base e size v n xs:=
 h.kept (row:=some g) Zbq (by
  cases q:v.ownBlock with
  | none=>exact .inl rfl
  | some k=>exact .inr (by intro e;injection e with e;have:=(h.lt k q).1;omega))
theorem ZeN (w:World) (ad:Addr) (n c:Nat):(binOp .eql 38 (.slice (some ad) n c) (.slice none 0 0)).run Tryz.prog w=.ok (.bool false) w:=by kernel_rfl
theorem Zd6 (w:World) (n c:Nat):(binOp .eql 38 (.slice none n c) (.slice none 0 0)).run Tryz.prog w=.ok (.bool true) w:=by kernel_rfl
theorem Zfd (w:World):(w.alloc (.cells #[] 74)).ownsRow w.heap.size 74 2 (.slice (some ⟨w.heap.size,0,none⟩) 0 0) 0 []:=
 World.ownsRow_made w #[] 0 (Nat.le_refl _) (Nat.zero_le _) rfl
theorem Zdg:(Tryz.prog.info? 74).map (fun i=>(i.zero,i.size,i.bytes))=some (some (.agg #[.string ⟨#[]⟩,.bool false]),2,24):=by kernel_rfl
theorem Ze3 (w:World) (A:Option Addr) (n c:Nat) (us:List Value) (h5:Zs w w.heap.size 2 A n us) (one:∀ u∈us,u.oneCell'=true) (hm:n<=maxLen) (hbz:n*24<=140737488355328) :
  Calls Tryz.prog 34 #[.slice A n c] w fun e w'=>∃ A' c',e=.returned (.slice A' n c')/\w'.ownsRow w.heap.size 74 2 (.slice A' n c') n us/\Below w.heap.size w w':=by
 obtain ⟨i0,hi,hz0,hz1,hz2⟩:=ZG Zdg
 rcases A with _ | ad
 ·have hn:n=0:=by
   rcases Nat.eq_zero_or_pos n with h0 | h0
   ·exact h0
   ·obtain ⟨_,e,_⟩:=h5.2 h0
    cases e
  subst hn
  have hu:us=[]:=List.eq_nil_of_length_eq_zero (by have:=h5.1;omega)
  subst hu
  have hq:=Zd6 w 0 c
  clear h5 one hm hbz
  go_enter Tryz.func34,Tryz.ntmps34
  go_wp2_with fail
  go_ret
  exact ⟨_,_,rfl,World.ownsRow_nil _ _ _ _,Below.refl _ _⟩
 ·have hq:=ZeN w ad n c
  have ON:=Lib.hid (And.intro one (And.intro hm hbz))
  clear one hm hbz
  go_enter Tryz.func34,Tryz.ntmps34
  go_wp2_with (at_builtin;refine ZJ _ rfl _ _ 38 rfl w.heap.size 74 i0 (.agg #[.string ⟨#[]⟩,.bool false]) 2 24 Tryz.underlying38 hi hz0 hz1 hz2 rfl (by decide) _ 0 [] rfl (Zfd w) w.heap.size (some ad) _ c _ rfl (h5.alloc (Nat.le_refl _) _) ?c2 ?c3 ?c4 ?c5 ?_)
  case c2=>exact ON.out.1
  case c3=>have:=ON.out.2.1;omega
  case c4=>have:=ON.out.2.2;omega
  case c5=>simp
  intro v' w1 hown' hgrow _
  have hown2:w1.ownsRow w.heap.size 74 2 v' n us:=by simpa using hown'
  have hb:Below w.heap.size w w1:=by
   refine (Za w _).grown hgrow (by simp) (fun k hk=>?_)
   have e:w.heap.size=k:=by simpa [Value.ownBlock] using hk
   omega
  obtain ⟨A',c',rfl⟩:=Zm hown2
  have FIN:=Lib.hid (And.intro hown2 hb)
  clear hown' hown2 hgrow hb h5 hq
  go_wp2_with fail
  go_ret
  exact ⟨_,_,rfl,FIN.out⟩
theorem Zfk (w:World) (ad:Addr) (n c:Nat):(binOp .eql 39 (.slice (some ad) n c) (.slice none 0 0)).run Tryz.prog w=.ok (.bool false) w:=by kernel_rfl
theorem ZeO (w:World) (n c:Nat):(binOp .eql 39 (.slice none n c) (.slice none 0 0)).run Tryz.prog w=.ok (.bool true) w:=by kernel_rfl
theorem Zf2 (w:World):(w.alloc (.cells #[] 79)).ownsRow w.heap.size 79 3 (.slice (some ⟨w.heap.size,0,none⟩) 0 0) 0 []:=
 World.ownsRow_made w #[] 0 (Nat.le_refl _) (Nat.zero_le _) rfl
theorem Zcz:(Tryz.prog.info? 79).map (fun i=>(i.zero,i.size,i.bytes))=some (some (.agg #[.string ⟨#[]⟩,.int .i64 0,.slice none 0 0]),3,48):=by kernel_rfl
theorem Zfv (w:World) (A:Option Addr) (n c:Nat) (us:List Value) (h5:Zs w w.heap.size 3 A n us) (one:∀ u∈us,u.oneCell'=true) (hm:n<=maxLen) (hbz:n*48<=140737488355328) :
  Calls Tryz.prog 35 #[.slice A n c] w fun e w'=>∃ A' c',e=.returned (.slice A' n c')/\w'.ownsRow w.heap.size 79 3 (.slice A' n c') n us/\Below w.heap.size w w':=by
 obtain ⟨i0,hi,hz0,hz1,hz2⟩:=ZG Zcz
 rcases A with _ | ad
 ·have hn:n=0:=by
   rcases Nat.eq_zero_or_pos n with h0 | h0
   ·exact h0
   ·obtain ⟨_,e,_⟩:=h5.2 h0
    cases e
  subst hn
  have hu:us=[]:=List.eq_nil_of_length_eq_zero (by have:=h5.1;omega)
  subst hu
  have hq:=ZeO w 0 c
  clear h5 one hm hbz
  go_enter Tryz.func35,Tryz.ntmps35
  go_wp2_with fail
  go_ret
  exact ⟨_,_,rfl,World.ownsRow_nil _ _ _ _,Below.refl _ _⟩
 ·have hq:=Zfk w ad n c
  have ON:=Lib.hid (And.intro one (And.intro hm hbz))
  clear one hm hbz
  go_enter Tryz.func35,Tryz.ntmps35
  go_wp2_with (at_builtin;refine ZJ _ rfl _ _ 39 rfl w.heap.size 79 i0 (.agg #[.string ⟨#[]⟩,.int .i64 0,.slice none 0 0]) 3 48 Tryz.underlying39 hi hz0 hz1 hz2 rfl (by decide) _ 0 [] rfl (Zf2 w) w.heap.size (some ad) _ c _ rfl (h5.alloc (Nat.le_refl _) _) ?c2 ?c3 ?c4 ?c5 ?_)
  case c2=>exact ON.out.1
  case c3=>have:=ON.out.2.1;omega
  case c4=>have:=ON.out.2.2;omega
  case c5=>simp
  intro v' w1 hown' hgrow _
  have hown2:w1.ownsRow w.heap.size 79 3 v' n us:=by simpa using hown'
  have hb:Below w.heap.size w w1:=by
   refine (Za w _).grown hgrow (by simp) (fun k hk=>?_)
   have e:w.heap.size=k:=by simpa [Value.ownBlock] using hk
   omega
  obtain ⟨A',c',rfl⟩:=Zm hown2
  have FIN:=Lib.hid (And.intro hown2 hb)
  clear hown' hown2 hgrow hb h5 hq
  go_wp2_with fail
  go_ret
  exact ⟨_,_,rfl,FIN.out⟩
theorem Zgi (w:World) (ad:Addr) (n c:Nat):(binOp .eql 77 (.slice (some ad) n c) (.slice none 0 0)).run Tryz.prog w=.ok (.bool false) w:=by kernel_rfl
theorem Zfl (w:World) (n c:Nat):(binOp .eql 77 (.slice none n c) (.slice none 0 0)).run Tryz.prog w=.ok (.bool true) w:=by kernel_rfl
theorem ZgK (w:World):(w.alloc (.cells #[] 100)).ownsRow w.heap.size 100 2 (.slice (some ⟨w.heap.size,0,none⟩) 0 0) 0 []:=
 World.ownsRow_made w #[] 0 (Nat.le_refl _) (Nat.zero_le _) rfl
theorem Zew:(Tryz.prog.info? 100).map (fun i=>(i.zero,i.size,i.bytes))=some (some (.agg #[.string ⟨#[]⟩,.int .i64 0]),2,24):=by kernel_rfl
theorem Zgv (w:World) (A:Option Addr) (n c:Nat) (us:List Value) (h5:Zs w w.heap.size 2 A n us) (one:∀ u∈us,u.oneCell'=true) (hm:n<=maxLen) (hbz:n*24<=140737488355328) :
  Calls Tryz.prog 52 #[.slice A n c] w fun e w'=>∃ A' c',e=.returned (.slice A' n c')/\w'.ownsRow w.heap.size 100 2 (.slice A' n c') n us/\Below w.heap.size w w':=by
 obtain ⟨i0,hi,hz0,hz1,hz2⟩:=ZG Zew
 rcases A with _ | ad
 ·have hn:n=0:=by
   rcases Nat.eq_zero_or_pos n with h0 | h0
   ·exact h0
   ·obtain ⟨_,e,_⟩:=h5.2 h0
    cases e
  subst hn
  have hu:us=[]:=List.eq_nil_of_length_eq_zero (by have:=h5.1;omega)
  subst hu
  have hq:=Zfl w 0 c
  clear h5 one hm hbz
  go_enter Tryz.func52,Tryz.ntmps52
  go_wp2_with fail
  go_ret
  exact ⟨_,_,rfl,World.ownsRow_nil _ _ _ _,Below.refl _ _⟩
 ·have hq:=Zgi w ad n c
  have ON:=Lib.hid (And.intro one (And.intro hm hbz))
  clear one hm hbz
  go_enter Tryz.func52,Tryz.ntmps52
  go_wp2_with (at_builtin;refine ZJ _ rfl _ _ 77 rfl w.heap.size 100 i0 (.agg #[.string ⟨#[]⟩,.int .i64 0]) 2 24 Tryz.underlying77 hi hz0 hz1 hz2 rfl (by decide) _ 0 [] rfl (ZgK w) w.heap.size (some ad) _ c _ rfl (h5.alloc (Nat.le_refl _) _) ?c2 ?c3 ?c4 ?c5 ?_)
  case c2=>exact ON.out.1
  case c3=>have:=ON.out.2.1;omega
  case c4=>have:=ON.out.2.2;omega
  case c5=>simp
  intro v' w1 hown' hgrow _
  have hown2:w1.ownsRow w.heap.size 100 2 v' n us:=by simpa using hown'
  have hb:Below w.heap.size w w1:=by
   refine (Za w _).grown hgrow (by simp) (fun k hk=>?_)
   have e:w.heap.size=k:=by simpa [Value.ownBlock] using hk
   omega
  obtain ⟨A',c',rfl⟩:=Zm hown2
  have FIN:=Lib.hid (And.intro hown2 hb)
  clear hown' hown2 hgrow hb h5 hq
  go_wp2_with fail
  go_ret
  exact ⟨_,_,rfl,FIN.out⟩
end
end Go.Proofs.YtaacbenikcbibabGreatDoor
