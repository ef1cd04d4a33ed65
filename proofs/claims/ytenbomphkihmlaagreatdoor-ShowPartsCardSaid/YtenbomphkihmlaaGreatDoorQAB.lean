import Derived.Lib.LaidTab
import Derived.Laws.Rows
import Derived.Stop.LaidErr
import Derived.MakeChecks
import Derived.Shelf.Strings.Builder1
import Derived.Shelf.Strings.Builder2
import Derived.Shelf.Strings.OnBuilder
import Derived.Shelf.Strings.BuilderF
import Derived.Shelf.Strings.BuilderK
import Derived.Shelf.Strings.Builder2Cap
import Derived.Shelf.Strconv.Itoa0
import Derived.Shelf.Strconv.Itoa1
import Derived.Shelf.LaysM
import Derived.Shelf.Strconv.Itoa2
import Derived.Shelf.Strconv.AppendUint10
import Derived.Shelf.Strconv.AppendInt10
import Derived.Shelf.Strconv.AppendIntPublic10
import Derived.Shelf.Bits.Mul64
import Derived.Shelf.Strings.BuilderCap
import Derived.Shelf.Slices.Turned
import Derived.Test.YtenbomphkihmlaaGreatDoorProg
import Derived.Lib.PathFns
import Derived.Lib.IndexBytes
import Derived.OneCell
import Derived.StillTailTactics
import Derived.BigRegion
import Derived.Deep.RegionHeld3
import Derived.Deep.Cut
import Derived.Lib.ItoaNum
import Derived.Test.YtenbomphkihmlaaGreatDoorQAA
set_option maxRecDepth 100000
set_option maxHeartbeats 8000000
namespace Go.Proofs.YtenbomphkihmlaaGreatDoor
section
open Go.RowKit
def ZeE {H:Type} (l:List (List UInt8)):DataW H:=.agg (l.map fun z=>.lit (.string z))
def ZV (w:World) (g:Nat) (l:List (List UInt8)):Prop:=∃ t fr,w.heap[g]? = some (.cells (l.map txt).toArray t fr)
theorem ZV.below {w w':World} {g:Nat} {l:List (List UInt8)} (h:ZV w g l) (hb:Below w.heap.size w w'):ZV w' g l:=by
 obtain ⟨t,fr,e⟩:=h
 have hg:g<w.heap.size:=by
  rcases Nat.lt_or_ge g w.heap.size with q | q
  ·exact q
  ·rw [Array.getElem?_eq_none q] at e;cases e
 exact ⟨t,fr,(hb.block g hg).trans e⟩
theorem Ze8 {H:Type} {enc:TypeId×Value->H} {P:Program} {w:World} {base:Nat} {sp:Nat->Bool} {held:Bool} {fuel:Nat} {t e:TypeId} {n:Nat} {cs:List Value} {zs:List (List UInt8)} {p:List MemPlace}
  (ht:P.underlying t=some (.array n e)) (he:P.underlying e=some .string) (hce:P.cellsOf e=1) (hct:P.cellsOf t=n)
  (h:DataW.trod enc P w base sp held fuel t cs=some (ZeE zs,p)):cs=zs.map txt:=by
 cases fuel with
 | zero=>simp [DataW.trod] at h
 | succ fuel=>
  simp only [DataW.trod,ht,hce,hct,Nat.mul_one] at h
  split at h
  ·rename_i hl
   obtain ⟨xs,hm,hx⟩:=Option.map_eq_some_iff.1 h
   have hxs:xs.map (·.1)=zs.map fun z=>(DataW.lit (.string z):DataW H):=by
    have:=congrArg Prod.fst hx
    simpa [ZeE] using this
   have hxl:xs.length=n:=by simpa using Lib.mapM_length hm
   have hzl:zs.length=n:=by
    have:=congrArg List.length hxs
    simp at this
    omega
   apply List.ext_getElem?
   intro i
   by_cases hi:i<n
   ·obtain ⟨b,hb,hf⟩:=Lib.mapM_at hm i i (by simp [hi])
    obtain ⟨z,hc,rfl,_⟩:=DataW.trod_string he hf
    have h1:cs[i]? = some (.string z):=by
     have:=congrArg (·[0]?) hc
     simpa [List.getElem?_take,List.getElem?_drop] using this
    have h2:(xs.map (·.1))[i]? = some (DataW.lit (.string z.data.toList):DataW H):=by simp [hb]
    rw [hxs] at h2
    simp only [List.getElem?_map,Option.map_eq_some_iff,DataW.lit.injEq,Lit.string.injEq] at h2
    obtain ⟨z',hz',rfl⟩:=h2
    simp [h1,hz',txt]
   ·rw [List.getElem?_eq_none (by omega),List.getElem?_eq_none (by simp;omega)]
  ·cases h
theorem ZbX {P:Program} {W:World} {name:String} {zs:List (List UInt8)} {rest:List (String×DataW Unit)} {g:Nat} {t e:TypeId} {n:Nat}
  (hg:P.globalNamed name=some g) (hty:(P.globals[g]?).map (·.type)=some t) (ht:P.underlying t=some (.array n e)) (he:P.underlying e=some .string) (hce:P.cellsOf e=1) (hct:P.cellsOf t=n)
  (h:laidMet P ((name,ZeE zs)::rest) W):ZV W g zs:=by
 obtain ⟨ps,⟨g',t',cs,fuel,p,q,hg',ht',hvar,hd,_,_⟩,_⟩:=h
 obtain rfl:=Option.some.inj (hg.symm.trans hg')
 obtain rfl:=Option.some.inj (hty.symm.trans ht')
 have hc:=Ze8 ht he hce hct hd
 simp only [World.var?,hg,Option.bind_some] at hvar
 split at hvar
 ·rename_i c ty fr hh
  have hvar:=Option.some.inj hvar
  subst hvar
  exact ⟨ty,fr,by rw [hh,<- hc]⟩
 ·cases hvar
def Zx:List (List UInt8):=[[112,114,111,116,111],[115,116,97,116,101],[102,105,110,97,108],[111,112],[102,110],[108,101,97,115,116],[97,116],[116,111],[105,110],[108,101,116],[111,112,101,110],[101,108,115,101],[100,111],[115,112,108,105,116],[99,97,108,108],[105,102],[119,104,105,108,101],[114,101,116,117,114,110],[101,120,105,116],[117,110,105,113,117,101],[102,117,108,108],[115,104,97,114,101],[105,109,109],[112,117,114,101]]
theorem Tryz.gKeys:Tryz.prog.globalNamed "ballcock/lex.keywords"=some 3:=by kernel_rfl
theorem Tryz.gKeysType:(Tryz.prog.globals[3]?).map (·.type)=some 98:=by kernel_rfl
theorem Tryz.cellsS:Tryz.prog.cellsOf 9=1:=by kernel_rfl
end
end Go.Proofs.YtenbomphkihmlaaGreatDoor
namespace Go.Proofs
open Go.Shelf
def Tryz.lays156_ren:Go.Shelf.Ren:=⟨fun | 156=>63 | 165=>85 | 166=>86 | 169=>87 | 240=>97 | 241=>98 | 276=>100 | 277=>101 | n=>n,fun | 31=>26 | 9=>9 | 3=>3 | 4=>4 | 0=>0 | 20=>20 | 72=>89 | 76=>92 | 70=>87 | 37=>35 | 75=>91 | 127=>101 | 164=>103 | 5=>5 | 80=>94 | n=>n,fun | n=>n⟩
theorem Tryz.lays156:Go.Proofs.Lays.n156 Tryz.prog Tryz.lays156_ren:={
 mixed:=by kernel_rfl
 f156:=Tryz.func63.trans (congrArg some (by kernel_rfl))
 f165:=Tryz.func85.trans (congrArg some (by kernel_rfl))
 f166:=Tryz.func86.trans (congrArg some (by kernel_rfl))
 f169:=Tryz.func87.trans (congrArg some (by kernel_rfl))
 f240:=Tryz.func97.trans (congrArg some (by kernel_rfl))
 f241:=Tryz.func98.trans (congrArg some (by kernel_rfl))
 f276:=Tryz.func100.trans (congrArg some (by kernel_rfl))
 f277:=Tryz.func101.trans (congrArg some (by kernel_rfl))
 t0:=Tryz.underlying0
 a0:=Tryz.isAgg0
 z0:=Tryz.sizeOf0
 v0:=Tryz.zeroValue0
 t3:=Tryz.underlying3
 a3:=Tryz.isAgg3
 z3:=Tryz.sizeOf3
 v3:=Tryz.zeroValue3
 t4:=Tryz.underlying4
 a4:=Tryz.isAgg4
 z4:=Tryz.sizeOf4
 v4:=Tryz.zeroValue4
 t9:=Tryz.underlying9
 a9:=Tryz.isAgg9
 z9:=Tryz.sizeOf9
 v9:=Tryz.zeroValue9
 t20:=Tryz.underlying20
 a20:=Tryz.isAgg20
 z20:=Tryz.sizeOf20
 v20:=Tryz.zeroValue20
 t31:=Tryz.underlying26
 a31:=Tryz.isAgg26
 z31:=Tryz.sizeOf26
 v31:=Tryz.zeroValue26
 t37:=Tryz.underlying35
 a37:=Tryz.isAgg35
 z37:=Tryz.sizeOf35
 v37:=Tryz.zeroValue35
 t70:=Tryz.underlying87
 a70:=Tryz.isAgg87
 z70:=Tryz.sizeOf87
 v70:=Tryz.zeroValue87
 t72:=Tryz.underlying89
 a72:=Tryz.isAgg89
 z72:=Tryz.sizeOf89
 v72:=Tryz.zeroValue89
 t75:=Tryz.underlying91
 a75:=Tryz.isAgg91
 z75:=Tryz.sizeOf91
 v75:=Tryz.zeroValue91
 t76:=Tryz.underlying92
 a76:=Tryz.isAgg92
 z76:=Tryz.sizeOf92
 v76:=Tryz.zeroValue92
 t127:=Tryz.underlying101
 a127:=Tryz.isAgg101
 z127:=Tryz.sizeOf101
 v127:=Tryz.zeroValue101
 t164:=Tryz.underlying103
 a164:=Tryz.isAgg103
 z164:=Tryz.sizeOf103
 v164:=Tryz.zeroValue103 }
theorem Tryz.Builder_Extra_156:Builder.Extra Tryz.prog Tryz.lays156_ren:={
 sizeBuilder:=by kernel_rfl
 liesBuilder:=by kernel_rfl
 t5:=Tryz.underlying5
 a5:=Tryz.isAgg5
 z5:=Tryz.sizeOf5
 v5:=Tryz.zeroValue5
 infoByte:=by kernel_rfl
 cellsByte:=by kernel_rfl
 sizeByte:=by kernel_rfl
 neB5:=by decide }
open Go.RowKit in
theorem Tryz.strings_Join (bk o c:Nat) (xs:List ByteArray) (sep:ByteArray) (w:World) (hcells:∀ (j:Nat) x,xs[j]? = some x->w.cell? ⟨bk,o+j,none⟩=some (.string x)) (hbk:bk<w.heap.size) (hN:xs.length<=140737488355328) (hcap:xs.length<=c) (hlen:(Lib.join (xs.map (·.data.toList)) sep.data.toList).length<=140737488355328) :
  Calls Tryz.prog 63 #[.slice (some ⟨bk,o,none⟩) xs.length c,.string sep] w fun e w'=>e=.returned (.string ⟨(Lib.join (xs.map (·.data.toList)) sep.data.toList).toArray⟩)/\Below w.heap.size w w':=Any.strings_Join Tryz.lays156 Tryz.Builder_Extra_156 bk o c xs sep w hcells hbk hN hcap hlen
def Tryz.laysM176_ren:Go.Shelf.Ren:=⟨fun | 176=>84 | 249=>96 | 288=>99 | 283=>102 | 284=>103 | 285=>104 | 286=>105 | 129=>107 | 317=>106 | 318=>108 | 319=>109 | 320=>110 | 337=>111 | 338=>112 | n=>n,fun | 37=>35 | 2=>2 | 3=>3 | 53=>77 | 4=>4 | 9=>9 | 171=>107 | 0=>0 | 173=>110 | 212=>114 | 51=>74 | 5=>5 | 20=>20 | 213=>115 | 46=>63 | 232=>118 | 233=>119 | n=>n,fun | 17=>5 | 18=>6 | 19=>7 | n=>n⟩
theorem Tryz.laysM176:Go.Proofs.LaysM.n176 Tryz.prog Tryz.laysM176_ren:={
 mixed:=by kernel_rfl
 f129:=Tryz.func107.trans (congrArg some (by kernel_rfl))
 f176:=Tryz.func84.trans (congrArg some (by kernel_rfl))
 f249:=Tryz.func96.trans (congrArg some (by kernel_rfl))
 f283:=Tryz.func102.trans (congrArg some (by kernel_rfl))
 f284:=Tryz.func103.trans (congrArg some (by kernel_rfl))
 f285:=Tryz.func104.trans (congrArg some (by kernel_rfl))
 f286:=Tryz.func105.trans (congrArg some (by kernel_rfl))
 f288:=Tryz.func99.trans (congrArg some (by kernel_rfl))
 f317:=Tryz.func106.trans (congrArg some (by kernel_rfl))
 f318:=Tryz.func108.trans (congrArg some (by kernel_rfl))
 f319:=Tryz.func109.trans (congrArg some (by kernel_rfl))
 f320:=Tryz.func110.trans (congrArg some (by kernel_rfl))
 f337:=Tryz.func111.trans (congrArg some (by kernel_rfl))
 f338:=Tryz.func112.trans (congrArg some (by kernel_rfl))
 t0:=Tryz.underlying0
 a0:=Tryz.isAgg0
 z0:=Tryz.sizeOf0
 v0:=Tryz.zeroValue0
 t2:=Tryz.underlying2
 a2:=Tryz.isAgg2
 z2:=Tryz.sizeOf2
 v2:=Tryz.zeroValue2
 t3:=Tryz.underlying3
 a3:=Tryz.isAgg3
 z3:=Tryz.sizeOf3
 v3:=Tryz.zeroValue3
 t4:=Tryz.underlying4
 a4:=Tryz.isAgg4
 z4:=Tryz.sizeOf4
 v4:=Tryz.zeroValue4
 t5:=Tryz.underlying5
 a5:=Tryz.isAgg5
 z5:=Tryz.sizeOf5
 v5:=Tryz.zeroValue5
 t9:=Tryz.underlying9
 a9:=Tryz.isAgg9
 z9:=Tryz.sizeOf9
 v9:=Tryz.zeroValue9
 t20:=Tryz.underlying20
 a20:=Tryz.isAgg20
 z20:=Tryz.sizeOf20
 v20:=Tryz.zeroValue20
 t37:=Tryz.underlying35
 a37:=Tryz.isAgg35
 z37:=Tryz.sizeOf35
 v37:=Tryz.zeroValue35
 t46:=Tryz.underlying63
 a46:=Tryz.isAgg63
 z46:=Tryz.sizeOf63
 v46:=Tryz.zeroValue63
 t51:=Tryz.underlying74
 a51:=Tryz.isAgg74
 z51:=Tryz.sizeOf74
 v51:=Tryz.zeroValue74
 t53:=Tryz.underlying77
 a53:=Tryz.isAgg77
 z53:=Tryz.sizeOf77
 v53:=Tryz.zeroValue77
 t171:=Tryz.underlying107
 a171:=Tryz.isAgg107
 z171:=Tryz.sizeOf107
 v171:=Tryz.zeroValue107
 t173:=Tryz.underlying110
 a173:=Tryz.isAgg110
 z173:=Tryz.sizeOf110
 v173:=Tryz.zeroValue110
 t212:=Tryz.underlying114
 a212:=Tryz.isAgg114
 z212:=Tryz.sizeOf114
 v212:=Tryz.zeroValue114
 t213:=Tryz.underlying115
 a213:=Tryz.isAgg115
 z213:=Tryz.sizeOf115
 t232:=Tryz.underlying118
 a232:=Tryz.isAgg118
 z232:=Tryz.sizeOf118
 v232:=Tryz.zeroValue118
 t233:=Tryz.underlying119
 a233:=Tryz.isAgg119
 z233:=Tryz.sizeOf119
 v233:=Tryz.zeroValue119
 g17:=by kernel_rfl
 g18:=by kernel_rfl
 g19:=by kernel_rfl
 i0:=by kernel_rfl
 i2:=by kernel_rfl
 i3:=by kernel_rfl
 i4:=by kernel_rfl
 i5:=by kernel_rfl
 i9:=by kernel_rfl
 i20:=by kernel_rfl
 i37:=by kernel_rfl
 i46:=by kernel_rfl
 i51:=by kernel_rfl
 i53:=by kernel_rfl
 i171:=by kernel_rfl
 i173:=by kernel_rfl
 i212:=by kernel_rfl
 i232:=by kernel_rfl
 i233:=by kernel_rfl
 m17:=by kernel_rfl
 m18:=by kernel_rfl
 m19:=by kernel_rfl }
open Go.RowKit Go.Sort Go.Lib in
theorem Tryz.strconv_AppendInt_10 (B n:Nat) (i:Int) (h0:-9223372036854775808<=i) (h1:i<=9223372036854775807) (sv:Value) (xs:List Value) (w:World) (hown:w.ownsRow B 5 1 sv n xs) (hBw:B<=w.heap.size) (hlim:n+21<=140737488355328) (htab:Lib.TabBelow Tryz.prog B w "internal/strconv.uint64pow10" .u64 Lib.pow10Tab) :
  Calls Tryz.prog 84 #[sv,.int .i64 i,.int .i64 10] w fun e w'=>∃ v',e=.returned v'/\w'.ownsRow B 5 1 v' (n+(Lib.itoa i).length) (xs++Lib.byteCells (Lib.itoa i))/\Below B w w'/\Lib.OthersKept 5 none w w':=Any.strconv_AppendInt_10 Tryz.laysM176 B n i h0 h1 sv xs w hown hBw hlim htab
def Tryz.lays212_ren:Go.Shelf.Ren:=⟨fun | 212=>51 | 263=>71 | 264=>72 | n=>n,fun | 46=>63 | 51=>74 | 146=>75 | 53=>77 | 148=>78 | n=>n,fun | n=>n⟩
theorem Tryz.lays212:Go.Proofs.Lays.n212 Tryz.prog Tryz.lays212_ren:={
 mixed:=by kernel_rfl
 f212:=Tryz.func51.trans (congrArg some (by kernel_rfl))
 f263:=Tryz.func71.trans (congrArg some (by kernel_rfl))
 f264:=Tryz.func72.trans (congrArg some (by kernel_rfl))
 t46:=Tryz.underlying63
 a46:=Tryz.isAgg63
 z46:=Tryz.sizeOf63
 v46:=Tryz.zeroValue63
 t51:=Tryz.underlying74
 a51:=Tryz.isAgg74
 z51:=Tryz.sizeOf74
 v51:=Tryz.zeroValue74
 t53:=Tryz.underlying77
 a53:=Tryz.isAgg77
 z53:=Tryz.sizeOf77
 v53:=Tryz.zeroValue77
 t146:=Tryz.underlying75
 a146:=Tryz.isAgg75
 z146:=Tryz.sizeOf75
 v146:=Tryz.zeroValue75
 t148:=Tryz.underlying78
 a148:=Tryz.isAgg78
 z148:=Tryz.sizeOf78
 v148:=Tryz.zeroValue78 }
open Go.RowKit Go.Lib in
theorem Tryz.bits_Mul (x y:Nat) (hx:x<18446744073709551616) (hy:y<18446744073709551616) (w:World) :
  Calls Tryz.prog 51 #[.int .u64 x,.int .u64 y] w fun e w'=>e=.returned (.tuple #[.int .u64 ((x*y / 18446744073709551616:Nat):Int),.int .u64 ((x*y % 18446744073709551616:Nat):Int)])/\w'=w:=Any.bits_Mul Tryz.lays212 x y hx hy w
end Go.Proofs
namespace Go.Proofs.YtenbomphkihmlaaGreatDoor
section
open Go.RowKit
theorem Zid {s:ByteArray} {c:UInt8} {r:List UInt8} (h:s.data.toList=c::r):s.toList.isEmpty=false:=by
 rw [Lib.toList_data,h]
 rfl
theorem Zgt {s:ByteArray} {c:UInt8} {r:List UInt8} (h:s.data.toList=c::r) (h0:0<s.size):s[0]=c:=by
 have:=Zes h0
 rw [h] at this
 simpa using this.symm
end
section
open Go.RowKit
def Blk (w:World) (b:Nat) (cs:Array Value):Prop:=∃ ty,w.heap[b]? = some (.cells cs ty (0,0))
section
variable {w w':World} {b:Nat} {cs:Array Value}
theorem Blk.cell (h:Blk w b cs) (i:Nat):w.cell? ⟨b,i,none⟩=cs[i]?:=by
 obtain ⟨ty,h⟩:=h
 simp [World.cell?,h]
theorem Blk.free (h:Blk w b cs) (i:Nat):w.frozen? ⟨b,i,none⟩=false:=by
 obtain ⟨ty,h⟩:=h
 simp [World.frozen?,h]
theorem Blk.lt (h:Blk w b cs):b<w.heap.size:=by
 obtain ⟨ty,h⟩:=h
 exact lt_of_block h
theorem Blk.start (w:World) (cs:Array Value) (ty:TypeId):Blk (w.alloc (.cells cs ty)) w.heap.size cs:=⟨ty,heap_alloc_new _ _⟩
theorem Blk.keepB {B:Nat} (h:Blk w b cs) (hb:Below B w w') (hlt:b<B):Blk w' b cs:=by
 obtain ⟨ty,h⟩:=h
 exact ⟨ty,(hb.block b hlt).trans h⟩
theorem Blk.keep (h:Blk w b cs) (hb:Below w.heap.size w w'):Blk w' b cs:=h.keepB hb h.lt
theorem Blk.grown {row:Option Nat} (h:Blk w b cs) (hg:w.grownBy w' row) (hne:row≠some b):Blk w' b cs:=by
 have hl:=h.lt
 obtain ⟨ty,h⟩:=h
 exact ⟨ty,(hg.block b hl (fun e=>hne e.symm)).trans h⟩
theorem Blk.other (h:Blk w b cs) {p:Addr} (hp:p.block≠b) (v:Value):Blk (w.setCell p v) b cs:=by
 obtain ⟨ty,h⟩:=h
 exact ⟨ty,by rw [Below.heap_setCell _ _ _ _ (fun e=>hp e.symm)];exact h⟩
theorem Blk.set (h:Blk w b cs) (i:Nat) (v:Value):Blk (w.setCell ⟨b,i,none⟩ v) b (cs.setIfInBounds i v):=by
 have hlt:=h.lt
 obtain ⟨ty,h⟩:=h
 refine ⟨ty,?_⟩
 have h':w.heap[b]=.cells cs ty (0,0):=by simpa [Array.getElem?_eq_getElem hlt] using h
 show (w.heap.modify b _)[b]? = _
 rw [Array.getElem?_eq_getElem (by simpa using hlt),Array.getElem_modify_self,h']
 rfl
theorem Blk.drew (h:Blk w b cs):Blk w.drew b cs:=h
end
theorem ZV.grown {w w':World} {g:Nat} {l:List (List UInt8)} {row:Option Nat} (h:ZV w g l) (hg:w.grownBy w' row) (hne:row≠some g):ZV w' g l:=by
 obtain ⟨t,fr,e⟩:=h
 exact ⟨t,fr,(hg.block g (lt_of_block e) (fun q=>hne q.symm)).trans e⟩
theorem ZhX {w:World} {g j:Nat} {u:Value}:w.grownBy (w.setCell ⟨g,j,none⟩ u) (some g):=
 ⟨rfl,rfl,rfl,by simp [World.setCell],fun k _ hk=>Below.heap_setCell _ _ _ _ (fun e=>hk (by rw [e]))⟩
theorem ZcO {B:Nat} {w w':World} {row:Option Nat} (hg:w.grownBy w' row) (hB:B<=w.heap.size) (hr:∀ k,row=some k->B<=k):Below B w w':=(Below.refl B w).grown hg hB hr
theorem Zb (w:World) (a:Obj):Below w.heap.size w (w.alloc a):=(Below.refl _ _).alloc (Nat.le_refl _) _
end
section
open Go.RowKit
def Zck (l:List UInt8):Bool:=Zx.any fun k=>k==l
def ZaR (l:List UInt8):Bool:=(match l with | []=>false | c::_=>Zbp c)&&decide (l.length<=16)&&decide (Za1 ZaV l=l.length)&&!Zck l
theorem Zd5 {l:List (List UInt8)} {k:Nat} {c:List UInt8} (h:l[k]? = some c):l.drop k=c::l.drop (k+1):=by
 obtain ⟨hk,rfl⟩:=List.getElem?_eq_some_iff.1 h
 exact List.drop_eq_getElem_cons hk
theorem Zh1:(Tryz.prog.info? 98).map (·.size)=some (Zx.map txt).toArray.size:=by kernel_rfl
theorem Zka (k:Nat) (g:List UInt8) (h:Zx[k]? = some g) (w:World):(Instr.index 98 (.agg (Zx.map txt).toArray) (.int .i64 k)).run Tryz.prog w=.ok (txt g) w:=by
 have hk:k<24:=by
  rcases Nat.lt_or_ge k 24 with q | q
  ·exact q
  ·rw [List.getElem?_eq_none (by exact q)] at h;cases h
 obtain rfl | k0:=Nat.eq_or_lt_of_le (show 0<=k by omega)
 ·obtain rfl:Zx.getD 0 []=g:=by rw [List.getD_eq_getElem?_getD,h];rfl
  exact (show ∀ w:World,(Instr.index 98 (.agg (Zx.map txt).toArray) (.int .i64 (0:Nat))).run Tryz.prog w=.ok (txt (Zx.getD 0 [])) w from fun _=>by kernel_rfl) w
 obtain rfl | k1:=Nat.eq_or_lt_of_le (show 1<=k by omega)
 ·obtain rfl:Zx.getD 1 []=g:=by rw [List.getD_eq_getElem?_getD,h];rfl
  exact (show ∀ w:World,(Instr.index 98 (.agg (Zx.map txt).toArray) (.int .i64 (1:Nat))).run Tryz.prog w=.ok (txt (Zx.getD 1 [])) w from fun _=>by kernel_rfl) w
 obtain rfl | k2:=Nat.eq_or_lt_of_le (show 2<=k by omega)
 ·obtain rfl:Zx.getD 2 []=g:=by rw [List.getD_eq_getElem?_getD,h];rfl
  exact (show ∀ w:World,(Instr.index 98 (.agg (Zx.map txt).toArray) (.int .i64 (2:Nat))).run Tryz.prog w=.ok (txt (Zx.getD 2 [])) w from fun _=>by kernel_rfl) w
 obtain rfl | k3:=Nat.eq_or_lt_of_le (show 3<=k by omega)
 ·obtain rfl:Zx.getD 3 []=g:=by rw [List.getD_eq_getElem?_getD,h];rfl
  exact (show ∀ w:World,(Instr.index 98 (.agg (Zx.map txt).toArray) (.int .i64 (3:Nat))).run Tryz.prog w=.ok (txt (Zx.getD 3 [])) w from fun _=>by kernel_rfl) w
 obtain rfl | k4:=Nat.eq_or_lt_of_le (show 4<=k by omega)
 ·obtain rfl:Zx.getD 4 []=g:=by rw [List.getD_eq_getElem?_getD,h];rfl
  exact (show ∀ w:World,(Instr.index 98 (.agg (Zx.map txt).toArray) (.int .i64 (4:Nat))).run Tryz.prog w=.ok (txt (Zx.getD 4 [])) w from fun _=>by kernel_rfl) w
 obtain rfl | k5:=Nat.eq_or_lt_of_le (show 5<=k by omega)
 ·obtain rfl:Zx.getD 5 []=g:=by rw [List.getD_eq_getElem?_getD,h];rfl
  exact (show ∀ w:World,(Instr.index 98 (.agg (Zx.map txt).toArray) (.int .i64 (5:Nat))).run Tryz.prog w=.ok (txt (Zx.getD 5 [])) w from fun _=>by kernel_rfl) w
 obtain rfl | k6:=Nat.eq_or_lt_of_le (show 6<=k by omega)
 ·obtain rfl:Zx.getD 6 []=g:=by rw [List.getD_eq_getElem?_getD,h];rfl
  exact (show ∀ w:World,(Instr.index 98 (.agg (Zx.map txt).toArray) (.int .i64 (6:Nat))).run Tryz.prog w=.ok (txt (Zx.getD 6 [])) w from fun _=>by kernel_rfl) w
 obtain rfl | k7:=Nat.eq_or_lt_of_le (show 7<=k by omega)
 ·obtain rfl:Zx.getD 7 []=g:=by rw [List.getD_eq_getElem?_getD,h];rfl
  exact (show ∀ w:World,(Instr.index 98 (.agg (Zx.map txt).toArray) (.int .i64 (7:Nat))).run Tryz.prog w=.ok (txt (Zx.getD 7 [])) w from fun _=>by kernel_rfl) w
 obtain rfl | k8:=Nat.eq_or_lt_of_le (show 8<=k by omega)
 ·obtain rfl:Zx.getD 8 []=g:=by rw [List.getD_eq_getElem?_getD,h];rfl
  exact (show ∀ w:World,(Instr.index 98 (.agg (Zx.map txt).toArray) (.int .i64 (8:Nat))).run Tryz.prog w=.ok (txt (Zx.getD 8 [])) w from fun _=>by kernel_rfl) w
 obtain rfl | k9:=Nat.eq_or_lt_of_le (show 9<=k by omega)
 ·obtain rfl:Zx.getD 9 []=g:=by rw [List.getD_eq_getElem?_getD,h];rfl
  exact (show ∀ w:World,(Instr.index 98 (.agg (Zx.map txt).toArray) (.int .i64 (9:Nat))).run Tryz.prog w=.ok (txt (Zx.getD 9 [])) w from fun _=>by kernel_rfl) w
 obtain rfl | k10:=Nat.eq_or_lt_of_le (show 10<=k by omega)
 ·obtain rfl:Zx.getD 10 []=g:=by rw [List.getD_eq_getElem?_getD,h];rfl
  exact (show ∀ w:World,(Instr.index 98 (.agg (Zx.map txt).toArray) (.int .i64 (10:Nat))).run Tryz.prog w=.ok (txt (Zx.getD 10 [])) w from fun _=>by kernel_rfl) w
 obtain rfl | k11:=Nat.eq_or_lt_of_le (show 11<=k by omega)
 ·obtain rfl:Zx.getD 11 []=g:=by rw [List.getD_eq_getElem?_getD,h];rfl
  exact (show ∀ w:World,(Instr.index 98 (.agg (Zx.map txt).toArray) (.int .i64 (11:Nat))).run Tryz.prog w=.ok (txt (Zx.getD 11 [])) w from fun _=>by kernel_rfl) w
 obtain rfl | k12:=Nat.eq_or_lt_of_le (show 12<=k by omega)
 ·obtain rfl:Zx.getD 12 []=g:=by rw [List.getD_eq_getElem?_getD,h];rfl
  exact (show ∀ w:World,(Instr.index 98 (.agg (Zx.map txt).toArray) (.int .i64 (12:Nat))).run Tryz.prog w=.ok (txt (Zx.getD 12 [])) w from fun _=>by kernel_rfl) w
 obtain rfl | k13:=Nat.eq_or_lt_of_le (show 13<=k by omega)
 ·obtain rfl:Zx.getD 13 []=g:=by rw [List.getD_eq_getElem?_getD,h];rfl
  exact (show ∀ w:World,(Instr.index 98 (.agg (Zx.map txt).toArray) (.int .i64 (13:Nat))).run Tryz.prog w=.ok (txt (Zx.getD 13 [])) w from fun _=>by kernel_rfl) w
 obtain rfl | k14:=Nat.eq_or_lt_of_le (show 14<=k by omega)
 ·obtain rfl:Zx.getD 14 []=g:=by rw [List.getD_eq_getElem?_getD,h];rfl
  exact (show ∀ w:World,(Instr.index 98 (.agg (Zx.map txt).toArray) (.int .i64 (14:Nat))).run Tryz.prog w=.ok (txt (Zx.getD 14 [])) w from fun _=>by kernel_rfl) w
 obtain rfl | k15:=Nat.eq_or_lt_of_le (show 15<=k by omega)
 ·obtain rfl:Zx.getD 15 []=g:=by rw [List.getD_eq_getElem?_getD,h];rfl
  exact (show ∀ w:World,(Instr.index 98 (.agg (Zx.map txt).toArray) (.int .i64 (15:Nat))).run Tryz.prog w=.ok (txt (Zx.getD 15 [])) w from fun _=>by kernel_rfl) w
 obtain rfl | k16:=Nat.eq_or_lt_of_le (show 16<=k by omega)
 ·obtain rfl:Zx.getD 16 []=g:=by rw [List.getD_eq_getElem?_getD,h];rfl
  exact (show ∀ w:World,(Instr.index 98 (.agg (Zx.map txt).toArray) (.int .i64 (16:Nat))).run Tryz.prog w=.ok (txt (Zx.getD 16 [])) w from fun _=>by kernel_rfl) w
 obtain rfl | k17:=Nat.eq_or_lt_of_le (show 17<=k by omega)
 ·obtain rfl:Zx.getD 17 []=g:=by rw [List.getD_eq_getElem?_getD,h];rfl
  exact (show ∀ w:World,(Instr.index 98 (.agg (Zx.map txt).toArray) (.int .i64 (17:Nat))).run Tryz.prog w=.ok (txt (Zx.getD 17 [])) w from fun _=>by kernel_rfl) w
 obtain rfl | k18:=Nat.eq_or_lt_of_le (show 18<=k by omega)
 ·obtain rfl:Zx.getD 18 []=g:=by rw [List.getD_eq_getElem?_getD,h];rfl
  exact (show ∀ w:World,(Instr.index 98 (.agg (Zx.map txt).toArray) (.int .i64 (18:Nat))).run Tryz.prog w=.ok (txt (Zx.getD 18 [])) w from fun _=>by kernel_rfl) w
 obtain rfl | k19:=Nat.eq_or_lt_of_le (show 19<=k by omega)
 ·obtain rfl:Zx.getD 19 []=g:=by rw [List.getD_eq_getElem?_getD,h];rfl
  exact (show ∀ w:World,(Instr.index 98 (.agg (Zx.map txt).toArray) (.int .i64 (19:Nat))).run Tryz.prog w=.ok (txt (Zx.getD 19 [])) w from fun _=>by kernel_rfl) w
 obtain rfl | k20:=Nat.eq_or_lt_of_le (show 20<=k by omega)
 ·obtain rfl:Zx.getD 20 []=g:=by rw [List.getD_eq_getElem?_getD,h];rfl
  exact (show ∀ w:World,(Instr.index 98 (.agg (Zx.map txt).toArray) (.int .i64 (20:Nat))).run Tryz.prog w=.ok (txt (Zx.getD 20 [])) w from fun _=>by kernel_rfl) w
 obtain rfl | k21:=Nat.eq_or_lt_of_le (show 21<=k by omega)
 ·obtain rfl:Zx.getD 21 []=g:=by rw [List.getD_eq_getElem?_getD,h];rfl
  exact (show ∀ w:World,(Instr.index 98 (.agg (Zx.map txt).toArray) (.int .i64 (21:Nat))).run Tryz.prog w=.ok (txt (Zx.getD 21 [])) w from fun _=>by kernel_rfl) w
 obtain rfl | k22:=Nat.eq_or_lt_of_le (show 22<=k by omega)
 ·obtain rfl:Zx.getD 22 []=g:=by rw [List.getD_eq_getElem?_getD,h];rfl
  exact (show ∀ w:World,(Instr.index 98 (.agg (Zx.map txt).toArray) (.int .i64 (22:Nat))).run Tryz.prog w=.ok (txt (Zx.getD 22 [])) w from fun _=>by kernel_rfl) w
 obtain rfl | k23:=Nat.eq_or_lt_of_le (show 23<=k by omega)
 ·obtain rfl:Zx.getD 23 []=g:=by rw [List.getD_eq_getElem?_getD,h];rfl
  exact (show ∀ w:World,(Instr.index 98 (.agg (Zx.map txt).toArray) (.int .i64 (23:Nat))).run Tryz.prog w=.ok (txt (Zx.getD 23 [])) w from fun _=>by kernel_rfl) w
 omega
theorem ZjL (s:ByteArray) (w:World) (ht:ZV w 3 Zx) :
  Calls Tryz.prog 76 #[.string s] w (Zb6 w (.bool (Zck s.data.toList))):=by
 obtain ⟨z,hz⟩:∃ z,z=Zck s.data.toList:=⟨_,rfl⟩
 rw [<- hz]
 obtain ⟨tt,fr,hrow⟩:=ht
 have hinfo:=Zh1
 have hat:=Zka
 generalize (Zx.map txt).toArray=SA at *
 have ROW:=Lib.hid (And.intro hrow (And.intro hinfo hat))
 have HZ:=Lib.hid hz
 clear hz hrow hinfo hat
 go_enter Tryz.func76,Tryz.ntmps76
 go_wp2_with (refine wpList_load_row rfl 98 _ rfl 3 rfl _ SA _ _ ROW.out.1 Tryz.underlying98 rfl ROW.out.2.1 ?_)
 go_loopg [6] 24 (fun g v6 wr=>∃ k:Nat,v6=.int .i64 k/\k<=24/\g=24-k/\z=((Zx.drop k).any fun k=>k==s.data.toList)/\wr=w)
 case atStart=>exact ⟨0,rfl,Nat.zero_le _,rfl,by rw [HZ.out];rfl,rfl⟩
 case round=>
  obtain ⟨k,rfl,hk,hg,hall,rfl⟩:=hrel
  by_cases hlt:k<24
  ·obtain ⟨g,hgk⟩:∃ g,Zx[k]? = some g:=⟨_,List.getElem?_eq_getElem (by exact hlt)⟩
   have ix:=ROW.out.2.2 k g hgk
   rw [Zd5 hgk,List.any_cons] at hall
   have i1:(k:Int)<24:=by omega
   have i2:(0:Int)<=(k:Int):=by omega
   have wk:IntKind.i64.wrap ((k:Int)+1)=(k:Int)+1:=IntWalk.i64_in _ (by omega)
   have HK:=Lib.hid (And.intro hlt hg)
   have HA:=Lib.hid hall
   clear hall hg hgk
   by_cases R:g=s.data.toList
   ·go_wp2_with fail
    go_ret
    exact ⟨ZaP (by rw [HA.out,beq_iff_eq.2 R];rfl),rfl⟩
   ·have R1:(g==s.toList)=false:=by rw [Lib.toList_data];simpa using R
    have R2:=Lib.hid R
    clear R
    go_wp2_with fail
    go_roundg (24-(k+1))
    case measure=>have:=HK.out;omega
    case rel=>exact ⟨k+1,by push_cast;rfl,by have:=HK.out;omega,rfl,by rw [HA.out,beq_eq_false_iff_ne.2 R2.out,Bool.false_or],rfl⟩
  ·obtain rfl:k=24:=by omega
   have HA:=Lib.hid hall
   clear hg hk hlt hall
   go_wp2_with fail
   go_ret
   exact ⟨ZaP (by rw [HA.out];rfl),rfl⟩
theorem Zio (w:World):Calls Tryz.prog 70 #[] w fun e w'=>e=.returned (.slice (some ⟨w.heap.size,0,none⟩) 24 24)/\Below w.heap.size w w'/\Blk w' w.heap.size (Zx.map txt).toArray:=by
 go_enter Tryz.func70,Tryz.ntmps70
 go_wp2_with fail
 go_ret
 exact ⟨rfl,Zb _ _,Blk.start _ _ _⟩
theorem Zjh (s:ByteArray) (w:World) :
  Calls Tryz.prog 50 #[.string s] w fun e w'=>e=.returned (.bool (Zck s.data.toList))/\Below w.heap.size w w':=by
 obtain ⟨z,hz⟩:∃ z,z=Zck s.data.toList:=⟨_,rfl⟩
 rw [<- hz]
 have HZ:=Lib.hid hz
 have rk:=Zio w
 have RK:=Lib.hid rk
 clear hz rk
 go_enter Tryz.func50,Tryz.ntmps50
 go_wp2_with (go_at_call 70;(with_reducible refine RK.out.mono ?_);rintro e w1 ⟨rfl,hb,hB⟩)
 have HB:=Lib.hid (And.intro hb hB)
 clear hb hB
 go_loopg [4] 24 (fun g v6 wr=>∃ k:Nat,v6=.int .i64 k/\k<=24/\g=24-k/\z=((Zx.drop k).any fun k=>k==s.data.toList)/\wr=w1)
 case atStart=>exact ⟨0,rfl,Nat.zero_le _,rfl,by rw [HZ.out];rfl,rfl⟩
 case round=>
  obtain ⟨k,rfl,hk,hg,hall,rfl⟩:=hrel
  by_cases hlt:k<24
  ·obtain ⟨g,hgk⟩:∃ g,Zx[k]? = some g:=⟨_,List.getElem?_eq_getElem (by exact hlt)⟩
   have c0:=HB.out.2.cell k
   rw [List.getElem?_toArray,List.getElem?_map,hgk] at c0
   have c1:wr.cell? ⟨w.heap.size,k,none⟩=some (txt g):=c0
   rw [Zd5 hgk,List.any_cons] at hall
   have i1:(k:Int)<24:=by omega
   have i2:(0:Int)<=(k:Int):=by omega
   have wk:IntKind.i64.wrap ((k:Int)+1)=(k:Int)+1:=IntWalk.i64_in _ (by omega)
   have HK:=Lib.hid (And.intro hlt hg)
   have HA:=Lib.hid hall
   clear hall hg hgk c0
   by_cases R:g=s.data.toList
   ·have R0:(g==s.toList)=true:=by rw [Lib.toList_data];simpa using R
    have R2:=Lib.hid R
    clear R
    go_wp2_with fail
    go_ret
    exact ⟨ZaP (by rw [HA.out,beq_iff_eq.2 R2.out];rfl),HB.out.1⟩
   ·have R1:(g==s.toList)=false:=by rw [Lib.toList_data];simpa using R
    have R2:=Lib.hid R
    clear R
    go_wp2_with fail
    go_roundg (24-(k+1))
    case measure=>have:=HK.out;omega
    case rel=>exact ⟨k+1,by push_cast;rfl,by have:=HK.out;omega,rfl,by rw [HA.out,beq_eq_false_iff_ne.2 R2.out,Bool.false_or],rfl⟩
  ·obtain rfl:k=24:=by omega
   have HA:=Lib.hid hall
   clear hg hk hlt hall
   go_wp2_with fail
   go_ret
   exact ⟨ZaP (by rw [HA.out];rfl),HB.out.1⟩
theorem Zjc (s:ByteArray) (w:World) (h:s.data.toList=[]):Calls Tryz.prog 52 #[.string s] w (Zb6 w (.bool (ZaR s.data.toList))):=by
 have hs:s=⟨#[]⟩:=by
  apply ByteArray.ext
  apply Array.ext'
  exact h
 subst hs
 clear h
 go_enter Tryz.func52,Tryz.ntmps52
 go_wp2_with fail
 go_ret
 exact ⟨rfl,rfl⟩
theorem Zjb (s:ByteArray) (w:World) (hs:s.size<=maxLen) (ht:ZV w 3 Zx) :
  Calls Tryz.prog 52 #[.string s] w (Zb6 w (.bool (ZaR s.data.toList))):=by
 cases h:s.data.toList with
 | nil=>rw [<- h];exact Zjc s w h
 | cons c r=>
  have ka:=fun w (h:ZV w 3 Zx)=>ZjL s w h
  have sp:=fun w=>ZjS s w hs
  have la:=fun w=>Zec c.toNat w
  rw [ZdS] at la
  have h0:0<s.size:=by rw [<- ZcP,h];simp
  have hc:=Zgt h h0
  have m:=congrArg UInt8.toNat hc
  have e0:=Zid h
  have hlen:(c::r).length=s.size:=by rw [<- h,ZcP]
  have hn:ZaR (c::r)=(Zbp c&&decide (s.size<=16)&&decide (Za1 ZaV (c::r)=s.size)&&!Zck (c::r)):=by
   unfold ZaR
   rw [hlen]
  rw [h] at ka sp
  rw [hn]
  generalize Za1 ZaV (c::r)=q at *
  generalize Zck (c::r)=K at *
  generalize Zbp c=L at *
  have KA:=Lib.hid (ka w ht)
  have SP:=Lib.hid sp
  have LA:=Lib.hid la
  generalize c.toNat=cn at *
  clear ka sp la ht h hc hn hlen hs
  by_cases h16:s.size<=16
  ·have d16:(s.size:Int)<=16:=by omega
   by_cases hq:q=s.size
   ·have dq:((q:Int)==(s.size:Int))=true:=by rw [hq];exact beq_self_eq_true _
    have HQ:=Lib.hid (And.intro hq h16)
    clear hq
    cases L<;>cases K
    all_goals
     go_enter Tryz.func52,Tryz.ntmps52
     go_wp2_with (first | (go_at_call 73;(with_reducible refine (LA.out _).mono ?_);rintro e w1 ⟨rfl,rfl⟩) | (go_at_call 74;(with_reducible refine (SP.out _).mono ?_);rintro e w1 ⟨rfl,rfl⟩) | (go_at_call 76;(with_reducible refine KA.out.mono ?_);rintro e w1 ⟨rfl,rfl⟩))
     go_ret
     exact ⟨ZaP (by rw [decide_eq_true HQ.out.1,decide_eq_true HQ.out.2];rfl),rfl⟩
   ·have dq:((q:Int)==(s.size:Int))=false:=by simpa using fun e=>hq (by omega)
    have HQ:=Lib.hid (And.intro hq h16)
    clear hq
    cases L<;>cases K
    all_goals
     go_enter Tryz.func52,Tryz.ntmps52
     go_wp2_with (first | (go_at_call 73;(with_reducible refine (LA.out _).mono ?_);rintro e w1 ⟨rfl,rfl⟩) | (go_at_call 74;(with_reducible refine (SP.out _).mono ?_);rintro e w1 ⟨rfl,rfl⟩) | (go_at_call 76;(with_reducible refine KA.out.mono ?_);rintro e w1 ⟨rfl,rfl⟩))
     go_ret
     exact ⟨ZaP (by rw [decide_eq_false HQ.out.1,decide_eq_true HQ.out.2];rfl),rfl⟩
  ·have d16:¬ (s.size:Int)<=16:=by omega
   have HQ:=Lib.hid h16
   clear h16
   go_enter Tryz.func52,Tryz.ntmps52
   go_wp2_with (first | (go_at_call 73;(with_reducible refine (LA.out _).mono ?_);rintro e w1 ⟨rfl,rfl⟩) | (go_at_call 74;(with_reducible refine (SP.out _).mono ?_);rintro e w1 ⟨rfl,rfl⟩) | (go_at_call 76;(with_reducible refine KA.out.mono ?_);rintro e w1 ⟨rfl,rfl⟩))
   go_ret
   exact ⟨ZaP (by rw [decide_eq_false HQ.out];simp),rfl⟩
theorem Ziq (s:ByteArray) (w:World) (h:s.data.toList=[]):Calls Tryz.prog 34 #[.string s] w fun e w'=>e=.returned (.bool (ZaR s.data.toList))/\Below w.heap.size w w':=by
 have hs:s=⟨#[]⟩:=by
  apply ByteArray.ext
  apply Array.ext'
  exact h
 subst hs
 clear h
 go_enter Tryz.func34,Tryz.ntmps34
 go_wp2_with fail
 go_ret
 exact ⟨rfl,Below.refl _ _⟩
theorem Zip (s:ByteArray) (w:World) (hs:s.size<=maxLen) :
  Calls Tryz.prog 34 #[.string s] w fun e w'=>e=.returned (.bool (ZaR s.data.toList))/\Below w.heap.size w w':=by
 cases h:s.data.toList with
 | nil=>rw [<- h];exact Ziq s w h
 | cons c r=>
  have ka:=fun w=>Zjh s w
  have la:=fun w=>ZdG c.toNat w
  rw [ZdS] at la
  have h0:0<s.size:=by rw [<- ZcP,h];simp
  have hc:=Zgt h h0
  have m:=congrArg UInt8.toNat hc
  have z0:((s.size:Int)==0)=false:=by simpa using fun e=>by rw [e] at h0;cases h0
  have hlen:(c::r).length=s.size:=by rw [<- h,ZcP]
  have hn:ZaR (c::r)=(Zbp c&&decide (s.size<=16)&&decide (Za1 ZaV (c::r)=s.size)&&!Zck (c::r)):=by
   unfold ZaR
   rw [hlen]
  have hsp:Zbp c=true->Za1 ZaV s.data.toList=1+Za1 ZaV (s.data.toList.drop 1):=fun q=>by
   rw [h,Zda,if_pos (Zke q)]
   show _=1+Za1 ZaV r
   omega
  rw [hn,<- h]
  rw [<- h] at hn
  generalize hz:ZaR s.data.toList=z at *
  obtain ⟨p,hp⟩:∃ p,p=Za1 ZaV s.data.toList:=⟨_,rfl⟩
  rw [<- hp] at hsp hn ⊢
  rw [<- hn]
  generalize Zck s.data.toList=K at *
  generalize Zbp c=L at *
  have KA:=Lib.hid ka
  have LA:=Lib.hid la
  have HN:=Lib.hid (And.intro hn hsp)
  generalize c.toNat=cn at *
  unfold maxLen at hs
  clear ka la h hc hn hlen hz hp hsp
  by_cases h16:s.size<=16
  ·have d16:(s.size:Int)<=16:=by omega
   have H16:=Lib.hid h16
   cases L
   ·clear h16
    go_enter Tryz.func34,Tryz.ntmps34
    go_wp2_with (go_at_call 48;(with_reducible refine (LA.out _).mono ?_);rintro e w1 ⟨rfl,rfl⟩)
    go_ret
    exact ⟨ZaP (by rw [HN.out.1];rfl),Below.refl _ _⟩
   ·clear h16
    go_enter Tryz.func34,Tryz.ntmps34
    go_wp2_with (go_at_call 48;(with_reducible refine (LA.out _).mono ?_);rintro e w1 ⟨rfl,rfl⟩)
    clear m LA
    go_loopg [3] (s.size-1) (fun g v3 wr=>∃ k:Nat,v3=.int .i64 k/\k<=s.size/\g=s.size-k/\p=k+Za1 ZaV (s.data.toList.drop k)/\wr=w)
    case atStart=>exact ⟨1,rfl,h0,rfl,HN.out.2 trivial,rfl⟩
    case round=>
     obtain ⟨k,rfl,hk,hg,hall,rfl⟩:=hrel
     have HA:=Lib.hid hall
     clear hall
     by_cases hlt:k<s.size
     ·have hb:=Zes hlt
      have lj:=fun w=>ZdG s[k].toNat w
      have dj:=fun w=>Zhk s[k].toNat w
      rw [ZdS] at lj
      rw [Zi3] at dj
      have i1:(k:Int)<(s.size:Int):=by omega
      have i2:(0:Int)<=(k:Int):=by omega
      have wk:IntKind.i64.wrap ((k:Int)+1)=(k:Int)+1:=IntWalk.i64_in _ (by omega)
      by_cases hld:ZaV s[k]=true
      ·have S1:=Lib.hid (Ze4 (p:=ZaV) hb hld)
       rcases Zi7 hld with q | ⟨q,q2⟩
       ·rw [q] at lj
        have LJ:=Lib.hid lj
        have HL:=Lib.hid (And.intro hlt hg)
        clear lj dj hld q hb hg
        go_wp2_with (go_at_call 48;(with_reducible refine (LJ.out _).mono ?_);rintro e w1 ⟨rfl,rfl⟩)
        go_roundg (s.size-(k+1))
        case measure=>have:=HL.out;omega
        case rel=>exact ⟨k+1,by push_cast;rfl,by have:=HL.out;omega,rfl,by have:=S1.out;have:=HA.out;omega,rfl⟩
       ·rw [q] at lj
        rw [q2] at dj
        have LJ:=Lib.hid lj
        have DJ:=Lib.hid dj
        have HL:=Lib.hid (And.intro hlt hg)
        clear lj dj hld q q2 hb hg
        go_wp2_with (first | (go_at_call 48;(with_reducible refine (LJ.out _).mono ?_);rintro e w1 ⟨rfl,rfl⟩) | (go_at_call 49;(with_reducible refine (DJ.out _).mono ?_);rintro e w1 ⟨rfl,rfl⟩))
        go_roundg (s.size-(k+1))
        case measure=>have:=HL.out;omega
        case rel=>exact ⟨k+1,by push_cast;rfl,by have:=HL.out;omega,rfl,by have:=S1.out;have:=HA.out;omega,rfl⟩
      ·have hld:ZaV s[k]=false:=by simpa using hld
       have S0:=ZfW (p:=ZaV) hb hld
       obtain ⟨q,q2⟩:=Zkd hld
       rw [q] at lj
       rw [q2] at dj
       have LJ:=Lib.hid lj
       have DJ:=Lib.hid dj
       have FZ:=Lib.hid (show z=false from by
        have:=HA.out
        rw [HN.out.1,decide_eq_false (show ¬ p=s.size by omega)]
        simp)
       clear lj dj hld q q2 hb hg S0
       go_wp2_with (first | (go_at_call 48;(with_reducible refine (LJ.out _).mono ?_);rintro e w1 ⟨rfl,rfl⟩) | (go_at_call 49;(with_reducible refine (DJ.out _).mono ?_);rintro e w1 ⟨rfl,rfl⟩))
       go_ret
       exact ⟨ZaP FZ.out.symm,Below.refl _ _⟩
     ·obtain rfl:k=s.size:=by omega
      have S0:=Ze3 (p:=ZaV) (Nat.le_of_eq (ZcP s))
      have FZ:=Lib.hid (show z=!K from by
       have:=HA.out
       rw [HN.out.1,decide_eq_true (show p=s.size by omega),decide_eq_true H16.out]
       rfl)
      clear S0 hlt hk hg
      go_wp2_with (go_at_call 50;(with_reducible refine (KA.out _).mono ?_);rintro e w1 ⟨rfl,hb1⟩)
      go_ret
      exact ⟨ZaP FZ.out.symm,hb1⟩
  ·have d16:¬ (s.size:Int)<=16:=by omega
   have FZ:=Lib.hid (show z=false from by rw [HN.out.1,decide_eq_false h16];simp)
   clear h16
   go_enter Tryz.func34,Tryz.ntmps34
   go_wp2_with fail
   go_ret
   exact ⟨ZaP FZ.out.symm,Below.refl _ _⟩
end
section
open Go.RowKit
structure Nd where
 kind:Int
 words:List (List UInt8)
 nums:List Int
 kids:List Int
 pos:Int
deriving DecidableEq
def nd0:Nd:=⟨0,[],[],[],0⟩
def Ze (ns:List Nd) (k:Int):Nd:=(ns[k.toNat]?).getD nd0
def Zq (ns:List Nd) (k:Int):Int:=(Ze ns k).kind
def atI (p:List Int) (k:Int):Int:=(p[k.toNat]?).getD (-1)
def ZaD (n at_:Nat):List Int->List Int->Option (List Int)
 | [],p=>some p
 | k::r,p=>if k<=(at_:Int)\/(n:Int)<=k\/0<=atI p k then none else ZaD n at_ r (p.set k.toNat at_)
def ZaO (ns:List Nd):Nat->Option (List Int)
 | 0=>some (List.replicate ns.length (-1))
 | j+1=>(ZaO ns j).bind fun p=>if 0<j/\atI p j<0 then none else ZaD ns.length j (Ze ns j).kids p
def ZaL (ns:List Nd):Option (List Int):=if ns.length=0\/1500<ns.length then none else ZaO ns ns.length
def Zbq (p:List Int):Nat->List Int
 | 0=>[]
 | j+1=>Zbq p j++[if 0<=atI p j then 1+atI (Zbq p j) (atI p j) else 1]
def Zay (p:List Int):List Int:=Zbq p p.length
def ZbV:List Int->Int
 | []=>0
 | x::r=>r.foldl max x
def Zbk (k:Int):Bool:=decide (8<=k)&&decide (k<=19)&&!(k==12)&&!(k==15)
def ZE (k:Int):Bool:=decide (20<=k)&&decide (k<=23)
def ZbF (k:Int):Bool:=k==15||ZE k
def Zbr (ws:List (List UInt8)):Bool:=ws.all ZaR
def ZaK (l:List Int):Bool:=l.all fun x=>decide (0<=x)&&decide (x<1000000000000000000)
def Zo (n:Nd) (w m:Nat):Bool:=decide (n.words.length=w)&&decide (n.nums.length=m)
def isB (ks:List Int) (k:Int):Bool:=ks.contains k
def ZQ (ns:List Nd) (kids:List Int) (f:Int->Bool):Bool:=kids.all fun k=>f (Zq ns k)
def Zk (ns:List Nd):List Int->List (Int->Bool)->Bool
 | [],[]=>true
 | k::r,f::g=>f (Zq ns k)&&Zk ns r g
 | _,_=>false
def Zac (ns:List Nd) (k:Int):Int:=match (Ze ns k).nums with
 | []=>-1
 | x::_=>x
def ZY (ns:List Nd):List Int->Bool
 | []=>true
 | [_]=>true
 | a::b::r=>decide (Zac ns a<Zac ns b)&&ZY ns (b::r)
def num (n:Nd) (k:Nat):Int:=(n.nums[k]?).getD 0
def ZbI (n:Nd):Bool:=decide (1<=num n 1)&&decide (1<=num n 2)
def Za7 (ns:List Nd) (n:Nd):Bool:=decide (num n 0<=4)&&((num n 1==0&&num n 2==0)||ZbI n)&&ZQ ns n.kids (isB [6])&&ZY ns n.kids
def Zcp (ns:List Nd) (n:Nd):Bool:=
 !(num n 0==0)&&decide (num n 0<=4)&&ZbI n&&(Zk ns n.kids [isB [7]]||Zk ns n.kids [isB [6],isB [7]]&&Zac ns (atI n.kids 0)==2)
def Zl (ns:List Nd) (n:Nd):Bool:=
 if n.kind=0 then Zo n 0 0&&ZQ ns n.kids (isB [1,4])
 else if n.kind=1 then Zo n 1 0&&ZQ ns n.kids (isB [2,3])
 else if n.kind=2 then Zo n 1 1&&decide (num n 0<=1)&&Zk ns n.kids []
 else if n.kind=3 then decide (4<=n.words.length)&&decide (n.words.length % 2=0)&&Zo n n.words.length 0&&Zk ns n.kids []
 else if n.kind=4 then Zo n 1 0&&ZQ ns (n.kids.take (n.kids.length-1)) (isB [5])&&Zk ns (n.kids.drop (n.kids.length-1)) [isB [7]]
 else if n.kind=5 then Zo n 1 0&&Zk ns n.kids []||Zo n 2 3&&Za7 ns n
 else if n.kind=6 then decide (1<=n.words.length)&&Zo n n.words.length 1&&decide (num n 0<=2)&&Zk ns n.kids []
 else if n.kind=7 then Zo n 0 0&&ZQ ns n.kids Zbk
 else if n.kind=8\/n.kind=9 then Zo n 1 0&&Zk ns n.kids [ZE]
 else if n.kind=10 then Zo n 2 0&&Zk ns n.kids [isB [7],isB [7]]
 else if n.kind=11 then Zo n 2 0&&ZQ ns n.kids (isB [12])
 else if n.kind=12 then Zo n 1 0&&Zk ns n.kids [isB [7]]
 else if n.kind=13 then Zo n 2 3&&Zcp ns n
 else if n.kind=14 then (Zo n 1 0||Zo n 2 0)&&ZQ ns n.kids ZbF
 else if n.kind=15\/n.kind=21 then Zo n 1 0&&Zk ns n.kids []
 else if n.kind=16 then Zo n 0 0&&(Zk ns n.kids [ZE,isB [7]]||Zk ns n.kids [ZE,isB [7],isB [7]])
 else if n.kind=17 then Zo n 0 0&&Zk ns n.kids [ZE,isB [7]]
 else if n.kind=18\/n.kind=23 then Zo n 0 0&&Zk ns n.kids [ZE]
 else if n.kind=19 then Zo n 0 0&&Zk ns n.kids []
 else if n.kind=20 then Zo n 0 1&&Zk ns n.kids []
 else if n.kind=22 then Zo n 0 1&&decide (num n 0<=5)&&Zk ns n.kids [ZE,ZE]
 else false
def Zw (ns:List Nd) (n:Nd):Bool:=Zbr n.words&&ZaK n.nums&&Zl ns n
def ZaI (ns:List Nd):Bool:=match ZaL ns with
 | none=>false
 | some p=>Zq ns 0==0&&decide (ZbV (Zay p)<=24)&&ns.all (Zw ns)
def Zcd (ns:List Nd):Nat->Int->List Int
 | 0,k=>[k]
 | d+1,k=>k::(Ze ns k).kids.flatMap (Zcd ns d)
end
section
open Go.RowKit
def Zad (w:World) (v:Value) (l:List Int):Prop:=∃ A c,v=.slice A l.length c/\l.length<=c/\c<=maxLen/\ZB w w.heap.size 1 A l.length (l.map (Value.int .i64))
theorem Zad.below {w w':World} {v:Value} {l:List Int} (h:Zad w v l) (hb:Below w.heap.size w w'):Zad w' v l:=by
 obtain ⟨A,c,h1,h2,h3,h4⟩:=h
 exact ⟨A,c,h1,h2,h3,(h4.below hb).more hb.size⟩
theorem Zad.nil (w:World):Zad w (.slice none 0 0) []:=⟨none,0,rfl,Nat.le_refl _,by decide,ZB.none_⟩
theorem Zad.len {w:World} {v:Value} {l:List Int} (h:Zad w v l):l.length<=maxLen:=by
 obtain ⟨_,_,_,a,b,_⟩:=h
 omega
theorem Zp {w wr:World} {A:Option Addr} {n k:Nat} {l:List Int} {x:Int} (h4:ZB w w.heap.size 1 A n (l.map (Value.int .i64))) (hb:Below w.heap.size w wr) (hx:l[k]? = some x) (hn:0<n) :
  ∃ ad,A=some ad/\wr.cell? (ad.add k)=some (.int .i64 x):=by
 obtain ⟨ad,e,hbk,hc⟩:=h4.2 hn
 exact ⟨ad,e,(hb.cell (p:=ad.add k) (by rw [Zan];exact hbk)).trans (hc k _ (by rw [List.getElem?_map,hx];rfl))⟩
def Zbf (w:World) (v:Value) (l:List (List UInt8)):Prop:=∃ A c,v=.slice A l.length c/\l.length<=c/\c<=maxLen/\ZB w w.heap.size 1 A l.length (l.map txt)/\∀ s∈l,s.length<=maxLen
theorem Zbf.below {w w':World} {v:Value} {l:List (List UInt8)} (h:Zbf w v l) (hb:Below w.heap.size w w'):Zbf w' v l:=by
 obtain ⟨A,c,h1,h2,h3,h4,h5⟩:=h
 exact ⟨A,c,h1,h2,h3,(h4.below hb).more hb.size,h5⟩
theorem Zbf.nil (w:World):Zbf w (.slice none 0 0) []:=⟨none,0,rfl,Nat.le_refl _,by decide,ZB.none_,fun s hs=>by cases hs⟩
theorem Zbf.len {w:World} {v:Value} {l:List (List UInt8)} (h:Zbf w v l):l.length<=maxLen:=by
 obtain ⟨_,_,_,a,b,_⟩:=h
 omega
theorem ZaH {w wr:World} {A:Option Addr} {n k:Nat} {l:List (List UInt8)} {x:List UInt8} (h4:ZB w w.heap.size 1 A n (l.map txt)) (hb:Below w.heap.size w wr) (hx:l[k]? = some x) (hn:0<n) :
  ∃ ad,A=some ad/\wr.cell? (ad.add k)=some (txt x):=by
 obtain ⟨ad,e,hbk,hc⟩:=h4.2 hn
 exact ⟨ad,e,(hb.cell (p:=ad.add k) (by rw [Zan];exact hbk)).trans (hc k _ (by rw [List.getElem?_map,hx];rfl))⟩
abbrev NdV:=Value×Value×Value
def ZL:List (NdV×Nd)->List Value
 | []=>[]
 | x::r=>.int .i64 x.2.kind::x.1.1::x.1.2.1::x.1.2.2::.int .i64 x.2.pos::ZL r
theorem ZbK:∀ l,(ZL l).length=l.length*5
 | []=>rfl
 | x::r=>by
  simp only [ZL,List.length_cons,ZbK r]
  omega
theorem Zcx:∀ (l m:List (NdV×Nd)),ZL (l++m)=ZL l++ZL m
 | [],m=>rfl
 | x::r,m=>by rw [List.cons_append,ZL,ZL,Zcx r m];rfl
theorem Zdp:∀ (l:List (NdV×Nd)) (k:Nat) (x:NdV×Nd),l[k]? = some x->(ZL l)[k*5]? = some (.int .i64 x.2.kind)/\(ZL l)[k*5+1]? = some x.1.1/\(ZL l)[k*5+2]? = some x.1.2.1/\(ZL l)[k*5+3]? = some x.1.2.2/\(ZL l)[k*5+4]? = some (.int .i64 x.2.pos)
 | [],k,x,h=>by simp at h
 | y::r,0,x,h=>by
  obtain rfl:y=x:=by simpa using h
  exact ⟨rfl,rfl,rfl,rfl,rfl⟩
 | y::r,k+1,x,h=>by
  rw [List.getElem?_cons_succ] at h
  obtain ⟨a,b,c,d,e⟩:=Zdp r k x h
  exact ⟨by rw [show (k+1)*5=k*5+1+1+1+1+1 by omega];exact a,by rw [show (k+1)*5+1=k*5+1+1+1+1+1+1 by omega];exact b,by rw [show (k+1)*5+2=k*5+2+1+1+1+1+1 by omega];exact c,by rw [show (k+1)*5+3=k*5+3+1+1+1+1+1 by omega];exact d,by rw [show (k+1)*5+4=k*5+4+1+1+1+1+1 by omega];exact e⟩
def Zv (w:World) (x:NdV×Nd):Prop:=Zbf w x.1.1 x.2.words/\Zad w x.1.2.1 x.2.nums/\Zad w x.1.2.2 x.2.kids
theorem Zv.below {w w':World} {x:NdV×Nd} (h:Zv w x) (hb:Below w.heap.size w w'):Zv w' x:=⟨h.1.below hb,h.2.1.below hb,h.2.2.below hb⟩
def Zf (w:World) (v:Value) (ns:List Nd):Prop:=
 ∃ A c rs,v=.slice A ns.length c/\ns.length<=c/\c<=maxLen/\rs.map (·.2)=ns/\ZB w w.heap.size 5 A ns.length (ZL rs)/\∀ x∈rs,Zv w x
theorem Zf.below {w w':World} {v:Value} {ns:List Nd} (h:Zf w v ns) (hb:Below w.heap.size w w'):Zf w' v ns:=by
 obtain ⟨A,c,rs,h1,h2,h3,h4,h5,h6⟩:=h
 exact ⟨A,c,rs,h1,h2,h3,h4,(h5.below hb).more hb.size,fun x hx=>(h6 x hx).below hb⟩
theorem Zf.nil (w:World):Zf w (.slice none 0 0) []:=⟨none,0,[],rfl,Nat.le_refl _,by decide,rfl,ZB.none_,fun x hx=>by cases hx⟩
theorem ZK {w wr:World} {A:Option Addr} {n k:Nat} {rs:List (NdV×Nd)} {x:NdV×Nd} (h4:ZB w w.heap.size 5 A n (ZL rs)) (hb:Below w.heap.size w wr) (hx:rs[k]? = some x) (hn:0<n) :
  ∃ ad,A=some ad/\wr.cell? (ad.add (k*5))=some (.int .i64 x.2.kind)/\wr.cell? ⟨(ad.add (k*5)).block,(ad.add (k*5)).off+1,none⟩=some x.1.1/\wr.cell? ⟨(ad.add (k*5)).block,(ad.add (k*5)).off+2,none⟩=some x.1.2.1/\wr.cell? ⟨(ad.add (k*5)).block,(ad.add (k*5)).off+3,none⟩=some x.1.2.2/\wr.cell? ⟨(ad.add (k*5)).block,(ad.add (k*5)).off+4,none⟩=some (.int .i64 x.2.pos):=by
 obtain ⟨ad,e,hbk,hc⟩:=h4.2 hn
 obtain ⟨a,b,c,d,f⟩:=Zdp rs k x hx
 have d0:=(hb.cell (p:=ad.add (k*5)) (by rw [Zan];exact hbk)).trans (hc _ _ a)
 have d1:=(hb.cell (p:=ad.add (k*5+1)) (by rw [Zan];exact hbk)).trans (hc _ _ b)
 have d2:=(hb.cell (p:=ad.add (k*5+2)) (by rw [Zan];exact hbk)).trans (hc _ _ c)
 have d3:=(hb.cell (p:=ad.add (k*5+3)) (by rw [Zan];exact hbk)).trans (hc _ _ d)
 have d4:=(hb.cell (p:=ad.add (k*5+4)) (by rw [Zan];exact hbk)).trans (hc _ _ f)
 rw [<- Zcj] at d1 d2 d3 d4
 exact ⟨ad,e,d0,d1,d2,d3,d4⟩
end
section
abbrev Txt:=List UInt8
def ZD (n:Nd) (k:Nat):Txt:=(n.words[k]?).getD []
def ZP (ns:List Nd) (n:Nd) (k:Nat):Nd:=Ze ns (atI n.kids k)
def ZbT (n:Int):Txt:=Lib.itoa n
def Zaq (k:Int):Txt:=if k=0 then [32,60,32] else if k=1 then [32,61,61,32] else if k=2 then [32,43,32] else if k=3 then [32,45,32] else if k=4 then [32,42,32] else [32,47,32]
def Zaz (k:Int):Txt:=if k=0 then [117,110,105,113,117,101] else if k=1 then [102,117,108,108] else if k=2 then [115,104,97,114,101] else if k=3 then [105,109,109] else [112,117,114,101]
def Zbd (k:Int):Txt:=if k=0 then [32,97,116,32] else if k=1 then [32,116,111,32] else [32,105,110,32]
def ZO (n:Nd):Nat:=if n.kind=22 then (if num n 0<=1 then 0 else if num n 0<=3 then 1 else 2) else 3
def ZS (by_:Txt):List Txt->Txt
 | []=>[]
 | [x]=>x
 | x::y::r=>x++by_++ZS by_ (y::r)
def ZbG (d:Nat):Txt:=List.replicate (2*d) 32
def Zav (d:Nat) (ls:List Txt):Txt:=(ls.map fun x=>ZbG d++x++[10]).flatten
def ZA (d:Nat) (ls:List Txt):Txt:=match ls with
 | []=>[32,123,32,125]
 | _=>[32,123,10]++Zav (d+1) ls++ZbG d++[125]
def Zu (ns:List Nd):Nat->Nd->Txt
 | 0,_=>[]
 | f+1,n=>
  let op:=fun (m:Nd) (least:Nat)=>if least<=ZO m then Zu ns f m else [40]++Zu ns f m++[41]
  if n.kind=20 then ZbT (num n 0)
  else if n.kind=21 then ZD n 0
  else if n.kind=23 then [45]++op (ZP ns n 0) 3
  else if n.kind=22 then op (ZP ns n 0) (max (ZO n) 1)++Zaq (num n 0)++op (ZP ns n 1) (ZO n+1)
  else []
def Zai (n:Nd):Txt:=Zbd (num n 0)++ZS [124] n.words
def Zbo (n d:Int):Txt:=ZbT n++[47]++ZbT d
def ZaS (ns:List Nd) (n:Nd):Txt:=
 ZD n 0++(if n.words.length=1 then [] else [58,32]++ZD n 1++[32]++Zaz (num n 0)++(if 0<num n 2 then [32,108,101,97,115,116,32]++Zbo (num n 1) (num n 2) else [])++(n.kids.map fun k=>Zai (Ze ns k)).flatten)
def Zap:List Txt->List Txt
 | a::b::r=>(a++[32]++b)::Zap r
 | _=>[]
def ZaX (n:Nd):Txt:=
 (if n.kind=3 then [111,112,32]++ZD n 0++[32]++ZD n 1++[32,45,62,32]++ZS [44,32] (Zap (n.words.drop 2))
  else if num n 0=0 then [115,116,97,116,101,32]++ZD n 0 else [102,105,110,97,108,32]++ZD n 0)++[59]
def Zcf (ns:List Nd) (f:Nat) (n:Nd):Txt:=ZD n 0++[32,61,32]++Zu ns f (ZP ns n 0)++[59]
def ZaU (ns:List Nd) (f:Nat) (n:Nd):Txt:=if n.kind=15 then [38]++ZD n 0 else Zu ns f n
def Zi (ns:List Nd):Nat->Nat->Nd->Txt
 | 0,_,_=>[]
 | f+1,d,n=>
  let block:=fun (e:Nat) (m:Nd)=>ZA e (m.kids.map fun k=>Zi ns f (e+1) (Ze ns k))
  if n.kind=8 then [108,101,116,32]++Zcf ns f n
  else if n.kind=9 then Zcf ns f n
  else if n.kind=10 then [111,112,101,110,32]++ZD n 0++[32]++ZD n 1++ZS [32,101,108,115,101] (n.kids.map fun k=>block d (Ze ns k))
  else if n.kind=11 then [100,111,32]++ZD n 0++[46]++ZD n 1++(if n.kids=[] then [59] else ZA d (n.kids.map fun k=>ZD (Ze ns k) 0++block (d+1) (ZP ns (Ze ns k) 0)))
  else if n.kind=13 then [115,112,108,105,116,32]++ZD n 0++[32,61,32]++ZD n 1++[32]++Zaz (num n 0)++[32]++Zbo (num n 1) (num n 2)++((n.kids.take (n.kids.length-1)).map fun k=>Zai (Ze ns k)).flatten++block d (ZP ns n (n.kids.length-1))
  else if n.kind=14 then [99,97,108,108,32]++(if n.words.length=2 then ZD n 1++[32,61,32] else [])++ZD n 0++[40]++ZS [44,32] (n.kids.map fun k=>ZaU ns f (Ze ns k))++[41,59]
  else if n.kind=16 then [105,102,32]++Zu ns f (ZP ns n 0)++ZS [32,101,108,115,101] ((n.kids.drop 1).map fun k=>block d (Ze ns k))
  else if n.kind=17 then [119,104,105,108,101,32]++Zu ns f (ZP ns n 0)++block d (ZP ns n 1)
  else if n.kind=18 then [114,101,116,117,114,110,32]++Zu ns f (ZP ns n 0)++[59]
  else if n.kind=19 then [101,120,105,116,59]
  else []
def ZaE (ns:List Nd) (f:Nat) (n:Nd):Txt:=
 if n.kind=1 then [112,114,111,116,111,32]++ZD n 0++ZA 0 (n.kids.map fun k=>ZaX (Ze ns k))
 else [102,110,32]++ZD n 0++[40]++ZS [44,32] ((n.kids.take (n.kids.length-1)).map fun k=>ZaS ns (Ze ns k))++[41]++ZA 0 ((ZP ns n (n.kids.length-1)).kids.map fun k=>Zi ns f 1 (Ze ns k))
def ZaT (ns:List Nd):Txt:=if ZaI ns then Zav 0 ((Ze ns 0).kids.map fun k=>ZaE ns ns.length (Ze ns k)) else []
end
end Go.Proofs.YtenbomphkihmlaaGreatDoor
