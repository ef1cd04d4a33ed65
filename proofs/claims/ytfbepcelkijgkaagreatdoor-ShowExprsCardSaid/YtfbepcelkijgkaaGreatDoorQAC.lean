import Derived.Shelf.Strings.Builder1
import Derived.Shelf.Strings.Builder2
import Derived.Shelf.Strings.OnBuilder
import Derived.Shelf.Strings.BuilderF
import Derived.Shelf.Strings.BuilderK
import Derived.Shelf.Strings.Builder2Cap
import Derived.Shelf.Strconv.Itoa0
import Derived.Shelf.Strconv.Itoa1
import Derived.Shelf.LaysM
import Derived.Shelf.Strconv.Itoa2
import Derived.Shelf.Strconv.AppendUint10
import Derived.Shelf.Strconv.AppendInt10
import Derived.Shelf.Strconv.AppendIntPublic10
import Derived.Shelf.Bits.Mul64
import Derived.Shelf.Strings.BuilderCap
import Derived.Shelf.Slices.Turned
import Derived.Test.YtfbepcelkijgkaaGreatDoorProg
import Derived.Lib.PathFns
import Derived.Lib.IndexBytes
import Derived.OneCell
import Derived.StillTailTactics
import Derived.BigRegion
import Derived.Deep.RegionHeld3
import Derived.Deep.Cut
import Derived.Test.YtfbepcelkijgkaaGreatDoorQAB
set_option maxRecDepth 100000
set_option maxHeartbeats 8000000
open Option renaming some → Ya
open Go.Value renaming int → Yd
open Go.IntKind renaming i64 → Yf
open Go renaming World → Yh
namespace Go.Proofs.YtfbepcelkijgkaaGreatDoor
end Go.Proofs.YtfbepcelkijgkaaGreatDoor
namespace Go.Proofs
open Go.Shelf
def Tryz.lays156_ren:Go.Shelf.Ren:=⟨fun|156=>89|165=>116|166=>117|169=>118|240=>130|241=>131|276=>138|277=>139|n=>n,fun|31=>33|9=>9|3=>3|4=>4|0=>0|20=>20|72=>123|76=>126|70=>121|37=>43|75=>125|127=>133|164=>141|5=>5|80=>93|n=>n,fun|n=>n⟩
theorem Tryz.lays156:Go.Proofs.Lays.n156 Tryz.prog Tryz.lays156_ren:={
 mixed:=by kernel_rfl
 f156:=Tryz.func89.trans (congrArg Ya (by kernel_rfl))
 f165:=Tryz.func116.trans (congrArg Ya (by kernel_rfl))
 f166:=Tryz.func117.trans (congrArg Ya (by kernel_rfl))
 f169:=Tryz.func118.trans (congrArg Ya (by kernel_rfl))
 f240:=Tryz.func130.trans (congrArg Ya (by kernel_rfl))
 f241:=Tryz.func131.trans (congrArg Ya (by kernel_rfl))
 f276:=Tryz.func138.trans (congrArg Ya (by kernel_rfl))
 f277:=Tryz.func139.trans (congrArg Ya (by kernel_rfl))
 t0:=Tryz.underlying0
 a0:=Tryz.isAgg0
 z0:=Tryz.sizeOf0
 v0:=Tryz.zeroValue0
 t3:=Tryz.underlying3
 a3:=Tryz.isAgg3
 z3:=Tryz.sizeOf3
 v3:=Tryz.zeroValue3
 t4:=Tryz.underlying4
 a4:=Tryz.isAgg4
 z4:=Tryz.sizeOf4
 v4:=Tryz.zeroValue4
 t9:=Tryz.underlying9
 a9:=Tryz.isAgg9
 z9:=Tryz.sizeOf9
 v9:=Tryz.zeroValue9
 t20:=Tryz.underlying20
 a20:=Tryz.isAgg20
 z20:=Tryz.sizeOf20
 v20:=Tryz.zeroValue20
 t31:=Tryz.underlying33
 a31:=Tryz.isAgg33
 z31:=Tryz.sizeOf33
 v31:=Tryz.zeroValue33
 t37:=Tryz.underlying43
 a37:=Tryz.isAgg43
 z37:=Tryz.sizeOf43
 v37:=Tryz.zeroValue43
 t70:=Tryz.underlying121
 a70:=Tryz.isAgg121
 z70:=Tryz.sizeOf121
 v70:=Tryz.zeroValue121
 t72:=Tryz.underlying123
 a72:=Tryz.isAgg123
 z72:=Tryz.sizeOf123
 v72:=Tryz.zeroValue123
 t75:=Tryz.underlying125
 a75:=Tryz.isAgg125
 z75:=Tryz.sizeOf125
 v75:=Tryz.zeroValue125
 t76:=Tryz.underlying126
 a76:=Tryz.isAgg126
 z76:=Tryz.sizeOf126
 v76:=Tryz.zeroValue126
 t127:=Tryz.underlying133
 a127:=Tryz.isAgg133
 z127:=Tryz.sizeOf133
 v127:=Tryz.zeroValue133
 t164:=Tryz.underlying141
 a164:=Tryz.isAgg141
 z164:=Tryz.sizeOf141
 v164:=Tryz.zeroValue141 }
theorem Tryz.Builder_Extra_156:Builder.Extra Tryz.prog Tryz.lays156_ren:={
 sizeBuilder:=by kernel_rfl
 liesBuilder:=by kernel_rfl
 t5:=Tryz.underlying5
 a5:=Tryz.isAgg5
 z5:=Tryz.sizeOf5
 v5:=Tryz.zeroValue5
 infoByte:=by kernel_rfl
 cellsByte:=by kernel_rfl
 sizeByte:=by kernel_rfl
 neB5:=by decide }
open Go.RowKit in
theorem Tryz.strings_Join (h o c:Nat) (d:List ByteArray) (b:ByteArray) (w:Yh) (a:∀(j:Nat) x,d[j]? = Ya x->w.cell? ⟨h,o+j,none⟩=Ya (.string x)) (i:h<w.heap.size) (k:d.length<=140737488355328) (f:d.length<=c) (g:(Lib.join (d.map (·.data.toList)) b.data.toList).length<=140737488355328) :
  Calls Tryz.prog 89 #[.slice (Ya ⟨h,o,none⟩) d.length c,.string b] w fun e w'=>e=.returned (.string ⟨(Lib.join (d.map (·.data.toList)) b.data.toList).toArray⟩)/\Below w.heap.size w w':=Any.strings_Join Tryz.lays156 Tryz.Builder_Extra_156 h o c d b w a i k f g
def Tryz.laysM176_ren:Go.Shelf.Ren:=⟨fun|176=>77|249=>102|288=>126|283=>134|284=>135|285=>136|286=>137|129=>142|317=>141|318=>143|319=>144|320=>145|337=>147|338=>148|n=>n,fun|37=>43|2=>2|3=>3|53=>112|4=>4|9=>9|171=>136|0=>0|173=>139|212=>146|51=>109|5=>5|20=>20|213=>147|46=>95|232=>150|233=>151|n=>n,fun|17=>4|18=>6|19=>7|n=>n⟩
theorem Tryz.laysM176:Go.Proofs.LaysM.n176 Tryz.prog Tryz.laysM176_ren:={
 mixed:=by kernel_rfl
 f129:=Tryz.func142.trans (congrArg Ya (by kernel_rfl))
 f176:=Tryz.func77.trans (congrArg Ya (by kernel_rfl))
 f249:=Tryz.func102.trans (congrArg Ya (by kernel_rfl))
 f283:=Tryz.func134.trans (congrArg Ya (by kernel_rfl))
 f284:=Tryz.func135.trans (congrArg Ya (by kernel_rfl))
 f285:=Tryz.func136.trans (congrArg Ya (by kernel_rfl))
 f286:=Tryz.func137.trans (congrArg Ya (by kernel_rfl))
 f288:=Tryz.func126.trans (congrArg Ya (by kernel_rfl))
 f317:=Tryz.func141.trans (congrArg Ya (by kernel_rfl))
 f318:=Tryz.func143.trans (congrArg Ya (by kernel_rfl))
 f319:=Tryz.func144.trans (congrArg Ya (by kernel_rfl))
 f320:=Tryz.func145.trans (congrArg Ya (by kernel_rfl))
 f337:=Tryz.func147.trans (congrArg Ya (by kernel_rfl))
 f338:=Tryz.func148.trans (congrArg Ya (by kernel_rfl))
 t0:=Tryz.underlying0
 a0:=Tryz.isAgg0
 z0:=Tryz.sizeOf0
 v0:=Tryz.zeroValue0
 t2:=Tryz.underlying2
 a2:=Tryz.isAgg2
 z2:=Tryz.sizeOf2
 v2:=Tryz.zeroValue2
 t3:=Tryz.underlying3
 a3:=Tryz.isAgg3
 z3:=Tryz.sizeOf3
 v3:=Tryz.zeroValue3
 t4:=Tryz.underlying4
 a4:=Tryz.isAgg4
 z4:=Tryz.sizeOf4
 v4:=Tryz.zeroValue4
 t5:=Tryz.underlying5
 a5:=Tryz.isAgg5
 z5:=Tryz.sizeOf5
 v5:=Tryz.zeroValue5
 t9:=Tryz.underlying9
 a9:=Tryz.isAgg9
 z9:=Tryz.sizeOf9
 v9:=Tryz.zeroValue9
 t20:=Tryz.underlying20
 a20:=Tryz.isAgg20
 z20:=Tryz.sizeOf20
 v20:=Tryz.zeroValue20
 t37:=Tryz.underlying43
 a37:=Tryz.isAgg43
 z37:=Tryz.sizeOf43
 v37:=Tryz.zeroValue43
 t46:=Tryz.underlying95
 a46:=Tryz.isAgg95
 z46:=Tryz.sizeOf95
 v46:=Tryz.zeroValue95
 t51:=Tryz.underlying109
 a51:=Tryz.isAgg109
 z51:=Tryz.sizeOf109
 v51:=Tryz.zeroValue109
 t53:=Tryz.underlying112
 a53:=Tryz.isAgg112
 z53:=Tryz.sizeOf112
 v53:=Tryz.zeroValue112
 t171:=Tryz.underlying136
 a171:=Tryz.isAgg136
 z171:=Tryz.sizeOf136
 v171:=Tryz.zeroValue136
 t173:=Tryz.underlying139
 a173:=Tryz.isAgg139
 z173:=Tryz.sizeOf139
 v173:=Tryz.zeroValue139
 t212:=Tryz.underlying146
 a212:=Tryz.isAgg146
 z212:=Tryz.sizeOf146
 v212:=Tryz.zeroValue146
 t213:=Tryz.underlying147
 a213:=Tryz.isAgg147
 z213:=Tryz.sizeOf147
 t232:=Tryz.underlying150
 a232:=Tryz.isAgg150
 z232:=Tryz.sizeOf150
 v232:=Tryz.zeroValue150
 t233:=Tryz.underlying151
 a233:=Tryz.isAgg151
 z233:=Tryz.sizeOf151
 v233:=Tryz.zeroValue151
 g17:=by kernel_rfl
 g18:=by kernel_rfl
 g19:=by kernel_rfl
 i0:=by kernel_rfl
 i2:=by kernel_rfl
 i3:=by kernel_rfl
 i4:=by kernel_rfl
 i5:=by kernel_rfl
 i9:=by kernel_rfl
 i20:=by kernel_rfl
 i37:=by kernel_rfl
 i46:=by kernel_rfl
 i51:=by kernel_rfl
 i53:=by kernel_rfl
 i171:=by kernel_rfl
 i173:=by kernel_rfl
 i212:=by kernel_rfl
 i232:=by kernel_rfl
 i233:=by kernel_rfl
 m17:=by kernel_rfl
 m18:=by kernel_rfl
 m19:=by kernel_rfl }
open Go.RowKit Go.Sort Go.Lib in
theorem Tryz.strconv_AppendInt_10 (B n:Nat) (i:Int) (j:-9223372036854775808<=i) (k:i<=9223372036854775807) (f:Value) (g:List Value) (w:Yh) (b:w.ownsRow B 5 1 f n g) (d:B<=w.heap.size) (a:n+21<=140737488355328) (c:Lib.TabBelow Tryz.prog B w "internal/strconv.uint64pow10" .u64 Lib.pow10Tab) :
  Calls Tryz.prog 77 #[f,Yd Yf i,Yd Yf 10] w fun e w'=>∃h,e=.returned h/\w'.ownsRow B 5 1 h (n+(Lib.itoa i).length) (g++Lib.byteCells (Lib.itoa i))/\Below B w w'/\Lib.OthersKept 5 none w w':=Any.strconv_AppendInt_10 Tryz.laysM176 B n i j k f g w b d a c
def Tryz.lays212_ren:Go.Shelf.Ren:=⟨fun|212=>78|263=>103|264=>104|n=>n,fun|46=>95|51=>109|146=>110|53=>112|148=>113|n=>n,fun|n=>n⟩
theorem Tryz.lays212:Go.Proofs.Lays.n212 Tryz.prog Tryz.lays212_ren:={
 mixed:=by kernel_rfl
 f212:=Tryz.func78.trans (congrArg Ya (by kernel_rfl))
 f263:=Tryz.func103.trans (congrArg Ya (by kernel_rfl))
 f264:=Tryz.func104.trans (congrArg Ya (by kernel_rfl))
 t46:=Tryz.underlying95
 a46:=Tryz.isAgg95
 z46:=Tryz.sizeOf95
 v46:=Tryz.zeroValue95
 t51:=Tryz.underlying109
 a51:=Tryz.isAgg109
 z51:=Tryz.sizeOf109
 v51:=Tryz.zeroValue109
 t53:=Tryz.underlying112
 a53:=Tryz.isAgg112
 z53:=Tryz.sizeOf112
 v53:=Tryz.zeroValue112
 t146:=Tryz.underlying110
 a146:=Tryz.isAgg110
 z146:=Tryz.sizeOf110
 v146:=Tryz.zeroValue110
 t148:=Tryz.underlying113
 a148:=Tryz.isAgg113
 z148:=Tryz.sizeOf113
 v148:=Tryz.zeroValue113 }
open Go.RowKit Go.Lib in
theorem Tryz.bits_Mul (x y:Nat) (hx:x<18446744073709551616) (a:y<18446744073709551616) (w:Yh) :
  Calls Tryz.prog 78 #[.int .u64 x,.int .u64 y] w fun e w'=>e=.returned (.tuple #[.int .u64 ((x*y / 18446744073709551616:Nat):Int),.int .u64 ((x*y % 18446744073709551616:Nat):Int)])/\w'=w:=Any.bits_Mul Tryz.lays212 x y hx a w
end Go.Proofs
namespace Go.Proofs.YtfbepcelkijgkaaGreatDoor
section
open Go.RowKit
theorem ZoR {s:ByteArray} {c:UInt8} {r:List UInt8} (h:s.data.toList=c::r):s.toList.isEmpty=false:=by rw[Lib.toList_data,h];rfl
theorem Zmc {s:ByteArray} {c:UInt8} {r:List UInt8} (h:s.data.toList=c::r) (a:0<s.size):s[0]=c:=by have:=byte_at a;rw[h]at this;simpa using this.symm
end
section
open Go.RowKit
theorem ZaI.grown {w w':Yh} {g:Nat} {l:List (List UInt8)} {row:Option Nat} (h:ZaI w g l) (c:w.grownBy w' row) (a:row≠Ya g):ZaI w' g l:=by obtain⟨t,b,e⟩:=h;exact⟨t,b,(c.block g (lt_of_block e) (fun q=>a q.symm)).trans e⟩
theorem Zlr {a b c:Yh} {row:Option Nat} (h:a.grownBy b row) (k:b.grownBy c row):a.grownBy c row:=
 ⟨k.os.trans h.os,k.tape.trans h.tape,k.output.trans h.output,Nat.le_trans h.size k.size,fun i e d=>(k.block i (Nat.lt_of_lt_of_le e h.size) d).trans (h.block i e d)⟩
end
section
open Go.RowKit
def isKey (l:List UInt8):Bool:=ZB.any fun k=>k==l
def ZQ (l:List UInt8):Bool:=(match l with|[]=>false|c::_=>ZbN c)&&decide (l.length<=16)&&decide (Zaq ZaW l=l.length)&&!isKey l
theorem Zin {l:List (List UInt8)} {k:Nat} {c:List UInt8} (h:l[k]? = Ya c):l.drop k=c::l.drop (k+1):=by obtain⟨hk,rfl⟩:=List.getElem?_eq_some_iff.1 h;exact List.drop_eq_getElem_cons hk
theorem ZoE:(Tryz.prog.info? 130).map (·.size)=Ya (ZB.map txt).toArray.size:=by kernel_rfl
theorem ZrW (k:Nat) (g:List UInt8) (h:ZB[k]? = Ya g) (w:Yh):(Instr.index 130 (.agg (ZB.map txt).toArray) (Yd Yf k)).run Tryz.prog w=.ok (txt g) w:=by
 have hk:k<24:=by
  rcases Nat.lt_or_ge k 24 with q|q
  ·exact q
  ·rw[List.getElem?_eq_none (by exact q)]at h;cases h
 obtain rfl|s:=Nat.eq_or_lt_of_le (show 0<=k by omega)
 ·obtain rfl:ZB.getD 0 []=g:=by rw[List.getD_eq_getElem?_getD,h];rfl
  exact(show ∀w:Yh,(Instr.index 130 (.agg (ZB.map txt).toArray) (Yd Yf (0:Nat))).run Tryz.prog w=.ok (txt (ZB.getD 0 [])) w from fun _=>by kernel_rfl) w
 obtain rfl|t:=Nat.eq_or_lt_of_le (show 1<=k by omega)
 ·obtain rfl:ZB.getD 1 []=g:=by rw[List.getD_eq_getElem?_getD,h];rfl
  exact(show ∀w:Yh,(Instr.index 130 (.agg (ZB.map txt).toArray) (Yd Yf (1:Nat))).run Tryz.prog w=.ok (txt (ZB.getD 1 [])) w from fun _=>by kernel_rfl) w
 obtain rfl|u:=Nat.eq_or_lt_of_le (show 2<=k by omega)
 ·obtain rfl:ZB.getD 2 []=g:=by rw[List.getD_eq_getElem?_getD,h];rfl
  exact(show ∀w:Yh,(Instr.index 130 (.agg (ZB.map txt).toArray) (Yd Yf (2:Nat))).run Tryz.prog w=.ok (txt (ZB.getD 2 [])) w from fun _=>by kernel_rfl) w
 obtain rfl|v:=Nat.eq_or_lt_of_le (show 3<=k by omega)
 ·obtain rfl:ZB.getD 3 []=g:=by rw[List.getD_eq_getElem?_getD,h];rfl
  exact(show ∀w:Yh,(Instr.index 130 (.agg (ZB.map txt).toArray) (Yd Yf (3:Nat))).run Tryz.prog w=.ok (txt (ZB.getD 3 [])) w from fun _=>by kernel_rfl) w
 obtain rfl|y:=Nat.eq_or_lt_of_le (show 4<=k by omega)
 ·obtain rfl:ZB.getD 4 []=g:=by rw[List.getD_eq_getElem?_getD,h];rfl
  exact(show ∀w:Yh,(Instr.index 130 (.agg (ZB.map txt).toArray) (Yd Yf (4:Nat))).run Tryz.prog w=.ok (txt (ZB.getD 4 [])) w from fun _=>by kernel_rfl) w
 obtain rfl|z:=Nat.eq_or_lt_of_le (show 5<=k by omega)
 ·obtain rfl:ZB.getD 5 []=g:=by rw[List.getD_eq_getElem?_getD,h];rfl
  exact(show ∀w:Yh,(Instr.index 130 (.agg (ZB.map txt).toArray) (Yd Yf (5:Nat))).run Tryz.prog w=.ok (txt (ZB.getD 5 [])) w from fun _=>by kernel_rfl) w
 obtain rfl|A:=Nat.eq_or_lt_of_le (show 6<=k by omega)
 ·obtain rfl:ZB.getD 6 []=g:=by rw[List.getD_eq_getElem?_getD,h];rfl
  exact(show ∀w:Yh,(Instr.index 130 (.agg (ZB.map txt).toArray) (Yd Yf (6:Nat))).run Tryz.prog w=.ok (txt (ZB.getD 6 [])) w from fun _=>by kernel_rfl) w
 obtain rfl|B:=Nat.eq_or_lt_of_le (show 7<=k by omega)
 ·obtain rfl:ZB.getD 7 []=g:=by rw[List.getD_eq_getElem?_getD,h];rfl
  exact(show ∀w:Yh,(Instr.index 130 (.agg (ZB.map txt).toArray) (Yd Yf (7:Nat))).run Tryz.prog w=.ok (txt (ZB.getD 7 [])) w from fun _=>by kernel_rfl) w
 obtain rfl|C:=Nat.eq_or_lt_of_le (show 8<=k by omega)
 ·obtain rfl:ZB.getD 8 []=g:=by rw[List.getD_eq_getElem?_getD,h];rfl
  exact(show ∀w:Yh,(Instr.index 130 (.agg (ZB.map txt).toArray) (Yd Yf (8:Nat))).run Tryz.prog w=.ok (txt (ZB.getD 8 [])) w from fun _=>by kernel_rfl) w
 obtain rfl|D:=Nat.eq_or_lt_of_le (show 9<=k by omega)
 ·obtain rfl:ZB.getD 9 []=g:=by rw[List.getD_eq_getElem?_getD,h];rfl
  exact(show ∀w:Yh,(Instr.index 130 (.agg (ZB.map txt).toArray) (Yd Yf (9:Nat))).run Tryz.prog w=.ok (txt (ZB.getD 9 [])) w from fun _=>by kernel_rfl) w
 obtain rfl|a:=Nat.eq_or_lt_of_le (show 10<=k by omega)
 ·obtain rfl:ZB.getD 10 []=g:=by rw[List.getD_eq_getElem?_getD,h];rfl
  exact(show ∀w:Yh,(Instr.index 130 (.agg (ZB.map txt).toArray) (Yd Yf (10:Nat))).run Tryz.prog w=.ok (txt (ZB.getD 10 [])) w from fun _=>by kernel_rfl) w
 obtain rfl|b:=Nat.eq_or_lt_of_le (show 11<=k by omega)
 ·obtain rfl:ZB.getD 11 []=g:=by rw[List.getD_eq_getElem?_getD,h];rfl
  exact(show ∀w:Yh,(Instr.index 130 (.agg (ZB.map txt).toArray) (Yd Yf (11:Nat))).run Tryz.prog w=.ok (txt (ZB.getD 11 [])) w from fun _=>by kernel_rfl) w
 obtain rfl|c:=Nat.eq_or_lt_of_le (show 12<=k by omega)
 ·obtain rfl:ZB.getD 12 []=g:=by rw[List.getD_eq_getElem?_getD,h];rfl
  exact(show ∀w:Yh,(Instr.index 130 (.agg (ZB.map txt).toArray) (Yd Yf (12:Nat))).run Tryz.prog w=.ok (txt (ZB.getD 12 [])) w from fun _=>by kernel_rfl) w
 obtain rfl|d:=Nat.eq_or_lt_of_le (show 13<=k by omega)
 ·obtain rfl:ZB.getD 13 []=g:=by rw[List.getD_eq_getElem?_getD,h];rfl
  exact(show ∀w:Yh,(Instr.index 130 (.agg (ZB.map txt).toArray) (Yd Yf (13:Nat))).run Tryz.prog w=.ok (txt (ZB.getD 13 [])) w from fun _=>by kernel_rfl) w
 obtain rfl|e:=Nat.eq_or_lt_of_le (show 14<=k by omega)
 ·obtain rfl:ZB.getD 14 []=g:=by rw[List.getD_eq_getElem?_getD,h];rfl
  exact(show ∀w:Yh,(Instr.index 130 (.agg (ZB.map txt).toArray) (Yd Yf (14:Nat))).run Tryz.prog w=.ok (txt (ZB.getD 14 [])) w from fun _=>by kernel_rfl) w
 obtain rfl|f:=Nat.eq_or_lt_of_le (show 15<=k by omega)
 ·obtain rfl:ZB.getD 15 []=g:=by rw[List.getD_eq_getElem?_getD,h];rfl
  exact(show ∀w:Yh,(Instr.index 130 (.agg (ZB.map txt).toArray) (Yd Yf (15:Nat))).run Tryz.prog w=.ok (txt (ZB.getD 15 [])) w from fun _=>by kernel_rfl) w
 obtain rfl|i:=Nat.eq_or_lt_of_le (show 16<=k by omega)
 ·obtain rfl:ZB.getD 16 []=g:=by rw[List.getD_eq_getElem?_getD,h];rfl
  exact(show ∀w:Yh,(Instr.index 130 (.agg (ZB.map txt).toArray) (Yd Yf (16:Nat))).run Tryz.prog w=.ok (txt (ZB.getD 16 [])) w from fun _=>by kernel_rfl) w
 obtain rfl|j:=Nat.eq_or_lt_of_le (show 17<=k by omega)
 ·obtain rfl:ZB.getD 17 []=g:=by rw[List.getD_eq_getElem?_getD,h];rfl
  exact(show ∀w:Yh,(Instr.index 130 (.agg (ZB.map txt).toArray) (Yd Yf (17:Nat))).run Tryz.prog w=.ok (txt (ZB.getD 17 [])) w from fun _=>by kernel_rfl) w
 obtain rfl|l:=Nat.eq_or_lt_of_le (show 18<=k by omega)
 ·obtain rfl:ZB.getD 18 []=g:=by rw[List.getD_eq_getElem?_getD,h];rfl
  exact(show ∀w:Yh,(Instr.index 130 (.agg (ZB.map txt).toArray) (Yd Yf (18:Nat))).run Tryz.prog w=.ok (txt (ZB.getD 18 [])) w from fun _=>by kernel_rfl) w
 obtain rfl|m:=Nat.eq_or_lt_of_le (show 19<=k by omega)
 ·obtain rfl:ZB.getD 19 []=g:=by rw[List.getD_eq_getElem?_getD,h];rfl
  exact(show ∀w:Yh,(Instr.index 130 (.agg (ZB.map txt).toArray) (Yd Yf (19:Nat))).run Tryz.prog w=.ok (txt (ZB.getD 19 [])) w from fun _=>by kernel_rfl) w
 obtain rfl|n:=Nat.eq_or_lt_of_le (show 20<=k by omega)
 ·obtain rfl:ZB.getD 20 []=g:=by rw[List.getD_eq_getElem?_getD,h];rfl
  exact(show ∀w:Yh,(Instr.index 130 (.agg (ZB.map txt).toArray) (Yd Yf (20:Nat))).run Tryz.prog w=.ok (txt (ZB.getD 20 [])) w from fun _=>by kernel_rfl) w
 obtain rfl|o:=Nat.eq_or_lt_of_le (show 21<=k by omega)
 ·obtain rfl:ZB.getD 21 []=g:=by rw[List.getD_eq_getElem?_getD,h];rfl
  exact(show ∀w:Yh,(Instr.index 130 (.agg (ZB.map txt).toArray) (Yd Yf (21:Nat))).run Tryz.prog w=.ok (txt (ZB.getD 21 [])) w from fun _=>by kernel_rfl) w
 obtain rfl|p:=Nat.eq_or_lt_of_le (show 22<=k by omega)
 ·obtain rfl:ZB.getD 22 []=g:=by rw[List.getD_eq_getElem?_getD,h];rfl
  exact(show ∀w:Yh,(Instr.index 130 (.agg (ZB.map txt).toArray) (Yd Yf (22:Nat))).run Tryz.prog w=.ok (txt (ZB.getD 22 [])) w from fun _=>by kernel_rfl) w
 obtain rfl|r:=Nat.eq_or_lt_of_le (show 23<=k by omega)
 ·obtain rfl:ZB.getD 23 []=g:=by rw[List.getD_eq_getElem?_getD,h];rfl
  exact(show ∀w:Yh,(Instr.index 130 (.agg (ZB.map txt).toArray) (Yd Yf (23:Nat))).run Tryz.prog w=.ok (txt (ZB.getD 23 [])) w from fun _=>by kernel_rfl) w
 omega
theorem Zrh (s:ByteArray) (w:Yh) (q:ZaI w 3 ZB) :
  Calls Tryz.prog 108 #[.string s] w (Zev w (.bool (isKey s.data.toList))):=by
 obtain⟨z,l⟩:∃z,z=isKey s.data.toList:=⟨_,rfl⟩
 rw[<-l];obtain⟨A,u,c⟩:=q;have b:=ZoE;have h:=ZrW;generalize(ZB.map txt).toArray=p at *;have d:=zh (zi c (zi b h));have n:=zh l;clear l c b h;go_enter Tryz.func108,Tryz.ntmps108;go_wp2_with (refine wpList_load_row rfl 130 _ rfl 3 rfl _ p _ _ d.out.1 Tryz.underlying130 rfl d.out.2.1 ?_);go_loopg [6] 24 (fun g r wr=>∃k:Nat,r=Yd Yf k/\k<=24/\g=24-k/\z=((ZB.drop k).any fun k=>k==s.data.toList)/\wr=w)
 case atStart=>exact⟨0,rfl,Nat.zero_le _,rfl,by rw[n.out];rfl,rfl⟩
 case round=>
  obtain⟨k,rfl,hk,j,a,rfl⟩:=hrel;by_cases f:k<24
  ·obtain⟨g,e⟩:∃g,ZB[k]? = Ya g:=⟨_,Ym (by exact f)⟩
   have y:=d.out.2.2 k g e;rw[Zin e,List.any_cons]at a;have v:(k:Int)<24:=by omega
   have i2:(0:Int)<=(k:Int):=by omega
   have B:IntKind.i64.wrap ((k:Int)+1)=(k:Int)+1:=IntWalk.i64_in _ (by omega);have m:=zh (zi f j);have i:=zh a;clear a j e;by_cases R:g=s.data.toList
   ·go_wp2_with fail;go_ret;exact⟨ZbS (by rw[i.out,beq_iff_eq.2 R];rfl),rfl⟩
   ·have t:(g==s.toList)=false:=by rw[Lib.toList_data];simpa using R
    have o:=zh R;clear R;go_wp2_with fail;go_roundg (24-(k+1))
    case measure=>have:=m.out;omega
    case rel=>exact⟨k+1,by push_cast;rfl,by have:=m.out;omega,rfl,by rw[i.out,beq_eq_false_iff_ne.2 o.out,Bool.false_or],rfl⟩
  ·obtain rfl:k=24:=by omega
   have i:=zh a;clear j hk f a;go_wp2_with fail;go_ret;exact⟨ZbS (by rw[i.out];rfl),rfl⟩
theorem Zpa (w:Yh):Calls Tryz.prog 95 #[] w fun e w'=>e=.returned (.slice (Ya ⟨w.heap.size,0,none⟩) 24 24)/\Below w.heap.size w w'/\Blk w' w.heap.size (ZB.map txt).toArray:=by go_enter Tryz.func95,Tryz.ntmps95;go_wp2_with fail;go_ret;exact⟨rfl,below_alloc1 _ _,Blk.start _ _ _⟩
theorem ZkV (s:ByteArray) (w:Yh) :
  Calls Tryz.prog 70 #[.string s] w fun e w'=>e=.returned (.bool (isKey s.data.toList))/\Below w.heap.size w w':=by
 obtain⟨z,l⟩:∃z,z=isKey s.data.toList:=⟨_,rfl⟩
 rw[<-l];have q:=zh l;have p:=Zpa w;have r:=zh p;clear l p;go_enter Tryz.func70,Tryz.ntmps70;go_wp2_with (go_at_call 95;(with_reducible refine r.out.mono ?_);rintro e u ⟨rfl,o,n⟩);have f:=zh (zi o n);clear o n;go_loopg [4] 24 (fun g t wr=>∃k:Nat,t=Yd Yf k/\k<=24/\g=24-k/\z=((ZB.drop k).any fun k=>k==s.data.toList)/\wr=u)
 case atStart=>exact⟨0,rfl,Nat.zero_le _,rfl,by rw[q.out];rfl,rfl⟩
 case round=>
  obtain⟨k,rfl,hk,j,a,rfl⟩:=hrel;by_cases c:k<24
  ·obtain⟨g,b⟩:∃g,ZB[k]? = Ya g:=⟨_,Ym (by exact c)⟩
   have i:=f.out.2.cell k;rw[List.getElem?_toArray,List.getElem?_map,b]at i;have A:wr.cell? ⟨w.heap.size,k,none⟩=Ya (txt g):=i;rw[Zin b,List.any_cons]at a;have B:(k:Int)<24:=by omega
   have i2:(0:Int)<=(k:Int):=by omega
   have C:IntKind.i64.wrap ((k:Int)+1)=(k:Int)+1:=IntWalk.i64_in _ (by omega);have m:=zh (zi c j);have d:=zh a;clear a j b i;by_cases R:g=s.data.toList
   ·have v:(g==s.toList)=true:=by rw[Lib.toList_data];simpa using R
    have h:=zh R;clear R;go_wp2_with fail;go_ret;exact⟨ZbS (by rw[d.out,beq_iff_eq.2 h.out];rfl),f.out.1⟩
   ·have y:(g==s.toList)=false:=by rw[Lib.toList_data];simpa using R
    have h:=zh R;clear R;go_wp2_with fail;go_roundg (24-(k+1))
    case measure=>have:=m.out;omega
    case rel=>exact⟨k+1,by push_cast;rfl,by have:=m.out;omega,rfl,by rw[d.out,beq_eq_false_iff_ne.2 h.out,Bool.false_or],rfl⟩
  ·obtain rfl:k=24:=by omega
   have d:=zh a;clear j hk c a;go_wp2_with fail;go_ret;exact⟨ZbS (by rw[d.out];rfl),f.out.1⟩
theorem Zqd (s:ByteArray) (w:Yh) (h:s.data.toList=[]):Calls Tryz.prog 79 #[.string s] w (Zev w (.bool (ZQ s.data.toList))):=by
 have a:s=⟨#[]⟩:=by apply ByteArray.ext;apply Array.ext';exact h
 subst a;clear h;go_enter Tryz.func79,Tryz.ntmps79;go_wp2_with fail;go_ret;exact⟨rfl,rfl⟩
theorem Zqc (s:ByteArray) (w:Yh) (t:s.size<=maxLen) (u:ZaI w 3 ZB) :
  Calls Tryz.prog 79 #[.string s] w (Zev w (.bool (ZQ s.data.toList))):=by
 cases h:s.data.toList with
 |nil=>rw[<-h];exact Zqd s w h
 |cons c r=>
  have l:=fun w (h:ZaI w 3 ZB)=>Zrh s w h;have o:=fun w=>Zrw s w t;have n:=fun w=>ZiE c.toNat w;rw[ZfK]at n;have y:0<s.size:=by rw[<-ZcZ,h];simp
  have hc:=Zmc h y;have m:=congrArg UInt8.toNat hc;have A:=ZoR h;have b:(c::r).length=s.size:=by rw[<-h,ZcZ]
  have p:ZQ (c::r)=(ZbN c&&decide (s.size<=16)&&decide (Zaq ZaW (c::r)=s.size)&&!isKey (c::r)):=by unfold ZQ;rw[b]
  rw[h]at l o;rw[p];generalize Zaq ZaW (c::r)=q at *;generalize isKey (c::r)=K at *;generalize ZbN c=L at *;have g:=zh (l w u);have j:=zh o;have i:=zh n;generalize c.toNat=z at *;clear l o n u h hc p b t;by_cases a:s.size<=16
  ·have k:(s.size:Int)<=16:=by omega
   by_cases hq:q=s.size
   ·have v:((q:Int)==(s.size:Int))=true:=by rw[hq];exact beq_self_eq_true _
    have f:=zh (zi hq a);clear hq;cases L<;>cases K
    all_goals
     go_enter Tryz.func79,Tryz.ntmps79;go_wp2_with (first|(go_at_call 105;(with_reducible refine(i.out _).mono ?_);rintro e d ⟨rfl,rfl⟩)|(go_at_call 106;(with_reducible refine(j.out _).mono ?_);rintro e d ⟨rfl,rfl⟩)|(go_at_call 108;(with_reducible refine g.out.mono ?_);rintro e d ⟨rfl,rfl⟩));go_ret;exact⟨ZbS (by rw[decide_eq_true f.out.1,decide_eq_true f.out.2];rfl),rfl⟩
   ·have v:((q:Int)==(s.size:Int))=false:=by simpa using fun e=>hq (by omega)
    have f:=zh (zi hq a);clear hq;cases L<;>cases K
    all_goals
     go_enter Tryz.func79,Tryz.ntmps79;go_wp2_with (first|(go_at_call 105;(with_reducible refine(i.out _).mono ?_);rintro e d ⟨rfl,rfl⟩)|(go_at_call 106;(with_reducible refine(j.out _).mono ?_);rintro e d ⟨rfl,rfl⟩)|(go_at_call 108;(with_reducible refine g.out.mono ?_);rintro e d ⟨rfl,rfl⟩));go_ret;exact⟨ZbS (by rw[decide_eq_false f.out.1,decide_eq_true f.out.2];rfl),rfl⟩
  ·have k:¬(s.size:Int)<=16:=by omega
   have f:=zh a;clear a;go_enter Tryz.func79,Tryz.ntmps79;go_wp2_with (first|(go_at_call 105;(with_reducible refine(i.out _).mono ?_);rintro e d ⟨rfl,rfl⟩)|(go_at_call 106;(with_reducible refine(j.out _).mono ?_);rintro e d ⟨rfl,rfl⟩)|(go_at_call 108;(with_reducible refine g.out.mono ?_);rintro e d ⟨rfl,rfl⟩));go_ret;exact⟨ZbS (by rw[decide_eq_false f.out];simp),rfl⟩
theorem Zpb (s:ByteArray) (w:Yh) (h:s.data.toList=[]):Calls Tryz.prog 56 #[.string s] w fun e w'=>e=.returned (.bool (ZQ s.data.toList))/\Below w.heap.size w w':=by
 have a:s=⟨#[]⟩:=by apply ByteArray.ext;apply Array.ext';exact h
 subst a;clear h;go_enter Tryz.func56,Tryz.ntmps56;go_wp2_with fail;go_ret;exact⟨rfl,Below.refl _ _⟩
theorem ZjQ (s:ByteArray) (w:Yh) (T:s.size<=maxLen) :
  Calls Tryz.prog 56 #[.string s] w fun e w'=>e=.returned (.bool (ZQ s.data.toList))/\Below w.heap.size w w':=by
 cases h:s.data.toList with
 |nil=>rw[<-h];exact Zpb s w h
 |cons c r=>
  have R:=fun w=>ZkV s w;have O:=fun w=>Ze0 c.toNat w;rw[ZfK]at O;have F:0<s.size:=by rw[<-ZcZ,h];simp
  have hc:=Zmc h F;have m:=congrArg UInt8.toNat hc;have z0:((s.size:Int)==0)=false:=by simpa using fun e=>by rw[e]at F;cases F
  have l:(c::r).length=s.size:=by rw[<-h,ZcZ]
  have u:ZQ (c::r)=(ZbN c&&decide (s.size<=16)&&decide (Zaq ZaW (c::r)=s.size)&&!isKey (c::r)):=by unfold ZQ;rw[l]
  have n:ZbN c=true->Zaq ZaW s.data.toList=1+Zaq ZaW (s.data.toList.drop 1):=fun q=>by
   rw[h,Zcx,Yo (ZkG q)];show _=1+Zaq ZaW r;omega
  rw[u,<-h];rw[<-h]at u;generalize U:ZQ s.data.toList=z at *;obtain⟨p,Q⟩:∃p,p=Zaq ZaW s.data.toList:=⟨_,rfl⟩
  rw[<-Q]at n u⊢;rw[<-u];generalize isKey s.data.toList=K at *;generalize ZbN c=L at *;have S:=zh R;have I:=zh O;have A:=zh (zi u n);generalize c.toNat=V at *;unfold maxLen at T;clear R O h hc u l U Q n;by_cases b:s.size<=16
  ·have M:(s.size:Int)<=16:=by omega
   have H:=zh b;cases L
   ·clear b;go_enter Tryz.func56,Tryz.ntmps56;go_wp2_with (go_at_call 44;(with_reducible refine(I.out _).mono ?_);rintro e o ⟨rfl,rfl⟩);go_ret;exact⟨ZbS (by rw[A.out.1];rfl),Below.refl _ _⟩
   ·clear b;go_enter Tryz.func56,Tryz.ntmps56;go_wp2_with (go_at_call 44;(with_reducible refine(I.out _).mono ?_);rintro e o ⟨rfl,rfl⟩);clear m I;go_loopg [3] (s.size-1) (fun g v3 wr=>∃k:Nat,v3=Yd Yf k/\k<=s.size/\g=s.size-k/\p=k+Zaq ZaW (s.data.toList.drop k)/\wr=w)
    case atStart=>exact⟨1,rfl,F,rfl,A.out.2 trivial,rfl⟩
    case round=>
     obtain⟨k,rfl,hk,t,j,rfl⟩:=hrel;have E:=zh j;clear j;by_cases f:k<s.size
     ·have C:=byte_at f;have d:=fun w=>Ze0 s[k].toNat w;have i:=fun w=>Zd0 s[k].toNat w;rw[ZfK]at d;rw[ZeT]at i;have W:(k:Int)<(s.size:Int):=by omega
      have i2:(0:Int)<=(k:Int):=by omega
      have X:IntKind.i64.wrap ((k:Int)+1)=(k:Int)+1:=IntWalk.i64_in _ (by omega);by_cases a:ZaW s[k]=true
      ·have P:=zh (Zdn (p:=ZaW) C a);rcases ZkF a with q|⟨q,D⟩
       ·rw[q]at d;have B:=zh d;have y:=zh (zi f t);clear d i a q C t;go_wp2_with (go_at_call 44;(with_reducible refine(B.out _).mono ?_);rintro e o ⟨rfl,rfl⟩);go_roundg (s.size-(k+1))
        case measure=>have:=y.out;omega
        case rel=>exact⟨k+1,by push_cast;rfl,by have:=y.out;omega,rfl,by have:=P.out;have:=E.out;omega,rfl⟩
       ·rw[q]at d;rw[D]at i;have B:=zh d;have G:=zh i;have y:=zh (zi f t);clear d i a q D C t;go_wp2_with (first|(go_at_call 44;(with_reducible refine(B.out _).mono ?_);rintro e o ⟨rfl,rfl⟩)|(go_at_call 45;(with_reducible refine(G.out _).mono ?_);rintro e o ⟨rfl,rfl⟩));go_roundg (s.size-(k+1))
        case measure=>have:=y.out;omega
        case rel=>exact⟨k+1,by push_cast;rfl,by have:=y.out;omega,rfl,by have:=P.out;have:=E.out;omega,rfl⟩
      ·have a:ZaW s[k]=false:=by simpa using a
       have J:=ZfV (p:=ZaW) C a;obtain⟨q,D⟩:=ZoH a;rw[q]at d;rw[D]at i;have B:=zh d;have G:=zh i
       have v:=zh (show z=false from by
        have:=E.out;rw[A.out.1,decide_eq_false (show ¬p=s.size by omega)]
        simp)
       clear d i a q D C t J;go_wp2_with (first|(go_at_call 44;(with_reducible refine(B.out _).mono ?_);rintro e o ⟨rfl,rfl⟩)|(go_at_call 45;(with_reducible refine(G.out _).mono ?_);rintro e o ⟨rfl,rfl⟩));go_ret;exact⟨ZbS v.out.symm,Below.refl _ _⟩
     ·obtain rfl:k=s.size:=by omega
      have J:=Ze8 (p:=ZaW) (Nat.le_of_eq (ZcZ s))
      have v:=zh (show z=!K from by
       have:=E.out;rw[A.out.1,decide_eq_true (show p=s.size by omega),decide_eq_true H.out]
       rfl)
      clear J f hk t;go_wp2_with (go_at_call 70;(with_reducible refine(S.out _).mono ?_);rintro e o ⟨rfl,N⟩);go_ret;exact⟨ZbS v.out.symm,N⟩
  ·have M:¬(s.size:Int)<=16:=by omega
   have v:=zh (show z=false from by rw[A.out.1,decide_eq_false b];simp);clear b;go_enter Tryz.func56,Tryz.ntmps56;go_wp2_with fail;go_ret;exact⟨ZbS v.out.symm,Below.refl _ _⟩
end
end Go.Proofs.YtfbepcelkijgkaaGreatDoor
