import Derived.Deep.DeepFit
import Derived.Shelf.Strings.Builder1
import Derived.Shelf.Strings.Builder2
import Derived.Shelf.Strings.OnBuilder
import Derived.Shelf.Strings.BuilderF
import Derived.Shelf.Strings.BuilderK
import Derived.Shelf.Strings.Builder2Cap
import Derived.Shelf.Strconv.Itoa0
import Derived.Shelf.Strconv.Itoa1
import Derived.Shelf.LaysM
import Derived.Shelf.Strconv.Itoa2
import Derived.Shelf.Strconv.AppendUint10
import Derived.Shelf.Strconv.AppendInt10
import Derived.Shelf.Strconv.AppendIntPublic10
import Derived.Shelf.Bits.Mul64
import Derived.Shelf.Strings.BuilderCap
import Derived.Shelf.Slices.Turned
import Derived.Test.YtdkegpkfjgloeaaGreatDoorProg
import Derived.Lib.PathFns
import Derived.Lib.IndexBytes
import Derived.OneCell
import Derived.StillTailTactics
import Derived.BigRegion
import Derived.Deep.RegionHeld3
import Derived.Deep.Cut
import Derived.Test.YtdkegpkfjgloeaaGreatDoorQAB
set_option maxRecDepth 100000
set_option maxHeartbeats 8000000
open Option renaming some → Ya
open Go.Value renaming int → Yd
open Go.IntKind renaming i64 → Yf
open Go renaming World → Yh
namespace Go.Proofs.YtdkegpkfjgloeaaGreatDoor
end Go.Proofs.YtdkegpkfjgloeaaGreatDoor
namespace Go.Proofs
open Go.Shelf
def Tryz.lays156_ren:Go.Shelf.Ren:=⟨fun|156=>82|165=>110|166=>111|169=>112|240=>126|241=>127|276=>131|277=>132|n=>n,fun|31=>33|9=>9|3=>3|4=>4|0=>0|20=>20|72=>118|76=>121|70=>116|37=>40|75=>120|127=>130|164=>133|5=>5|80=>87|n=>n,fun|n=>n⟩
theorem Tryz.lays156:Go.Proofs.Lays.n156 Tryz.prog Tryz.lays156_ren:={
 mixed:=by kernel_rfl
 f156:=Tryz.func82.trans (congrArg Ya (by kernel_rfl))
 f165:=Tryz.func110.trans (congrArg Ya (by kernel_rfl))
 f166:=Tryz.func111.trans (congrArg Ya (by kernel_rfl))
 f169:=Tryz.func112.trans (congrArg Ya (by kernel_rfl))
 f240:=Tryz.func126.trans (congrArg Ya (by kernel_rfl))
 f241:=Tryz.func127.trans (congrArg Ya (by kernel_rfl))
 f276:=Tryz.func131.trans (congrArg Ya (by kernel_rfl))
 f277:=Tryz.func132.trans (congrArg Ya (by kernel_rfl))
 t0:=Tryz.underlying0
 a0:=Tryz.isAgg0
 z0:=Tryz.sizeOf0
 v0:=Tryz.zeroValue0
 t3:=Tryz.underlying3
 a3:=Tryz.isAgg3
 z3:=Tryz.sizeOf3
 v3:=Tryz.zeroValue3
 t4:=Tryz.underlying4
 a4:=Tryz.isAgg4
 z4:=Tryz.sizeOf4
 v4:=Tryz.zeroValue4
 t9:=Tryz.underlying9
 a9:=Tryz.isAgg9
 z9:=Tryz.sizeOf9
 v9:=Tryz.zeroValue9
 t20:=Tryz.underlying20
 a20:=Tryz.isAgg20
 z20:=Tryz.sizeOf20
 v20:=Tryz.zeroValue20
 t31:=Tryz.underlying33
 a31:=Tryz.isAgg33
 z31:=Tryz.sizeOf33
 v31:=Tryz.zeroValue33
 t37:=Tryz.underlying40
 a37:=Tryz.isAgg40
 z37:=Tryz.sizeOf40
 v37:=Tryz.zeroValue40
 t70:=Tryz.underlying116
 a70:=Tryz.isAgg116
 z70:=Tryz.sizeOf116
 v70:=Tryz.zeroValue116
 t72:=Tryz.underlying118
 a72:=Tryz.isAgg118
 z72:=Tryz.sizeOf118
 v72:=Tryz.zeroValue118
 t75:=Tryz.underlying120
 a75:=Tryz.isAgg120
 z75:=Tryz.sizeOf120
 v75:=Tryz.zeroValue120
 t76:=Tryz.underlying121
 a76:=Tryz.isAgg121
 z76:=Tryz.sizeOf121
 v76:=Tryz.zeroValue121
 t127:=Tryz.underlying130
 a127:=Tryz.isAgg130
 z127:=Tryz.sizeOf130
 v127:=Tryz.zeroValue130
 t164:=Tryz.underlying133
 a164:=Tryz.isAgg133
 z164:=Tryz.sizeOf133
 v164:=Tryz.zeroValue133 }
theorem Tryz.Builder_Extra_156:Builder.Extra Tryz.prog Tryz.lays156_ren:={
 sizeBuilder:=by kernel_rfl
 liesBuilder:=by kernel_rfl
 t5:=Tryz.underlying5
 a5:=Tryz.isAgg5
 z5:=Tryz.sizeOf5
 v5:=Tryz.zeroValue5
 infoByte:=by kernel_rfl
 cellsByte:=by kernel_rfl
 sizeByte:=by kernel_rfl
 neB5:=by decide }
open Go.RowKit in
theorem Tryz.strings_Join (h o c:Nat) (d:List ByteArray) (b:ByteArray) (w:Yh) (a:∀(j:Nat) x,d[j]? = Ya x->w.cell? ⟨h,o+j,none⟩=Ya (.string x)) (i:h<w.heap.size) (k:d.length<=140737488355328) (f:d.length<=c) (g:(Lib.join (d.map (·.data.toList)) b.data.toList).length<=140737488355328) :
  Calls Tryz.prog 82 #[.slice (Ya ⟨h,o,none⟩) d.length c,.string b] w fun e w'=>e=.returned (.string ⟨(Lib.join (d.map (·.data.toList)) b.data.toList).toArray⟩)/\Below w.heap.size w w':=Any.strings_Join Tryz.lays156 Tryz.Builder_Extra_156 h o c d b w a i k f g
def Tryz.laysM176_ren:Go.Shelf.Ren:=⟨fun|176=>109|249=>125|288=>130|283=>134|284=>135|285=>136|286=>137|129=>140|317=>139|318=>141|319=>142|320=>143|337=>144|338=>145|n=>n,fun|37=>40|2=>2|3=>3|53=>106|4=>4|9=>9|171=>137|0=>0|173=>140|212=>144|51=>103|5=>5|20=>20|213=>145|46=>88|232=>148|233=>149|n=>n,fun|17=>5|18=>6|19=>7|n=>n⟩
theorem Tryz.laysM176:Go.Proofs.LaysM.n176 Tryz.prog Tryz.laysM176_ren:={
 mixed:=by kernel_rfl
 f129:=Tryz.func140.trans (congrArg Ya (by kernel_rfl))
 f176:=Tryz.func109.trans (congrArg Ya (by kernel_rfl))
 f249:=Tryz.func125.trans (congrArg Ya (by kernel_rfl))
 f283:=Tryz.func134.trans (congrArg Ya (by kernel_rfl))
 f284:=Tryz.func135.trans (congrArg Ya (by kernel_rfl))
 f285:=Tryz.func136.trans (congrArg Ya (by kernel_rfl))
 f286:=Tryz.func137.trans (congrArg Ya (by kernel_rfl))
 f288:=Tryz.func130.trans (congrArg Ya (by kernel_rfl))
 f317:=Tryz.func139.trans (congrArg Ya (by kernel_rfl))
 f318:=Tryz.func141.trans (congrArg Ya (by kernel_rfl))
 f319:=Tryz.func142.trans (congrArg Ya (by kernel_rfl))
 f320:=Tryz.func143.trans (congrArg Ya (by kernel_rfl))
 f337:=Tryz.func144.trans (congrArg Ya (by kernel_rfl))
 f338:=Tryz.func145.trans (congrArg Ya (by kernel_rfl))
 t0:=Tryz.underlying0
 a0:=Tryz.isAgg0
 z0:=Tryz.sizeOf0
 v0:=Tryz.zeroValue0
 t2:=Tryz.underlying2
 a2:=Tryz.isAgg2
 z2:=Tryz.sizeOf2
 v2:=Tryz.zeroValue2
 t3:=Tryz.underlying3
 a3:=Tryz.isAgg3
 z3:=Tryz.sizeOf3
 v3:=Tryz.zeroValue3
 t4:=Tryz.underlying4
 a4:=Tryz.isAgg4
 z4:=Tryz.sizeOf4
 v4:=Tryz.zeroValue4
 t5:=Tryz.underlying5
 a5:=Tryz.isAgg5
 z5:=Tryz.sizeOf5
 v5:=Tryz.zeroValue5
 t9:=Tryz.underlying9
 a9:=Tryz.isAgg9
 z9:=Tryz.sizeOf9
 v9:=Tryz.zeroValue9
 t20:=Tryz.underlying20
 a20:=Tryz.isAgg20
 z20:=Tryz.sizeOf20
 v20:=Tryz.zeroValue20
 t37:=Tryz.underlying40
 a37:=Tryz.isAgg40
 z37:=Tryz.sizeOf40
 v37:=Tryz.zeroValue40
 t46:=Tryz.underlying88
 a46:=Tryz.isAgg88
 z46:=Tryz.sizeOf88
 v46:=Tryz.zeroValue88
 t51:=Tryz.underlying103
 a51:=Tryz.isAgg103
 z51:=Tryz.sizeOf103
 v51:=Tryz.zeroValue103
 t53:=Tryz.underlying106
 a53:=Tryz.isAgg106
 z53:=Tryz.sizeOf106
 v53:=Tryz.zeroValue106
 t171:=Tryz.underlying137
 a171:=Tryz.isAgg137
 z171:=Tryz.sizeOf137
 v171:=Tryz.zeroValue137
 t173:=Tryz.underlying140
 a173:=Tryz.isAgg140
 z173:=Tryz.sizeOf140
 v173:=Tryz.zeroValue140
 t212:=Tryz.underlying144
 a212:=Tryz.isAgg144
 z212:=Tryz.sizeOf144
 v212:=Tryz.zeroValue144
 t213:=Tryz.underlying145
 a213:=Tryz.isAgg145
 z213:=Tryz.sizeOf145
 t232:=Tryz.underlying148
 a232:=Tryz.isAgg148
 z232:=Tryz.sizeOf148
 v232:=Tryz.zeroValue148
 t233:=Tryz.underlying149
 a233:=Tryz.isAgg149
 z233:=Tryz.sizeOf149
 v233:=Tryz.zeroValue149
 g17:=by kernel_rfl
 g18:=by kernel_rfl
 g19:=by kernel_rfl
 i0:=by kernel_rfl
 i2:=by kernel_rfl
 i3:=by kernel_rfl
 i4:=by kernel_rfl
 i5:=by kernel_rfl
 i9:=by kernel_rfl
 i20:=by kernel_rfl
 i37:=by kernel_rfl
 i46:=by kernel_rfl
 i51:=by kernel_rfl
 i53:=by kernel_rfl
 i171:=by kernel_rfl
 i173:=by kernel_rfl
 i212:=by kernel_rfl
 i232:=by kernel_rfl
 i233:=by kernel_rfl
 m17:=by kernel_rfl
 m18:=by kernel_rfl
 m19:=by kernel_rfl }
open Go.RowKit Go.Sort Go.Lib in
theorem Tryz.strconv_AppendInt_10 (B n:Nat) (i:Int) (j:-9223372036854775808<=i) (k:i<=9223372036854775807) (f:Value) (g:List Value) (w:Yh) (b:w.ownsRow B 5 1 f n g) (d:B<=w.heap.size) (a:n+21<=140737488355328) (c:Lib.TabBelow Tryz.prog B w "internal/strconv.uint64pow10" .u64 Lib.pow10Tab) :
  Calls Tryz.prog 109 #[f,Yd Yf i,Yd Yf 10] w fun e w'=>∃h,e=.returned h/\w'.ownsRow B 5 1 h (n+(Lib.itoa i).length) (g++Lib.byteCells (Lib.itoa i))/\Below B w w'/\Lib.OthersKept 5 none w w':=Any.strconv_AppendInt_10 Tryz.laysM176 B n i j k f g w b d a c
def Tryz.lays212_ren:Go.Shelf.Ren:=⟨fun|212=>70|263=>96|264=>97|n=>n,fun|46=>88|51=>103|146=>104|53=>106|148=>107|n=>n,fun|n=>n⟩
theorem Tryz.lays212:Go.Proofs.Lays.n212 Tryz.prog Tryz.lays212_ren:={
 mixed:=by kernel_rfl
 f212:=Tryz.func70.trans (congrArg Ya (by kernel_rfl))
 f263:=Tryz.func96.trans (congrArg Ya (by kernel_rfl))
 f264:=Tryz.func97.trans (congrArg Ya (by kernel_rfl))
 t46:=Tryz.underlying88
 a46:=Tryz.isAgg88
 z46:=Tryz.sizeOf88
 v46:=Tryz.zeroValue88
 t51:=Tryz.underlying103
 a51:=Tryz.isAgg103
 z51:=Tryz.sizeOf103
 v51:=Tryz.zeroValue103
 t53:=Tryz.underlying106
 a53:=Tryz.isAgg106
 z53:=Tryz.sizeOf106
 v53:=Tryz.zeroValue106
 t146:=Tryz.underlying104
 a146:=Tryz.isAgg104
 z146:=Tryz.sizeOf104
 v146:=Tryz.zeroValue104
 t148:=Tryz.underlying107
 a148:=Tryz.isAgg107
 z148:=Tryz.sizeOf107
 v148:=Tryz.zeroValue107 }
open Go.RowKit Go.Lib in
theorem Tryz.bits_Mul (x y:Nat) (hx:x<18446744073709551616) (a:y<18446744073709551616) (w:Yh) :
  Calls Tryz.prog 70 #[.int .u64 x,.int .u64 y] w fun e w'=>e=.returned (.tuple #[.int .u64 ((x*y / 18446744073709551616:Nat):Int),.int .u64 ((x*y % 18446744073709551616:Nat):Int)])/\w'=w:=Any.bits_Mul Tryz.lays212 x y hx a w
end Go.Proofs
namespace Go.Proofs.YtdkegpkfjgloeaaGreatDoor
section
open Go.RowKit
theorem Zo5 {s:ByteArray} {c:UInt8} {r:List UInt8} (h:s.data.toList=c::r):s.toList.isEmpty=false:=by rw[Lib.toList_data,h];rfl
theorem Zml {s:ByteArray} {c:UInt8} {r:List UInt8} (h:s.data.toList=c::r) (a:0<s.size):s[0]=c:=by have:=byte_at a;rw[h]at this;simpa using this.symm
end
section
open Go.RowKit
theorem ZaP.grown {w w':Yh} {g:Nat} {l:List (List UInt8)} {row:Option Nat} (h:ZaP w g l) (c:w.grownBy w' row) (a:row≠Ya g):ZaP w' g l:=by obtain⟨t,b,e⟩:=h;exact⟨t,b,(c.block g (lt_of_block e) (fun q=>a q.symm)).trans e⟩
theorem Zlz {a b c:Yh} {row:Option Nat} (h:a.grownBy b row) (k:b.grownBy c row):a.grownBy c row:=
 ⟨k.os.trans h.os,k.tape.trans h.tape,k.output.trans h.output,Nat.le_trans h.size k.size,fun i e d=>(k.block i (Nat.lt_of_lt_of_le e h.size) d).trans (h.block i e d)⟩
end
section
open Go.RowKit
def isKey (l:List UInt8):Bool:=ZI.any fun k=>k==l
def ZQ (l:List UInt8):Bool:=(match l with|[]=>false|c::_=>ZbT c)&&decide (l.length<=16)&&decide (Zav Za3 l=l.length)&&!isKey l
theorem Ziv {l:List (List UInt8)} {k:Nat} {c:List UInt8} (h:l[k]? = Ya c):l.drop k=c::l.drop (k+1):=by obtain⟨hk,rfl⟩:=List.getElem?_eq_some_iff.1 h;exact List.drop_eq_getElem_cons hk
theorem ZoP:(Tryz.prog.info? 127).map (·.size)=Ya (ZI.map txt).toArray.size:=by kernel_rfl
theorem Zsm (k:Nat) (g:List UInt8) (h:ZI[k]? = Ya g) (w:Yh):(Instr.index 127 (.agg (ZI.map txt).toArray) (Yd Yf k)).run Tryz.prog w=.ok (txt g) w:=by
 have hk:k<24:=by
  rcases Nat.lt_or_ge k 24 with q|q
  ·exact q
  ·rw[List.getElem?_eq_none (by exact q)]at h;cases h
 obtain rfl|s:=Nat.eq_or_lt_of_le (show 0<=k by omega)
 ·obtain rfl:ZI.getD 0 []=g:=by rw[List.getD_eq_getElem?_getD,h];rfl
  exact(show ∀w:Yh,(Instr.index 127 (.agg (ZI.map txt).toArray) (Yd Yf (0:Nat))).run Tryz.prog w=.ok (txt (ZI.getD 0 [])) w from fun _=>by kernel_rfl) w
 obtain rfl|t:=Nat.eq_or_lt_of_le (show 1<=k by omega)
 ·obtain rfl:ZI.getD 1 []=g:=by rw[List.getD_eq_getElem?_getD,h];rfl
  exact(show ∀w:Yh,(Instr.index 127 (.agg (ZI.map txt).toArray) (Yd Yf (1:Nat))).run Tryz.prog w=.ok (txt (ZI.getD 1 [])) w from fun _=>by kernel_rfl) w
 obtain rfl|u:=Nat.eq_or_lt_of_le (show 2<=k by omega)
 ·obtain rfl:ZI.getD 2 []=g:=by rw[List.getD_eq_getElem?_getD,h];rfl
  exact(show ∀w:Yh,(Instr.index 127 (.agg (ZI.map txt).toArray) (Yd Yf (2:Nat))).run Tryz.prog w=.ok (txt (ZI.getD 2 [])) w from fun _=>by kernel_rfl) w
 obtain rfl|v:=Nat.eq_or_lt_of_le (show 3<=k by omega)
 ·obtain rfl:ZI.getD 3 []=g:=by rw[List.getD_eq_getElem?_getD,h];rfl
  exact(show ∀w:Yh,(Instr.index 127 (.agg (ZI.map txt).toArray) (Yd Yf (3:Nat))).run Tryz.prog w=.ok (txt (ZI.getD 3 [])) w from fun _=>by kernel_rfl) w
 obtain rfl|y:=Nat.eq_or_lt_of_le (show 4<=k by omega)
 ·obtain rfl:ZI.getD 4 []=g:=by rw[List.getD_eq_getElem?_getD,h];rfl
  exact(show ∀w:Yh,(Instr.index 127 (.agg (ZI.map txt).toArray) (Yd Yf (4:Nat))).run Tryz.prog w=.ok (txt (ZI.getD 4 [])) w from fun _=>by kernel_rfl) w
 obtain rfl|z:=Nat.eq_or_lt_of_le (show 5<=k by omega)
 ·obtain rfl:ZI.getD 5 []=g:=by rw[List.getD_eq_getElem?_getD,h];rfl
  exact(show ∀w:Yh,(Instr.index 127 (.agg (ZI.map txt).toArray) (Yd Yf (5:Nat))).run Tryz.prog w=.ok (txt (ZI.getD 5 [])) w from fun _=>by kernel_rfl) w
 obtain rfl|A:=Nat.eq_or_lt_of_le (show 6<=k by omega)
 ·obtain rfl:ZI.getD 6 []=g:=by rw[List.getD_eq_getElem?_getD,h];rfl
  exact(show ∀w:Yh,(Instr.index 127 (.agg (ZI.map txt).toArray) (Yd Yf (6:Nat))).run Tryz.prog w=.ok (txt (ZI.getD 6 [])) w from fun _=>by kernel_rfl) w
 obtain rfl|B:=Nat.eq_or_lt_of_le (show 7<=k by omega)
 ·obtain rfl:ZI.getD 7 []=g:=by rw[List.getD_eq_getElem?_getD,h];rfl
  exact(show ∀w:Yh,(Instr.index 127 (.agg (ZI.map txt).toArray) (Yd Yf (7:Nat))).run Tryz.prog w=.ok (txt (ZI.getD 7 [])) w from fun _=>by kernel_rfl) w
 obtain rfl|C:=Nat.eq_or_lt_of_le (show 8<=k by omega)
 ·obtain rfl:ZI.getD 8 []=g:=by rw[List.getD_eq_getElem?_getD,h];rfl
  exact(show ∀w:Yh,(Instr.index 127 (.agg (ZI.map txt).toArray) (Yd Yf (8:Nat))).run Tryz.prog w=.ok (txt (ZI.getD 8 [])) w from fun _=>by kernel_rfl) w
 obtain rfl|D:=Nat.eq_or_lt_of_le (show 9<=k by omega)
 ·obtain rfl:ZI.getD 9 []=g:=by rw[List.getD_eq_getElem?_getD,h];rfl
  exact(show ∀w:Yh,(Instr.index 127 (.agg (ZI.map txt).toArray) (Yd Yf (9:Nat))).run Tryz.prog w=.ok (txt (ZI.getD 9 [])) w from fun _=>by kernel_rfl) w
 obtain rfl|a:=Nat.eq_or_lt_of_le (show 10<=k by omega)
 ·obtain rfl:ZI.getD 10 []=g:=by rw[List.getD_eq_getElem?_getD,h];rfl
  exact(show ∀w:Yh,(Instr.index 127 (.agg (ZI.map txt).toArray) (Yd Yf (10:Nat))).run Tryz.prog w=.ok (txt (ZI.getD 10 [])) w from fun _=>by kernel_rfl) w
 obtain rfl|b:=Nat.eq_or_lt_of_le (show 11<=k by omega)
 ·obtain rfl:ZI.getD 11 []=g:=by rw[List.getD_eq_getElem?_getD,h];rfl
  exact(show ∀w:Yh,(Instr.index 127 (.agg (ZI.map txt).toArray) (Yd Yf (11:Nat))).run Tryz.prog w=.ok (txt (ZI.getD 11 [])) w from fun _=>by kernel_rfl) w
 obtain rfl|c:=Nat.eq_or_lt_of_le (show 12<=k by omega)
 ·obtain rfl:ZI.getD 12 []=g:=by rw[List.getD_eq_getElem?_getD,h];rfl
  exact(show ∀w:Yh,(Instr.index 127 (.agg (ZI.map txt).toArray) (Yd Yf (12:Nat))).run Tryz.prog w=.ok (txt (ZI.getD 12 [])) w from fun _=>by kernel_rfl) w
 obtain rfl|d:=Nat.eq_or_lt_of_le (show 13<=k by omega)
 ·obtain rfl:ZI.getD 13 []=g:=by rw[List.getD_eq_getElem?_getD,h];rfl
  exact(show ∀w:Yh,(Instr.index 127 (.agg (ZI.map txt).toArray) (Yd Yf (13:Nat))).run Tryz.prog w=.ok (txt (ZI.getD 13 [])) w from fun _=>by kernel_rfl) w
 obtain rfl|e:=Nat.eq_or_lt_of_le (show 14<=k by omega)
 ·obtain rfl:ZI.getD 14 []=g:=by rw[List.getD_eq_getElem?_getD,h];rfl
  exact(show ∀w:Yh,(Instr.index 127 (.agg (ZI.map txt).toArray) (Yd Yf (14:Nat))).run Tryz.prog w=.ok (txt (ZI.getD 14 [])) w from fun _=>by kernel_rfl) w
 obtain rfl|f:=Nat.eq_or_lt_of_le (show 15<=k by omega)
 ·obtain rfl:ZI.getD 15 []=g:=by rw[List.getD_eq_getElem?_getD,h];rfl
  exact(show ∀w:Yh,(Instr.index 127 (.agg (ZI.map txt).toArray) (Yd Yf (15:Nat))).run Tryz.prog w=.ok (txt (ZI.getD 15 [])) w from fun _=>by kernel_rfl) w
 obtain rfl|i:=Nat.eq_or_lt_of_le (show 16<=k by omega)
 ·obtain rfl:ZI.getD 16 []=g:=by rw[List.getD_eq_getElem?_getD,h];rfl
  exact(show ∀w:Yh,(Instr.index 127 (.agg (ZI.map txt).toArray) (Yd Yf (16:Nat))).run Tryz.prog w=.ok (txt (ZI.getD 16 [])) w from fun _=>by kernel_rfl) w
 obtain rfl|j:=Nat.eq_or_lt_of_le (show 17<=k by omega)
 ·obtain rfl:ZI.getD 17 []=g:=by rw[List.getD_eq_getElem?_getD,h];rfl
  exact(show ∀w:Yh,(Instr.index 127 (.agg (ZI.map txt).toArray) (Yd Yf (17:Nat))).run Tryz.prog w=.ok (txt (ZI.getD 17 [])) w from fun _=>by kernel_rfl) w
 obtain rfl|l:=Nat.eq_or_lt_of_le (show 18<=k by omega)
 ·obtain rfl:ZI.getD 18 []=g:=by rw[List.getD_eq_getElem?_getD,h];rfl
  exact(show ∀w:Yh,(Instr.index 127 (.agg (ZI.map txt).toArray) (Yd Yf (18:Nat))).run Tryz.prog w=.ok (txt (ZI.getD 18 [])) w from fun _=>by kernel_rfl) w
 obtain rfl|m:=Nat.eq_or_lt_of_le (show 19<=k by omega)
 ·obtain rfl:ZI.getD 19 []=g:=by rw[List.getD_eq_getElem?_getD,h];rfl
  exact(show ∀w:Yh,(Instr.index 127 (.agg (ZI.map txt).toArray) (Yd Yf (19:Nat))).run Tryz.prog w=.ok (txt (ZI.getD 19 [])) w from fun _=>by kernel_rfl) w
 obtain rfl|n:=Nat.eq_or_lt_of_le (show 20<=k by omega)
 ·obtain rfl:ZI.getD 20 []=g:=by rw[List.getD_eq_getElem?_getD,h];rfl
  exact(show ∀w:Yh,(Instr.index 127 (.agg (ZI.map txt).toArray) (Yd Yf (20:Nat))).run Tryz.prog w=.ok (txt (ZI.getD 20 [])) w from fun _=>by kernel_rfl) w
 obtain rfl|o:=Nat.eq_or_lt_of_le (show 21<=k by omega)
 ·obtain rfl:ZI.getD 21 []=g:=by rw[List.getD_eq_getElem?_getD,h];rfl
  exact(show ∀w:Yh,(Instr.index 127 (.agg (ZI.map txt).toArray) (Yd Yf (21:Nat))).run Tryz.prog w=.ok (txt (ZI.getD 21 [])) w from fun _=>by kernel_rfl) w
 obtain rfl|p:=Nat.eq_or_lt_of_le (show 22<=k by omega)
 ·obtain rfl:ZI.getD 22 []=g:=by rw[List.getD_eq_getElem?_getD,h];rfl
  exact(show ∀w:Yh,(Instr.index 127 (.agg (ZI.map txt).toArray) (Yd Yf (22:Nat))).run Tryz.prog w=.ok (txt (ZI.getD 22 [])) w from fun _=>by kernel_rfl) w
 obtain rfl|r:=Nat.eq_or_lt_of_le (show 23<=k by omega)
 ·obtain rfl:ZI.getD 23 []=g:=by rw[List.getD_eq_getElem?_getD,h];rfl
  exact(show ∀w:Yh,(Instr.index 127 (.agg (ZI.map txt).toArray) (Yd Yf (23:Nat))).run Tryz.prog w=.ok (txt (ZI.getD 23 [])) w from fun _=>by kernel_rfl) w
 omega
theorem ZrF (s:ByteArray) (w:Yh) (q:ZaP w 3 ZI) :
  Calls Tryz.prog 101 #[.string s] w (ZeI w (.bool (isKey s.data.toList))):=by
 obtain⟨z,l⟩:∃z,z=isKey s.data.toList:=⟨_,rfl⟩
 rw[<-l];obtain⟨A,u,c⟩:=q;have b:=ZoP;have h:=Zsm;generalize(ZI.map txt).toArray=p at *;have d:=zh (zi c (zi b h));have n:=zh l;clear l c b h;go_enter Tryz.func101,Tryz.ntmps101;go_wp2_with (refine wpList_load_row rfl 127 _ rfl 3 rfl _ p _ _ d.out.1 Tryz.underlying127 rfl d.out.2.1 ?_);go_loopg [6] 24 (fun g r wr=>∃k:Nat,r=Yd Yf k/\k<=24/\g=24-k/\z=((ZI.drop k).any fun k=>k==s.data.toList)/\wr=w)
 case atStart=>exact⟨0,rfl,Nat.zero_le _,rfl,by rw[n.out];rfl,rfl⟩
 case round=>
  obtain⟨k,rfl,hk,j,a,rfl⟩:=hrel;by_cases f:k<24
  ·obtain⟨g,e⟩:∃g,ZI[k]? = Ya g:=⟨_,Ym (by exact f)⟩
   have y:=d.out.2.2 k g e;rw[Ziv e,List.any_cons]at a;have v:(k:Int)<24:=by omega
   have i2:(0:Int)<=(k:Int):=by omega
   have B:IntKind.i64.wrap ((k:Int)+1)=(k:Int)+1:=IntWalk.i64_in _ (by omega);have m:=zh (zi f j);have i:=zh a;clear a j e;by_cases R:g=s.data.toList
   ·go_wp2_with fail;go_ret;exact⟨Zb2 (by rw[i.out,beq_iff_eq.2 R];rfl),rfl⟩
   ·have t:(g==s.toList)=false:=by rw[Lib.toList_data];simpa using R
    have o:=zh R;clear R;go_wp2_with fail;go_roundg (24-(k+1))
    case measure=>have:=m.out;omega
    case rel=>exact⟨k+1,by push_cast;rfl,by have:=m.out;omega,rfl,by rw[i.out,beq_eq_false_iff_ne.2 o.out,Bool.false_or],rfl⟩
  ·obtain rfl:k=24:=by omega
   have i:=zh a;clear j hk f a;go_wp2_with fail;go_ret;exact⟨Zb2 (by rw[i.out];rfl),rfl⟩
theorem Zpq (w:Yh):Calls Tryz.prog 89 #[] w fun e w'=>e=.returned (.slice (Ya ⟨w.heap.size,0,none⟩) 24 24)/\Below w.heap.size w w'/\Blk w' w.heap.size (ZI.map txt).toArray:=by go_enter Tryz.func89,Tryz.ntmps89;go_wp2_with fail;go_ret;exact⟨rfl,below_alloc1 _ _,Blk.start _ _ _⟩
theorem ZkY (s:ByteArray) (w:Yh) :
  Calls Tryz.prog 63 #[.string s] w fun e w'=>e=.returned (.bool (isKey s.data.toList))/\Below w.heap.size w w':=by
 obtain⟨z,l⟩:∃z,z=isKey s.data.toList:=⟨_,rfl⟩
 rw[<-l];have q:=zh l;have p:=Zpq w;have r:=zh p;clear l p;go_enter Tryz.func63,Tryz.ntmps63;go_wp2_with (go_at_call 89;go_fit r.out;rintro e u ⟨rfl,o,n⟩);have f:=zh (zi o n);clear o n;go_loopg [4] 24 (fun g t wr=>∃k:Nat,t=Yd Yf k/\k<=24/\g=24-k/\z=((ZI.drop k).any fun k=>k==s.data.toList)/\wr=u)
 case atStart=>exact⟨0,rfl,Nat.zero_le _,rfl,by rw[q.out];rfl,rfl⟩
 case round=>
  obtain⟨k,rfl,hk,j,a,rfl⟩:=hrel;by_cases c:k<24
  ·obtain⟨g,b⟩:∃g,ZI[k]? = Ya g:=⟨_,Ym (by exact c)⟩
   have i:=f.out.2.cell k;rw[List.getElem?_toArray,List.getElem?_map,b]at i;have A:wr.cell? ⟨w.heap.size,k,none⟩=Ya (txt g):=i;rw[Ziv b,List.any_cons]at a;have B:(k:Int)<24:=by omega
   have i2:(0:Int)<=(k:Int):=by omega
   have C:IntKind.i64.wrap ((k:Int)+1)=(k:Int)+1:=IntWalk.i64_in _ (by omega);have m:=zh (zi c j);have d:=zh a;clear a j b i;by_cases R:g=s.data.toList
   ·have v:(g==s.toList)=true:=by rw[Lib.toList_data];simpa using R
    have h:=zh R;clear R;go_wp2_with fail;go_ret;exact⟨Zb2 (by rw[d.out,beq_iff_eq.2 h.out];rfl),f.out.1⟩
   ·have y:(g==s.toList)=false:=by rw[Lib.toList_data];simpa using R
    have h:=zh R;clear R;go_wp2_with fail;go_roundg (24-(k+1))
    case measure=>have:=m.out;omega
    case rel=>exact⟨k+1,by push_cast;rfl,by have:=m.out;omega,rfl,by rw[d.out,beq_eq_false_iff_ne.2 h.out,Bool.false_or],rfl⟩
  ·obtain rfl:k=24:=by omega
   have d:=zh a;clear j hk c a;go_wp2_with fail;go_ret;exact⟨Zb2 (by rw[d.out];rfl),f.out.1⟩
theorem ZqC (s:ByteArray) (w:Yh) (h:s.data.toList=[]):Calls Tryz.prog 71 #[.string s] w (ZeI w (.bool (ZQ s.data.toList))):=by
 have a:s=⟨#[]⟩:=by apply ByteArray.ext;apply Array.ext';exact h
 subst a;clear h;go_enter Tryz.func71,Tryz.ntmps71;go_wp2_with fail;go_ret;exact⟨rfl,rfl⟩
theorem ZqB (s:ByteArray) (w:Yh) (p:s.size<=maxLen) (t:ZaP w 3 ZI) :
  Calls Tryz.prog 71 #[.string s] w (ZeI w (.bool (ZQ s.data.toList))):=by
 cases h:s.data.toList with
 |nil=>rw[<-h];exact ZqC s w h
 |cons c r=>
  have l:=fun w (h:ZaP w 3 ZI)=>ZrF s w h;have o:=fun w=>ZrU s w p;have n:=fun w=>ZiM c.toNat w;rw[ZfW]at n;have v:0<s.size:=by rw[<-Zdg,h];simp
  have hc:=Zml h v;have m:=congrArg UInt8.toNat hc;have z:=Zo5 h;have b:(c::r).length=s.size:=by rw[<-h,Zdg]
  have hn:ZQ (c::r)=(ZbT c&&decide (s.size<=16)&&decide (Zav Za3 (c::r)=s.size)&&!isKey (c::r)):=by unfold ZQ;rw[b]
  rw[h]at l o;rw[hn];generalize Zav Za3 (c::r)=q at *;generalize isKey (c::r)=K at *;generalize ZbT c=L at *;have g:=zh (l w t);have j:=zh o;have i:=zh n;generalize c.toNat=y at *;clear l o n t h hc hn b p;by_cases a:s.size<=16
  ·have k:(s.size:Int)<=16:=by omega
   by_cases hq:q=s.size
   ·have u:((q:Int)==(s.size:Int))=true:=by rw[hq];exact beq_self_eq_true _
    have f:=zh (zi hq a);clear hq;cases L<;>cases K
    all_goals
     go_enter Tryz.func71,Tryz.ntmps71;go_wp2_with (first|(go_at_call 98;go_fit (i.out _);rintro e d ⟨rfl,rfl⟩)|(go_at_call 99;go_fit (j.out _);rintro e d ⟨rfl,rfl⟩)|(go_at_call 101;go_fit g.out;rintro e d ⟨rfl,rfl⟩));go_ret;exact⟨Zb2 (by rw[decide_eq_true f.out.1,decide_eq_true f.out.2];rfl),rfl⟩
   ·have u:((q:Int)==(s.size:Int))=false:=by simpa using fun e=>hq (by omega)
    have f:=zh (zi hq a);clear hq;cases L<;>cases K
    all_goals
     go_enter Tryz.func71,Tryz.ntmps71;go_wp2_with (first|(go_at_call 98;go_fit (i.out _);rintro e d ⟨rfl,rfl⟩)|(go_at_call 99;go_fit (j.out _);rintro e d ⟨rfl,rfl⟩)|(go_at_call 101;go_fit g.out;rintro e d ⟨rfl,rfl⟩));go_ret;exact⟨Zb2 (by rw[decide_eq_false f.out.1,decide_eq_true f.out.2];rfl),rfl⟩
  ·have k:¬(s.size:Int)<=16:=by omega
   have f:=zh a;clear a;go_enter Tryz.func71,Tryz.ntmps71;go_wp2_with (first|(go_at_call 98;go_fit (i.out _);rintro e d ⟨rfl,rfl⟩)|(go_at_call 99;go_fit (j.out _);rintro e d ⟨rfl,rfl⟩)|(go_at_call 101;go_fit g.out;rintro e d ⟨rfl,rfl⟩));go_ret;exact⟨Zb2 (by rw[decide_eq_false f.out];simp),rfl⟩
theorem Zpr (s:ByteArray) (w:Yh) (h:s.data.toList=[]):Calls Tryz.prog 49 #[.string s] w fun e w'=>e=.returned (.bool (ZQ s.data.toList))/\Below w.heap.size w w':=by
 have a:s=⟨#[]⟩:=by apply ByteArray.ext;apply Array.ext';exact h
 subst a;clear h;go_enter Tryz.func49,Tryz.ntmps49;go_wp2_with fail;go_ret;exact⟨rfl,Below.refl _ _⟩
theorem ZjS (s:ByteArray) (w:Yh) (S:s.size<=maxLen) :
  Calls Tryz.prog 49 #[.string s] w fun e w'=>e=.returned (.bool (ZQ s.data.toList))/\Below w.heap.size w w':=by
 cases h:s.data.toList with
 |nil=>rw[<-h];exact Zpr s w h
 |cons c r=>
  have Q:=fun w=>ZkY s w;have N:=fun w=>Zfc c.toNat w;rw[ZfW]at N;have E:0<s.size:=by rw[<-Zdg,h];simp
  have hc:=Zml h E;have m:=congrArg UInt8.toNat hc;have z0:((s.size:Int)==0)=false:=by simpa using fun e=>by rw[e]at E;cases E
  have l:(c::r).length=s.size:=by rw[<-h,Zdg]
  have hn:ZQ (c::r)=(ZbT c&&decide (s.size<=16)&&decide (Zav Za3 (c::r)=s.size)&&!isKey (c::r)):=by unfold ZQ;rw[l]
  have n:ZbT c=true->Zav Za3 s.data.toList=1+Zav Za3 (s.data.toList.drop 1):=fun q=>by
   rw[h,ZcR,Yo (ZkL q)];show _=1+Zav Za3 r;omega
  rw[hn,<-h];rw[<-h]at hn;generalize T:ZQ s.data.toList=z at *;obtain⟨p,P⟩:∃p,p=Zav Za3 s.data.toList:=⟨_,rfl⟩
  rw[<-P]at n hn⊢;rw[<-hn];generalize isKey s.data.toList=K at *;generalize ZbT c=L at *;have R:=zh Q;have H:=zh N;have y:=zh (zi hn n);generalize c.toNat=U at *;unfold maxLen at S;clear Q N h hc hn l T P n;by_cases b:s.size<=16
  ·have J:(s.size:Int)<=16:=by omega
   have G:=zh b;cases L
   ·clear b;go_enter Tryz.func49,Tryz.ntmps49;go_wp2_with (go_at_call 40;go_fit (H.out _);rintro e o ⟨rfl,rfl⟩);go_ret;exact⟨Zb2 (by rw[y.out.1];rfl),Below.refl _ _⟩
   ·clear b;go_enter Tryz.func49,Tryz.ntmps49;go_wp2_with (go_at_call 40;go_fit (H.out _);rintro e o ⟨rfl,rfl⟩);clear m H;go_loopg [3] (s.size-1) (fun g v3 wr=>∃k:Nat,v3=Yd Yf k/\k<=s.size/\g=s.size-k/\p=k+Zav Za3 (s.data.toList.drop k)/\wr=w)
    case atStart=>exact⟨1,rfl,E,rfl,y.out.2 trivial,rfl⟩
    case round=>
     obtain⟨k,rfl,hk,t,j,rfl⟩:=hrel;have D:=zh j;clear j;by_cases f:k<s.size
     ·have B:=byte_at f;have d:=fun w=>Zfc s[k].toNat w;have i:=fun w=>Zd9 s[k].toNat w;rw[ZfW]at d;rw[Ze1]at i;have V:(k:Int)<(s.size:Int):=by omega
      have i2:(0:Int)<=(k:Int):=by omega
      have W:IntKind.i64.wrap ((k:Int)+1)=(k:Int)+1:=IntWalk.i64_in _ (by omega);by_cases a:Za3 s[k]=true
      ·have O:=zh (ZdB (p:=Za3) B a);rcases ZkK a with q|⟨q,C⟩
       ·rw[q]at d;have A:=zh d;have v:=zh (zi f t);clear d i a q B t;go_wp2_with (go_at_call 40;go_fit (A.out _);rintro e o ⟨rfl,rfl⟩);go_roundg (s.size-(k+1))
        case measure=>have:=v.out;omega
        case rel=>exact⟨k+1,by push_cast;rfl,by have:=v.out;omega,rfl,by have:=O.out;have:=D.out;omega,rfl⟩
       ·rw[q]at d;rw[C]at i;have A:=zh d;have F:=zh i;have v:=zh (zi f t);clear d i a q C B t;go_wp2_with (first|(go_at_call 40;go_fit (A.out _);rintro e o ⟨rfl,rfl⟩)|(go_at_call 41;go_fit (F.out _);rintro e o ⟨rfl,rfl⟩));go_roundg (s.size-(k+1))
        case measure=>have:=v.out;omega
        case rel=>exact⟨k+1,by push_cast;rfl,by have:=v.out;omega,rfl,by have:=O.out;have:=D.out;omega,rfl⟩
      ·have a:Za3 s[k]=false:=by simpa using a
       have I:=Zf8 (p:=Za3) B a;obtain⟨q,C⟩:=ZoT a;rw[q]at d;rw[C]at i;have A:=zh d;have F:=zh i
       have u:=zh (show z=false from by
        have:=D.out;rw[y.out.1,decide_eq_false (show ¬p=s.size by omega)]
        simp)
       clear d i a q C B t I;go_wp2_with (first|(go_at_call 40;go_fit (A.out _);rintro e o ⟨rfl,rfl⟩)|(go_at_call 41;go_fit (F.out _);rintro e o ⟨rfl,rfl⟩));go_ret;exact⟨Zb2 u.out.symm,Below.refl _ _⟩
     ·obtain rfl:k=s.size:=by omega
      have I:=Zfl (p:=Za3) (Nat.le_of_eq (Zdg s))
      have u:=zh (show z=!K from by
       have:=D.out;rw[y.out.1,decide_eq_true (show p=s.size by omega),decide_eq_true G.out]
       rfl)
      clear I f hk t;go_wp2_with (go_at_call 63;go_fit (R.out _);rintro e o ⟨rfl,M⟩);go_ret;exact⟨Zb2 u.out.symm,M⟩
  ·have J:¬(s.size:Int)<=16:=by omega
   have u:=zh (show z=false from by rw[y.out.1,decide_eq_false b];simp);clear b;go_enter Tryz.func49,Tryz.ntmps49;go_wp2_with fail;go_ret;exact⟨Zb2 u.out.symm,Below.refl _ _⟩
end
section
open Go.RowKit
structure Nd where
 kind:Int
 words:List (List UInt8)
 nums:List Int
 kids:List Int
 pos:Int
deriving DecidableEq
def nd0:Nd:=⟨0,[],[],[],0⟩
def Zb (ns:List Nd) (k:Int):Nd:=(ns[k.toNat]?).getD nd0
def Zs (ns:List Nd) (k:Int):Int:=(Zb ns k).kind
def atI (p:List Int) (k:Int):Int:=(p[k.toNat]?).getD (-1)
def ZbY (n a:Nat):List Int->List Int->Option (List Int)
 |[],p=>Ya p
 |k::r,p=>if k<=(a:Int)\/(n:Int)<=k\/0<=atI p k then none else ZbY n a r (p.set k.toNat a)
def Zcx (ns:List Nd):Nat->Option (List Int)
 |0=>Ya (List.replicate ns.length (-1))
 |j+1=>(Zcx ns j).bind fun p=>if 0<j/\atI p j<0 then none else ZbY ns.length j (Zb ns j).kids p
def Zb7 (ns:List Nd):Option (List Int):=if ns.length=0\/1500<ns.length then none else Zcx ns ns.length
def Zc0 (p:List Int):Nat->List Int
 |0=>[]
 |j+1=>Zc0 p j++[if 0<=atI p j then 1+atI (Zc0 p j) (atI p j)else 1]
def Zb1 (p:List Int):List Int:=Zc0 p p.length
def Zf2:List Int->Int
 |[]=>0
 |x::r=>r.foldl max x
def ZcT (k:Int):Bool:=decide (8<=k)&&decide (k<=19)&&!(k==12)&&!(k==15)
def ZR (k:Int):Bool:=decide (20<=k)&&decide (k<=23)
def ZdE (k:Int):Bool:=k==15||ZR k
def ZdM (a:List (List UInt8)):Bool:=a.all ZQ
def Zcm (l:List Int):Bool:=l.all fun x=>decide (0<=x)&&decide (x<1000000000000000000)
def Zr (n:Nd) (w m:Nat):Bool:=decide (n.words.length=w)&&decide (n.nums.length=m)
def isB (a:List Int) (k:Int):Bool:=a.contains k
def Zat (ns:List Nd) (a:List Int) (f:Int->Bool):Bool:=a.all fun k=>f (Zs ns k)
def Zj (ns:List Nd):List Int->List (Int->Bool)->Bool
 |[],[]=>true
 |k::r,f::g=>f (Zs ns k)&&Zj ns r g
 |_,_=>false
def ZaC (ns:List Nd) (k:Int):Int:=match (Zb ns k).nums with
 |[]=>-1
 |x::_=>x
def ZaN (ns:List Nd):List Int->Bool
 |[]=>true
 |[_]=>true
 |a::b::r=>decide (ZaC ns a<ZaC ns b)&&ZaN ns (b::r)
def num (n:Nd) (k:Nat):Int:=(n.nums[k]?).getD 0
def Zen (n:Nd):Bool:=decide (1<=num n 1)&&decide (1<=num n 2)
def ZcU (ns:List Nd) (n:Nd):Bool:=decide (num n 0<=4)&&((num n 1==0&&num n 2==0)||Zen n)&&Zat ns n.kids (isB [6])&&ZaN ns n.kids
def Zfa (ns:List Nd) (n:Nd):Bool:=
 !(num n 0==0)&&decide (num n 0<=4)&&Zen n&&(Zj ns n.kids [isB [7]]||Zj ns n.kids [isB [6],isB [7]]&&ZaC ns (atI n.kids 0)==2)
def Zo (ns:List Nd) (n:Nd):Bool:=
 if n.kind=0 then Zr n 0 0&&Zat ns n.kids (isB [1,4])
 else if n.kind=1 then Zr n 1 0&&Zat ns n.kids (isB [2,3])
 else if n.kind=2 then Zr n 1 1&&decide (num n 0<=1)&&Zj ns n.kids []
 else if n.kind=3 then decide (4<=n.words.length)&&decide (n.words.length % 2=0)&&Zr n n.words.length 0&&Zj ns n.kids []
 else if n.kind=4 then Zr n 1 0&&Zat ns (n.kids.take (n.kids.length-1)) (isB [5])&&Zj ns (n.kids.drop (n.kids.length-1)) [isB [7]]
 else if n.kind=5 then Zr n 1 0&&Zj ns n.kids []||Zr n 2 3&&ZcU ns n
 else if n.kind=6 then decide (1<=n.words.length)&&Zr n n.words.length 1&&decide (num n 0<=2)&&Zj ns n.kids []
 else if n.kind=7 then Zr n 0 0&&Zat ns n.kids ZcT
 else if n.kind=8\/n.kind=9 then Zr n 1 0&&Zj ns n.kids [ZR]
 else if n.kind=10 then Zr n 2 0&&Zj ns n.kids [isB [7],isB [7]]
 else if n.kind=11 then Zr n 2 0&&Zat ns n.kids (isB [12])
 else if n.kind=12 then Zr n 1 0&&Zj ns n.kids [isB [7]]
 else if n.kind=13 then Zr n 2 3&&Zfa ns n
 else if n.kind=14 then(Zr n 1 0||Zr n 2 0)&&Zat ns n.kids ZdE
 else if n.kind=15\/n.kind=21 then Zr n 1 0&&Zj ns n.kids []
 else if n.kind=16 then Zr n 0 0&&(Zj ns n.kids [ZR,isB [7]]||Zj ns n.kids [ZR,isB [7],isB [7]])
 else if n.kind=17 then Zr n 0 0&&Zj ns n.kids [ZR,isB [7]]
 else if n.kind=18\/n.kind=23 then Zr n 0 0&&Zj ns n.kids [ZR]
 else if n.kind=19 then Zr n 0 0&&Zj ns n.kids []
 else if n.kind=20 then Zr n 0 1&&Zj ns n.kids []
 else if n.kind=22 then Zr n 0 1&&decide (num n 0<=5)&&Zj ns n.kids [ZR,ZR]
 else false
def ZE (ns:List Nd) (n:Nd):Bool:=ZdM n.words&&Zcm n.nums&&Zo ns n
def Zb9 (ns:List Nd):Bool:=match Zb7 ns with
 |none=>false
 |some p=>Zs ns 0==0&&decide (Zf2 (Zb1 p)<=24)&&ns.all (ZE ns)
def Zd1 (ns:List Nd):Nat->Int->List Int
 |0,k=>[k]
 |d+1,k=>k::(Zb ns k).kids.flatMap (Zd1 ns d)
end
end Go.Proofs.YtdkegpkfjgloeaaGreatDoor
