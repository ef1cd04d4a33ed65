import Derived.Lib.ItoaNum
import Derived.Lib.BitFns
import Derived.Shelf.Small.Bits
import Derived.Shelf.Strconv.Itoa0
import Derived.Shelf.Strconv.Itoa1
import Derived.Shelf.LaysM
import Derived.Shelf.Strconv.Itoa2
import Derived.Shelf.Strconv.Itoa3
import Derived.Shelf.Strconv.Itoa4
import Derived.Shelf.Bits.Mul64
import Derived.Test.YtbfnnolakggbfaaGreatDoorProg
import Derived.Laws.BitsAllLaws
import Derived.Deep.DeepCutAuto
import Derived.Deep.CutBlock
import Derived.Deep.LoopGhost
import Derived.Test.YtbfnnolakggbfaaGreatDoorQAA
set_option maxRecDepth 100000
set_option maxHeartbeats 8000000
open Option renaming some → Ya
open Go.Value renaming int → Yd
open Go renaming World → Yh
namespace Go.Proofs.YtbfnnolakggbfaaGreatDoor
end Go.Proofs.YtbfnnolakggbfaaGreatDoor
namespace Go.Proofs.YtbfnnolakggbfaaGreatDoor.RatM
theorem ZiW {q y1 r u:Nat} (y0:Nat) (h:q*y1+r=u):q*(y1*4294967296+y0)+r*4294967296=u*4294967296+q*y0:=by subst h;rw[Nat.mul_add,<-Nat.mul_assoc,Nat.add_mul];omega
structure Inv (u y1 y0 v q r:Nat):Prop where
 sum:q*y1+r=u
 top:q<=4294967297
 low:(u*4294967296+v) / (y1*4294967296+y0)<=q
 rest:r<4294967296
theorem quo_lt {u Y v:Nat} (h:u<Y) (a:v<4294967296):(u*4294967296+v) / Y<4294967296:=
 Nat.div_lt_of_lt_mul (by rw[Nat.mul_comm Y];omega)
theorem start {u y1 y0 v:Nat} (a:2147483648<=y1) (b:y1<4294967296) (c:y0<4294967296) (h:u<y1*4294967296+y0) (d:v<4294967296):Inv u y1 y0 v (u / y1) (u % y1) where
 sum:=Nat.div_add_mod' u y1
 top:=by
  have:u / y1<4294967298:=by rw[Nat.div_lt_iff_lt_mul (by omega)];omega
  omega
 low:=by
  rw[Nat.le_div_iff_mul_le (by omega)];have hq:(u*4294967296+v) / (y1*4294967296+y0)*(y1*4294967296+y0)<=u*4294967296+v:=Nat.div_mul_le_self _ _;revert hq;generalize(u*4294967296+v) / (y1*4294967296+y0)=q;intro hq;have e:=ZiW (q:=q) (y1:=y1) (r:=0) y0 rfl;have:=Nat.zero_le (q*y0);omega
 rest:=by have:=Nat.mod_lt u (y:=y1) (by omega);omega
theorem ZpX {Z T a b v:Nat} (e:Z+a=b+T) (c:a+v<T):b+v<Z:=by omega
theorem Zhx {u y1 y0 v q r:Nat} (I:Inv u y1 y0 v q r) (b:0<y1*4294967296+y0) (h:u<y1*4294967296+y0) (c:v<4294967296)
  (a:4294967296<=q\/r*4294967296+v<q*y0):(u*4294967296+v) / (y1*4294967296+y0)+1<=q:=by
 rcases a with a|a
 ·exact Nat.lt_of_lt_of_le (quo_lt h c) a
 ·have:(u*4294967296+v) / (y1*4294967296+y0)<q:=by rw[Nat.div_lt_iff_lt_mul b];exact ZpX (ZiW y0 I.sum) a
  exact this
theorem step {u y1 y0 v q r:Nat} (I:Inv u y1 y0 v q r) (a:0<y1*4294967296+y0) (h:u<y1*4294967296+y0) (c:v<4294967296)
  (b:4294967296<=q\/r*4294967296+v<q*y0) (d:r+y1<4294967296):Inv u y1 y0 v (q-1) (r+y1) where
 sum:=by
  have:=Zhx I a h c b;obtain⟨p,rfl⟩:∃p,q=p+1:=⟨q-1,(Nat.sub_add_cancel (Nat.le_trans (Nat.le_add_left _ _) this)).symm⟩
  have:=I.sum;rw[Nat.add_mul]at this;simp only[Nat.add_sub_cancel];omega
 top:=by have:=I.top;omega
 low:=by have g:=Zhx I a h c b;exact Nat.le_sub_one_of_lt g
 rest:=d
theorem right {u y1 y0 v q r:Nat} (I:Inv u y1 y0 v q r) (a:0<y1*4294967296+y0)
  (b:q*y0<=r*4294967296+v):q=(u*4294967296+v) / (y1*4294967296+y0):=by
 refine Nat.le_antisymm ?_ I.low;rw[Nat.le_div_iff_mul_le a];have e:=ZiW y0 I.sum;omega
theorem left {u y1 y0 v q r:Nat} (I:Inv u y1 y0 v q r) (a:0<y1*4294967296+y0) (h:u<y1*4294967296+y0) (f:v<4294967296) (i:y0<4294967296)
  (d:4294967296<=q\/r*4294967296+v<q*y0) (j:4294967296<=r+y1):q-1=(u*4294967296+v) / (y1*4294967296+y0):=by
 have g:=Zhx I a h f d;refine Nat.le_antisymm ?_ (Nat.le_sub_one_of_lt g);rw[Nat.le_div_iff_mul_le a];obtain⟨p,rfl⟩:∃p,q=p+1:=⟨q-1,(Nat.sub_add_cancel (Nat.le_trans (Nat.le_add_left _ _) g)).symm⟩
 have t:=I.top;have s:=I.sum;rw[Nat.add_mul]at s;simp only[Nat.add_sub_cancel];have c:p*y1+(r+y1)=u:=by omega
 have e:=ZiW y0 c;have b:p*y0<=4294967296*y0:=Nat.mul_le_mul_right _ (by omega);omega
theorem two_digits (X Y u a b:Nat) (h:0<Y) (g:X=(u*4294967296+a)*4294967296+b) :
  X / Y=(u*4294967296+a) / Y*4294967296+((u*4294967296+a) % Y*4294967296+b) / Y ∧
  X % Y=((u*4294967296+a) % Y*4294967296+b) % Y:=by
 have e:=Nat.div_add_mod (u*4294967296+a) Y;obtain⟨Q,d⟩:∃Q,Q=(u*4294967296+a) / Y:=⟨_,rfl⟩
 obtain⟨R,f⟩:∃R,R=(u*4294967296+a) % Y:=⟨_,rfl⟩
 rw[<-d,<-f]at e;rw[<-d,<-f];have c:X=(R*4294967296+b)+Y*(Q*4294967296):=by rw[g,<-e,Nat.add_mul,<-Nat.mul_assoc];omega
 rw[c];exact⟨by rw[Nat.add_mul_div_left _ _ h];omega,by rw[Nat.add_mul_mod_self_left]⟩
theorem moved (X y s:Nat):X*2 ^ s / (y*2 ^ s)=X / y/\X*2 ^ s % (y*2 ^ s) / 2 ^ s=X % y:=by have a:0<2 ^ s:=Nat.two_pow_pos s;refine⟨Nat.mul_div_mul_right _ _ a,?_⟩;rw[Nat.mul_mod_mul_right,Nat.mul_div_cancel _ a]
theorem noughts (y:Nat) (g:0<y) (h:y<18446744073709551616):Lib.bitLen y<=64/\1<=Lib.bitLen y/\9223372036854775808<=y*2 ^ (64-Lib.bitLen y)/\y*2 ^ (64-Lib.bitLen y)<18446744073709551616:=by
 obtain⟨a,b,c⟩:=Lib.bitLenAux_bounds 64 y h (by omega);have f:Lib.bitLen y<=64:=Lib.bitLen_le y 64 (by omega) h;change 1<=Lib.bitLen y at a;change 2 ^ (Lib.bitLen y-1)<=y at b;change y<2 ^ Lib.bitLen y at c;generalize Lib.bitLen y=k at *;have d:2 ^ (k-1)*2 ^ (64-k)=2 ^ 63:=by rw[<-Nat.pow_add];congr 1;omega
 have e:2 ^ k*2 ^ (64-k)=2 ^ 64:=by rw[<-Nat.pow_add];congr 1;omega
 refine⟨f,a,?_,?_⟩
 ·have:=Nat.mul_le_mul_right (2 ^ (64-k)) b;rw[d]at this;omega
 ·have:=(Nat.mul_lt_mul_right (Nat.two_pow_pos (64-k))).2 c;rw[e]at this;omega
end Go.Proofs.YtbfnnolakggbfaaGreatDoor.RatM
namespace Go.Proofs.YtbfnnolakggbfaaGreatDoor
end Go.Proofs.YtbfnnolakggbfaaGreatDoor
namespace Go.Proofs
open Go.Shelf
def Tryz.lays134_ren:Go.Shelf.Ren:=⟨fun|134=>143|129=>135|n=>n,fun|53=>83|3=>3|4=>4|46=>142|5=>5|9=>9|n=>n,fun|n=>n⟩
theorem Tryz.lays134:Go.Proofs.Lays.n134 Tryz.prog Tryz.lays134_ren:={
 mixed:=by kernel_rfl
 f129:=Tryz.func135.trans (congrArg Ya (by kernel_rfl))
 f134:=Tryz.func143.trans (congrArg Ya (by kernel_rfl))
 t3:=Tryz.underlying3
 a3:=Tryz.isAgg3
 z3:=Tryz.sizeOf3
 v3:=Tryz.zeroValue3
 t4:=Tryz.underlying4
 a4:=Tryz.isAgg4
 z4:=Tryz.sizeOf4
 v4:=Tryz.zeroValue4
 t5:=Tryz.underlying5
 a5:=Tryz.isAgg5
 z5:=Tryz.sizeOf5
 v5:=Tryz.zeroValue5
 t9:=Tryz.underlying9
 a9:=Tryz.isAgg9
 z9:=Tryz.sizeOf9
 v9:=Tryz.zeroValue9
 t46:=Tryz.underlying142
 a46:=Tryz.isAgg142
 z46:=Tryz.sizeOf142
 v46:=Tryz.zeroValue142
 t53:=Tryz.underlying83
 a53:=Tryz.isAgg83
 z53:=Tryz.sizeOf83
 v53:=Tryz.zeroValue83 }
theorem Tryz.bits_LeadingZeros64 (x:Int) (w:Yh) (a:0<=x) (b:x<=18446744073709551615) :
  Calls Tryz.prog 143 #[.int .u64 x] w fun e w'=>e=.returned (Yd .i64 (64-(Lib.bitLen x.toNat:Int)))/\w'=w:=Any.bits_LeadingZeros64 Tryz.lays134 x w a b
def Tryz.laysM171_ren:Go.Shelf.Ren:=⟨fun|171=>19|243=>36|246=>57|283=>88|284=>89|285=>90|286=>91|129=>135|317=>134|318=>136|319=>137|320=>138|337=>154|338=>155|n=>n,fun|3=>3|9=>9|2=>2|4=>4|171=>132|0=>0|53=>83|37=>68|5=>5|173=>135|212=>183|51=>24|20=>20|213=>184|46=>142|232=>201|233=>202|n=>n,fun|17=>2|18=>5|19=>6|n=>n⟩
theorem Tryz.laysM171:Go.Proofs.LaysM.n171 Tryz.prog Tryz.laysM171_ren:={
 mixed:=by kernel_rfl
 f129:=Tryz.func135.trans (congrArg Ya (by kernel_rfl))
 f171:=Tryz.func19.trans (congrArg Ya (by kernel_rfl))
 f243:=Tryz.func36.trans (congrArg Ya (by kernel_rfl))
 f246:=Tryz.func57.trans (congrArg Ya (by kernel_rfl))
 f283:=Tryz.func88.trans (congrArg Ya (by kernel_rfl))
 f284:=Tryz.func89.trans (congrArg Ya (by kernel_rfl))
 f285:=Tryz.func90.trans (congrArg Ya (by kernel_rfl))
 f286:=Tryz.func91.trans (congrArg Ya (by kernel_rfl))
 f317:=Tryz.func134.trans (congrArg Ya (by kernel_rfl))
 f318:=Tryz.func136.trans (congrArg Ya (by kernel_rfl))
 f319:=Tryz.func137.trans (congrArg Ya (by kernel_rfl))
 f320:=Tryz.func138.trans (congrArg Ya (by kernel_rfl))
 f337:=Tryz.func154.trans (congrArg Ya (by kernel_rfl))
 f338:=Tryz.func155.trans (congrArg Ya (by kernel_rfl))
 t0:=Tryz.underlying0
 a0:=Tryz.isAgg0
 z0:=Tryz.sizeOf0
 v0:=Tryz.zeroValue0
 t2:=Tryz.underlying2
 a2:=Tryz.isAgg2
 z2:=Tryz.sizeOf2
 v2:=Tryz.zeroValue2
 t3:=Tryz.underlying3
 a3:=Tryz.isAgg3
 z3:=Tryz.sizeOf3
 v3:=Tryz.zeroValue3
 t4:=Tryz.underlying4
 a4:=Tryz.isAgg4
 z4:=Tryz.sizeOf4
 v4:=Tryz.zeroValue4
 t5:=Tryz.underlying5
 a5:=Tryz.isAgg5
 z5:=Tryz.sizeOf5
 v5:=Tryz.zeroValue5
 t9:=Tryz.underlying9
 a9:=Tryz.isAgg9
 z9:=Tryz.sizeOf9
 v9:=Tryz.zeroValue9
 t20:=Tryz.underlying20
 a20:=Tryz.isAgg20
 z20:=Tryz.sizeOf20
 v20:=Tryz.zeroValue20
 t37:=Tryz.underlying68
 a37:=Tryz.isAgg68
 z37:=Tryz.sizeOf68
 v37:=Tryz.zeroValue68
 t46:=Tryz.underlying142
 a46:=Tryz.isAgg142
 z46:=Tryz.sizeOf142
 v46:=Tryz.zeroValue142
 t51:=Tryz.underlying24
 a51:=Tryz.isAgg24
 z51:=Tryz.sizeOf24
 v51:=Tryz.zeroValue24
 t53:=Tryz.underlying83
 a53:=Tryz.isAgg83
 z53:=Tryz.sizeOf83
 v53:=Tryz.zeroValue83
 t171:=Tryz.underlying132
 a171:=Tryz.isAgg132
 z171:=Tryz.sizeOf132
 v171:=Tryz.zeroValue132
 t173:=Tryz.underlying135
 a173:=Tryz.isAgg135
 z173:=Tryz.sizeOf135
 v173:=Tryz.zeroValue135
 t212:=Tryz.underlying183
 a212:=Tryz.isAgg183
 z212:=Tryz.sizeOf183
 v212:=Tryz.zeroValue183
 t213:=Tryz.underlying184
 a213:=Tryz.isAgg184
 z213:=Tryz.sizeOf184
 t232:=Tryz.underlying201
 a232:=Tryz.isAgg201
 z232:=Tryz.sizeOf201
 v232:=Tryz.zeroValue201
 t233:=Tryz.underlying202
 a233:=Tryz.isAgg202
 z233:=Tryz.sizeOf202
 v233:=Tryz.zeroValue202
 g17:=by kernel_rfl
 g18:=by kernel_rfl
 g19:=by kernel_rfl
 i0:=by kernel_rfl
 i2:=by kernel_rfl
 i3:=by kernel_rfl
 i4:=by kernel_rfl
 i5:=by kernel_rfl
 i9:=by kernel_rfl
 i20:=by kernel_rfl
 i37:=by kernel_rfl
 i46:=by kernel_rfl
 i51:=by kernel_rfl
 i53:=by kernel_rfl
 i171:=by kernel_rfl
 i173:=by kernel_rfl
 i212:=by kernel_rfl
 i232:=by kernel_rfl
 i233:=by kernel_rfl
 m17:=by kernel_rfl
 m18:=by kernel_rfl
 m19:=by kernel_rfl }
open Go.RowKit Go.Sort Go.Lib in
theorem Tryz.strconv_Itoa (n:Int) (b:-9223372036854775808<=n) (c:n<=9223372036854775807) (w:Yh) (a:Lib.TabIs Tryz.prog w "internal/strconv.uint64pow10" .u64 Lib.pow10Tab) :
  Calls Tryz.prog 19 #[Yd .i64 n] w fun e w'=>e=.returned (.string ⟨(Lib.itoa n).toArray⟩)/\∃k d,w'=grow (w.drewN k) d:=Any.strconv_Itoa Tryz.laysM171 n b c w a
def Tryz.laysM173_ren:Go.Shelf.Ren:=⟨fun|173=>35|246=>57|283=>88|284=>89|285=>90|286=>91|129=>135|317=>134|318=>136|319=>137|320=>138|337=>154|338=>155|n=>n,fun|2=>2|3=>3|9=>9|4=>4|171=>132|0=>0|53=>83|37=>68|5=>5|173=>135|212=>183|51=>24|20=>20|213=>184|46=>142|232=>201|233=>202|n=>n,fun|17=>2|18=>5|19=>6|n=>n⟩
theorem Tryz.laysM173:Go.Proofs.LaysM.n173 Tryz.prog Tryz.laysM173_ren:={
 mixed:=by kernel_rfl
 f129:=Tryz.func135.trans (congrArg Ya (by kernel_rfl))
 f173:=Tryz.func35.trans (congrArg Ya (by kernel_rfl))
 f246:=Tryz.func57.trans (congrArg Ya (by kernel_rfl))
 f283:=Tryz.func88.trans (congrArg Ya (by kernel_rfl))
 f284:=Tryz.func89.trans (congrArg Ya (by kernel_rfl))
 f285:=Tryz.func90.trans (congrArg Ya (by kernel_rfl))
 f286:=Tryz.func91.trans (congrArg Ya (by kernel_rfl))
 f317:=Tryz.func134.trans (congrArg Ya (by kernel_rfl))
 f318:=Tryz.func136.trans (congrArg Ya (by kernel_rfl))
 f319:=Tryz.func137.trans (congrArg Ya (by kernel_rfl))
 f320:=Tryz.func138.trans (congrArg Ya (by kernel_rfl))
 f337:=Tryz.func154.trans (congrArg Ya (by kernel_rfl))
 f338:=Tryz.func155.trans (congrArg Ya (by kernel_rfl))
 t0:=Tryz.underlying0
 a0:=Tryz.isAgg0
 z0:=Tryz.sizeOf0
 v0:=Tryz.zeroValue0
 t2:=Tryz.underlying2
 a2:=Tryz.isAgg2
 z2:=Tryz.sizeOf2
 v2:=Tryz.zeroValue2
 t3:=Tryz.underlying3
 a3:=Tryz.isAgg3
 z3:=Tryz.sizeOf3
 v3:=Tryz.zeroValue3
 t4:=Tryz.underlying4
 a4:=Tryz.isAgg4
 z4:=Tryz.sizeOf4
 v4:=Tryz.zeroValue4
 t5:=Tryz.underlying5
 a5:=Tryz.isAgg5
 z5:=Tryz.sizeOf5
 v5:=Tryz.zeroValue5
 t9:=Tryz.underlying9
 a9:=Tryz.isAgg9
 z9:=Tryz.sizeOf9
 v9:=Tryz.zeroValue9
 t20:=Tryz.underlying20
 a20:=Tryz.isAgg20
 z20:=Tryz.sizeOf20
 v20:=Tryz.zeroValue20
 t37:=Tryz.underlying68
 a37:=Tryz.isAgg68
 z37:=Tryz.sizeOf68
 v37:=Tryz.zeroValue68
 t46:=Tryz.underlying142
 a46:=Tryz.isAgg142
 z46:=Tryz.sizeOf142
 v46:=Tryz.zeroValue142
 t51:=Tryz.underlying24
 a51:=Tryz.isAgg24
 z51:=Tryz.sizeOf24
 v51:=Tryz.zeroValue24
 t53:=Tryz.underlying83
 a53:=Tryz.isAgg83
 z53:=Tryz.sizeOf83
 v53:=Tryz.zeroValue83
 t171:=Tryz.underlying132
 a171:=Tryz.isAgg132
 z171:=Tryz.sizeOf132
 v171:=Tryz.zeroValue132
 t173:=Tryz.underlying135
 a173:=Tryz.isAgg135
 z173:=Tryz.sizeOf135
 v173:=Tryz.zeroValue135
 t212:=Tryz.underlying183
 a212:=Tryz.isAgg183
 z212:=Tryz.sizeOf183
 v212:=Tryz.zeroValue183
 t213:=Tryz.underlying184
 a213:=Tryz.isAgg184
 z213:=Tryz.sizeOf184
 t232:=Tryz.underlying201
 a232:=Tryz.isAgg201
 z232:=Tryz.sizeOf201
 v232:=Tryz.zeroValue201
 t233:=Tryz.underlying202
 a233:=Tryz.isAgg202
 z233:=Tryz.sizeOf202
 v233:=Tryz.zeroValue202
 g17:=by kernel_rfl
 g18:=by kernel_rfl
 g19:=by kernel_rfl
 i0:=by kernel_rfl
 i2:=by kernel_rfl
 i3:=by kernel_rfl
 i4:=by kernel_rfl
 i5:=by kernel_rfl
 i9:=by kernel_rfl
 i20:=by kernel_rfl
 i37:=by kernel_rfl
 i46:=by kernel_rfl
 i51:=by kernel_rfl
 i53:=by kernel_rfl
 i171:=by kernel_rfl
 i173:=by kernel_rfl
 i212:=by kernel_rfl
 i232:=by kernel_rfl
 i233:=by kernel_rfl
 m17:=by kernel_rfl
 m18:=by kernel_rfl
 m19:=by kernel_rfl }
open Go.RowKit Go.Sort Go.Lib in
theorem Tryz.strconv_FormatInt_10 (n:Int) (b:-9223372036854775808<=n) (c:n<=9223372036854775807) (w:Yh) (a:Lib.TabIs Tryz.prog w "internal/strconv.uint64pow10" .u64 Lib.pow10Tab) :
  Calls Tryz.prog 35 #[Yd .i64 n,Yd .i64 10] w fun e w'=>e=.returned (.string ⟨(Lib.itoa n).toArray⟩)/\∃k d,w'=grow (w.drewN k) d:=Any.strconv_FormatInt_10 Tryz.laysM173 n b c w a
def Tryz.lays264_ren:Go.Shelf.Ren:=⟨fun|264=>61|n=>n,fun|53=>83|46=>142|n=>n,fun|n=>n⟩
theorem Tryz.lays264:Go.Proofs.Lays.n264 Tryz.prog Tryz.lays264_ren:={
 mixed:=by kernel_rfl
 f264:=Tryz.func61.trans (congrArg Ya (by kernel_rfl))
 t46:=Tryz.underlying142
 a46:=Tryz.isAgg142
 z46:=Tryz.sizeOf142
 v46:=Tryz.zeroValue142
 t53:=Tryz.underlying83
 a53:=Tryz.isAgg83
 z53:=Tryz.sizeOf83
 v53:=Tryz.zeroValue83 }
open Go.RowKit Go.Lib in
theorem Tryz.bits_Mul64 (x y:Nat) (a:x<18446744073709551616) (b:y<18446744073709551616) (w:Yh) :
  Calls Tryz.prog 61 #[.int .u64 x,.int .u64 y] w fun e w'=>e=.returned (.tuple #[.int .u64 ((x*y / 18446744073709551616:Nat):Int),.int .u64 ((x*y % 18446744073709551616:Nat):Int)])/\w'=w:=Any.bits_Mul64 Tryz.lays264 x y a b w
end Go.Proofs
namespace Go.Proofs.YtbfnnolakggbfaaGreatDoor
section
open Go.RowKit
theorem up2 (k:Nat):(2:Int) ^ k=((2 ^ k:Nat):Int):=(Int.natCast_pow 2 k).symm
theorem ZiH (a k:Nat):IntKind.u64.wrap ((a:Int)*2 ^ k)=((a*2 ^ k % 18446744073709551616:Nat):Int):=by rw[up2,Mul64.mulN,Mul64.wrapM]
theorem Zns (a k:Nat):(a:Int) / 2 ^ k=((a / 2 ^ k:Nat):Int):=by rw[up2];exact(Int.natCast_ediv a (2 ^ k)).symm
theorem Zqs (a b k:Nat) (g:k<=64) (h:a*2 ^ k<18446744073709551616) (c:b<18446744073709551616) :
  bits .or .u64 (IntKind.u64.wrap ((a:Int)*2 ^ k)) ((b:Int) / 2 ^ (64-k))=(((a*18446744073709551616+b)*2 ^ k / 18446744073709551616:Nat):Int):=by
 rw[ZiH,Zns,Nat.mod_eq_of_lt h];have e:2 ^ (64-k)*2 ^ k=18446744073709551616:=by rw[<-Nat.pow_add,Nat.sub_add_cancel g]
 have j:0<2 ^ (64-k):=Nat.two_pow_pos _;have hq:0<2 ^ k:=Nat.two_pow_pos _;have i:b / 2 ^ (64-k)<2 ^ k:=by rw[Nat.div_lt_iff_lt_mul j,Nat.mul_comm,e];exact c
 have f:b / 2 ^ (64-k)<18446744073709551616:=Nat.lt_of_le_of_lt (Nat.div_le_self _ _) c;rw[u64_or_nat _ _ h f];have o:=Nat.two_pow_add_eq_or_of_lt i a;rw[Nat.mul_comm]at o;rw[<-o];have d:(a*18446744073709551616+b)*2 ^ k / 18446744073709551616=a*2 ^ k+b / 2 ^ (64-k):=by
  have r:(a*18446744073709551616+b)*2 ^ k=b*2 ^ k+18446744073709551616*(a*2 ^ k):=by rw[Nat.add_mul,Nat.mul_assoc,Nat.mul_comm 18446744073709551616 (2 ^ k),<-Nat.mul_assoc,Nat.mul_comm (a*2 ^ k),Nat.add_comm]
  rw[r,Nat.add_mul_div_left _ _ (by decide),Nat.add_comm]
  congr 1
  rw[<-e];exact Nat.mul_div_mul_right _ _ hq
 rw[d]
structure Moved (hi lo y k y1 y0 U t1 t0:Nat):Prop where
 small:k<=64
 div:y*2 ^ k=y1*4294967296+y0
 top:U=(hi*18446744073709551616+lo)*2 ^ k / 18446744073709551616
 low:lo*2 ^ k % 18446744073709551616=t1*4294967296+t0
 all:(hi*18446744073709551616+lo)*2 ^ k=(U*4294967296+t1)*4294967296+t0
 top_lt:U<y1*4294967296+y0
 y1_ge:2147483648<=y1
 y1_lt:y1<4294967296
 y0_lt:y0<4294967296
 t1_lt:t1<4294967296
 t0_lt:t0<4294967296
 no_wrap:hi*2 ^ k<18446744073709551616
theorem moved (b a y:Nat) (f:b<y) (o:a<18446744073709551616) (g:y<18446744073709551616) :
  ∃k y1 y0 U l t0,Moved b a y k y1 y0 U l t0/\k=64-Lib.bitLen y:=by
 obtain⟨m,n,d,e⟩:=RatM.noughts y (by omega) g;obtain⟨k,c⟩:∃k,k=64-Lib.bitLen y:=⟨_,rfl⟩
 rw[<-c]at d e;have hm:(b+1)*2 ^ k<=y*2 ^ k:=Nat.mul_le_mul_right _ f;rw[Nat.add_mul,Nat.one_mul]at hm;have hq:0<2 ^ k:=Nat.two_pow_pos _;have j:(b*18446744073709551616+a)*2 ^ k / 18446744073709551616<y*2 ^ k:=by rw[Nat.div_lt_iff_lt_mul (by decide),Nat.mul_right_comm];refine(Nat.mul_lt_mul_right hq).2 ?_;omega
 have h:=Nat.div_add_mod ((b*18446744073709551616+a)*2 ^ k) 18446744073709551616;have i:(b*18446744073709551616+a)*2 ^ k % 18446744073709551616=a*2 ^ k % 18446744073709551616:=by rw[Nat.add_mul,Nat.mul_right_comm,Nat.mul_add_mod_self_right]
 rw[i]at h;refine⟨k,y*2 ^ k / 4294967296,y*2 ^ k % 4294967296,_,a*2 ^ k % 18446744073709551616 / 4294967296,a*2 ^ k % 18446744073709551616 % 4294967296,⟨by omega,?_,rfl,?_,?_,?_,?_,?_,?_,?_,?_,by omega⟩,c⟩
 all_goals omega
theorem Zbj (u y:Nat) (hu:u<18446744073709551616):IntKind.u64.wrap ((u:Int) / (y:Int))=((u / y:Nat):Int):=by have:((u / y:Nat):Int)=(u:Int) / (y:Int):=Int.natCast_ediv u y;rw[<-this,Mul64.wrapN _ (Nat.lt_of_le_of_lt (Nat.div_le_self _ _) hu)]
theorem ZiX (u y:Nat) (hu:u<18446744073709551616) :
  IntKind.u64.wrap ((u:Int)-IntKind.u64.wrap (IntKind.u64.wrap ((u:Int) / (y:Int))*(y:Int)))=((u % y:Nat):Int):=by
 rw[Zbj u y hu,Mul64.mulN];have h:=Nat.div_add_mod' u y;rw[Mul64.wrapN _ (by omega),IntWalk.u64_in _ (by omega)];omega
theorem Zme (a b Y:Nat) (f:0<Y) (g:Y<18446744073709551616) :
  IntKind.u64.wrap (IntKind.u64.wrap (IntKind.u64.wrap ((a:Int)*4294967296)+(b:Int))-IntKind.u64.wrap ((((a*4294967296+b) / Y:Nat):Int)*(Y:Int)))=(((a*4294967296+b) % Y:Nat):Int):=by
 have d:=Nat.div_add_mod' (a*4294967296+b) Y;have l:=Nat.mod_lt (a*4294967296+b) f;rw[Mul64.mulN];obtain⟨P,e⟩:∃P,P=(a*4294967296+b) / Y*Y:=⟨_,rfl⟩
 obtain⟨R,c⟩:∃R,R=(a*4294967296+b) % Y:=⟨_,rfl⟩
 rw[<-e,<-c]at d;rw[<-c]at l;rw[<-e,<-c];simp only[IntKind.wrap_u64];omega
theorem Znq {k l:IntKind} {a b c d:Int} (h:a=b) (e:c=d):Ending.returned (.tuple #[.int k a,.int l c])=.returned (.tuple #[.int k b,.int l d]):=by rw[h,e]
def ZkZ (u y1 y0 v:Nat) (w:Yh) (g:Nat) (a b:Value) (c:Yh):Prop:=w=c/\∃r:Nat,RatM.Inv u y1 y0 v g r/\a=.int .u64 g/\b=.int .u64 r
theorem ZrZ (k:Nat) (y:Nat) (e:k=64-Lib.bitLen y) (a:Lib.bitLen y<=64):(64:Int)-(Lib.bitLen y:Int)=((k:Nat):Int):=by omega
theorem ZoJ (H J y:Nat) (w:Yh) (h1:H<y) (h2:J<18446744073709551616) (h3:y<18446744073709551616) (h4:0<H) :
  Calls Tryz.prog 98 #[.int .u64 H,.int .u64 J,.int .u64 y] w fun e w'=>e=.returned (.tuple #[.int .u64 ((H*18446744073709551616+J) / y:Nat),.int .u64 ((H*18446744073709551616+J) % y:Nat)])/\w=w':=by
 obtain⟨k,i,f,U,p,t0,M,hk⟩:=moved H J y h1 h2 h3;have K:=Lib.hid hk;have lz:∀w,Calls Tryz.prog 143 #[.int .u64 y] w fun e w'=>e=.returned (Yd .i64 (k:Nat))/\w=w':=by intro w;have:=Tryz.bits_LeadingZeros64 (y:Int) w (by omega) (by omega);simp only[Int.toNat_natCast]at this;rw[ZrZ k y hk (RatM.noughts y (by omega) h3).1]at this;exact this.mono fun _ _ ⟨he,hw⟩=>⟨he,hw.symm⟩
 clear hk;have ai:=M.small;obtain⟨Y,hY⟩:∃Y,Y=i*4294967296+f:=⟨_,rfl⟩
 obtain⟨T,hT⟩:∃T,T=p*4294967296+t0:=⟨_,rfl⟩
 obtain⟨Q1,ah⟩:∃Q1,Q1=(U*4294967296+p) / (i*4294967296+f):=⟨_,rfl⟩
 have KY:=Lib.hid hY;have KT:=Lib.hid hT;have X:=Lib.hid ah;clear hY hT ah;go_enter Tryz.func98,Tryz.ntmps98;go_upto_region 14 with(go_at_call 143;refine(lz _).mono ?_;rintro e w' ⟨rfl,rfl⟩)
 go_cut [2,8,9,10,11,12,13,14] (fun v2 v8 v9 ay az a6 a7 a8 F=>v2=.int .u64 (Y:Nat)/\v8=.int .u64 (k:Nat) ∧
  v9=.int .u64 (i:Nat)/\ay=.int .u64 (f:Nat)/\az=.int .u64 (U:Nat)/\a6=.int .u64 (T:Nat)/\a7=.int .u64 (p:Nat)/\a8=.int .u64 (t0:Nat)/\w=F)
 case first=>
  go_wp2_with fail;go_meet;have d:=M.div;have l:=M.low;have a1:IntKind.u64.wrap ((y:Int)*2 ^ k)=((i*4294967296+f:Nat):Int):=by rw[ZiH,d,Nat.mod_eq_of_lt];have:=M.y1_lt;have:=M.y0_lt;omega
  have a2:IntKind.u64.wrap ((J:Int)*2 ^ k)=((p*4294967296+t0:Nat):Int):=by rw[ZiH,l]
  have a3:=Zqs H J k ai M.no_wrap h2;rw[<-M.top]at a3;have b1:=M.y1_lt;have b2:=M.y0_lt;have b3:=M.t1_lt;have b4:=M.t0_lt;rw[a1,a2,a3,Mul64.maskN _ (by omega),Mul64.maskN _ (by omega),KY.out,KT.out];refine⟨rfl,rfl,?_,?_,rfl,rfl,?_,?_,rfl⟩
  all_goals
   congr 1
   omega
 case rest=>
  obtain⟨rfl,rfl,rfl,rfl,rfl,rfl,rfl,rfl,rfl⟩:=hcut;have e1:2147483648<=i:=M.y1_ge;have e2:i<4294967296:=M.y1_lt;have e3:f<4294967296:=M.y0_lt;have e4:p<4294967296:=M.t1_lt;have e5:t0<4294967296:=M.t0_lt;have G:U<i*4294967296+f:=M.top_lt;have n1:((i:Int)==0)=false:=by simp;omega
  go_upto_block 0 with fail;rw[ZiX U i (by omega),Zbj U i (by omega)];go_cut [15,16] (fun V D F=>V=.int .u64 (Q1:Nat)/\w=F)
  case first=>
   go_wp2_with fail;go_loopg [15,16] (U / i) (fun g V D F=>ZkZ U i f p w g V D F)
   case atStart=>exact⟨rfl,U % i,RatM.start e1 e2 e3 G e4,rfl,rfl⟩
   case round=>
    obtain⟨rfl,r,I,rfl,rfl⟩:=hrel;have E:=Lib.hid (And.intro e1 (And.intro e2 (And.intro e3 (And.intro e4 (And.intro e5 G)))));have r1:=I.rest;have r2:=I.top;have x:=Lib.hid I;have w1:IntKind.u64.wrap ((r:Int)+(i:Int))=((r+i:Nat):Int):=by rw[Mul64.addN,Mul64.wrapN _ (by omega)]
    have w3:IntKind.u64.wrap (4294967296*(r:Int))=((4294967296*r:Nat):Int):=by rw[IntWalk.u64_in _ (by omega)];omega
    have w4:IntKind.u64.wrap (((4294967296*r:Nat):Int)+(p:Int))=((4294967296*r+p:Nat):Int):=by rw[Mul64.addN,Mul64.wrapN _ (by omega)]
    obtain⟨j,t⟩:∃j,j=r+i:=⟨_,rfl⟩
    obtain⟨s3,o⟩:∃s3,s3=4294967296*r:=⟨_,rfl⟩
    obtain⟨C,u⟩:∃C,C=4294967296*r+p:=⟨_,rfl⟩
    rw[<-t]at w1;rw[<-u,<-o]at w4;rw[<-o]at w3;have S:=Lib.hid (And.intro t (And.intro o u));have R:=Lib.hid (And.intro r1 r2);clear I e1 e2 e3 e4 e5 G h1 h2 h3 h4 t o u r1 r2 n1;by_cases Q:4294967296<=gk
    ·have d1:decide ((4294967296:Int)<=(gk:Int))=true:=decide_eq_true (by omega);have w2:IntKind.u64.wrap ((gk:Int)-1)=((gk-1:Nat):Int):=by have:=R.out;rw[IntWalk.u64_in _ (by omega)];omega
     have B:=Lib.hid (Or.inl Q:4294967296<=gk\/r*4294967296+p<gk*f);have L:=Lib.hid (show 1<=gk by omega);clear Q;by_cases n:j<4294967296
     ·have d2:decide ((4294967296:Int)<=(j:Int))=false:=decide_eq_false (by omega);have Z:=Lib.hid n;clear n;go_wp2;go_roundg (gk-1)
      case measure=>have:=L.out;omega
      case rel=>exact⟨rfl,j,by have:=S.out;have:=E.out;rw[S.out.1];exact RatM.step x.out (by omega) (by omega) (by omega) B.out (by have:=Z.out;omega),rfl,rfl⟩
     ·have d2:decide ((4294967296:Int)<=(j:Int))=true:=decide_eq_true (by omega);have Z:=Lib.hid n;clear n;go_wp2;go_meet;exact⟨by have:=S.out;have:=E.out;have:=Z.out;rw[X.out,RatM.left x.out (by omega) (by omega) (by omega) (by omega) B.out (by omega)],rfl⟩
    ·have hP:gk*f<18446744073709551616:=by have:=E.out;have:=Nat.mul_le_mul (show gk<=4294967295 by omega) (show f<=4294967295 by omega);omega
     have d1:decide ((4294967296:Int)<=(gk:Int))=false:=decide_eq_false (by omega);have w5:IntKind.u64.wrap ((gk:Int)*(f:Int))=((gk*f:Nat):Int):=by rw[Mul64.mulN,Mul64.wrapN _ hP]
     obtain⟨P,s⟩:∃P,P=gk*f:=⟨_,rfl⟩
     rw[<-s]at w5;have N:=Lib.hid s;clear hP s Q;by_cases hc:C<P
     ·have d3:decide (C<P)=true:=decide_eq_true hc;have A:1<=gk:=by
       rcases Nat.eq_zero_or_pos gk with h|h
       ·have:=N.out;rw[h,Nat.zero_mul]at this;omega
       ·exact h
      have w2:IntKind.u64.wrap ((gk:Int)-1)=((gk-1:Nat):Int):=by have:=R.out;rw[IntWalk.u64_in _ (by omega)];omega
      have B:=Lib.hid (Or.inr (by have:=S.out;have:=N.out;omega):4294967296<=gk\/r*4294967296+p<gk*f);have L:=Lib.hid A;clear A hc;by_cases n:j<4294967296
      ·have d2:decide ((4294967296:Int)<=(j:Int))=false:=decide_eq_false (by omega);have Z:=Lib.hid n;clear n;go_wp2;go_roundg (gk-1)
       case measure=>have:=L.out;omega
       case rel=>exact⟨rfl,j,by have:=S.out;have:=E.out;rw[S.out.1];exact RatM.step x.out (by omega) (by omega) (by omega) B.out (by have:=Z.out;omega),rfl,rfl⟩
      ·have d2:decide ((4294967296:Int)<=(j:Int))=true:=decide_eq_true (by omega);have Z:=Lib.hid n;clear n;go_wp2;go_meet;exact⟨by have:=S.out;have:=E.out;have:=Z.out;rw[X.out,RatM.left x.out (by omega) (by omega) (by omega) (by omega) B.out (by omega)],rfl⟩
     ·have d3:decide (C<P)=false:=decide_eq_false hc;have B:=Lib.hid (show gk*f<=r*4294967296+p by have:=S.out;have:=N.out;omega);clear hc;go_wp2;go_meet;exact⟨by have:=E.out;rw[X.out,RatM.right x.out (by omega) B.out],rfl⟩
  case rest=>
   obtain⟨rfl,rfl⟩:=hcut;clear G;obtain⟨z,O⟩:∃z,z=(U*4294967296+p) % (i*4294967296+f):=⟨_,rfl⟩
   have KR:=Lib.hid O;have G:z<i*4294967296+f:=by rw[O];exact Nat.mod_lt _ (by omega)
   obtain⟨Q0,ag⟩:∃Q0,Q0=(z*4294967296+t0) / (i*4294967296+f):=⟨_,rfl⟩
   have v:=Lib.hid ag;clear O ag;have bo:IntKind.u64.wrap (IntKind.u64.wrap (IntKind.u64.wrap ((U:Int)*4294967296)+(p:Int))-IntKind.u64.wrap ((Q1:Int)*(Y:Int)))=(z:Int):=by rw[X.out,KY.out,KR.out];exact Zme _ _ _ (by omega) (by omega)
   go_upto_region 21 with fail;go_cut [17] (fun ba F=>ba=.int .u64 (z:Nat)/\w=F)
   case first=>
    go_wp2_with fail;go_meet;exact⟨rfl,rfl⟩
   case rest=>
    obtain⟨rfl,rfl⟩:=hcut;go_upto_block 2 with fail;rw[ZiX z i (by omega),Zbj z i (by omega)];go_cut [16,18] (fun D W F=>W=.int .u64 (Q0:Nat)/\w=F)
    case first=>
     go_wp2_with fail;go_loopg [16,18] (z / i) (fun g D W F=>ZkZ z i f t0 w g W D F)
     case atStart=>exact⟨rfl,z % i,RatM.start e1 e2 e3 G e5,rfl,rfl⟩
     case round=>
      obtain⟨rfl,r,I,rfl,rfl⟩:=hrel;have E:=Lib.hid (And.intro e1 (And.intro e2 (And.intro e3 (And.intro e4 (And.intro e5 G)))));have r1:=I.rest;have r2:=I.top;have x:=Lib.hid I;have w1:IntKind.u64.wrap ((r:Int)+(i:Int))=((r+i:Nat):Int):=by rw[Mul64.addN,Mul64.wrapN _ (by omega)]
      have w3:IntKind.u64.wrap (4294967296*(r:Int))=((4294967296*r:Nat):Int):=by rw[IntWalk.u64_in _ (by omega)];omega
      have w4:IntKind.u64.wrap (((4294967296*r:Nat):Int)+(t0:Int))=((4294967296*r+t0:Nat):Int):=by rw[Mul64.addN,Mul64.wrapN _ (by omega)]
      obtain⟨j,t⟩:∃j,j=r+i:=⟨_,rfl⟩
      obtain⟨s3,o⟩:∃s3,s3=4294967296*r:=⟨_,rfl⟩
      obtain⟨C,u⟩:∃C,C=4294967296*r+t0:=⟨_,rfl⟩
      rw[<-t]at w1;rw[<-u,<-o]at w4;rw[<-o]at w3;have S:=Lib.hid (And.intro t (And.intro o u));have R:=Lib.hid (And.intro r1 r2);clear I e1 e2 e3 e4 e5 G h1 h2 h3 h4 t o u r1 r2 n1;by_cases Q:4294967296<=gk
      ·have d1:decide ((4294967296:Int)<=(gk:Int))=true:=decide_eq_true (by omega);have w2:IntKind.u64.wrap ((gk:Int)-1)=((gk-1:Nat):Int):=by have:=R.out;rw[IntWalk.u64_in _ (by omega)];omega
       have B:=Lib.hid (Or.inl Q:4294967296<=gk\/r*4294967296+t0<gk*f);have L:=Lib.hid (show 1<=gk by omega);clear Q;by_cases n:j<4294967296
       ·have d2:decide ((4294967296:Int)<=(j:Int))=false:=decide_eq_false (by omega);have Z:=Lib.hid n;clear n;go_wp2;go_roundg (gk-1)
        case measure=>have:=L.out;omega
        case rel=>exact⟨rfl,j,by have:=S.out;have:=E.out;rw[S.out.1];exact RatM.step x.out (by omega) (by omega) (by omega) B.out (by have:=Z.out;omega),rfl,rfl⟩
       ·have d2:decide ((4294967296:Int)<=(j:Int))=true:=decide_eq_true (by omega);have Z:=Lib.hid n;clear n;go_wp2;go_meet;exact⟨by have:=S.out;have:=E.out;have:=Z.out;rw[v.out,RatM.left x.out (by omega) (by omega) (by omega) (by omega) B.out (by omega)],rfl⟩
      ·have hP:gk*f<18446744073709551616:=by have:=E.out;have:=Nat.mul_le_mul (show gk<=4294967295 by omega) (show f<=4294967295 by omega);omega
       have d1:decide ((4294967296:Int)<=(gk:Int))=false:=decide_eq_false (by omega);have w5:IntKind.u64.wrap ((gk:Int)*(f:Int))=((gk*f:Nat):Int):=by rw[Mul64.mulN,Mul64.wrapN _ hP]
       obtain⟨P,s⟩:∃P,P=gk*f:=⟨_,rfl⟩
       rw[<-s]at w5;have N:=Lib.hid s;clear hP s Q;by_cases hc:C<P
       ·have d3:decide (C<P)=true:=decide_eq_true hc;have A:1<=gk:=by
         rcases Nat.eq_zero_or_pos gk with h|h
         ·have:=N.out;rw[h,Nat.zero_mul]at this;omega
         ·exact h
        have w2:IntKind.u64.wrap ((gk:Int)-1)=((gk-1:Nat):Int):=by have:=R.out;rw[IntWalk.u64_in _ (by omega)];omega
        have B:=Lib.hid (Or.inr (by have:=S.out;have:=N.out;omega):4294967296<=gk\/r*4294967296+t0<gk*f);have L:=Lib.hid A;clear A hc;by_cases n:j<4294967296
        ·have d2:decide ((4294967296:Int)<=(j:Int))=false:=decide_eq_false (by omega);have Z:=Lib.hid n;clear n;go_wp2;go_roundg (gk-1)
         case measure=>have:=L.out;omega
         case rel=>exact⟨rfl,j,by have:=S.out;have:=E.out;rw[S.out.1];exact RatM.step x.out (by omega) (by omega) (by omega) B.out (by have:=Z.out;omega),rfl,rfl⟩
        ·have d2:decide ((4294967296:Int)<=(j:Int))=true:=decide_eq_true (by omega);have Z:=Lib.hid n;clear n;go_wp2;go_meet;exact⟨by have:=S.out;have:=E.out;have:=Z.out;rw[v.out,RatM.left x.out (by omega) (by omega) (by omega) (by omega) B.out (by omega)],rfl⟩
       ·have d3:decide (C<P)=false:=decide_eq_false hc;have B:=Lib.hid (show gk*f<=r*4294967296+t0 by have:=S.out;have:=N.out;omega);clear hc;go_wp2;go_meet;exact⟨by have:=E.out;rw[v.out,RatM.right x.out (by omega) B.out],rfl⟩
    case rest=>
     obtain⟨rfl,rfl⟩:=hcut;clear n1;go_wp2_with fail;go_ret2;refine⟨Znq ?_ ?_,rfl⟩
     ·have a:=RatM.quo_lt M.top_lt e4;have b:=RatM.quo_lt G e5;have m:=M.all;obtain⟨c,_⟩:=RatM.two_digits _ (i*4294967296+f) U p t0 (by omega) m;rw[<-M.div,(RatM.moved _ y k).1,M.div,<-X.out,<-KR.out,<-v.out]at c;rw[<-X.out]at a;rw[<-v.out]at b;rw[c];simp only[IntKind.wrap_u64];omega
     ·have m:=M.all;obtain⟨_,c⟩:=RatM.two_digits _ (i*4294967296+f) U p t0 (by omega) m;have d:=(RatM.moved (H*18446744073709551616+J) y k).2;rw[M.div,c,<-KR.out]at d;rw[v.out,KY.out,Zme _ _ _ (by omega) (by omega),Zns,d]
theorem Zmr (a y:Nat) (w:Yh) (d:0<y) (f:a<18446744073709551616) (g:y<18446744073709551616) :
  Calls Tryz.prog 98 #[.int .u64 0,.int .u64 a,.int .u64 y] w fun e w'=>e=.returned (.tuple #[.int .u64 (a / y:Nat),.int .u64 (a % y:Nat)])/\∃n,w'=w.drewN n:=by
 have c:((y:Int)==0)=false:=by simp;omega
 have a2:((0:Int)==0)=true:=rfl;have a3:decide ((y:Int)<=0)=false:=by simp;omega
 have a4:¬((y:Int)<=0):=by omega
 have b:IntKind.u64.wrap ((a:Int).tdiv (y:Int))=((a / y:Nat):Int):=by rw[IntWalk.u64_quo _ _ ⟨by omega,by omega,by omega⟩];exact(Int.natCast_ediv a y).symm
 go_enter Tryz.func98,Tryz.ntmps98;go_wp2_with fail;go_quiet (fail);go_wp2_with fail;go_ret2;exact⟨Znq (by first|rfl|exact b) (by first|exact(Int.natCast_emod a y).symm|rfl),_,rfl⟩
theorem ZqS (a b y:Nat) (w:Yh) (c:a<y) (d:b<18446744073709551616) (e:y<18446744073709551616) :
  Calls Tryz.prog 98 #[.int .u64 a,.int .u64 b,.int .u64 y] w (ZiM w (.tuple #[.int .u64 ((a*18446744073709551616+b) / y:Nat),.int .u64 ((a*18446744073709551616+b) % y:Nat)])):=by
 rcases Nat.eq_zero_or_pos a with h|h
 ·subst h;rw[Nat.zero_mul,Nat.zero_add];exact Zmr b y w c d e
 ·exact(ZoJ a b y w c d e h).mono fun _ _ ⟨he,f⟩=>⟨he,0,f▸rfl⟩
theorem Zsh (a b y:Nat) (w:Yh) (k:a<18446744073709551616) (g:0<y) (h:b<18446744073709551616) (i:y<18446744073709551616) :
  Calls Tryz.prog 97 #[.int .u64 a,.int .u64 b,.int .u64 y] w (ZiM w (.int .u64 ((a*18446744073709551616+b) % y:Nat))):=by
 have e:(a:Int) % (y:Int)=((a % y:Nat):Int):=(Int.natCast_emod a y).symm;have t:(a:Int).tmod (y:Int)=((a % y:Nat):Int):=by rw[IntWalk.rem_in _ _ (by omega)];exact e
 obtain⟨r,f⟩:∃r,r=a % y:=⟨_,rfl⟩
 have c:r<y:=by rw[f];exact Nat.mod_lt _ g
 rw[<-f]at e t;have H:=Lib.hid f;have p:((y:Int)==0)=false:=by simp;omega
 have G:((a*18446744073709551616+b) % y:Nat)=(r*18446744073709551616+b) % y:=by
  have d:=Nat.div_add_mod a y;have e:a*18446744073709551616+b=(a % y*18446744073709551616+b)+y*(a / y*18446744073709551616):=by rw[<-Nat.mul_assoc];omega
  rw[e,Nat.add_mul_mod_self_left,<-f]
 rw[G];have m:=Lib.hid G;clear G f;have K:=fun w=>ZqS r b y w c h i;have o:=Lib.hid (And.intro c (And.intro k (And.intro g (And.intro h i))));have s:¬y=0:=by omega
 clear c k g h i;obtain⟨V,l⟩:∃V,V=(r*18446744073709551616+b) / y:=⟨_,rfl⟩
 obtain⟨R,j⟩:∃R,R=(r*18446744073709551616+b) % y:=⟨_,rfl⟩
 rw[<-l,<-j]at K;rw[<-j];clear l j;go_enter Tryz.func97,Tryz.ntmps97;go_wp2_with (go_at_call 98;refine(K _).mono ?_;rintro e u ⟨rfl,n,rfl⟩);go_ret;exact⟨rfl,n,rfl⟩
end
end Go.Proofs.YtbfnnolakggbfaaGreatDoor
