import Derived.Lib.ItoaNum
import Derived.Lib.BitFns
import Derived.Shelf.Small.Bits
import Derived.Shelf.Strconv.Itoa0
import Derived.Shelf.Bits.Mul64
import Derived.Test.YtolookeddknmoaaGreatProg
import Derived.Laws.BitsAllLaws
import Derived.Deep.DeepCutAuto
import Derived.Deep.CutBlock
import Derived.Deep.LoopGhost
import Derived.Test.YtolookeddknmoaaGreatQAA
set_option maxRecDepth 100000
set_option maxHeartbeats 8000000
namespace Go.Proofs.YtolookeddknmoaaGreat
end Go.Proofs.YtolookeddknmoaaGreat
namespace Go.Proofs.YtolookeddknmoaaGreat.RatM
theorem ZiG {q y1 r u:Nat} (y0:Nat) (h:q*y1+r=u):q*(y1*4294967296+y0)+r*4294967296=u*4294967296+q*y0:=by
 subst h
 rw [Nat.mul_add,<- Nat.mul_assoc,Nat.add_mul];omega
structure Inv (u y1 y0 v q r:Nat):Prop where
 sum:q*y1+r=u
 top:q<=4294967297
 low:(u*4294967296+v) / (y1*4294967296+y0)<=q
 rest:r<4294967296
theorem quo_lt {u Y v:Nat} (h:u<Y) (hv:v<4294967296):(u*4294967296+v) / Y<4294967296:=
 Nat.div_lt_of_lt_mul (by rw [Nat.mul_comm Y];omega)
theorem start {u y1 y0 v:Nat} (h1:2147483648<=y1) (h2:y1<4294967296) (h3:y0<4294967296) (h:u<y1*4294967296+y0) (hv:v<4294967296):Inv u y1 y0 v (u / y1) (u % y1) where
 sum:=Nat.div_add_mod' u y1
 top:=by
  have:u / y1<4294967298:=by
   rw [Nat.div_lt_iff_lt_mul (by omega)]
   omega
  omega
 low:=by
  rw [Nat.le_div_iff_mul_le (by omega)]
  have hq:(u*4294967296+v) / (y1*4294967296+y0)*(y1*4294967296+y0)<=u*4294967296+v:=Nat.div_mul_le_self _ _
  revert hq
  generalize (u*4294967296+v) / (y1*4294967296+y0)=q
  intro hq
  have e:=ZiG (q:=q) (y1:=y1) (r:=0) y0 rfl
  have:=Nat.zero_le (q*y0)
  omega
 rest:=by have:=Nat.mod_lt u (y:=y1) (by omega);omega
theorem Zpc {Z T a b v:Nat} (e:Z+a=b+T) (ht:a+v<T):b+v<Z:=by omega
theorem Zhm {u y1 y0 v q r:Nat} (I:Inv u y1 y0 v q r) (hY:0<y1*4294967296+y0) (h:u<y1*4294967296+y0) (hv:v<4294967296)
  (ht:4294967296<=q\/r*4294967296+v<q*y0):(u*4294967296+v) / (y1*4294967296+y0)+1<=q:=by
 rcases ht with ht | ht
 ·exact Nat.lt_of_lt_of_le (quo_lt h hv) ht
 ·have:(u*4294967296+v) / (y1*4294967296+y0)<q:=by
   rw [Nat.div_lt_iff_lt_mul hY]
   exact Zpc (ZiG y0 I.sum) ht
  exact this
theorem step {u y1 y0 v q r:Nat} (I:Inv u y1 y0 v q r) (hY:0<y1*4294967296+y0) (h:u<y1*4294967296+y0) (hv:v<4294967296)
  (ht:4294967296<=q\/r*4294967296+v<q*y0) (hr:r+y1<4294967296):Inv u y1 y0 v (q-1) (r+y1) where
 sum:=by
  have:=Zhm I hY h hv ht
  obtain ⟨p,rfl⟩:∃ p,q=p+1:=⟨q-1,(Nat.sub_add_cancel (Nat.le_trans (Nat.le_add_left _ _) this)).symm⟩
  have:=I.sum
  rw [Nat.add_mul] at this
  simp only [Nat.add_sub_cancel]
  omega
 top:=by have:=I.top;omega
 low:=by have g:=Zhm I hY h hv ht;exact Nat.le_sub_one_of_lt g
 rest:=hr
theorem right {u y1 y0 v q r:Nat} (I:Inv u y1 y0 v q r) (hY:0<y1*4294967296+y0)
  (ht:q*y0<=r*4294967296+v):q=(u*4294967296+v) / (y1*4294967296+y0):=by
 refine Nat.le_antisymm ?_ I.low
 rw [Nat.le_div_iff_mul_le hY]
 have e:=ZiG y0 I.sum
 omega
theorem left {u y1 y0 v q r:Nat} (I:Inv u y1 y0 v q r) (hY:0<y1*4294967296+y0) (h:u<y1*4294967296+y0) (hv:v<4294967296) (hy0:y0<4294967296)
  (ht:4294967296<=q\/r*4294967296+v<q*y0) (hr:4294967296<=r+y1):q-1=(u*4294967296+v) / (y1*4294967296+y0):=by
 have g:=Zhm I hY h hv ht
 refine Nat.le_antisymm ?_ (Nat.le_sub_one_of_lt g)
 rw [Nat.le_div_iff_mul_le hY]
 obtain ⟨p,rfl⟩:∃ p,q=p+1:=⟨q-1,(Nat.sub_add_cancel (Nat.le_trans (Nat.le_add_left _ _) g)).symm⟩
 have t:=I.top
 have s:=I.sum
 rw [Nat.add_mul] at s
 simp only [Nat.add_sub_cancel]
 have e2:p*y1+(r+y1)=u:=by omega
 have e:=ZiG y0 e2
 have b:p*y0<=4294967296*y0:=Nat.mul_le_mul_right _ (by omega)
 omega
theorem two_digits (X Y u a b:Nat) (hY:0<Y) (hX:X=(u*4294967296+a)*4294967296+b) :
  X / Y=(u*4294967296+a) / Y*4294967296+((u*4294967296+a) % Y*4294967296+b) / Y ∧
  X % Y=((u*4294967296+a) % Y*4294967296+b) % Y:=by
 have e:=Nat.div_add_mod (u*4294967296+a) Y
 obtain ⟨Q,hQ⟩:∃ Q,Q=(u*4294967296+a) / Y:=⟨_,rfl⟩
 obtain ⟨R,hR⟩:∃ R,R=(u*4294967296+a) % Y:=⟨_,rfl⟩
 rw [<- hQ,<- hR] at e
 rw [<- hQ,<- hR]
 have hX2:X=(R*4294967296+b)+Y*(Q*4294967296):=by
  rw [hX,<- e,Nat.add_mul,<- Nat.mul_assoc];omega
 rw [hX2]
 exact ⟨by rw [Nat.add_mul_div_left _ _ hY];omega,by rw [Nat.add_mul_mod_self_left]⟩
theorem moved (X y s:Nat):X*2 ^ s / (y*2 ^ s)=X / y/\X*2 ^ s % (y*2 ^ s) / 2 ^ s=X % y:=by
 have hp:0<2 ^ s:=Nat.two_pow_pos s
 refine ⟨Nat.mul_div_mul_right _ _ hp,?_⟩
 rw [Nat.mul_mod_mul_right,Nat.mul_div_cancel _ hp]
theorem noughts (y:Nat) (h0:0<y) (h:y<18446744073709551616):Lib.bitLen y<=64/\1<=Lib.bitLen y/\9223372036854775808<=y*2 ^ (64-Lib.bitLen y)/\y*2 ^ (64-Lib.bitLen y)<18446744073709551616:=by
 obtain ⟨h1,h2,h3⟩:=Lib.bitLenAux_bounds 64 y h (by omega)
 have hl:Lib.bitLen y<=64:=Lib.bitLen_le y 64 (by omega) h
 change 1<=Lib.bitLen y at h1
 change 2 ^ (Lib.bitLen y-1)<=y at h2
 change y<2 ^ Lib.bitLen y at h3
 generalize Lib.bitLen y=k at *
 have e1:2 ^ (k-1)*2 ^ (64-k)=2 ^ 63:=by rw [<- Nat.pow_add];congr 1;omega
 have e2:2 ^ k*2 ^ (64-k)=2 ^ 64:=by rw [<- Nat.pow_add];congr 1;omega
 refine ⟨hl,h1,?_,?_⟩
 ·have:=Nat.mul_le_mul_right (2 ^ (64-k)) h2
  rw [e1] at this;omega
 ·have:=(Nat.mul_lt_mul_right (Nat.two_pow_pos (64-k))).2 h3
  rw [e2] at this;omega
end Go.Proofs.YtolookeddknmoaaGreat.RatM
namespace Go.Proofs.YtolookeddknmoaaGreat
end Go.Proofs.YtolookeddknmoaaGreat
namespace Go.Proofs
open Go.Shelf
def Tryz.lays134_ren:Go.Shelf.Ren:=⟨fun | 134=>127 | 129=>128 | n=>n,fun | 53=>107 | 3=>3 | 4=>4 | 46=>122 | 5=>5 | 9=>9 | n=>n,fun | n=>n⟩
theorem Tryz.lays134:Go.Proofs.Lays.n134 Tryz.prog Tryz.lays134_ren:={
 mixed:=by kernel_rfl
 f129:=Tryz.func128.trans (congrArg some (by kernel_rfl))
 f134:=Tryz.func127.trans (congrArg some (by kernel_rfl))
 t3:=Tryz.underlying3
 a3:=Tryz.isAgg3
 z3:=Tryz.sizeOf3
 v3:=Tryz.zeroValue3
 t4:=Tryz.underlying4
 a4:=Tryz.isAgg4
 z4:=Tryz.sizeOf4
 v4:=Tryz.zeroValue4
 t5:=Tryz.underlying5
 a5:=Tryz.isAgg5
 z5:=Tryz.sizeOf5
 v5:=Tryz.zeroValue5
 t9:=Tryz.underlying9
 a9:=Tryz.isAgg9
 z9:=Tryz.sizeOf9
 v9:=Tryz.zeroValue9
 t46:=Tryz.underlying122
 a46:=Tryz.isAgg122
 z46:=Tryz.sizeOf122
 v46:=Tryz.zeroValue122
 t53:=Tryz.underlying107
 a53:=Tryz.isAgg107
 z53:=Tryz.sizeOf107
 v53:=Tryz.zeroValue107 }
theorem Tryz.bits_LeadingZeros64 (x:Int) (w:World) (h0:0<=x) (h1:x<=18446744073709551615) :
  Calls Tryz.prog 127 #[.int .u64 x] w fun e w'=>e=.returned (.int .i64 (64-(Lib.bitLen x.toNat:Int)))/\w'=w:=Any.bits_LeadingZeros64 Tryz.lays134 x w h0 h1
def Tryz.lays264_ren:Go.Shelf.Ren:=⟨fun | 264=>100 | n=>n,fun | 53=>107 | 46=>122 | n=>n,fun | n=>n⟩
theorem Tryz.lays264:Go.Proofs.Lays.n264 Tryz.prog Tryz.lays264_ren:={
 mixed:=by kernel_rfl
 f264:=Tryz.func100.trans (congrArg some (by kernel_rfl))
 t46:=Tryz.underlying122
 a46:=Tryz.isAgg122
 z46:=Tryz.sizeOf122
 v46:=Tryz.zeroValue122
 t53:=Tryz.underlying107
 a53:=Tryz.isAgg107
 z53:=Tryz.sizeOf107
 v53:=Tryz.zeroValue107 }
open Go.RowKit Go.Lib in
theorem Tryz.bits_Mul64 (x y:Nat) (hx:x<18446744073709551616) (hy:y<18446744073709551616) (w:World) :
  Calls Tryz.prog 100 #[.int .u64 x,.int .u64 y] w fun e w'=>e=.returned (.tuple #[.int .u64 ((x*y / 18446744073709551616:Nat):Int),.int .u64 ((x*y % 18446744073709551616:Nat):Int)])/\w'=w:=Any.bits_Mul64 Tryz.lays264 x y hx hy w
end Go.Proofs
namespace Go.Proofs.YtolookeddknmoaaGreat
section
open Go.RowKit
theorem up2 (k:Nat):(2:Int) ^ k=((2 ^ k:Nat):Int):=(Int.natCast_pow 2 k).symm
theorem Zit (a k:Nat):IntKind.u64.wrap ((a:Int)*2 ^ k)=((a*2 ^ k % 18446744073709551616:Nat):Int):=by
 rw [up2,Mul64.mulN,Mul64.wrapM]
theorem ZmT (a k:Nat):(a:Int) / 2 ^ k=((a / 2 ^ k:Nat):Int):=by
 rw [up2];exact (Int.natCast_ediv a (2 ^ k)).symm
theorem ZpH (hi lo k:Nat) (hk:k<=64) (h:hi*2 ^ k<18446744073709551616) (hlo:lo<18446744073709551616) :
  bits .or .u64 (IntKind.u64.wrap ((hi:Int)*2 ^ k)) ((lo:Int) / 2 ^ (64-k))=(((hi*18446744073709551616+lo)*2 ^ k / 18446744073709551616:Nat):Int):=by
 rw [Zit,ZmT,Nat.mod_eq_of_lt h]
 have e:2 ^ (64-k)*2 ^ k=18446744073709551616:=by rw [<- Nat.pow_add,Nat.sub_add_cancel hk]
 have hp:0<2 ^ (64-k):=Nat.two_pow_pos _
 have hq:0<2 ^ k:=Nat.two_pow_pos _
 have hl:lo / 2 ^ (64-k)<2 ^ k:=by rw [Nat.div_lt_iff_lt_mul hp,Nat.mul_comm,e];exact hlo
 have hl2:lo / 2 ^ (64-k)<18446744073709551616:=Nat.lt_of_le_of_lt (Nat.div_le_self _ _) hlo
 rw [u64_or_nat _ _ h hl2]
 have o:=Nat.two_pow_add_eq_or_of_lt hl hi
 rw [Nat.mul_comm] at o
 rw [<- o]
 have d:(hi*18446744073709551616+lo)*2 ^ k / 18446744073709551616=hi*2 ^ k+lo / 2 ^ (64-k):=by
  have r:(hi*18446744073709551616+lo)*2 ^ k=lo*2 ^ k+18446744073709551616*(hi*2 ^ k):=by
   rw [Nat.add_mul,Nat.mul_assoc,Nat.mul_comm 18446744073709551616 (2 ^ k),<- Nat.mul_assoc,Nat.mul_comm (hi*2 ^ k),Nat.add_comm]
  rw [r,Nat.add_mul_div_left _ _ (by decide),Nat.add_comm]
  congr 1
  rw [<- e]
  exact Nat.mul_div_mul_right _ _ hq
 rw [d]
structure Moved (hi lo y k y1 y0 U t1 t0:Nat):Prop where
 small:k<=64
 div:y*2 ^ k=y1*4294967296+y0
 top:U=(hi*18446744073709551616+lo)*2 ^ k / 18446744073709551616
 low:lo*2 ^ k % 18446744073709551616=t1*4294967296+t0
 all:(hi*18446744073709551616+lo)*2 ^ k=(U*4294967296+t1)*4294967296+t0
 top_lt:U<y1*4294967296+y0
 y1_ge:2147483648<=y1
 y1_lt:y1<4294967296
 y0_lt:y0<4294967296
 t1_lt:t1<4294967296
 t0_lt:t0<4294967296
 no_wrap:hi*2 ^ k<18446744073709551616
theorem moved (hi lo y:Nat) (h1:hi<y) (h2:lo<18446744073709551616) (h3:y<18446744073709551616) :
  ∃ k y1 y0 U t1 t0,Moved hi lo y k y1 y0 U t1 t0/\k=64-Lib.bitLen y:=by
 obtain ⟨b1,b2,b3,b4⟩:=RatM.noughts y (by omega) h3
 obtain ⟨k,hk⟩:∃ k,k=64-Lib.bitLen y:=⟨_,rfl⟩
 rw [<- hk] at b3 b4
 have hm:(hi+1)*2 ^ k<=y*2 ^ k:=Nat.mul_le_mul_right _ h1
 rw [Nat.add_mul,Nat.one_mul] at hm
 have hq:0<2 ^ k:=Nat.two_pow_pos _
 have hlt:(hi*18446744073709551616+lo)*2 ^ k / 18446744073709551616<y*2 ^ k:=by
  rw [Nat.div_lt_iff_lt_mul (by decide),Nat.mul_right_comm]
  refine (Nat.mul_lt_mul_right hq).2 ?_
  omega
 have ha:=Nat.div_add_mod ((hi*18446744073709551616+lo)*2 ^ k) 18446744073709551616
 have hb:(hi*18446744073709551616+lo)*2 ^ k % 18446744073709551616=lo*2 ^ k % 18446744073709551616:=by
  rw [Nat.add_mul,Nat.mul_right_comm,Nat.mul_add_mod_self_right]
 rw [hb] at ha
 refine ⟨k,y*2 ^ k / 4294967296,y*2 ^ k % 4294967296,_,lo*2 ^ k % 18446744073709551616 / 4294967296,lo*2 ^ k % 18446744073709551616 % 4294967296,⟨by omega,?_,rfl,?_,?_,?_,?_,?_,?_,?_,?_,by omega⟩,hk⟩
 all_goals omega
theorem Zbo (u y:Nat) (hu:u<18446744073709551616):IntKind.u64.wrap ((u:Int) / (y:Int))=((u / y:Nat):Int):=by
 have:((u / y:Nat):Int)=(u:Int) / (y:Int):=Int.natCast_ediv u y
 rw [<- this,Mul64.wrapN _ (Nat.lt_of_le_of_lt (Nat.div_le_self _ _) hu)]
theorem ZiH (u y:Nat) (hu:u<18446744073709551616) :
  IntKind.u64.wrap ((u:Int)-IntKind.u64.wrap (IntKind.u64.wrap ((u:Int) / (y:Int))*(y:Int)))=((u % y:Nat):Int):=by
 rw [Zbo u y hu,Mul64.mulN]
 have h:=Nat.div_add_mod' u y
 rw [Mul64.wrapN _ (by omega),IntWalk.u64_in _ (by omega)]
 omega
theorem ZlG (a b Y:Nat) (hY:0<Y) (hY2:Y<18446744073709551616) :
  IntKind.u64.wrap (IntKind.u64.wrap (IntKind.u64.wrap ((a:Int)*4294967296)+(b:Int))-IntKind.u64.wrap ((((a*4294967296+b) / Y:Nat):Int)*(Y:Int)))=(((a*4294967296+b) % Y:Nat):Int):=by
 have d:=Nat.div_add_mod' (a*4294967296+b) Y
 have l:=Nat.mod_lt (a*4294967296+b) hY
 rw [Mul64.mulN]
 obtain ⟨P,hP⟩:∃ P,P=(a*4294967296+b) / Y*Y:=⟨_,rfl⟩
 obtain ⟨R,hR⟩:∃ R,R=(a*4294967296+b) % Y:=⟨_,rfl⟩
 rw [<- hP,<- hR] at d
 rw [<- hR] at l
 rw [<- hP,<- hR]
 simp only [IntKind.wrap_u64]
 omega
theorem ZmS {k l:IntKind} {a b c d:Int} (h:a=b) (h2:c=d):Ending.returned (.tuple #[.int k a,.int l c])=.returned (.tuple #[.int k b,.int l d]):=by rw [h,h2]
def Zku (u y1 y0 v:Nat) (w:World) (g:Nat) (a b:Value) (wx:World):Prop:=w=wx/\∃ r:Nat,RatM.Inv u y1 y0 v g r/\a=.int .u64 g/\b=.int .u64 r
theorem Zq7 (k:Nat) (y:Nat) (e:k=64-Lib.bitLen y) (hb:Lib.bitLen y<=64):(64:Int)-(Lib.bitLen y:Int)=((k:Nat):Int):=by omega
theorem Zn2 (hi lo y:Nat) (w:World) (h1:hi<y) (h2:lo<18446744073709551616) (h3:y<18446744073709551616) (h4:0<hi) :
  Calls Tryz.prog 122 #[.int .u64 hi,.int .u64 lo,.int .u64 y] w fun e w'=>e=.returned (.tuple #[.int .u64 ((hi*18446744073709551616+lo) / y:Nat),.int .u64 ((hi*18446744073709551616+lo) % y:Nat)])/\w=w':=by
 obtain ⟨k,y1,y0,U,t1,t0,M,hk⟩:=moved hi lo y h1 h2 h3
 have K:=Lib.hid hk
 have lz:∀ w,Calls Tryz.prog 127 #[.int .u64 y] w fun e w'=>e=.returned (.int .i64 (k:Nat))/\w=w':=by
  intro w
  have:=Tryz.bits_LeadingZeros64 (y:Int) w (by omega) (by omega)
  simp only [Int.toNat_natCast] at this
  rw [Zq7 k y hk (RatM.noughts y (by omega) h3).1] at this
  exact this.mono fun _ _ ⟨he,hw⟩=>⟨he,hw.symm⟩
 clear hk
 have hk64:=M.small
 obtain ⟨Y,hY⟩:∃ Y,Y=y1*4294967296+y0:=⟨_,rfl⟩
 obtain ⟨T,hT⟩:∃ T,T=t1*4294967296+t0:=⟨_,rfl⟩
 obtain ⟨Q1,hQ1⟩:∃ Q1,Q1=(U*4294967296+t1) / (y1*4294967296+y0):=⟨_,rfl⟩
 have KY:=Lib.hid hY
 have KT:=Lib.hid hT
 have KQ:=Lib.hid hQ1
 clear hY hT hQ1
 go_enter Tryz.func122,Tryz.ntmps122
 go_upto_region 14 with (go_at_call 127;refine (lz _).mono ?_;rintro e w' ⟨rfl,rfl⟩)
 go_cut [2,8,9,10,11,12,13,14] (fun v2 v8 v9 v10 v11 v12 v13 v14 wx=>v2=.int .u64 (Y:Nat)/\v8=.int .u64 (k:Nat) ∧
  v9=.int .u64 (y1:Nat)/\v10=.int .u64 (y0:Nat)/\v11=.int .u64 (U:Nat)/\v12=.int .u64 (T:Nat)/\v13=.int .u64 (t1:Nat)/\v14=.int .u64 (t0:Nat)/\w=wx)
 case first=>
  go_wp2_with fail
  go_meet
  have d:=M.div
  have l:=M.low
  have a1:IntKind.u64.wrap ((y:Int)*2 ^ k)=((y1*4294967296+y0:Nat):Int):=by
   rw [Zit,d,Nat.mod_eq_of_lt]
   have:=M.y1_lt;have:=M.y0_lt;omega
  have a2:IntKind.u64.wrap ((lo:Int)*2 ^ k)=((t1*4294967296+t0:Nat):Int):=by rw [Zit,l]
  have a3:=ZpH hi lo k hk64 M.no_wrap h2
  rw [<- M.top] at a3
  have b1:=M.y1_lt;have b2:=M.y0_lt;have b3:=M.t1_lt;have b4:=M.t0_lt
  rw [a1,a2,a3,Mul64.maskN _ (by omega),Mul64.maskN _ (by omega),KY.out,KT.out]
  refine ⟨rfl,rfl,?_,?_,rfl,rfl,?_,?_,rfl⟩
  all_goals
   congr 1
   omega
 case rest=>
  obtain ⟨rfl,rfl,rfl,rfl,rfl,rfl,rfl,rfl,rfl⟩:=hcut
  have e1:2147483648<=y1:=M.y1_ge
  have e2:y1<4294967296:=M.y1_lt
  have e3:y0<4294967296:=M.y0_lt
  have e4:t1<4294967296:=M.t1_lt
  have e5:t0<4294967296:=M.t0_lt
  have e6:U<y1*4294967296+y0:=M.top_lt
  have n1:((y1:Int)==0)=false:=by simp;omega
  go_upto_block 0 with fail
  rw [ZiH U y1 (by omega),Zbo U y1 (by omega)]
  go_cut [15,16] (fun v15 v16 wx=>v15=.int .u64 (Q1:Nat)/\w=wx)
  case first=>
   go_wp2_with fail
   go_loopg [15,16] (U / y1) (fun g v15 v16 wx=>Zku U y1 y0 t1 w g v15 v16 wx)
   case atStart=>exact ⟨rfl,U % y1,RatM.start e1 e2 e3 e6 e4,rfl,rfl⟩
   case round=>
    obtain ⟨rfl,r,I,rfl,rfl⟩:=hrel
    have E:=Lib.hid (And.intro e1 (And.intro e2 (And.intro e3 (And.intro e4 (And.intro e5 e6)))))
    have r1:=I.rest
    have r2:=I.top
    have HI:=Lib.hid I
    have w1:IntKind.u64.wrap ((r:Int)+(y1:Int))=((r+y1:Nat):Int):=by rw [Mul64.addN,Mul64.wrapN _ (by omega)]
    have w3:IntKind.u64.wrap (4294967296*(r:Int))=((4294967296*r:Nat):Int):=by rw [IntWalk.u64_in _ (by omega)];omega
    have w4:IntKind.u64.wrap (((4294967296*r:Nat):Int)+(t1:Int))=((4294967296*r+t1:Nat):Int):=by rw [Mul64.addN,Mul64.wrapN _ (by omega)]
    obtain ⟨s1,hs1⟩:∃ s1,s1=r+y1:=⟨_,rfl⟩
    obtain ⟨s3,hs3⟩:∃ s3,s3=4294967296*r:=⟨_,rfl⟩
    obtain ⟨s4,hs4⟩:∃ s4,s4=4294967296*r+t1:=⟨_,rfl⟩
    rw [<- hs1] at w1
    rw [<- hs4,<- hs3] at w4
    rw [<- hs3] at w3
    have S:=Lib.hid (And.intro hs1 (And.intro hs3 hs4))
    have R:=Lib.hid (And.intro r1 r2)
    clear I e1 e2 e3 e4 e5 e6 h1 h2 h3 h4 hs1 hs3 hs4 r1 r2 n1
    by_cases hb:4294967296<=gk
    ·have d1:decide ((4294967296:Int)<=(gk:Int))=true:=decide_eq_true (by omega)
     have w2:IntKind.u64.wrap ((gk:Int)-1)=((gk-1:Nat):Int):=by have:=R.out;rw [IntWalk.u64_in _ (by omega)];omega
     have B:=Lib.hid (Or.inl hb:4294967296<=gk\/r*4294967296+t1<gk*y0)
     have B1:=Lib.hid (show 1<=gk by omega)
     clear hb
     by_cases hr:s1<4294967296
     ·have d2:decide ((4294967296:Int)<=(s1:Int))=false:=decide_eq_false (by omega)
      have Z:=Lib.hid hr
      clear hr
      go_wp2
      go_roundg (gk-1)
      case measure=>have:=B1.out;omega
      case rel=>exact ⟨rfl,s1,by have:=S.out;have:=E.out;rw [S.out.1];exact RatM.step HI.out (by omega) (by omega) (by omega) B.out (by have:=Z.out;omega),rfl,rfl⟩
     ·have d2:decide ((4294967296:Int)<=(s1:Int))=true:=decide_eq_true (by omega)
      have Z:=Lib.hid hr
      clear hr
      go_wp2
      go_meet
      exact ⟨by have:=S.out;have:=E.out;have:=Z.out;rw [KQ.out,RatM.left HI.out (by omega) (by omega) (by omega) (by omega) B.out (by omega)],rfl⟩
    ·have hP:gk*y0<18446744073709551616:=by
      have:=E.out
      have:=Nat.mul_le_mul (show gk<=4294967295 by omega) (show y0<=4294967295 by omega)
      omega
     have d1:decide ((4294967296:Int)<=(gk:Int))=false:=decide_eq_false (by omega)
     have w5:IntKind.u64.wrap ((gk:Int)*(y0:Int))=((gk*y0:Nat):Int):=by rw [Mul64.mulN,Mul64.wrapN _ hP]
     obtain ⟨P,hPe⟩:∃ P,P=gk*y0:=⟨_,rfl⟩
     rw [<- hPe] at w5
     have HP:=Lib.hid hPe
     clear hP hPe hb
     by_cases hc:s4<P
     ·have d3:decide (s4<P)=true:=decide_eq_true hc
      have hg1:1<=gk:=by
       rcases Nat.eq_zero_or_pos gk with h | h
       ·have:=HP.out;rw [h,Nat.zero_mul] at this;omega
       ·exact h
      have w2:IntKind.u64.wrap ((gk:Int)-1)=((gk-1:Nat):Int):=by have:=R.out;rw [IntWalk.u64_in _ (by omega)];omega
      have B:=Lib.hid (Or.inr (by have:=S.out;have:=HP.out;omega):4294967296<=gk\/r*4294967296+t1<gk*y0)
      have B1:=Lib.hid hg1
      clear hg1 hc
      by_cases hr:s1<4294967296
      ·have d2:decide ((4294967296:Int)<=(s1:Int))=false:=decide_eq_false (by omega)
       have Z:=Lib.hid hr
       clear hr
       go_wp2
       go_roundg (gk-1)
       case measure=>have:=B1.out;omega
       case rel=>exact ⟨rfl,s1,by have:=S.out;have:=E.out;rw [S.out.1];exact RatM.step HI.out (by omega) (by omega) (by omega) B.out (by have:=Z.out;omega),rfl,rfl⟩
      ·have d2:decide ((4294967296:Int)<=(s1:Int))=true:=decide_eq_true (by omega)
       have Z:=Lib.hid hr
       clear hr
       go_wp2
       go_meet
       exact ⟨by have:=S.out;have:=E.out;have:=Z.out;rw [KQ.out,RatM.left HI.out (by omega) (by omega) (by omega) (by omega) B.out (by omega)],rfl⟩
     ·have d3:decide (s4<P)=false:=decide_eq_false hc
      have B:=Lib.hid (show gk*y0<=r*4294967296+t1 by have:=S.out;have:=HP.out;omega)
      clear hc
      go_wp2
      go_meet
      exact ⟨by have:=E.out;rw [KQ.out,RatM.right HI.out (by omega) B.out],rfl⟩
  case rest=>
   obtain ⟨rfl,rfl⟩:=hcut
   clear e6
   obtain ⟨R1,hR1⟩:∃ R1,R1=(U*4294967296+t1) % (y1*4294967296+y0):=⟨_,rfl⟩
   have KR:=Lib.hid hR1
   have e6:R1<y1*4294967296+y0:=by rw [hR1];exact Nat.mod_lt _ (by omega)
   obtain ⟨Q0,hQ0⟩:∃ Q0,Q0=(R1*4294967296+t0) / (y1*4294967296+y0):=⟨_,rfl⟩
   have KQ0:=Lib.hid hQ0
   clear hR1 hQ0
   have w17:IntKind.u64.wrap (IntKind.u64.wrap (IntKind.u64.wrap ((U:Int)*4294967296)+(t1:Int))-IntKind.u64.wrap ((Q1:Int)*(Y:Int)))=(R1:Int):=by
    rw [KQ.out,KY.out,KR.out]
    exact ZlG _ _ _ (by omega) (by omega)
   go_upto_region 21 with fail
   go_cut [17] (fun v17 wx=>v17=.int .u64 (R1:Nat)/\w=wx)
   case first=>
    go_wp2_with fail
    go_meet
    exact ⟨rfl,rfl⟩
   case rest=>
    obtain ⟨rfl,rfl⟩:=hcut
    go_upto_block 2 with fail
    rw [ZiH R1 y1 (by omega),Zbo R1 y1 (by omega)]
    go_cut [16,18] (fun v16 v18 wx=>v18=.int .u64 (Q0:Nat)/\w=wx)
    case first=>
     go_wp2_with fail
     go_loopg [16,18] (R1 / y1) (fun g v16 v18 wx=>Zku R1 y1 y0 t0 w g v18 v16 wx)
     case atStart=>exact ⟨rfl,R1 % y1,RatM.start e1 e2 e3 e6 e5,rfl,rfl⟩
     case round=>
      obtain ⟨rfl,r,I,rfl,rfl⟩:=hrel
      have E:=Lib.hid (And.intro e1 (And.intro e2 (And.intro e3 (And.intro e4 (And.intro e5 e6)))))
      have r1:=I.rest
      have r2:=I.top
      have HI:=Lib.hid I
      have w1:IntKind.u64.wrap ((r:Int)+(y1:Int))=((r+y1:Nat):Int):=by rw [Mul64.addN,Mul64.wrapN _ (by omega)]
      have w3:IntKind.u64.wrap (4294967296*(r:Int))=((4294967296*r:Nat):Int):=by rw [IntWalk.u64_in _ (by omega)];omega
      have w4:IntKind.u64.wrap (((4294967296*r:Nat):Int)+(t0:Int))=((4294967296*r+t0:Nat):Int):=by rw [Mul64.addN,Mul64.wrapN _ (by omega)]
      obtain ⟨s1,hs1⟩:∃ s1,s1=r+y1:=⟨_,rfl⟩
      obtain ⟨s3,hs3⟩:∃ s3,s3=4294967296*r:=⟨_,rfl⟩
      obtain ⟨s4,hs4⟩:∃ s4,s4=4294967296*r+t0:=⟨_,rfl⟩
      rw [<- hs1] at w1
      rw [<- hs4,<- hs3] at w4
      rw [<- hs3] at w3
      have S:=Lib.hid (And.intro hs1 (And.intro hs3 hs4))
      have R:=Lib.hid (And.intro r1 r2)
      clear I e1 e2 e3 e4 e5 e6 h1 h2 h3 h4 hs1 hs3 hs4 r1 r2 n1
      by_cases hb:4294967296<=gk
      ·have d1:decide ((4294967296:Int)<=(gk:Int))=true:=decide_eq_true (by omega)
       have w2:IntKind.u64.wrap ((gk:Int)-1)=((gk-1:Nat):Int):=by have:=R.out;rw [IntWalk.u64_in _ (by omega)];omega
       have B:=Lib.hid (Or.inl hb:4294967296<=gk\/r*4294967296+t0<gk*y0)
       have B1:=Lib.hid (show 1<=gk by omega)
       clear hb
       by_cases hr:s1<4294967296
       ·have d2:decide ((4294967296:Int)<=(s1:Int))=false:=decide_eq_false (by omega)
        have Z:=Lib.hid hr
        clear hr
        go_wp2
        go_roundg (gk-1)
        case measure=>have:=B1.out;omega
        case rel=>exact ⟨rfl,s1,by have:=S.out;have:=E.out;rw [S.out.1];exact RatM.step HI.out (by omega) (by omega) (by omega) B.out (by have:=Z.out;omega),rfl,rfl⟩
       ·have d2:decide ((4294967296:Int)<=(s1:Int))=true:=decide_eq_true (by omega)
        have Z:=Lib.hid hr
        clear hr
        go_wp2
        go_meet
        exact ⟨by have:=S.out;have:=E.out;have:=Z.out;rw [KQ0.out,RatM.left HI.out (by omega) (by omega) (by omega) (by omega) B.out (by omega)],rfl⟩
      ·have hP:gk*y0<18446744073709551616:=by
        have:=E.out
        have:=Nat.mul_le_mul (show gk<=4294967295 by omega) (show y0<=4294967295 by omega)
        omega
       have d1:decide ((4294967296:Int)<=(gk:Int))=false:=decide_eq_false (by omega)
       have w5:IntKind.u64.wrap ((gk:Int)*(y0:Int))=((gk*y0:Nat):Int):=by rw [Mul64.mulN,Mul64.wrapN _ hP]
       obtain ⟨P,hPe⟩:∃ P,P=gk*y0:=⟨_,rfl⟩
       rw [<- hPe] at w5
       have HP:=Lib.hid hPe
       clear hP hPe hb
       by_cases hc:s4<P
       ·have d3:decide (s4<P)=true:=decide_eq_true hc
        have hg1:1<=gk:=by
         rcases Nat.eq_zero_or_pos gk with h | h
         ·have:=HP.out;rw [h,Nat.zero_mul] at this;omega
         ·exact h
        have w2:IntKind.u64.wrap ((gk:Int)-1)=((gk-1:Nat):Int):=by have:=R.out;rw [IntWalk.u64_in _ (by omega)];omega
        have B:=Lib.hid (Or.inr (by have:=S.out;have:=HP.out;omega):4294967296<=gk\/r*4294967296+t0<gk*y0)
        have B1:=Lib.hid hg1
        clear hg1 hc
        by_cases hr:s1<4294967296
        ·have d2:decide ((4294967296:Int)<=(s1:Int))=false:=decide_eq_false (by omega)
         have Z:=Lib.hid hr
         clear hr
         go_wp2
         go_roundg (gk-1)
         case measure=>have:=B1.out;omega
         case rel=>exact ⟨rfl,s1,by have:=S.out;have:=E.out;rw [S.out.1];exact RatM.step HI.out (by omega) (by omega) (by omega) B.out (by have:=Z.out;omega),rfl,rfl⟩
        ·have d2:decide ((4294967296:Int)<=(s1:Int))=true:=decide_eq_true (by omega)
         have Z:=Lib.hid hr
         clear hr
         go_wp2
         go_meet
         exact ⟨by have:=S.out;have:=E.out;have:=Z.out;rw [KQ0.out,RatM.left HI.out (by omega) (by omega) (by omega) (by omega) B.out (by omega)],rfl⟩
       ·have d3:decide (s4<P)=false:=decide_eq_false hc
        have B:=Lib.hid (show gk*y0<=r*4294967296+t0 by have:=S.out;have:=HP.out;omega)
        clear hc
        go_wp2
        go_meet
        exact ⟨by have:=E.out;rw [KQ0.out,RatM.right HI.out (by omega) B.out],rfl⟩
    case rest=>
     obtain ⟨rfl,rfl⟩:=hcut
     clear n1
     go_wp2_with fail
     go_ret2
     refine ⟨ZmS ?_ ?_,rfl⟩
     ·have a:=RatM.quo_lt M.top_lt e4
      have b:=RatM.quo_lt e6 e5
      have m:=M.all
      obtain ⟨c,_⟩:=RatM.two_digits _ (y1*4294967296+y0) U t1 t0 (by omega) m
      rw [<- M.div,(RatM.moved _ y k).1,M.div,<- KQ.out,<- KR.out,<- KQ0.out] at c
      rw [<- KQ.out] at a
      rw [<- KQ0.out] at b
      rw [c]
      simp only [IntKind.wrap_u64]
      omega
     ·have m:=M.all
      obtain ⟨_,c⟩:=RatM.two_digits _ (y1*4294967296+y0) U t1 t0 (by omega) m
      have d:=(RatM.moved (hi*18446744073709551616+lo) y k).2
      rw [M.div,c,<- KR.out] at d
      rw [KQ0.out,KY.out,ZlG _ _ _ (by omega) (by omega),ZmT,d]
theorem ZlS (lo y:Nat) (w:World) (h1:0<y) (h2:lo<18446744073709551616) (h3:y<18446744073709551616) :
  Calls Tryz.prog 122 #[.int .u64 0,.int .u64 lo,.int .u64 y] w fun e w'=>e=.returned (.tuple #[.int .u64 (lo / y:Nat),.int .u64 (lo % y:Nat)])/\∃ n,w'=w.drewN n:=by
 have a1:((y:Int)==0)=false:=by simp;omega
 have a2:((0:Int)==0)=true:=rfl
 have a3:decide ((y:Int)<=0)=false:=by simp;omega
 have a4:¬ ((y:Int)<=0):=by omega
 have q1:IntKind.u64.wrap ((lo:Int).tdiv (y:Int))=((lo / y:Nat):Int):=by
  rw [IntWalk.u64_quo _ _ ⟨by omega,by omega,by omega⟩];exact (Int.natCast_ediv lo y).symm
 go_enter Tryz.func122,Tryz.ntmps122
 go_wp2_with fail
 go_quiet (fail)
 go_wp2_with fail
 go_ret2
 exact ⟨ZmS (by first | rfl | exact q1) (by first | exact (Int.natCast_emod lo y).symm | rfl),_,rfl⟩
theorem Zp0 (hi lo y:Nat) (w:World) (h1:hi<y) (h2:lo<18446744073709551616) (h3:y<18446744073709551616) :
  Calls Tryz.prog 122 #[.int .u64 hi,.int .u64 lo,.int .u64 y] w (Ziy w (.tuple #[.int .u64 ((hi*18446744073709551616+lo) / y:Nat),.int .u64 ((hi*18446744073709551616+lo) % y:Nat)])):=by
 rcases Nat.eq_zero_or_pos hi with h | h
 ·subst h
  rw [Nat.zero_mul,Nat.zero_add]
  exact ZlS lo y w h1 h2 h3
 ·exact (Zn2 hi lo y w h1 h2 h3 h).mono fun _ _ ⟨he,hw⟩=>⟨he,0,hw▸rfl⟩
theorem Zrn (hi lo y:Nat) (w:World) (h0:hi<18446744073709551616) (h1:0<y) (h2:lo<18446744073709551616) (h3:y<18446744073709551616) :
  Calls Tryz.prog 121 #[.int .u64 hi,.int .u64 lo,.int .u64 y] w (Ziy w (.int .u64 ((hi*18446744073709551616+lo) % y:Nat))):=by
 have e:(hi:Int) % (y:Int)=((hi % y:Nat):Int):=(Int.natCast_emod hi y).symm
 have t:(hi:Int).tmod (y:Int)=((hi % y:Nat):Int):=by rw [IntWalk.rem_in _ _ (by omega)];exact e
 obtain ⟨r,hr⟩:∃ r,r=hi % y:=⟨_,rfl⟩
 have hlt:r<y:=by rw [hr];exact Nat.mod_lt _ h1
 rw [<- hr] at e t
 have H:=Lib.hid hr
 have a1:((y:Int)==0)=false:=by simp;omega
 have G:((hi*18446744073709551616+lo) % y:Nat)=(r*18446744073709551616+lo) % y:=by
  have d:=Nat.div_add_mod hi y
  have e:hi*18446744073709551616+lo=(hi % y*18446744073709551616+lo)+y*(hi / y*18446744073709551616):=by
   rw [<- Nat.mul_assoc];omega
  rw [e,Nat.add_mul_mod_self_left,<- hr]
 rw [G]
 have HG:=Lib.hid G
 clear G hr
 have K:=fun w=>Zp0 r lo y w hlt h2 h3
 have HL:=Lib.hid (And.intro hlt (And.intro h0 (And.intro h1 (And.intro h2 h3))))
 have hy:¬ y=0:=by omega
 clear hlt h0 h1 h2 h3
 obtain ⟨V,hV⟩:∃ V,V=(r*18446744073709551616+lo) / y:=⟨_,rfl⟩
 obtain ⟨R,hR⟩:∃ R,R=(r*18446744073709551616+lo) % y:=⟨_,rfl⟩
 rw [<- hV,<- hR] at K
 rw [<- hR]
 clear hV hR
 go_enter Tryz.func121,Tryz.ntmps121
 go_wp2_with (go_at_call 122;refine (K _).mono ?_;rintro e w' ⟨rfl,n,rfl⟩)
 go_ret
 exact ⟨rfl,n,rfl⟩
end
end Go.Proofs.YtolookeddknmoaaGreat
