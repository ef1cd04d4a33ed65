import Derived.Test.YtaacbenikcbibabGreatDoorRows
import Derived.WalkKit
import Derived.WalkSpells
import Derived.WalkLawsBesides
import Derived.IntWalk
import Derived.Lib.Hide
import Derived.WalkSmall
import Derived.Deep.QuietTactic
import Derived.BigQuiet
import Derived.Deep.LoopGhost
import Derived.Lib.Strings
import Derived.Test.YtaacbenikcbibabGreatDoorQAA
set_option maxRecDepth 100000
set_option maxHeartbeats 8000000
namespace Go.Proofs.YtaacbenikcbibabGreatDoor
section
def ZcC (n:Nat):Bool:=(decide (65<=n)&&decide (n<=90))||(decide (97<=n)&&decide (n<=122))||decide (n=95)
def Zdv (n:Nat):Bool:=decide (48<=n)&&decide (n<=57)
def Zee (c:UInt8):Bool:=ZcC c.toNat
def ZbD (c:UInt8):Bool:=ZcC c.toNat||Zdv c.toNat
def ZaT (p:UInt8->Bool) (l:List UInt8):Nat:=(l.takeWhile p).length
theorem Zdo (p:UInt8->Bool) (c:UInt8) (r:List UInt8):ZaT p (c::r)=if p c then ZaT p r+1 else 0:=by
 unfold ZaT
 rw [List.takeWhile_cons]
 split<;>simp
theorem ZdK {l:List UInt8} {k:Nat} {c:UInt8} (h:l[k]? = some c):l.drop k=c::l.drop (k+1):=by
 obtain ⟨hk,rfl⟩:=List.getElem?_eq_some_iff.1 h
 exact List.drop_eq_getElem_cons hk
theorem Zhf {p:UInt8->Bool} {l:List UInt8} {k:Nat} {c:UInt8} (h:l[k]? = some c) (hp:p c=true):ZaT p (l.drop k)=ZaT p (l.drop (k+1))+1:=by
 rw [ZdK h,Zdo,if_pos hp]
theorem Zh3 {p:UInt8->Bool} {l:List UInt8} {k:Nat} {c:UInt8} (h:l[k]? = some c) (hp:p c=false):ZaT p (l.drop k)=0:=by
 rw [ZdK h,Zdo,if_neg (by simp [hp])]
theorem Zhe {p:UInt8->Bool} {l:List UInt8} {k:Nat} (h:l.length<=k):ZaT p (l.drop k)=0:=by
 rw [List.drop_eq_nil_of_le h]
 rfl
abbrev Tok:=Nat×List UInt8×Nat
inductive LexAns where
 | bad (at_:Nat)
 | ok (l:List Tok)
def LexAns.push (t:Tok):LexAns->LexAns
 | .bad a=>.bad a
 | .ok l=>.ok (t::l)
def LexAns.pre (ts:List Tok):LexAns->LexAns
 | .bad a=>.bad a
 | .ok l=>.ok (ts++l)
end
section
open Go.RowKit
theorem ZfK {k:IntKind} {a b:Int} (h:a=b):Ending.returned (.int k a)=.returned (.int k b):=by rw [h]
theorem Za5 {a b:Bool} (h:a=b):Ending.returned (.bool a)=.returned (.bool b):=by rw [h]
def ZbJ (w:World) (v:Value) (e:Ending) (w':World):Prop:=e=.returned v/\w=w'
theorem ZfD {s:ByteArray} {k:Nat} (h:k<s.size):s.data.toList[k]? = some s[k]:=by
 rw [List.getElem?_eq_getElem (by simpa using h)]
 rfl
theorem ZeD (s:ByteArray):s.data.toList.length=s.size:=by simp
theorem Zdk (n:Nat) (w:World) :
  Calls Tryz.prog 83 #[.int .u8 n] w (ZbJ w (.bool (ZcC n))):=by
 unfold ZcC
 go_enter Tryz.func83,Tryz.ntmps83
 go_wp2_with fail
 all_goals
  go_ret
  exact ⟨Za5 (by
   rw [Bool.eq_iff_iff]
   simp only [Bool.or_eq_true,Bool.and_eq_true,decide_eq_true_eq]
   first | omega | (simp;omega)),rfl⟩
theorem ZgI (n:Nat) (w:World) :
  Calls Tryz.prog 100 #[.int .u8 n] w (ZbJ w (.bool (Zdv n))):=by
 unfold Zdv
 go_enter Tryz.func100,Tryz.ntmps100
 go_wp2_with fail
 all_goals
  go_ret
  exact ⟨Za5 (by
   rw [Bool.eq_iff_iff]
   simp only [Bool.and_eq_true,decide_eq_true_eq]
   first | omega | (simp;omega)),rfl⟩
theorem Zi0 (n:Nat) (w:World) :
  Calls Tryz.prog 85 #[.int .u8 n] w (ZbJ w (.bool (ZcC n||Zdv n))):=by
 have la:=fun w=>Zdk n w
 have da:=fun w=>ZgI n w
 generalize ZcC n=L at *
 generalize Zdv n=D at *
 cases L
 all_goals
  go_enter Tryz.func85,Tryz.ntmps85
  go_wp2_with (first
   | (go_at_call 83;(with_reducible refine (la _).mono ?_);rintro e w1 ⟨rfl,rfl⟩)
   | (go_at_call 100;(with_reducible refine (da _).mono ?_);rintro e w1 ⟨rfl,rfl⟩))
  go_ret
  exact ⟨rfl,rfl⟩
theorem Zix (c:UInt8):(ZcC c.toNat||Zdv c.toNat)=ZbD c:=rfl
theorem ZhG (c:UInt8):ZcC c.toNat=Zee c:=rfl
theorem ZiR (s:ByteArray) (w:World) (hs:s.size<=maxLen) :
  Calls Tryz.prog 84 #[.string s,.func (.func 85) #[] #[]] w (ZbJ w (.int .i64 (ZaT ZbD s.data.toList))):=by
 unfold maxLen at hs
 obtain ⟨z,hz⟩:∃ z,z=ZaT ZbD s.data.toList:=⟨_,rfl⟩
 rw [<- hz]
 have HZ:=Lib.hid hz
 clear hz
 go_enter Tryz.func84,Tryz.ntmps84
 go_wp2_with fail
 go_loopg [5] s.size (fun g v5 wr=>∃ k:Nat,v5=.int .i64 k/\k<=s.size/\g=s.size-k/\z=k+ZaT ZbD (s.data.toList.drop k)/\wr=w)
 case atStart=>exact ⟨0,rfl,Nat.zero_le _,rfl,by rw [HZ.out];simp,rfl⟩
 case round=>
  obtain ⟨k,rfl,hk,hg,hall,rfl⟩:=hrel
  have HA:=Lib.hid hall
  clear hall
  by_cases hlt:k<s.size
  ·have ca:=fun w=>Zi0 s[k].toNat w
   have ce:=Zix s[k]
   have hb:=ZfD hlt
   have HN:=Lib.hid (fun hp=>Zh3 (p:=ZbD) hb hp)
   have HY:=Lib.hid (fun hp=>Zhf (p:=ZbD) hb hp)
   rw [ce] at ca
   have i1:(k:Int)<(s.size:Int):=by omega
   have i2:(0:Int)<=(k:Int):=by omega
   have wk:IntKind.i64.wrap ((k:Int)+1)=(k:Int)+1:=IntWalk.i64_in _ (by omega)
   have CA:=Lib.hid ca
   have HK:=Lib.hid (And.intro hlt hg)
   clear ca ce hb hg
   generalize ZbD s[k]=R at *
   cases R
   ·go_wp2_with (go_at_call 85;(with_reducible refine (CA.out _).mono ?_);rintro e w1 ⟨rfl,rfl⟩)
    go_ret
    exact ⟨ZfK (by have:=HA.out;rw [HN.out trivial] at this;omega),rfl⟩
   ·go_wp2_with (go_at_call 85;(with_reducible refine (CA.out _).mono ?_);rintro e w1 ⟨rfl,rfl⟩)
    go_roundg (s.size-(k+1))
    case measure=>have:=HK.out;omega
    case rel=>exact ⟨k+1,by push_cast;rfl,by have:=HK.out;omega,rfl,by have:=HA.out;rw [HY.out trivial] at this;omega,rfl⟩
  ·obtain rfl:k=s.size:=by omega
   have HO:=Lib.hid (Zhe (p:=ZbD) (Nat.le_of_eq (ZeD s)))
   clear hg hk hlt
   go_wp2_with fail
   go_ret
   exact ⟨ZfK (by have:=HA.out;rw [HO.out] at this;omega),rfl⟩
end
end Go.Proofs.YtaacbenikcbibabGreatDoor
