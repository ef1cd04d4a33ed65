import Derived.Test.YtkgkmdhpnhmcpaaGreatDoorRows
import Derived.WalkKit
import Derived.WalkSpells
import Derived.WalkLawsBesides
import Derived.IntWalk
import Derived.Lib.Hide
import Derived.WalkSmall
import Derived.Deep.QuietTactic
import Derived.BigQuiet
import Derived.Deep.LoopGhost
import Derived.Lib.Strings
import Derived.Test.YtkgkmdhpnhmcpaaGreatDoorQAA
set_option maxRecDepth 100000
set_option maxHeartbeats 8000000
namespace Go.Proofs.YtkgkmdhpnhmcpaaGreatDoor
section
def ZcK (n:Nat):Bool:=(decide (65<=n)&&decide (n<=90))||(decide (97<=n)&&decide (n<=122))||decide (n=95)
def ZdB (n:Nat):Bool:=decide (48<=n)&&decide (n<=57)
def Zek (c:UInt8):Bool:=ZcK c.toNat
def ZbE (c:UInt8):Bool:=ZcK c.toNat||ZdB c.toNat
def ZaT (p:UInt8->Bool) (l:List UInt8):Nat:=(l.takeWhile p).length
theorem Zdu (p:UInt8->Bool) (c:UInt8) (r:List UInt8):ZaT p (c::r)=if p c then ZaT p r+1 else 0:=by
 unfold ZaT
 rw [List.takeWhile_cons]
 split<;>simp
theorem ZdR {l:List UInt8} {k:Nat} {c:UInt8} (h:l[k]? = some c):l.drop k=c::l.drop (k+1):=by
 obtain ⟨hk,rfl⟩:=List.getElem?_eq_some_iff.1 h
 exact List.drop_eq_getElem_cons hk
theorem Zhq {p:UInt8->Bool} {l:List UInt8} {k:Nat} {c:UInt8} (h:l[k]? = some c) (hp:p c=true):ZaT p (l.drop k)=ZaT p (l.drop (k+1))+1:=by
 rw [ZdR h,Zdu,if_pos hp]
theorem Zil {p:UInt8->Bool} {l:List UInt8} {k:Nat} {c:UInt8} (h:l[k]? = some c) (hp:p c=false):ZaT p (l.drop k)=0:=by
 rw [ZdR h,Zdu,if_neg (by simp [hp])]
theorem Zhp {p:UInt8->Bool} {l:List UInt8} {k:Nat} (h:l.length<=k):ZaT p (l.drop k)=0:=by
 rw [List.drop_eq_nil_of_le h]
 rfl
abbrev Tok:=Nat×List UInt8×Nat
inductive LexAns where
 | bad (at_:Nat)
 | ok (l:List Tok)
def LexAns.push (t:Tok):LexAns->LexAns
 | .bad a=>.bad a
 | .ok l=>.ok (t::l)
def LexAns.pre (ts:List Tok):LexAns->LexAns
 | .bad a=>.bad a
 | .ok l=>.ok (ts++l)
end
section
open Go.RowKit
theorem ZfS {k:IntKind} {a b:Int} (h:a=b):Ending.returned (.int k a)=.returned (.int k b):=by rw [h]
theorem Za4 {a b:Bool} (h:a=b):Ending.returned (.bool a)=.returned (.bool b):=by rw [h]
def ZbM (w:World) (v:Value) (e:Ending) (w':World):Prop:=e=.returned v/\w=w'
theorem byte_at {s:ByteArray} {k:Nat} (h:k<s.size):s.data.toList[k]? = some s[k]:=by
 rw [List.getElem?_eq_getElem (by simpa using h)]
 rfl
theorem ZeK (s:ByteArray):s.data.toList.length=s.size:=by simp
theorem Zdp (n:Nat) (w:World) :
  Calls Tryz.prog 125 #[.int .u8 n] w (ZbM w (.bool (ZcK n))):=by
 unfold ZcK
 go_enter Tryz.func125,Tryz.ntmps125
 go_wp2_with fail
 all_goals
  go_ret
  exact ⟨Za4 (by
   rw [Bool.eq_iff_iff]
   simp only [Bool.or_eq_true,Bool.and_eq_true,decide_eq_true_eq]
   first | omega | (simp;omega)),rfl⟩
theorem ZgS (n:Nat) (w:World) :
  Calls Tryz.prog 142 #[.int .u8 n] w (ZbM w (.bool (ZdB n))):=by
 unfold ZdB
 go_enter Tryz.func142,Tryz.ntmps142
 go_wp2_with fail
 all_goals
  go_ret
  exact ⟨Za4 (by
   rw [Bool.eq_iff_iff]
   simp only [Bool.and_eq_true,decide_eq_true_eq]
   first | omega | (simp;omega)),rfl⟩
theorem Zjl (n:Nat) (w:World) :
  Calls Tryz.prog 127 #[.int .u8 n] w (ZbM w (.bool (ZcK n||ZdB n))):=by
 have la:=fun w=>Zdp n w
 have da:=fun w=>ZgS n w
 generalize ZcK n=L at *
 generalize ZdB n=D at *
 cases L
 all_goals
  go_enter Tryz.func127,Tryz.ntmps127
  go_wp2_with (first
   | (go_at_call 125;(with_reducible refine (la _).mono ?_);rintro e w1 ⟨rfl,rfl⟩)
   | (go_at_call 142;(with_reducible refine (da _).mono ?_);rintro e w1 ⟨rfl,rfl⟩))
  go_ret
  exact ⟨rfl,rfl⟩
theorem ZiR (c:UInt8):(ZcK c.toNat||ZdB c.toNat)=ZbE c:=rfl
theorem ZhX (c:UInt8):ZcK c.toNat=Zek c:=rfl
theorem Zja (s:ByteArray) (w:World) (hs:s.size<=maxLen) :
  Calls Tryz.prog 126 #[.string s,.func (.func 127) #[] #[]] w (ZbM w (.int .i64 (ZaT ZbE s.data.toList))):=by
 unfold maxLen at hs
 obtain ⟨z,hz⟩:∃ z,z=ZaT ZbE s.data.toList:=⟨_,rfl⟩
 rw [<- hz]
 have HZ:=zh hz
 clear hz
 go_enter Tryz.func126,Tryz.ntmps126
 go_wp2_with fail
 go_loopg [5] s.size (fun g v5 wr=>∃ k:Nat,v5=.int .i64 k/\k<=s.size/\g=s.size-k/\z=k+ZaT ZbE (s.data.toList.drop k)/\wr=w)
 case atStart=>exact ⟨0,rfl,Nat.zero_le _,rfl,by rw [HZ.out];simp,rfl⟩
 case round=>
  obtain ⟨k,rfl,hk,hg,hall,rfl⟩:=hrel
  have HA:=zh hall
  clear hall
  by_cases hlt:k<s.size
  ·have ca:=fun w=>Zjl s[k].toNat w
   have ce:=ZiR s[k]
   have hb:=byte_at hlt
   have HN:=zh (fun hp=>Zil (p:=ZbE) hb hp)
   have HY:=zh (fun hp=>Zhq (p:=ZbE) hb hp)
   rw [ce] at ca
   have i1:(k:Int)<(s.size:Int):=by omega
   have i2:(0:Int)<=(k:Int):=by omega
   have wk:IntKind.i64.wrap ((k:Int)+1)=(k:Int)+1:=IntWalk.i64_in _ (by omega)
   have CA:=zh ca
   have HK:=zh (zi hlt hg)
   clear ca ce hb hg
   generalize ZbE s[k]=R at *
   cases R
   ·go_wp2_with (go_at_call 127;(with_reducible refine (CA.out _).mono ?_);rintro e w1 ⟨rfl,rfl⟩)
    go_ret
    exact ⟨ZfS (by have:=HA.out;rw [HN.out trivial] at this;omega),rfl⟩
   ·go_wp2_with (go_at_call 127;(with_reducible refine (CA.out _).mono ?_);rintro e w1 ⟨rfl,rfl⟩)
    go_roundg (s.size-(k+1))
    case measure=>have:=HK.out;omega
    case rel=>exact ⟨k+1,by push_cast;rfl,by have:=HK.out;omega,rfl,by have:=HA.out;rw [HY.out trivial] at this;omega,rfl⟩
  ·obtain rfl:k=s.size:=by omega
   have HO:=zh (Zhp (p:=ZbE) (Nat.le_of_eq (ZeK s)))
   clear hg hk hlt
   go_wp2_with fail
   go_ret
   exact ⟨ZfS (by have:=HA.out;rw [HO.out] at this;omega),rfl⟩
end
end Go.Proofs.YtkgkmdhpnhmcpaaGreatDoor
