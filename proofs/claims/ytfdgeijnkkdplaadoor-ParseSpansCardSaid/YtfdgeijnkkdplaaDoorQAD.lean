import Derived.Test.YtfdgeijnkkdplaaDoorRows
import Derived.WalkKit
import Derived.WalkSpells
import Derived.WalkLawsBesides
import Derived.IntWalk
import Derived.Lib.Hide
import Derived.WalkSmall
import Derived.Deep.QuietTactic
import Derived.BigQuiet
import Derived.Deep.LoopGhost
import Derived.Lib.Strings
import Derived.Test.YtfdgeijnkkdplaaDoorQAA
set_option maxRecDepth 100000
set_option maxHeartbeats 8000000
namespace Go.Proofs.YtfdgeijnkkdplaaDoor
section
def ZcA (n:Nat):Bool:=(decide (65<=n)&&decide (n<=90))||(decide (97<=n)&&decide (n<=122))||decide (n=95)
def Zdj (n:Nat):Bool:=decide (48<=n)&&decide (n<=57)
def ZaE (c:UInt8):Bool:=ZcA c.toNat
def Zal (c:UInt8):Bool:=Zdj c.toNat
def Zb1 (c:UInt8):Bool:=ZcA c.toNat||Zdj c.toNat
def Zdz (c:UInt8):Bool:=c==32||c==9||c==10||c==13
def Zby (c:UInt8):Bool:=!(c==10)
def Zad (p:UInt8->Bool) (l:List UInt8):Nat:=(l.takeWhile p).length
theorem ZbH (p:UInt8->Bool) (c:UInt8) (r:List UInt8):Zad p (c::r)=if p c then Zad p r+1 else 0:=by
 unfold Zad
 rw [List.takeWhile_cons]
 split<;>simp
theorem Zc3 (p:UInt8->Bool):∀ l:List UInt8,Zad p l<=l.length
 | []=>Nat.le_refl _
 | c::r=>by
  have:=Zc3 p r
  rw [ZbH,List.length_cons]
  split<;>omega
theorem Zd2 {l:List UInt8} {k:Nat} {c:UInt8} (h:l[k]? = some c):l.drop k=c::l.drop (k+1):=by
 obtain ⟨hk,rfl⟩:=List.getElem?_eq_some_iff.1 h
 exact List.drop_eq_getElem_cons hk
theorem Zde {p:UInt8->Bool} {l:List UInt8} {k:Nat} {c:UInt8} (h:l[k]? = some c) (hp:p c=true):Zad p (l.drop k)=Zad p (l.drop (k+1))+1:=by
 rw [Zd2 h,ZbH,if_pos hp]
theorem ZeN {p:UInt8->Bool} {l:List UInt8} {k:Nat} {c:UInt8} (h:l[k]? = some c) (hp:p c=false):Zad p (l.drop k)=0:=by
 rw [Zd2 h,ZbH,if_neg (by simp [hp])]
theorem Zec {p:UInt8->Bool} {l:List UInt8} {k:Nat} (h:l.length<=k):Zad p (l.drop k)=0:=by
 rw [List.drop_eq_nil_of_le h]
 rfl
def Zw:List UInt8->Nat
 | []=>0
 | c::r=>if Zdz c then Zw r+1 else if c==35 then 1+Zad Zby r+Zw (r.drop (Zad Zby r)) else 0
termination_by l=>l.length
decreasing_by all_goals (simp only [List.length_drop,List.length_cons];omega)
theorem Zes:Zw []=0:=by rw [Zw]
theorem Zhl {c:UInt8} {r:List UInt8} (h:Zdz c=true):Zw (c::r)=Zw r+1:=by
 rw [Zw,if_pos h]
theorem Zhm {r:List UInt8}:Zw (35::r)=1+Zad Zby r+Zw (r.drop (Zad Zby r)):=by
 rw [Zw,if_neg (by decide),if_pos (by decide)]
theorem ZhY {c:UInt8} {r:List UInt8} (h:Zdz c=false) (h2:(c==35)=false):Zw (c::r)=0:=by
 rw [Zw,if_neg (by simp [h]),if_neg (by simp [h2])]
theorem Zcs (l:List UInt8):Zw l<=l.length:=by
 fun_induction Zw l with
 | case1=>exact Nat.le_refl _
 | case2 c r h ih=>rw [List.length_cons];omega
 | case3 c r h h2 ih=>rw [List.length_drop] at ih;have:=Zc3 Zby r;rw [List.length_cons];omega
 | case4 c r h h2=>exact Nat.zero_le _
def Zs:List (List UInt8):=[[61,61],[45,62],[123],[125],[40],[41],[59],[44],[46],[58],[61],[60],[43],[45],[42],[47],[124],[38]]
def ZdN:List UInt8:=[123,125,40,41,59,44,46,58,61,60,43,45,42,47,124,38]
def ZbG (l:List UInt8):Option Nat:=(Zs.find? fun g=>g.isPrefixOf l).map (·.length)
def ZX:List UInt8->Nat×Nat×Bool
 | []=>(3,0,true)
 | c::r=>
  if ZaE c then (0,Zad Zb1 (c::r),true)
  else if Zal c then (1,Zad Zal (c::r),decide (Zad Zal (c::r)<=18))
  else match ZbG (c::r) with
   | some n=>(2,n,true)
   | none=>(0,0,false)
theorem Zbo (c:UInt8) (r:List UInt8):ZX (c::r)=if ZaE c then (0,Zad Zb1 (c::r),true) else if Zal c then (1,Zad Zal (c::r),decide (Zad Zal (c::r)<=18)) else match ZbG (c::r) with
   | some n=>(2,n,true)
   | none=>(0,0,false):=rfl
theorem Zk1:∀ g∈Zs,1<=g.length/\g.length<=2:=by decide
theorem ZfI {l:List UInt8} {n:Nat} (h:ZbG l=some n):1<=n/\n<=l.length:=by
 unfold ZbG at h
 obtain ⟨g,hg,rfl⟩:=Option.map_eq_some_iff.1 h
 refine ⟨(Zk1 g (List.mem_of_find?_eq_some hg)).1,?_⟩
 have:=List.find?_some hg
 exact (List.isPrefixOf_iff_prefix.1 this).length_le
theorem ZmH {c:UInt8} (h:ZaE c=true):Zb1 c=true:=by unfold ZaE at h;unfold Zb1;rw [h];rfl
theorem Zcc {c:UInt8} {r:List UInt8} (h:(ZX (c::r)).2.2=true):1<=(ZX (c::r)).2.1:=by
 rw [Zbo] at h ⊢
 split
 ·rename_i g
  show 1<=Zad Zb1 (c::r)
  rw [ZbH,if_pos (ZmH g)]
  omega
 ·split
  ·rename_i g
   show 1<=Zad Zal (c::r)
   rw [ZbH,if_pos g]
   omega
  ·rename_i g1 g2
   rw [if_neg g1,if_neg g2] at h
   split
   ·rename_i n hn
    exact (ZfI hn).1
   ·rename_i hn
    rw [hn] at h
    cases h
theorem Zfq (l:List UInt8):(ZX l).2.1<=l.length:=by
 unfold ZX
 split
 ·exact Nat.le_refl _
 ·rename_i c r
  split
  ·exact Zc3 _ _
  ·split
   ·exact Zc3 _ _
   ·split
    ·rename_i n hn
     exact (ZfI hn).2
    ·exact Nat.zero_le _
abbrev Tok:=Nat×List UInt8×Nat
inductive LexAns where
 | bad (at_:Nat)
 | ok (l:List Tok)
def LexAns.push (t:Tok):LexAns->LexAns
 | .bad a=>.bad a
 | .ok l=>.ok (t::l)
def LexAns.pre (ts:List Tok):LexAns->LexAns
 | .bad a=>.bad a
 | .ok l=>.ok (ts++l)
theorem LexAns.pre_nil (x:LexAns):x.pre []=x:=by cases x<;>rfl
theorem LexAns.pre_push (ts:List Tok) (t:Tok) (x:LexAns):(x.push t).pre ts=x.pre (ts++[t]):=by
 cases x<;>simp [LexAns.pre,LexAns.push]
def ZaT (l:List UInt8) (a:Nat):LexAns:=
 if _h:Zw l<l.length then
  if _h2:(ZX (l.drop (Zw l))).2.2=true then
   (ZaT ((l.drop (Zw l)).drop (ZX (l.drop (Zw l))).2.1) (a+Zw l+(ZX (l.drop (Zw l))).2.1)).push ((ZX (l.drop (Zw l))).1,(l.drop (Zw l)).take (ZX (l.drop (Zw l))).2.1,a+Zw l)
  else .bad (a+Zw l)
 else .ok [(3,[],a+l.length)]
termination_by l.length
decreasing_by
 have e:1<=(ZX (l.drop (Zw l))).2.1:=by
  cases q:l.drop (Zw l) with
  | nil=>have:=List.length_drop (i:=Zw l) (l:=l);rw [q] at this;simp at this;omega
  | cons c r=>rw [q] at _h2;exact Zcc _h2
 rw [List.length_drop,List.length_drop]
 omega
theorem ZcZ {l:List UInt8} {a:Nat} (h:Zw l=l.length):ZaT l a=.ok [(3,[],a+l.length)]:=by
 rw [ZaT,dif_neg (by omega)]
theorem ZeE (a:Nat):ZaT [] a=.ok [(3,[],a)]:=by
 rw [ZcZ (by rw [Zes];rfl)]
 rfl
theorem ZdD {l:List UInt8} {a:Nat} {c:UInt8} {r:List UInt8} (h:l.drop (Zw l)=c::r) (h2:(ZX (c::r)).2.2=true) :
  ZaT l a=(ZaT ((c::r).drop (ZX (c::r)).2.1) (a+Zw l+(ZX (c::r)).2.1)).push ((ZX (c::r)).1,(c::r).take (ZX (c::r)).2.1,a+Zw l):=by
 have hl:Zw l<l.length:=by
  have:=List.length_drop (i:=Zw l) (l:=l)
  rw [h,List.length_cons] at this
  omega
 rw [ZaT,dif_pos hl,h,dif_pos h2]
theorem ZdC {l:List UInt8} {a:Nat} {c:UInt8} {r:List UInt8} (h:l.drop (Zw l)=c::r) (h2:(ZX (c::r)).2.2=false):ZaT l a=.bad (a+Zw l):=by
 have hl:Zw l<l.length:=by
  have:=List.length_drop (i:=Zw l) (l:=l)
  rw [h,List.length_cons] at this
  omega
 rw [ZaT,dif_pos hl,h,dif_neg (by simp [h2])]
theorem ZeM (c:UInt8) (r:List UInt8):ZbG (c::r)=if (c=61/\r.head? = some 61)\/(c=45/\r.head? = some 62) then some 2 else if c∈ZdN then some 1 else none:=by
 have one:∀ x:UInt8,List.isPrefixOf [x] (c::r)=(x==c):=fun x=>by simp [List.isPrefixOf]
 have two:∀ x y:UInt8,List.isPrefixOf [x,y] (c::r)=(x==c&&r.head? == some y):=fun x y=>by
  cases r with
  | nil=>simp [List.isPrefixOf]
  | cons z r=>simp [List.isPrefixOf,Bool.beq_eq_decide_eq,eq_comm]
 unfold ZbG Zs
 simp only [List.find?_cons,one,two,List.find?_nil]
 by_cases h:(c=61/\r.head? = some 61)\/(c=45/\r.head? = some 62)
 ·rw [if_pos h]
  rcases h with ⟨rfl,h⟩ | ⟨rfl,h⟩<;>simp [h]
 ·rw [if_neg h]
  by_cases hm:c∈ZdN
  ·rw [if_pos hm]
   simp only [ZdN,List.mem_cons,List.not_mem_nil,or_false] at hm
   rcases hm with rfl | rfl | rfl | rfl | rfl | rfl | rfl | rfl | rfl | rfl | rfl | rfl | rfl | rfl | rfl | rfl<;>simp at h ⊢<;>rw [beq_eq_false_iff_ne.2 h]<;>simp
  ·rw [if_neg hm]
   simp only [ZdN,List.mem_cons,List.not_mem_nil,or_false,not_or] at hm
   have:∀ x:UInt8,¬ c=x->(x==c)=false:=fun x hx=>by simpa using fun e=>hx e.symm
   obtain ⟨g1,g2,g3,g4,g5,g6,g7,g8,g9,g10,g11,g12,g13,g14,g15,g16⟩:=hm
   simp [this _ g1,this _ g2,this _ g3,this _ g4,this _ g5,this _ g6,this _ g7,this _ g8,this _ g9,this _ g10,this _ g11,this _ g12,this _ g13,this _ g14,this _ g15,this _ g16]
end
section
open Go.RowKit
theorem Zcn {k:IntKind} {a b:Int} (h:a=b):Ending.returned (.int k a)=.returned (.int k b):=by rw [h]
theorem Zb9 {a b:Bool} (h:a=b):Ending.returned (.bool a)=.returned (.bool b):=by rw [h]
def ZbK (w:World) (v:Value) (e:Ending) (w':World):Prop:=e=.returned v/\w=w'
theorem byte_at {s:ByteArray} {k:Nat} (h:k<s.size):s.data.toList[k]? = some s[k]:=by
 rw [List.getElem?_eq_getElem (by simpa using h)]
 rfl
theorem Zld {s:ByteArray} {k:Nat} (h:s.size<=k):s.data.toList.drop k=[]:=List.drop_eq_nil_of_le (by simpa using h)
theorem Zbs (s:ByteArray):s.data.toList.length=s.size:=by simp
theorem Zct (n:Nat) (w:World) :
  Calls Tryd.prog 27 #[.int .u8 n] w (ZbK w (.bool (ZcA n))):=by
 unfold ZcA
 go_enter Tryd.func27,Tryd.ntmps27
 go_wp2_with fail
 all_goals
  go_ret
  exact ⟨Zb9 (by
   rw [Bool.eq_iff_iff]
   simp only [Bool.or_eq_true,Bool.and_eq_true,decide_eq_true_eq]
   first | omega | (simp;omega)),rfl⟩
theorem ZcF (n:Nat) (w:World) :
  Calls Tryd.prog 29 #[.int .u8 n] w (ZbK w (.bool (Zdj n))):=by
 unfold Zdj
 go_enter Tryd.func29,Tryd.ntmps29
 go_wp2_with fail
 all_goals
  go_ret
  exact ⟨Zb9 (by
   rw [Bool.eq_iff_iff]
   simp only [Bool.and_eq_true,decide_eq_true_eq]
   first | omega | (simp;omega)),rfl⟩
theorem ZmG (n:Nat) (w:World) :
  Calls Tryd.prog 28 #[.int .u8 n] w (ZbK w (.bool (ZcA n||Zdj n))):=by
 have la:=fun w=>Zct n w
 have da:=fun w=>ZcF n w
 generalize ZcA n=L at *
 generalize Zdj n=D at *
 cases L
 all_goals
  go_enter Tryd.func28,Tryd.ntmps28
  go_wp2_with (first
   | (go_at_call 27;(with_reducible refine (la _).mono ?_);rintro e w1 ⟨rfl,rfl⟩)
   | (go_at_call 29;(with_reducible refine (da _).mono ?_);rintro e w1 ⟨rfl,rfl⟩))
  go_ret
  exact ⟨rfl,rfl⟩
theorem ZmI (n:Nat) (w:World) :
  Calls Tryd.prog 26 #[.int .u8 n] w (ZbK w (.bool (!decide (n=10)))):=by
 go_enter Tryd.func26,Tryd.ntmps26
 go_wp2_with fail
 go_ret
 exact ⟨Zb9 (by rw [Bool.eq_iff_iff];simp;omega),rfl⟩
theorem Zl8 (c:UInt8):(ZcA c.toNat||Zdj c.toNat)=Zb1 c:=rfl
theorem ZdA (c:UInt8):Zdj c.toNat=Zal c:=rfl
theorem ZdB (c:UInt8):ZcA c.toNat=ZaE c:=rfl
theorem ZlU (c d:UInt8):decide (c.toNat=d.toNat)=(c==d):=by
 rw [Bool.eq_iff_iff]
 simp [UInt8.toNat_inj]
theorem Zlk (c:UInt8):(!decide (c.toNat=10))=Zby c:=by
 unfold Zby
 rw [<- ZlU c 10]
 rfl
theorem ZhM (s:ByteArray) (w:World) (hs:s.size<=maxLen) :
  Calls Tryd.prog 25 #[.string s,.func (.func 28) #[] #[]] w (ZbK w (.int .i64 (Zad Zb1 s.data.toList))):=by
 unfold maxLen at hs
 obtain ⟨z,hz⟩:∃ z,z=Zad Zb1 s.data.toList:=⟨_,rfl⟩
 rw [<- hz]
 have HZ:=zh hz
 clear hz
 go_enter Tryd.func25,Tryd.ntmps25
 go_wp2_with fail
 go_loopg [5] s.size (fun g v5 wr=>∃ k:Nat,v5=.int .i64 k/\k<=s.size/\g=s.size-k/\z=k+Zad Zb1 (s.data.toList.drop k)/\wr=w)
 case atStart=>exact ⟨0,rfl,Nat.zero_le _,rfl,by rw [HZ.out];simp,rfl⟩
 case round=>
  obtain ⟨k,rfl,hk,hg,hall,rfl⟩:=hrel
  have HA:=zh hall
  clear hall
  by_cases hlt:k<s.size
  ·have ca:=fun w=>ZmG s[k].toNat w
   have ce:=Zl8 s[k]
   have hb:=byte_at hlt
   have HN:=zh (fun hp=>ZeN (p:=Zb1) hb hp)
   have HY:=zh (fun hp=>Zde (p:=Zb1) hb hp)
   rw [ce] at ca
   have i1:(k:Int)<(s.size:Int):=by omega
   have i2:(0:Int)<=(k:Int):=by omega
   have wk:IntKind.i64.wrap ((k:Int)+1)=(k:Int)+1:=IntWalk.i64_in _ (by omega)
   have CA:=zh ca
   have HK:=zh (zi hlt hg)
   clear ca ce hb hg
   generalize Zb1 s[k]=R at *
   cases R
   ·go_wp2_with (go_at_call 28;(with_reducible refine (CA.out _).mono ?_);rintro e w1 ⟨rfl,rfl⟩)
    go_ret
    exact ⟨Zcn (by have:=HA.out;rw [HN.out trivial] at this;omega),rfl⟩
   ·go_wp2_with (go_at_call 28;(with_reducible refine (CA.out _).mono ?_);rintro e w1 ⟨rfl,rfl⟩)
    go_roundg (s.size-(k+1))
    case measure=>have:=HK.out;omega
    case rel=>exact ⟨k+1,by push_cast;rfl,by have:=HK.out;omega,rfl,by have:=HA.out;rw [HY.out trivial] at this;omega,rfl⟩
  ·obtain rfl:k=s.size:=by omega
   have HO:=zh (Zec (p:=Zb1) (Nat.le_of_eq (Zbs s)))
   clear hg hk hlt
   go_wp2_with fail
   go_ret
   exact ⟨Zcn (by have:=HA.out;rw [HO.out] at this;omega),rfl⟩
theorem ZlH (s:ByteArray) (w:World) (hs:s.size<=maxLen) :
  Calls Tryd.prog 25 #[.string s,.func (.func 29) #[] #[]] w (ZbK w (.int .i64 (Zad Zal s.data.toList))):=by
 unfold maxLen at hs
 obtain ⟨z,hz⟩:∃ z,z=Zad Zal s.data.toList:=⟨_,rfl⟩
 rw [<- hz]
 have HZ:=zh hz
 clear hz
 go_enter Tryd.func25,Tryd.ntmps25
 go_wp2_with fail
 go_loopg [5] s.size (fun g v5 wr=>∃ k:Nat,v5=.int .i64 k/\k<=s.size/\g=s.size-k/\z=k+Zad Zal (s.data.toList.drop k)/\wr=w)
 case atStart=>exact ⟨0,rfl,Nat.zero_le _,rfl,by rw [HZ.out];simp,rfl⟩
 case round=>
  obtain ⟨k,rfl,hk,hg,hall,rfl⟩:=hrel
  have HA:=zh hall
  clear hall
  by_cases hlt:k<s.size
  ·have ca:=fun w=>ZcF s[k].toNat w
   have ce:=ZdA s[k]
   have hb:=byte_at hlt
   have HN:=zh (fun hp=>ZeN (p:=Zal) hb hp)
   have HY:=zh (fun hp=>Zde (p:=Zal) hb hp)
   rw [ce] at ca
   have i1:(k:Int)<(s.size:Int):=by omega
   have i2:(0:Int)<=(k:Int):=by omega
   have wk:IntKind.i64.wrap ((k:Int)+1)=(k:Int)+1:=IntWalk.i64_in _ (by omega)
   have CA:=zh ca
   have HK:=zh (zi hlt hg)
   clear ca ce hb hg
   generalize Zal s[k]=R at *
   cases R
   ·go_wp2_with (go_at_call 29;(with_reducible refine (CA.out _).mono ?_);rintro e w1 ⟨rfl,rfl⟩)
    go_ret
    exact ⟨Zcn (by have:=HA.out;rw [HN.out trivial] at this;omega),rfl⟩
   ·go_wp2_with (go_at_call 29;(with_reducible refine (CA.out _).mono ?_);rintro e w1 ⟨rfl,rfl⟩)
    go_roundg (s.size-(k+1))
    case measure=>have:=HK.out;omega
    case rel=>exact ⟨k+1,by push_cast;rfl,by have:=HK.out;omega,rfl,by have:=HA.out;rw [HY.out trivial] at this;omega,rfl⟩
  ·obtain rfl:k=s.size:=by omega
   have HO:=zh (Zec (p:=Zal) (Nat.le_of_eq (Zbs s)))
   clear hg hk hlt
   go_wp2_with fail
   go_ret
   exact ⟨Zcn (by have:=HA.out;rw [HO.out] at this;omega),rfl⟩
theorem Zms (s:ByteArray) (w:World) (hs:s.size<=maxLen) :
  Calls Tryd.prog 25 #[.string s,.func (.func 26) #[] #[]] w (ZbK w (.int .i64 (Zad Zby s.data.toList))):=by
 unfold maxLen at hs
 obtain ⟨z,hz⟩:∃ z,z=Zad Zby s.data.toList:=⟨_,rfl⟩
 rw [<- hz]
 have HZ:=zh hz
 clear hz
 go_enter Tryd.func25,Tryd.ntmps25
 go_wp2_with fail
 go_loopg [5] s.size (fun g v5 wr=>∃ k:Nat,v5=.int .i64 k/\k<=s.size/\g=s.size-k/\z=k+Zad Zby (s.data.toList.drop k)/\wr=w)
 case atStart=>exact ⟨0,rfl,Nat.zero_le _,rfl,by rw [HZ.out];simp,rfl⟩
 case round=>
  obtain ⟨k,rfl,hk,hg,hall,rfl⟩:=hrel
  have HA:=zh hall
  clear hall
  by_cases hlt:k<s.size
  ·have ca:=fun w=>ZmI s[k].toNat w
   have ce:=Zlk s[k]
   have hb:=byte_at hlt
   have HN:=zh (fun hp=>ZeN (p:=Zby) hb hp)
   have HY:=zh (fun hp=>Zde (p:=Zby) hb hp)
   rw [ce] at ca
   have i1:(k:Int)<(s.size:Int):=by omega
   have i2:(0:Int)<=(k:Int):=by omega
   have wk:IntKind.i64.wrap ((k:Int)+1)=(k:Int)+1:=IntWalk.i64_in _ (by omega)
   have CA:=zh ca
   have HK:=zh (zi hlt hg)
   clear ca ce hb hg
   generalize Zby s[k]=R at *
   cases R
   ·go_wp2_with (go_at_call 26;(with_reducible refine (CA.out _).mono ?_);rintro e w1 ⟨rfl,rfl⟩)
    go_ret
    exact ⟨Zcn (by have:=HA.out;rw [HN.out trivial] at this;omega),rfl⟩
   ·go_wp2_with (go_at_call 26;(with_reducible refine (CA.out _).mono ?_);rintro e w1 ⟨rfl,rfl⟩)
    go_roundg (s.size-(k+1))
    case measure=>have:=HK.out;omega
    case rel=>exact ⟨k+1,by push_cast;rfl,by have:=HK.out;omega,rfl,by have:=HA.out;rw [HY.out trivial] at this;omega,rfl⟩
  ·obtain rfl:k=s.size:=by omega
   have HO:=zh (Zec (p:=Zby) (Nat.le_of_eq (Zbs s)))
   clear hg hk hlt
   go_wp2_with fail
   go_ret
   exact ⟨Zcn (by have:=HA.out;rw [HO.out] at this;omega),rfl⟩
end
end Go.Proofs.YtfdgeijnkkdplaaDoor
