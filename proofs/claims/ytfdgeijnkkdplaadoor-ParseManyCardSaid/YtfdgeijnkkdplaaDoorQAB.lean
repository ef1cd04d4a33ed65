import Derived.Test.YtfdgeijnkkdplaaDoorRows
import Derived.WalkKit
import Derived.WalkSpells
import Derived.WalkLawsBesides
import Derived.IntWalk
import Derived.Lib.Hide
import Derived.WalkSmall
import Derived.Deep.QuietTactic
import Derived.BigQuiet
import Derived.Deep.LoopGhost
import Derived.Lib.Strings
import Derived.Test.YtfdgeijnkkdplaaDoorQAA
set_option maxRecDepth 100000
set_option maxHeartbeats 8000000
namespace Go.Proofs.YtfdgeijnkkdplaaDoor
section
def Zco (n:Nat):Bool:=(decide (65<=n)&&decide (n<=90))||(decide (97<=n)&&decide (n<=122))||decide (n=95)
def Zdb (n:Nat):Bool:=decide (48<=n)&&decide (n<=57)
def ZaA (c:UInt8):Bool:=Zco c.toNat
def Zai (c:UInt8):Bool:=Zdb c.toNat
def ZbR (c:UInt8):Bool:=Zco c.toNat||Zdb c.toNat
def ZcD (c:UInt8):Bool:=c==32||c==9||c==10||c==13
def Zbj (c:UInt8):Bool:=!(c==10)
def Zac (p:UInt8->Bool) (l:List UInt8):Nat:=(l.takeWhile p).length
theorem Zbs (p:UInt8->Bool) (c:UInt8) (r:List UInt8):Zac p (c::r)=if p c then Zac p r+1 else 0:=by
 unfold Zac
 rw [List.takeWhile_cons]
 split<;>simp
theorem ZcT (p:UInt8->Bool):∀ l:List UInt8,Zac p l<=l.length
 | []=>Nat.le_refl _
 | c::r=>by
  have:=ZcT p r
  rw [Zbs,List.length_cons]
  split<;>omega
theorem ZdH {l:List UInt8} {k:Nat} {c:UInt8} (h:l[k]? = some c):l.drop k=c::l.drop (k+1):=by
 obtain ⟨hk,rfl⟩:=List.getElem?_eq_some_iff.1 h
 exact List.drop_eq_getElem_cons hk
theorem Zc6 {p:UInt8->Bool} {l:List UInt8} {k:Nat} {c:UInt8} (h:l[k]? = some c) (hp:p c=true):Zac p (l.drop k)=Zac p (l.drop (k+1))+1:=by
 rw [ZdH h,Zbs,if_pos hp]
theorem Zes {p:UInt8->Bool} {l:List UInt8} {k:Nat} {c:UInt8} (h:l[k]? = some c) (hp:p c=false):Zac p (l.drop k)=0:=by
 rw [ZdH h,Zbs,if_neg (by simp [hp])]
theorem ZdS {p:UInt8->Bool} {l:List UInt8} {k:Nat} (h:l.length<=k):Zac p (l.drop k)=0:=by
 rw [List.drop_eq_nil_of_le h]
 rfl
def Zt:List UInt8->Nat
 | []=>0
 | c::r=>if ZcD c then Zt r+1 else if c==35 then 1+Zac Zbj r+Zt (r.drop (Zac Zbj r)) else 0
termination_by l=>l.length
decreasing_by all_goals (simp only [List.length_drop,List.length_cons];omega)
theorem Zd8:Zt []=0:=by rw [Zt]
theorem Zd7 {c:UInt8} {r:List UInt8} (h:ZcD c=true):Zt (c::r)=Zt r+1:=by
 rw [Zt,if_pos h]
theorem Zhc {r:List UInt8}:Zt (35::r)=1+Zac Zbj r+Zt (r.drop (Zac Zbj r)):=by
 rw [Zt,if_neg (by decide),if_pos (by decide)]
theorem ZhO {c:UInt8} {r:List UInt8} (h:ZcD c=false) (h2:(c==35)=false):Zt (c::r)=0:=by
 rw [Zt,if_neg (by simp [h]),if_neg (by simp [h2])]
theorem ZcC (l:List UInt8):Zt l<=l.length:=by
 fun_induction Zt l with
 | case1=>exact Nat.le_refl _
 | case2 c r h ih=>rw [List.length_cons];omega
 | case3 c r h h2 ih=>rw [List.length_drop] at ih;have:=ZcT Zbj r;rw [List.length_cons];omega
 | case4 c r h h2=>exact Nat.zero_le _
def Zp:List (List UInt8):=[[61,61],[45,62],[123],[125],[40],[41],[59],[44],[46],[58],[61],[60],[43],[45],[42],[47],[124],[38]]
def Zdy:List UInt8:=[123,125,40,41,59,44,46,58,61,60,43,45,42,47,124,38]
def Zbr (l:List UInt8):Option Nat:=(Zp.find? fun g=>g.isPrefixOf l).map (·.length)
def ZY:List UInt8->Nat×Nat×Bool
 | []=>(3,0,true)
 | c::r=>
  if ZaA c then (0,Zac ZbR (c::r),true)
  else if Zai c then (1,Zac Zai (c::r),decide (Zac Zai (c::r)<=18))
  else match Zbr (c::r) with
   | some n=>(2,n,true)
   | none=>(0,0,false)
theorem Zbf (c:UInt8) (r:List UInt8):ZY (c::r)=if ZaA c then (0,Zac ZbR (c::r),true) else if Zai c then (1,Zac Zai (c::r),decide (Zac Zai (c::r)<=18)) else match Zbr (c::r) with
   | some n=>(2,n,true)
   | none=>(0,0,false):=rfl
theorem ZkT:∀ g∈Zp,1<=g.length/\g.length<=2:=by decide
theorem Zfw {l:List UInt8} {n:Nat} (h:Zbr l=some n):1<=n/\n<=l.length:=by
 unfold Zbr at h
 obtain ⟨g,hg,rfl⟩:=Option.map_eq_some_iff.1 h
 refine ⟨(ZkT g (List.mem_of_find?_eq_some hg)).1,?_⟩
 have:=List.find?_some hg
 exact (List.isPrefixOf_iff_prefix.1 this).length_le
theorem Zmr {c:UInt8} (h:ZaA c=true):ZbR c=true:=by unfold ZaA at h;unfold ZbR;rw [h];rfl
theorem Zch {c:UInt8} {r:List UInt8} (h:(ZY (c::r)).2.2=true):1<=(ZY (c::r)).2.1:=by
 rw [Zbf] at h ⊢
 split
 ·rename_i g
  show 1<=Zac ZbR (c::r)
  rw [Zbs,if_pos (Zmr g)]
  omega
 ·split
  ·rename_i g
   show 1<=Zac Zai (c::r)
   rw [Zbs,if_pos g]
   omega
  ·rename_i g1 g2
   rw [if_neg g1,if_neg g2] at h
   split
   ·rename_i n hn
    exact (Zfw hn).1
   ·rename_i hn
    rw [hn] at h
    cases h
theorem Ze9 (l:List UInt8):(ZY l).2.1<=l.length:=by
 unfold ZY
 split
 ·exact Nat.le_refl _
 ·rename_i c r
  split
  ·exact ZcT _ _
  ·split
   ·exact ZcT _ _
   ·split
    ·rename_i n hn
     exact (Zfw hn).2
    ·exact Nat.zero_le _
abbrev Tok:=Nat×List UInt8×Nat
inductive LexAns where
 | bad (at_:Nat)
 | ok (l:List Tok)
def LexAns.push (t:Tok):LexAns->LexAns
 | .bad a=>.bad a
 | .ok l=>.ok (t::l)
def LexAns.pre (ts:List Tok):LexAns->LexAns
 | .bad a=>.bad a
 | .ok l=>.ok (ts++l)
theorem LexAns.pre_nil (x:LexAns):x.pre []=x:=by cases x<;>rfl
theorem LexAns.pre_push (ts:List Tok) (t:Tok) (x:LexAns):(x.push t).pre ts=x.pre (ts++[t]):=by
 cases x<;>simp [LexAns.pre,LexAns.push]
def Zat (l:List UInt8) (a:Nat):LexAns:=
 if _h:Zt l<l.length then
  if _h2:(ZY (l.drop (Zt l))).2.2=true then
   (Zat ((l.drop (Zt l)).drop (ZY (l.drop (Zt l))).2.1) (a+Zt l+(ZY (l.drop (Zt l))).2.1)).push ((ZY (l.drop (Zt l))).1,(l.drop (Zt l)).take (ZY (l.drop (Zt l))).2.1,a+Zt l)
  else .bad (a+Zt l)
 else .ok [(3,[],a+l.length)]
termination_by l.length
decreasing_by
 have e:1<=(ZY (l.drop (Zt l))).2.1:=by
  cases q:l.drop (Zt l) with
  | nil=>have:=List.length_drop (i:=Zt l) (l:=l);rw [q] at this;simp at this;omega
  | cons c r=>rw [q] at _h2;exact Zch _h2
 rw [List.length_drop,List.length_drop]
 omega
theorem Zdq {l:List UInt8} {a:Nat} (h:Zt l=l.length):Zat l a=.ok [(3,[],a+l.length)]:=by
 rw [Zat,dif_neg (by omega)]
theorem Zel (a:Nat):Zat [] a=.ok [(3,[],a)]:=by
 rw [Zdq (by rw [Zd8];rfl)]
 rfl
theorem ZcO {l:List UInt8} {a:Nat} {c:UInt8} {r:List UInt8} (h:l.drop (Zt l)=c::r) (h2:(ZY (c::r)).2.2=true) :
  Zat l a=(Zat ((c::r).drop (ZY (c::r)).2.1) (a+Zt l+(ZY (c::r)).2.1)).push ((ZY (c::r)).1,(c::r).take (ZY (c::r)).2.1,a+Zt l):=by
 have hl:Zt l<l.length:=by
  have:=List.length_drop (i:=Zt l) (l:=l)
  rw [h,List.length_cons] at this
  omega
 rw [Zat,dif_pos hl,h,dif_pos h2]
theorem Zek {l:List UInt8} {a:Nat} {c:UInt8} {r:List UInt8} (h:l.drop (Zt l)=c::r) (h2:(ZY (c::r)).2.2=false):Zat l a=.bad (a+Zt l):=by
 have hl:Zt l<l.length:=by
  have:=List.length_drop (i:=Zt l) (l:=l)
  rw [h,List.length_cons] at this
  omega
 rw [Zat,dif_pos hl,h,dif_neg (by simp [h2])]
theorem Zer (c:UInt8) (r:List UInt8):Zbr (c::r)=if (c=61/\r.head? = some 61)\/(c=45/\r.head? = some 62) then some 2 else if c∈Zdy then some 1 else none:=by
 have one:∀ x:UInt8,List.isPrefixOf [x] (c::r)=(x==c):=fun x=>by simp [List.isPrefixOf]
 have two:∀ x y:UInt8,List.isPrefixOf [x,y] (c::r)=(x==c&&r.head? == some y):=fun x y=>by
  cases r with
  | nil=>simp [List.isPrefixOf]
  | cons z r=>simp [List.isPrefixOf,Bool.beq_eq_decide_eq,eq_comm]
 unfold Zbr Zp
 simp only [List.find?_cons,one,two,List.find?_nil]
 by_cases h:(c=61/\r.head? = some 61)\/(c=45/\r.head? = some 62)
 ·rw [if_pos h]
  rcases h with ⟨rfl,h⟩ | ⟨rfl,h⟩<;>simp [h]
 ·rw [if_neg h]
  by_cases hm:c∈Zdy
  ·rw [if_pos hm]
   simp only [Zdy,List.mem_cons,List.not_mem_nil,or_false] at hm
   rcases hm with rfl | rfl | rfl | rfl | rfl | rfl | rfl | rfl | rfl | rfl | rfl | rfl | rfl | rfl | rfl | rfl<;>simp at h ⊢<;>rw [beq_eq_false_iff_ne.2 h]<;>simp
  ·rw [if_neg hm]
   simp only [Zdy,List.mem_cons,List.not_mem_nil,or_false,not_or] at hm
   have:∀ x:UInt8,¬ c=x->(x==c)=false:=fun x hx=>by simpa using fun e=>hx e.symm
   obtain ⟨g1,g2,g3,g4,g5,g6,g7,g8,g9,g10,g11,g12,g13,g14,g15,g16⟩:=hm
   simp [this _ g1,this _ g2,this _ g3,this _ g4,this _ g5,this _ g6,this _ g7,this _ g8,this _ g9,this _ g10,this _ g11,this _ g12,this _ g13,this _ g14,this _ g15,this _ g16]
end
section
open Go.RowKit
theorem Zce {k:IntKind} {a b:Int} (h:a=b):Ending.returned (.int k a)=.returned (.int k b):=by rw [h]
theorem Zb0 {a b:Bool} (h:a=b):Ending.returned (.bool a)=.returned (.bool b):=by rw [h]
def Zbx (w:World) (v:Value) (e:Ending) (w':World):Prop:=e=.returned v/\w=w'
theorem byte_at {s:ByteArray} {k:Nat} (h:k<s.size):s.data.toList[k]? = some s[k]:=by
 rw [List.getElem?_eq_getElem (by simpa using h)]
 rfl
theorem Zk5 {s:ByteArray} {k:Nat} (h:s.size<=k):s.data.toList.drop k=[]:=List.drop_eq_nil_of_le (by simpa using h)
theorem Zbi (s:ByteArray):s.data.toList.length=s.size:=by simp
theorem Zcj (n:Nat) (w:World) :
  Calls Tryd.prog 27 #[.int .u8 n] w (Zbx w (.bool (Zco n))):=by
 unfold Zco
 go_enter Tryd.func27,Tryd.ntmps27
 go_wp2_with fail
 all_goals
  go_ret
  exact ⟨Zb0 (by
   rw [Bool.eq_iff_iff]
   simp only [Bool.or_eq_true,Bool.and_eq_true,decide_eq_true_eq]
   first | omega | (simp;omega)),rfl⟩
theorem Zcv (n:Nat) (w:World) :
  Calls Tryd.prog 29 #[.int .u8 n] w (Zbx w (.bool (Zdb n))):=by
 unfold Zdb
 go_enter Tryd.func29,Tryd.ntmps29
 go_wp2_with fail
 all_goals
  go_ret
  exact ⟨Zb0 (by
   rw [Bool.eq_iff_iff]
   simp only [Bool.and_eq_true,decide_eq_true_eq]
   first | omega | (simp;omega)),rfl⟩
theorem Zmq (n:Nat) (w:World) :
  Calls Tryd.prog 28 #[.int .u8 n] w (Zbx w (.bool (Zco n||Zdb n))):=by
 have la:=fun w=>Zcj n w
 have da:=fun w=>Zcv n w
 generalize Zco n=L at *
 generalize Zdb n=D at *
 cases L
 all_goals
  go_enter Tryd.func28,Tryd.ntmps28
  go_wp2_with (first
   | (go_at_call 27;(with_reducible refine (la _).mono ?_);rintro e w1 ⟨rfl,rfl⟩)
   | (go_at_call 29;(with_reducible refine (da _).mono ?_);rintro e w1 ⟨rfl,rfl⟩))
  go_ret
  exact ⟨rfl,rfl⟩
theorem Zmt (n:Nat) (w:World) :
  Calls Tryd.prog 26 #[.int .u8 n] w (Zbx w (.bool (!decide (n=10)))):=by
 go_enter Tryd.func26,Tryd.ntmps26
 go_wp2_with fail
 go_ret
 exact ⟨Zb0 (by rw [Bool.eq_iff_iff];simp;omega),rfl⟩
theorem ZlV (c:UInt8):(Zco c.toNat||Zdb c.toNat)=ZbR c:=rfl
theorem Zdo (c:UInt8):Zdb c.toNat=Zai c:=rfl
theorem Zdp (c:UInt8):Zco c.toNat=ZaA c:=rfl
theorem ZlJ (c d:UInt8):decide (c.toNat=d.toNat)=(c==d):=by
 rw [Bool.eq_iff_iff]
 simp [UInt8.toNat_inj]
theorem Zld (c:UInt8):(!decide (c.toNat=10))=Zbj c:=by
 unfold Zbj
 rw [<- ZlJ c 10]
 rfl
theorem ZhC (s:ByteArray) (w:World) (hs:s.size<=maxLen) :
  Calls Tryd.prog 25 #[.string s,.func (.func 28) #[] #[]] w (Zbx w (.int .i64 (Zac ZbR s.data.toList))):=by
 unfold maxLen at hs
 obtain ⟨z,hz⟩:∃ z,z=Zac ZbR s.data.toList:=⟨_,rfl⟩
 rw [<- hz]
 have HZ:=zh hz
 clear hz
 go_enter Tryd.func25,Tryd.ntmps25
 go_wp2_with fail
 go_loopg [5] s.size (fun g v5 wr=>∃ k:Nat,v5=.int .i64 k/\k<=s.size/\g=s.size-k/\z=k+Zac ZbR (s.data.toList.drop k)/\wr=w)
 case atStart=>exact ⟨0,rfl,Nat.zero_le _,rfl,by rw [HZ.out];simp,rfl⟩
 case round=>
  obtain ⟨k,rfl,hk,hg,hall,rfl⟩:=hrel
  have HA:=zh hall
  clear hall
  by_cases hlt:k<s.size
  ·have ca:=fun w=>Zmq s[k].toNat w
   have ce:=ZlV s[k]
   have hb:=byte_at hlt
   have HN:=zh (fun hp=>Zes (p:=ZbR) hb hp)
   have HY:=zh (fun hp=>Zc6 (p:=ZbR) hb hp)
   rw [ce] at ca
   have i1:(k:Int)<(s.size:Int):=by omega
   have i2:(0:Int)<=(k:Int):=by omega
   have wk:IntKind.i64.wrap ((k:Int)+1)=(k:Int)+1:=IntWalk.i64_in _ (by omega)
   have CA:=zh ca
   have HK:=zh (zi hlt hg)
   clear ca ce hb hg
   generalize ZbR s[k]=R at *
   cases R
   ·go_wp2_with (go_at_call 28;(with_reducible refine (CA.out _).mono ?_);rintro e w1 ⟨rfl,rfl⟩)
    go_ret
    exact ⟨Zce (by have:=HA.out;rw [HN.out trivial] at this;omega),rfl⟩
   ·go_wp2_with (go_at_call 28;(with_reducible refine (CA.out _).mono ?_);rintro e w1 ⟨rfl,rfl⟩)
    go_roundg (s.size-(k+1))
    case measure=>have:=HK.out;omega
    case rel=>exact ⟨k+1,by push_cast;rfl,by have:=HK.out;omega,rfl,by have:=HA.out;rw [HY.out trivial] at this;omega,rfl⟩
  ·obtain rfl:k=s.size:=by omega
   have HO:=zh (ZdS (p:=ZbR) (Nat.le_of_eq (Zbi s)))
   clear hg hk hlt
   go_wp2_with fail
   go_ret
   exact ⟨Zce (by have:=HA.out;rw [HO.out] at this;omega),rfl⟩
theorem Zly (s:ByteArray) (w:World) (hs:s.size<=maxLen) :
  Calls Tryd.prog 25 #[.string s,.func (.func 29) #[] #[]] w (Zbx w (.int .i64 (Zac Zai s.data.toList))):=by
 unfold maxLen at hs
 obtain ⟨z,hz⟩:∃ z,z=Zac Zai s.data.toList:=⟨_,rfl⟩
 rw [<- hz]
 have HZ:=zh hz
 clear hz
 go_enter Tryd.func25,Tryd.ntmps25
 go_wp2_with fail
 go_loopg [5] s.size (fun g v5 wr=>∃ k:Nat,v5=.int .i64 k/\k<=s.size/\g=s.size-k/\z=k+Zac Zai (s.data.toList.drop k)/\wr=w)
 case atStart=>exact ⟨0,rfl,Nat.zero_le _,rfl,by rw [HZ.out];simp,rfl⟩
 case round=>
  obtain ⟨k,rfl,hk,hg,hall,rfl⟩:=hrel
  have HA:=zh hall
  clear hall
  by_cases hlt:k<s.size
  ·have ca:=fun w=>Zcv s[k].toNat w
   have ce:=Zdo s[k]
   have hb:=byte_at hlt
   have HN:=zh (fun hp=>Zes (p:=Zai) hb hp)
   have HY:=zh (fun hp=>Zc6 (p:=Zai) hb hp)
   rw [ce] at ca
   have i1:(k:Int)<(s.size:Int):=by omega
   have i2:(0:Int)<=(k:Int):=by omega
   have wk:IntKind.i64.wrap ((k:Int)+1)=(k:Int)+1:=IntWalk.i64_in _ (by omega)
   have CA:=zh ca
   have HK:=zh (zi hlt hg)
   clear ca ce hb hg
   generalize Zai s[k]=R at *
   cases R
   ·go_wp2_with (go_at_call 29;(with_reducible refine (CA.out _).mono ?_);rintro e w1 ⟨rfl,rfl⟩)
    go_ret
    exact ⟨Zce (by have:=HA.out;rw [HN.out trivial] at this;omega),rfl⟩
   ·go_wp2_with (go_at_call 29;(with_reducible refine (CA.out _).mono ?_);rintro e w1 ⟨rfl,rfl⟩)
    go_roundg (s.size-(k+1))
    case measure=>have:=HK.out;omega
    case rel=>exact ⟨k+1,by push_cast;rfl,by have:=HK.out;omega,rfl,by have:=HA.out;rw [HY.out trivial] at this;omega,rfl⟩
  ·obtain rfl:k=s.size:=by omega
   have HO:=zh (ZdS (p:=Zai) (Nat.le_of_eq (Zbi s)))
   clear hg hk hlt
   go_wp2_with fail
   go_ret
   exact ⟨Zce (by have:=HA.out;rw [HO.out] at this;omega),rfl⟩
theorem Zme (s:ByteArray) (w:World) (hs:s.size<=maxLen) :
  Calls Tryd.prog 25 #[.string s,.func (.func 26) #[] #[]] w (Zbx w (.int .i64 (Zac Zbj s.data.toList))):=by
 unfold maxLen at hs
 obtain ⟨z,hz⟩:∃ z,z=Zac Zbj s.data.toList:=⟨_,rfl⟩
 rw [<- hz]
 have HZ:=zh hz
 clear hz
 go_enter Tryd.func25,Tryd.ntmps25
 go_wp2_with fail
 go_loopg [5] s.size (fun g v5 wr=>∃ k:Nat,v5=.int .i64 k/\k<=s.size/\g=s.size-k/\z=k+Zac Zbj (s.data.toList.drop k)/\wr=w)
 case atStart=>exact ⟨0,rfl,Nat.zero_le _,rfl,by rw [HZ.out];simp,rfl⟩
 case round=>
  obtain ⟨k,rfl,hk,hg,hall,rfl⟩:=hrel
  have HA:=zh hall
  clear hall
  by_cases hlt:k<s.size
  ·have ca:=fun w=>Zmt s[k].toNat w
   have ce:=Zld s[k]
   have hb:=byte_at hlt
   have HN:=zh (fun hp=>Zes (p:=Zbj) hb hp)
   have HY:=zh (fun hp=>Zc6 (p:=Zbj) hb hp)
   rw [ce] at ca
   have i1:(k:Int)<(s.size:Int):=by omega
   have i2:(0:Int)<=(k:Int):=by omega
   have wk:IntKind.i64.wrap ((k:Int)+1)=(k:Int)+1:=IntWalk.i64_in _ (by omega)
   have CA:=zh ca
   have HK:=zh (zi hlt hg)
   clear ca ce hb hg
   generalize Zbj s[k]=R at *
   cases R
   ·go_wp2_with (go_at_call 26;(with_reducible refine (CA.out _).mono ?_);rintro e w1 ⟨rfl,rfl⟩)
    go_ret
    exact ⟨Zce (by have:=HA.out;rw [HN.out trivial] at this;omega),rfl⟩
   ·go_wp2_with (go_at_call 26;(with_reducible refine (CA.out _).mono ?_);rintro e w1 ⟨rfl,rfl⟩)
    go_roundg (s.size-(k+1))
    case measure=>have:=HK.out;omega
    case rel=>exact ⟨k+1,by push_cast;rfl,by have:=HK.out;omega,rfl,by have:=HA.out;rw [HY.out trivial] at this;omega,rfl⟩
  ·obtain rfl:k=s.size:=by omega
   have HO:=zh (ZdS (p:=Zbj) (Nat.le_of_eq (Zbi s)))
   clear hg hk hlt
   go_wp2_with fail
   go_ret
   exact ⟨Zce (by have:=HA.out;rw [HO.out] at this;omega),rfl⟩
end
end Go.Proofs.YtfdgeijnkkdplaaDoor
