import Derived.Test.YtaacbenikcbibabGreatDoorQAN
set_option maxRecDepth 100000
set_option maxHeartbeats 8000000
namespace Go.Proofs.YtaacbenikcbibabGreatDoor
section
open Go.RowKit
def Zdi (l:List UInt8):Bool:=Zh.any fun k=>k==l
def Zbg (l:List UInt8):Bool:=(match l with | []=>false | c::_=>Zee c)&&decide (l.length<=16)&&decide (ZaT ZbD l=l.length)&&!Zdi l
theorem ZfZ {l:List (List UInt8)} {k:Nat} {c:List UInt8} (h:l[k]? = some c):l.drop k=c::l.drop (k+1):=by
 obtain ⟨hk,rfl⟩:=List.getElem?_eq_some_iff.1 h
 exact List.drop_eq_getElem_cons hk
theorem ZgT:(Tryz.prog.info? 142).map (·.size)=some (Zh.map txt).toArray.size:=by kernel_rfl
theorem ZiZ (k:Nat) (g:List UInt8) (h:Zh[k]? = some g) (w:World):(Instr.index 142 (.agg (Zh.map txt).toArray) (.int .i64 k)).run Tryz.prog w=.ok (txt g) w:=by
 have hk:k<24:=by
  rcases Nat.lt_or_ge k 24 with q | q
  ·exact q
  ·rw [List.getElem?_eq_none (by exact q)] at h;cases h
 obtain rfl | k0:=Nat.eq_or_lt_of_le (show 0<=k by omega)
 ·obtain rfl:Zh.getD 0 []=g:=by rw [List.getD_eq_getElem?_getD,h];rfl
  exact (show ∀ w:World,(Instr.index 142 (.agg (Zh.map txt).toArray) (.int .i64 (0:Nat))).run Tryz.prog w=.ok (txt (Zh.getD 0 [])) w from fun _=>by kernel_rfl) w
 obtain rfl | k1:=Nat.eq_or_lt_of_le (show 1<=k by omega)
 ·obtain rfl:Zh.getD 1 []=g:=by rw [List.getD_eq_getElem?_getD,h];rfl
  exact (show ∀ w:World,(Instr.index 142 (.agg (Zh.map txt).toArray) (.int .i64 (1:Nat))).run Tryz.prog w=.ok (txt (Zh.getD 1 [])) w from fun _=>by kernel_rfl) w
 obtain rfl | k2:=Nat.eq_or_lt_of_le (show 2<=k by omega)
 ·obtain rfl:Zh.getD 2 []=g:=by rw [List.getD_eq_getElem?_getD,h];rfl
  exact (show ∀ w:World,(Instr.index 142 (.agg (Zh.map txt).toArray) (.int .i64 (2:Nat))).run Tryz.prog w=.ok (txt (Zh.getD 2 [])) w from fun _=>by kernel_rfl) w
 obtain rfl | k3:=Nat.eq_or_lt_of_le (show 3<=k by omega)
 ·obtain rfl:Zh.getD 3 []=g:=by rw [List.getD_eq_getElem?_getD,h];rfl
  exact (show ∀ w:World,(Instr.index 142 (.agg (Zh.map txt).toArray) (.int .i64 (3:Nat))).run Tryz.prog w=.ok (txt (Zh.getD 3 [])) w from fun _=>by kernel_rfl) w
 obtain rfl | k4:=Nat.eq_or_lt_of_le (show 4<=k by omega)
 ·obtain rfl:Zh.getD 4 []=g:=by rw [List.getD_eq_getElem?_getD,h];rfl
  exact (show ∀ w:World,(Instr.index 142 (.agg (Zh.map txt).toArray) (.int .i64 (4:Nat))).run Tryz.prog w=.ok (txt (Zh.getD 4 [])) w from fun _=>by kernel_rfl) w
 obtain rfl | k5:=Nat.eq_or_lt_of_le (show 5<=k by omega)
 ·obtain rfl:Zh.getD 5 []=g:=by rw [List.getD_eq_getElem?_getD,h];rfl
  exact (show ∀ w:World,(Instr.index 142 (.agg (Zh.map txt).toArray) (.int .i64 (5:Nat))).run Tryz.prog w=.ok (txt (Zh.getD 5 [])) w from fun _=>by kernel_rfl) w
 obtain rfl | k6:=Nat.eq_or_lt_of_le (show 6<=k by omega)
 ·obtain rfl:Zh.getD 6 []=g:=by rw [List.getD_eq_getElem?_getD,h];rfl
  exact (show ∀ w:World,(Instr.index 142 (.agg (Zh.map txt).toArray) (.int .i64 (6:Nat))).run Tryz.prog w=.ok (txt (Zh.getD 6 [])) w from fun _=>by kernel_rfl) w
 obtain rfl | k7:=Nat.eq_or_lt_of_le (show 7<=k by omega)
 ·obtain rfl:Zh.getD 7 []=g:=by rw [List.getD_eq_getElem?_getD,h];rfl
  exact (show ∀ w:World,(Instr.index 142 (.agg (Zh.map txt).toArray) (.int .i64 (7:Nat))).run Tryz.prog w=.ok (txt (Zh.getD 7 [])) w from fun _=>by kernel_rfl) w
 obtain rfl | k8:=Nat.eq_or_lt_of_le (show 8<=k by omega)
 ·obtain rfl:Zh.getD 8 []=g:=by rw [List.getD_eq_getElem?_getD,h];rfl
  exact (show ∀ w:World,(Instr.index 142 (.agg (Zh.map txt).toArray) (.int .i64 (8:Nat))).run Tryz.prog w=.ok (txt (Zh.getD 8 [])) w from fun _=>by kernel_rfl) w
 obtain rfl | k9:=Nat.eq_or_lt_of_le (show 9<=k by omega)
 ·obtain rfl:Zh.getD 9 []=g:=by rw [List.getD_eq_getElem?_getD,h];rfl
  exact (show ∀ w:World,(Instr.index 142 (.agg (Zh.map txt).toArray) (.int .i64 (9:Nat))).run Tryz.prog w=.ok (txt (Zh.getD 9 [])) w from fun _=>by kernel_rfl) w
 obtain rfl | k10:=Nat.eq_or_lt_of_le (show 10<=k by omega)
 ·obtain rfl:Zh.getD 10 []=g:=by rw [List.getD_eq_getElem?_getD,h];rfl
  exact (show ∀ w:World,(Instr.index 142 (.agg (Zh.map txt).toArray) (.int .i64 (10:Nat))).run Tryz.prog w=.ok (txt (Zh.getD 10 [])) w from fun _=>by kernel_rfl) w
 obtain rfl | k11:=Nat.eq_or_lt_of_le (show 11<=k by omega)
 ·obtain rfl:Zh.getD 11 []=g:=by rw [List.getD_eq_getElem?_getD,h];rfl
  exact (show ∀ w:World,(Instr.index 142 (.agg (Zh.map txt).toArray) (.int .i64 (11:Nat))).run Tryz.prog w=.ok (txt (Zh.getD 11 [])) w from fun _=>by kernel_rfl) w
 obtain rfl | k12:=Nat.eq_or_lt_of_le (show 12<=k by omega)
 ·obtain rfl:Zh.getD 12 []=g:=by rw [List.getD_eq_getElem?_getD,h];rfl
  exact (show ∀ w:World,(Instr.index 142 (.agg (Zh.map txt).toArray) (.int .i64 (12:Nat))).run Tryz.prog w=.ok (txt (Zh.getD 12 [])) w from fun _=>by kernel_rfl) w
 obtain rfl | k13:=Nat.eq_or_lt_of_le (show 13<=k by omega)
 ·obtain rfl:Zh.getD 13 []=g:=by rw [List.getD_eq_getElem?_getD,h];rfl
  exact (show ∀ w:World,(Instr.index 142 (.agg (Zh.map txt).toArray) (.int .i64 (13:Nat))).run Tryz.prog w=.ok (txt (Zh.getD 13 [])) w from fun _=>by kernel_rfl) w
 obtain rfl | k14:=Nat.eq_or_lt_of_le (show 14<=k by omega)
 ·obtain rfl:Zh.getD 14 []=g:=by rw [List.getD_eq_getElem?_getD,h];rfl
  exact (show ∀ w:World,(Instr.index 142 (.agg (Zh.map txt).toArray) (.int .i64 (14:Nat))).run Tryz.prog w=.ok (txt (Zh.getD 14 [])) w from fun _=>by kernel_rfl) w
 obtain rfl | k15:=Nat.eq_or_lt_of_le (show 15<=k by omega)
 ·obtain rfl:Zh.getD 15 []=g:=by rw [List.getD_eq_getElem?_getD,h];rfl
  exact (show ∀ w:World,(Instr.index 142 (.agg (Zh.map txt).toArray) (.int .i64 (15:Nat))).run Tryz.prog w=.ok (txt (Zh.getD 15 [])) w from fun _=>by kernel_rfl) w
 obtain rfl | k16:=Nat.eq_or_lt_of_le (show 16<=k by omega)
 ·obtain rfl:Zh.getD 16 []=g:=by rw [List.getD_eq_getElem?_getD,h];rfl
  exact (show ∀ w:World,(Instr.index 142 (.agg (Zh.map txt).toArray) (.int .i64 (16:Nat))).run Tryz.prog w=.ok (txt (Zh.getD 16 [])) w from fun _=>by kernel_rfl) w
 obtain rfl | k17:=Nat.eq_or_lt_of_le (show 17<=k by omega)
 ·obtain rfl:Zh.getD 17 []=g:=by rw [List.getD_eq_getElem?_getD,h];rfl
  exact (show ∀ w:World,(Instr.index 142 (.agg (Zh.map txt).toArray) (.int .i64 (17:Nat))).run Tryz.prog w=.ok (txt (Zh.getD 17 [])) w from fun _=>by kernel_rfl) w
 obtain rfl | k18:=Nat.eq_or_lt_of_le (show 18<=k by omega)
 ·obtain rfl:Zh.getD 18 []=g:=by rw [List.getD_eq_getElem?_getD,h];rfl
  exact (show ∀ w:World,(Instr.index 142 (.agg (Zh.map txt).toArray) (.int .i64 (18:Nat))).run Tryz.prog w=.ok (txt (Zh.getD 18 [])) w from fun _=>by kernel_rfl) w
 obtain rfl | k19:=Nat.eq_or_lt_of_le (show 19<=k by omega)
 ·obtain rfl:Zh.getD 19 []=g:=by rw [List.getD_eq_getElem?_getD,h];rfl
  exact (show ∀ w:World,(Instr.index 142 (.agg (Zh.map txt).toArray) (.int .i64 (19:Nat))).run Tryz.prog w=.ok (txt (Zh.getD 19 [])) w from fun _=>by kernel_rfl) w
 obtain rfl | k20:=Nat.eq_or_lt_of_le (show 20<=k by omega)
 ·obtain rfl:Zh.getD 20 []=g:=by rw [List.getD_eq_getElem?_getD,h];rfl
  exact (show ∀ w:World,(Instr.index 142 (.agg (Zh.map txt).toArray) (.int .i64 (20:Nat))).run Tryz.prog w=.ok (txt (Zh.getD 20 [])) w from fun _=>by kernel_rfl) w
 obtain rfl | k21:=Nat.eq_or_lt_of_le (show 21<=k by omega)
 ·obtain rfl:Zh.getD 21 []=g:=by rw [List.getD_eq_getElem?_getD,h];rfl
  exact (show ∀ w:World,(Instr.index 142 (.agg (Zh.map txt).toArray) (.int .i64 (21:Nat))).run Tryz.prog w=.ok (txt (Zh.getD 21 [])) w from fun _=>by kernel_rfl) w
 obtain rfl | k22:=Nat.eq_or_lt_of_le (show 22<=k by omega)
 ·obtain rfl:Zh.getD 22 []=g:=by rw [List.getD_eq_getElem?_getD,h];rfl
  exact (show ∀ w:World,(Instr.index 142 (.agg (Zh.map txt).toArray) (.int .i64 (22:Nat))).run Tryz.prog w=.ok (txt (Zh.getD 22 [])) w from fun _=>by kernel_rfl) w
 obtain rfl | k23:=Nat.eq_or_lt_of_le (show 23<=k by omega)
 ·obtain rfl:Zh.getD 23 []=g:=by rw [List.getD_eq_getElem?_getD,h];rfl
  exact (show ∀ w:World,(Instr.index 142 (.agg (Zh.map txt).toArray) (.int .i64 (23:Nat))).run Tryz.prog w=.ok (txt (Zh.getD 23 [])) w from fun _=>by kernel_rfl) w
 omega
theorem ZiD (s:ByteArray) (w:World) (ht:Zad w 0 Zh) :
  Calls Tryz.prog 86 #[.string s] w (ZbJ w (.bool (Zdi s.data.toList))):=by
 obtain ⟨z,hz⟩:∃ z,z=Zdi s.data.toList:=⟨_,rfl⟩
 rw [<- hz]
 obtain ⟨tt,fr,hrow⟩:=ht
 have hinfo:=ZgT
 have hat:=ZiZ
 generalize (Zh.map txt).toArray=SA at *
 have ROW:=Lib.hid (And.intro hrow (And.intro hinfo hat))
 have HZ:=Lib.hid hz
 clear hz hrow hinfo hat
 go_enter Tryz.func86,Tryz.ntmps86
 go_wp2_with (refine wpList_load_row rfl 142 _ rfl 0 rfl _ SA _ _ ROW.out.1 Tryz.underlying142 rfl ROW.out.2.1 ?_)
 go_loopg [6] 24 (fun g v6 wr=>∃ k:Nat,v6=.int .i64 k/\k<=24/\g=24-k/\z=((Zh.drop k).any fun k=>k==s.data.toList)/\wr=w)
 case atStart=>exact ⟨0,rfl,Nat.zero_le _,rfl,by rw [HZ.out];rfl,rfl⟩
 case round=>
  obtain ⟨k,rfl,hk,hg,hall,rfl⟩:=hrel
  by_cases hlt:k<24
  ·obtain ⟨g,hgk⟩:∃ g,Zh[k]? = some g:=⟨_,List.getElem?_eq_getElem (by exact hlt)⟩
   have ix:=ROW.out.2.2 k g hgk
   rw [ZfZ hgk,List.any_cons] at hall
   have i1:(k:Int)<24:=by omega
   have i2:(0:Int)<=(k:Int):=by omega
   have wk:IntKind.i64.wrap ((k:Int)+1)=(k:Int)+1:=IntWalk.i64_in _ (by omega)
   have HK:=Lib.hid (And.intro hlt hg)
   have HA:=Lib.hid hall
   clear hall hg hgk
   by_cases R:g=s.data.toList
   ·go_wp2_with fail
    go_ret
    exact ⟨Za5 (by rw [HA.out,beq_iff_eq.2 R];rfl),rfl⟩
   ·have R1:(g==s.toList)=false:=by rw [Lib.toList_data];simpa using R
    have R2:=Lib.hid R
    clear R
    go_wp2_with fail
    go_roundg (24-(k+1))
    case measure=>have:=HK.out;omega
    case rel=>exact ⟨k+1,by push_cast;rfl,by have:=HK.out;omega,rfl,by rw [HA.out,beq_eq_false_iff_ne.2 R2.out,Bool.false_or],rfl⟩
  ·obtain rfl:k=24:=by omega
   have HA:=Lib.hid hall
   clear hg hk hlt hall
   go_wp2_with fail
   go_ret
   exact ⟨Za5 (by rw [HA.out];rfl),rfl⟩
theorem ZhR (s:ByteArray) (w:World) (h:s.data.toList=[]):Calls Tryz.prog 54 #[.string s] w (ZbJ w (.bool (Zbg s.data.toList))):=by
 have hs:s=⟨#[]⟩:=by
  apply ByteArray.ext
  apply Array.ext'
  exact h
 subst hs
 clear h
 go_enter Tryz.func54,Tryz.ntmps54
 go_wp2_with fail
 go_ret
 exact ⟨rfl,rfl⟩
theorem ZhQ (s:ByteArray) (w:World) (hs:s.size<=maxLen) (ht:Zad w 0 Zh) :
  Calls Tryz.prog 54 #[.string s] w (ZbJ w (.bool (Zbg s.data.toList))):=by
 cases h:s.data.toList with
 | nil=>rw [<- h];exact ZhR s w h
 | cons c r=>
  have ka:=fun w (h:Zad w 0 Zh)=>ZiD s w h
  have sp:=fun w=>ZiR s w hs
  have la:=fun w=>Zdk c.toNat w
  rw [ZhG] at la
  have h0:0<s.size:=by rw [<- ZeD,h];simp
  have hc:=Zij h h0
  have m:=congrArg UInt8.toNat hc
  have e0:=Zg4 h
  have hlen:(c::r).length=s.size:=by rw [<- h,ZeD]
  have hn:Zbg (c::r)=(Zee c&&decide (s.size<=16)&&decide (ZaT ZbD (c::r)=s.size)&&!Zdi (c::r)):=by
   unfold Zbg
   rw [hlen]
  rw [h] at ka sp
  rw [hn]
  generalize ZaT ZbD (c::r)=q at *
  generalize Zdi (c::r)=K at *
  generalize Zee c=L at *
  have KA:=Lib.hid (ka w ht)
  have SP:=Lib.hid sp
  have LA:=Lib.hid la
  generalize c.toNat=cn at *
  clear ka sp la ht h hc hn hlen hs
  by_cases h16:s.size<=16
  ·have d16:(s.size:Int)<=16:=by omega
   by_cases hq:q=s.size
   ·have dq:((q:Int)==(s.size:Int))=true:=by rw [hq];exact beq_self_eq_true _
    have HQ:=Lib.hid (And.intro hq h16)
    clear hq
    cases L<;>cases K
    all_goals
     go_enter Tryz.func54,Tryz.ntmps54
     go_wp2_with (first | (go_at_call 83;(with_reducible refine (LA.out _).mono ?_);rintro e w1 ⟨rfl,rfl⟩) | (go_at_call 84;(with_reducible refine (SP.out _).mono ?_);rintro e w1 ⟨rfl,rfl⟩) | (go_at_call 86;(with_reducible refine KA.out.mono ?_);rintro e w1 ⟨rfl,rfl⟩))
     go_ret
     exact ⟨Za5 (by rw [decide_eq_true HQ.out.1,decide_eq_true HQ.out.2];rfl),rfl⟩
   ·have dq:((q:Int)==(s.size:Int))=false:=by simpa using fun e=>hq (by omega)
    have HQ:=Lib.hid (And.intro hq h16)
    clear hq
    cases L<;>cases K
    all_goals
     go_enter Tryz.func54,Tryz.ntmps54
     go_wp2_with (first | (go_at_call 83;(with_reducible refine (LA.out _).mono ?_);rintro e w1 ⟨rfl,rfl⟩) | (go_at_call 84;(with_reducible refine (SP.out _).mono ?_);rintro e w1 ⟨rfl,rfl⟩) | (go_at_call 86;(with_reducible refine KA.out.mono ?_);rintro e w1 ⟨rfl,rfl⟩))
     go_ret
     exact ⟨Za5 (by rw [decide_eq_false HQ.out.1,decide_eq_true HQ.out.2];rfl),rfl⟩
  ·have d16:¬ (s.size:Int)<=16:=by omega
   have HQ:=Lib.hid h16
   clear h16
   go_enter Tryz.func54,Tryz.ntmps54
   go_wp2_with (first | (go_at_call 83;(with_reducible refine (LA.out _).mono ?_);rintro e w1 ⟨rfl,rfl⟩) | (go_at_call 84;(with_reducible refine (SP.out _).mono ?_);rintro e w1 ⟨rfl,rfl⟩) | (go_at_call 86;(with_reducible refine KA.out.mono ?_);rintro e w1 ⟨rfl,rfl⟩))
   go_ret
   exact ⟨Za5 (by rw [decide_eq_false HQ.out];simp),rfl⟩
end
section
open Go.RowKit
structure Nd where
 kind:Int
 words:List (List UInt8)
 nums:List Int
 kids:List Int
 pos:Int
deriving DecidableEq
def nd0:Nd:=⟨0,[],[],[],0⟩
def ZB (ns:List Nd) (k:Int):Nd:=(ns[k.toNat]?).getD nd0
def ZN (ns:List Nd) (k:Int):Int:=(ZB ns k).kind
def atI (p:List Int) (k:Int):Int:=(p[k.toNat]?).getD (-1)
def Zag (n at_:Nat):List Int->List Int->Option (List Int)
 | [],p=>some p
 | k::r,p=>if k<=(at_:Int)\/(n:Int)<=k\/0<=atI p k then none else Zag n at_ r (p.set k.toNat at_)
def Zaq (ns:List Nd):Nat->Option (List Int)
 | 0=>some (List.replicate ns.length (-1))
 | j+1=>(Zaq ns j).bind fun p=>if 0<j/\atI p j<0 then none else Zag ns.length j (ZB ns j).kids p
def Zaw (ns:List Nd):Option (List Int):=if ns.length=0\/1500<ns.length then none else Zaq ns ns.length
def Zbf (p:List Int):Nat->List Int
 | 0=>[]
 | j+1=>Zbf p j++[if 0<=atI p j then 1+atI (Zbf p j) (atI p j) else 1]
def Zbt (p:List Int):List Int:=Zbf p p.length
def Zce:List Int->Int
 | []=>0
 | x::r=>r.foldl max x
def ZbS (k:Int):Bool:=decide (8<=k)&&decide (k<=19)&&!(k==12)&&!(k==15)
def ZP (k:Int):Bool:=decide (20<=k)&&decide (k<=23)
def ZcP (k:Int):Bool:=k==15||ZP k
def Zb0 (ws:List (List UInt8)):Bool:=ws.all Zbg
def ZaO (l:List Int):Bool:=l.all fun x=>decide (0<=x)&&decide (x<1000000000000000000)
def Zj (n:Nd) (w m:Nat):Bool:=decide (n.words.length=w)&&decide (n.nums.length=m)
def isB (ks:List Int) (k:Int):Bool:=ks.contains k
def ZaB (ns:List Nd) (kids:List Int) (f:Int->Bool):Bool:=kids.all fun k=>f (ZN ns k)
def Zl (ns:List Nd):List Int->List (Int->Bool)->Bool
 | [],[]=>true
 | k::r,f::g=>f (ZN ns k)&&Zl ns r g
 | _,_=>false
def Zan (ns:List Nd) (k:Int):Int:=match (ZB ns k).nums with
 | []=>-1
 | x::_=>x
def ZV (ns:List Nd):List Int->Bool
 | []=>true
 | [_]=>true
 | a::b::r=>decide (Zan ns a<Zan ns b)&&ZV ns (b::r)
def num (n:Nd) (k:Nat):Int:=(n.nums[k]?).getD 0
def Zbl (n:Nd):Bool:=decide (1<=num n 1)&&decide (1<=num n 2)
def Zbo (ns:List Nd) (n:Nd):Bool:=decide (num n 0<=4)&&((num n 1==0&&num n 2==0)||Zbl n)&&ZaB ns n.kids (isB [6])&&ZV ns n.kids
def Zdm (ns:List Nd) (n:Nd):Bool:=
 !(num n 0==0)&&decide (num n 0<=4)&&Zbl n&&(Zl ns n.kids [isB [7]]||Zl ns n.kids [isB [6],isB [7]]&&Zan ns (atI n.kids 0)==2)
def Zn (ns:List Nd) (n:Nd):Bool:=
 if n.kind=0 then Zj n 0 0&&ZaB ns n.kids (isB [1,4])
 else if n.kind=1 then Zj n 1 0&&ZaB ns n.kids (isB [2,3])
 else if n.kind=2 then Zj n 1 1&&decide (num n 0<=1)&&Zl ns n.kids []
 else if n.kind=3 then decide (4<=n.words.length)&&decide (n.words.length % 2=0)&&Zj n n.words.length 0&&Zl ns n.kids []
 else if n.kind=4 then Zj n 1 0&&ZaB ns (n.kids.take (n.kids.length-1)) (isB [5])&&Zl ns (n.kids.drop (n.kids.length-1)) [isB [7]]
 else if n.kind=5 then Zj n 1 0&&Zl ns n.kids []||Zj n 2 3&&Zbo ns n
 else if n.kind=6 then decide (1<=n.words.length)&&Zj n n.words.length 1&&decide (num n 0<=2)&&Zl ns n.kids []
 else if n.kind=7 then Zj n 0 0&&ZaB ns n.kids ZbS
 else if n.kind=8\/n.kind=9 then Zj n 1 0&&Zl ns n.kids [ZP]
 else if n.kind=10 then Zj n 2 0&&Zl ns n.kids [isB [7],isB [7]]
 else if n.kind=11 then Zj n 2 0&&ZaB ns n.kids (isB [12])
 else if n.kind=12 then Zj n 1 0&&Zl ns n.kids [isB [7]]
 else if n.kind=13 then Zj n 2 3&&Zdm ns n
 else if n.kind=14 then (Zj n 1 0||Zj n 2 0)&&ZaB ns n.kids ZcP
 else if n.kind=15\/n.kind=21 then Zj n 1 0&&Zl ns n.kids []
 else if n.kind=16 then Zj n 0 0&&(Zl ns n.kids [ZP,isB [7]]||Zl ns n.kids [ZP,isB [7],isB [7]])
 else if n.kind=17 then Zj n 0 0&&Zl ns n.kids [ZP,isB [7]]
 else if n.kind=18\/n.kind=23 then Zj n 0 0&&Zl ns n.kids [ZP]
 else if n.kind=19 then Zj n 0 0&&Zl ns n.kids []
 else if n.kind=20 then Zj n 0 1&&Zl ns n.kids []
 else if n.kind=22 then Zj n 0 1&&decide (num n 0<=5)&&Zl ns n.kids [ZP,ZP]
 else false
def Zbj (ns:List Nd) (n:Nd):Bool:=Zb0 n.words&&ZaO n.nums&&Zn ns n
def ZbG (ns:List Nd):Bool:=match Zaw ns with
 | none=>false
 | some p=>ZN ns 0==0&&decide (Zce (Zbt p)<=24)&&ns.all (Zbj ns)
end
section
open Go.RowKit
def ZL (w:World) (v:Value) (l:List Int):Prop:=∃ A c,v=.slice A l.length c/\l.length<=c/\c<=maxLen/\Zs w w.heap.size 1 A l.length (l.map (Value.int .i64))
theorem ZL.below {w w':World} {v:Value} {l:List Int} (h:ZL w v l) (hb:Below w.heap.size w w'):ZL w' v l:=by
 obtain ⟨A,c,h1,h2,h3,h4⟩:=h
 exact ⟨A,c,h1,h2,h3,(h4.below hb).more hb.size⟩
theorem ZL.nil (w:World):ZL w (.slice none 0 0) []:=⟨none,0,rfl,Nat.le_refl _,by decide,Zs.none_⟩
theorem ZL.len {w:World} {v:Value} {l:List Int} (h:ZL w v l):l.length<=maxLen:=by
 obtain ⟨_,_,_,a,b,_⟩:=h
 omega
theorem ZC {w wr:World} {A:Option Addr} {n k:Nat} {l:List Int} {x:Int} (h4:Zs w w.heap.size 1 A n (l.map (Value.int .i64))) (hb:Below w.heap.size w wr) (hx:l[k]? = some x) (hn:0<n) :
  ∃ ad,A=some ad/\wr.cell? (ad.add k)=some (.int .i64 x):=by
 obtain ⟨ad,e,hbk,hc⟩:=h4.2 hn
 exact ⟨ad,e,(hb.cell (p:=ad.add k) (by rw [ZT];exact hbk)).trans (hc k _ (by rw [List.getElem?_map,hx];rfl))⟩
def Za0 (w:World) (v:Value) (l:List (List UInt8)):Prop:=∃ A c,v=.slice A l.length c/\l.length<=c/\c<=maxLen/\Zs w w.heap.size 1 A l.length (l.map txt)/\∀ s∈l,s.length<=maxLen
theorem Za0.below {w w':World} {v:Value} {l:List (List UInt8)} (h:Za0 w v l) (hb:Below w.heap.size w w'):Za0 w' v l:=by
 obtain ⟨A,c,h1,h2,h3,h4,h5⟩:=h
 exact ⟨A,c,h1,h2,h3,(h4.below hb).more hb.size,h5⟩
theorem Za0.nil (w:World):Za0 w (.slice none 0 0) []:=⟨none,0,rfl,Nat.le_refl _,by decide,Zs.none_,fun s hs=>by cases hs⟩
theorem Za0.len {w:World} {v:Value} {l:List (List UInt8)} (h:Za0 w v l):l.length<=maxLen:=by
 obtain ⟨_,_,_,a,b,_⟩:=h
 omega
theorem Zbb {w wr:World} {A:Option Addr} {n k:Nat} {l:List (List UInt8)} {x:List UInt8} (h4:Zs w w.heap.size 1 A n (l.map txt)) (hb:Below w.heap.size w wr) (hx:l[k]? = some x) (hn:0<n) :
  ∃ ad,A=some ad/\wr.cell? (ad.add k)=some (txt x):=by
 obtain ⟨ad,e,hbk,hc⟩:=h4.2 hn
 exact ⟨ad,e,(hb.cell (p:=ad.add k) (by rw [ZT];exact hbk)).trans (hc k _ (by rw [List.getElem?_map,hx];rfl))⟩
abbrev NdV:=Value×Value×Value
def Zu:List (NdV×Nd)->List Value
 | []=>[]
 | x::r=>.int .i64 x.2.kind::x.1.1::x.1.2.1::x.1.2.2::.int .i64 x.2.pos::Zu r
theorem Za4:∀ (l m:List (NdV×Nd)),Zu (l++m)=Zu l++Zu m
 | [],m=>rfl
 | x::r,m=>by rw [List.cons_append,Zu,Zu,Za4 r m];rfl
theorem ZcG:∀ (l:List (NdV×Nd)) (k:Nat) (x:NdV×Nd),l[k]? = some x->(Zu l)[k*5]? = some (.int .i64 x.2.kind)/\(Zu l)[k*5+1]? = some x.1.1/\(Zu l)[k*5+2]? = some x.1.2.1/\(Zu l)[k*5+3]? = some x.1.2.2/\(Zu l)[k*5+4]? = some (.int .i64 x.2.pos)
 | [],k,x,h=>by simp at h
 | y::r,0,x,h=>by
  obtain rfl:y=x:=by simpa using h
  exact ⟨rfl,rfl,rfl,rfl,rfl⟩
 | y::r,k+1,x,h=>by
  rw [List.getElem?_cons_succ] at h
  obtain ⟨a,b,c,d,e⟩:=ZcG r k x h
  exact ⟨by rw [show (k+1)*5=k*5+1+1+1+1+1 by omega];exact a,by rw [show (k+1)*5+1=k*5+1+1+1+1+1+1 by omega];exact b,by rw [show (k+1)*5+2=k*5+2+1+1+1+1+1 by omega];exact c,by rw [show (k+1)*5+3=k*5+3+1+1+1+1+1 by omega];exact d,by rw [show (k+1)*5+4=k*5+4+1+1+1+1+1 by omega];exact e⟩
def ZO (w:World) (x:NdV×Nd):Prop:=Za0 w x.1.1 x.2.words/\ZL w x.1.2.1 x.2.nums/\ZL w x.1.2.2 x.2.kids
theorem ZO.below {w w':World} {x:NdV×Nd} (h:ZO w x) (hb:Below w.heap.size w w'):ZO w' x:=⟨h.1.below hb,h.2.1.below hb,h.2.2.below hb⟩
def Zo (w:World) (v:Value) (ns:List Nd):Prop:=
 ∃ A c rs,v=.slice A ns.length c/\ns.length<=c/\c<=maxLen/\rs.map (·.2)=ns/\Zs w w.heap.size 5 A ns.length (Zu rs)/\∀ x∈rs,ZO w x
theorem Zo.below {w w':World} {v:Value} {ns:List Nd} (h:Zo w v ns) (hb:Below w.heap.size w w'):Zo w' v ns:=by
 obtain ⟨A,c,rs,h1,h2,h3,h4,h5,h6⟩:=h
 exact ⟨A,c,rs,h1,h2,h3,h4,(h5.below hb).more hb.size,fun x hx=>(h6 x hx).below hb⟩
theorem Zo.nil (w:World):Zo w (.slice none 0 0) []:=⟨none,0,[],rfl,Nat.le_refl _,by decide,rfl,Zs.none_,fun x hx=>by cases hx⟩
theorem ZW {w wr:World} {A:Option Addr} {n k:Nat} {rs:List (NdV×Nd)} {x:NdV×Nd} (h4:Zs w w.heap.size 5 A n (Zu rs)) (hb:Below w.heap.size w wr) (hx:rs[k]? = some x) (hn:0<n) :
  ∃ ad,A=some ad/\wr.cell? (ad.add (k*5))=some (.int .i64 x.2.kind)/\wr.cell? ⟨(ad.add (k*5)).block,(ad.add (k*5)).off+1,none⟩=some x.1.1/\wr.cell? ⟨(ad.add (k*5)).block,(ad.add (k*5)).off+2,none⟩=some x.1.2.1/\wr.cell? ⟨(ad.add (k*5)).block,(ad.add (k*5)).off+3,none⟩=some x.1.2.2/\wr.cell? ⟨(ad.add (k*5)).block,(ad.add (k*5)).off+4,none⟩=some (.int .i64 x.2.pos):=by
 obtain ⟨ad,e,hbk,hc⟩:=h4.2 hn
 obtain ⟨a,b,c,d,f⟩:=ZcG rs k x hx
 have d0:=(hb.cell (p:=ad.add (k*5)) (by rw [ZT];exact hbk)).trans (hc _ _ a)
 have d1:=(hb.cell (p:=ad.add (k*5+1)) (by rw [ZT];exact hbk)).trans (hc _ _ b)
 have d2:=(hb.cell (p:=ad.add (k*5+2)) (by rw [ZT];exact hbk)).trans (hc _ _ c)
 have d3:=(hb.cell (p:=ad.add (k*5+3)) (by rw [ZT];exact hbk)).trans (hc _ _ d)
 have d4:=(hb.cell (p:=ad.add (k*5+4)) (by rw [ZT];exact hbk)).trans (hc _ _ f)
 rw [<- ZaI] at d1 d2 d3 d4
 exact ⟨ad,e,d0,d1,d2,d3,d4⟩
end
end Go.Proofs.YtaacbenikcbibabGreatDoor
