import Derived.Test.YtfdgeijnkkdplaaDoorQAD
import Derived.Test.YtfdgeijnkkdplaaDoorQAE
set_option maxRecDepth 100000
set_option maxHeartbeats 8000000
namespace Go.Proofs.YtfdgeijnkkdplaaDoor
section
open Go.RowKit
def isKey (l:List UInt8):Bool:=Zs.any fun k=>k==l
def Zbn (l:List UInt8):Bool:=(match l with | []=>false | c::_=>ZaA c)&&decide (l.length<=16)&&decide (Zac ZbR l=l.length)&&!isKey l
theorem ZhR {l:List (List UInt8)} {k:Nat} {c:List UInt8} (h:l[k]? = some c):l.drop k=c::l.drop (k+1):=by
 obtain ⟨hk,rfl⟩:=List.getElem?_eq_some_iff.1 h
 exact List.drop_eq_getElem_cons hk
theorem Zkt:(Tryd.prog.info? 87).map (·.size)=some (Zs.map txt).toArray.size:=by kernel_rfl
theorem Zmp (k:Nat) (g:List UInt8) (h:Zs[k]? = some g) (w:World):(Instr.index 87 (.agg (Zs.map txt).toArray) (.int .i64 k)).run Tryd.prog w=.ok (txt g) w:=by
 have hk:k<24:=by
  rcases Nat.lt_or_ge k 24 with q | q
  ·exact q
  ·rw [List.getElem?_eq_none (by exact q)] at h;cases h
 obtain rfl | k0:=Nat.eq_or_lt_of_le (show 0<=k by omega)
 ·obtain rfl:Zs.getD 0 []=g:=by rw [List.getD_eq_getElem?_getD,h];rfl
  exact (show ∀ w:World,(Instr.index 87 (.agg (Zs.map txt).toArray) (.int .i64 (0:Nat))).run Tryd.prog w=.ok (txt (Zs.getD 0 [])) w from fun _=>by kernel_rfl) w
 obtain rfl | k1:=Nat.eq_or_lt_of_le (show 1<=k by omega)
 ·obtain rfl:Zs.getD 1 []=g:=by rw [List.getD_eq_getElem?_getD,h];rfl
  exact (show ∀ w:World,(Instr.index 87 (.agg (Zs.map txt).toArray) (.int .i64 (1:Nat))).run Tryd.prog w=.ok (txt (Zs.getD 1 [])) w from fun _=>by kernel_rfl) w
 obtain rfl | k2:=Nat.eq_or_lt_of_le (show 2<=k by omega)
 ·obtain rfl:Zs.getD 2 []=g:=by rw [List.getD_eq_getElem?_getD,h];rfl
  exact (show ∀ w:World,(Instr.index 87 (.agg (Zs.map txt).toArray) (.int .i64 (2:Nat))).run Tryd.prog w=.ok (txt (Zs.getD 2 [])) w from fun _=>by kernel_rfl) w
 obtain rfl | k3:=Nat.eq_or_lt_of_le (show 3<=k by omega)
 ·obtain rfl:Zs.getD 3 []=g:=by rw [List.getD_eq_getElem?_getD,h];rfl
  exact (show ∀ w:World,(Instr.index 87 (.agg (Zs.map txt).toArray) (.int .i64 (3:Nat))).run Tryd.prog w=.ok (txt (Zs.getD 3 [])) w from fun _=>by kernel_rfl) w
 obtain rfl | k4:=Nat.eq_or_lt_of_le (show 4<=k by omega)
 ·obtain rfl:Zs.getD 4 []=g:=by rw [List.getD_eq_getElem?_getD,h];rfl
  exact (show ∀ w:World,(Instr.index 87 (.agg (Zs.map txt).toArray) (.int .i64 (4:Nat))).run Tryd.prog w=.ok (txt (Zs.getD 4 [])) w from fun _=>by kernel_rfl) w
 obtain rfl | k5:=Nat.eq_or_lt_of_le (show 5<=k by omega)
 ·obtain rfl:Zs.getD 5 []=g:=by rw [List.getD_eq_getElem?_getD,h];rfl
  exact (show ∀ w:World,(Instr.index 87 (.agg (Zs.map txt).toArray) (.int .i64 (5:Nat))).run Tryd.prog w=.ok (txt (Zs.getD 5 [])) w from fun _=>by kernel_rfl) w
 obtain rfl | k6:=Nat.eq_or_lt_of_le (show 6<=k by omega)
 ·obtain rfl:Zs.getD 6 []=g:=by rw [List.getD_eq_getElem?_getD,h];rfl
  exact (show ∀ w:World,(Instr.index 87 (.agg (Zs.map txt).toArray) (.int .i64 (6:Nat))).run Tryd.prog w=.ok (txt (Zs.getD 6 [])) w from fun _=>by kernel_rfl) w
 obtain rfl | k7:=Nat.eq_or_lt_of_le (show 7<=k by omega)
 ·obtain rfl:Zs.getD 7 []=g:=by rw [List.getD_eq_getElem?_getD,h];rfl
  exact (show ∀ w:World,(Instr.index 87 (.agg (Zs.map txt).toArray) (.int .i64 (7:Nat))).run Tryd.prog w=.ok (txt (Zs.getD 7 [])) w from fun _=>by kernel_rfl) w
 obtain rfl | k8:=Nat.eq_or_lt_of_le (show 8<=k by omega)
 ·obtain rfl:Zs.getD 8 []=g:=by rw [List.getD_eq_getElem?_getD,h];rfl
  exact (show ∀ w:World,(Instr.index 87 (.agg (Zs.map txt).toArray) (.int .i64 (8:Nat))).run Tryd.prog w=.ok (txt (Zs.getD 8 [])) w from fun _=>by kernel_rfl) w
 obtain rfl | k9:=Nat.eq_or_lt_of_le (show 9<=k by omega)
 ·obtain rfl:Zs.getD 9 []=g:=by rw [List.getD_eq_getElem?_getD,h];rfl
  exact (show ∀ w:World,(Instr.index 87 (.agg (Zs.map txt).toArray) (.int .i64 (9:Nat))).run Tryd.prog w=.ok (txt (Zs.getD 9 [])) w from fun _=>by kernel_rfl) w
 obtain rfl | k10:=Nat.eq_or_lt_of_le (show 10<=k by omega)
 ·obtain rfl:Zs.getD 10 []=g:=by rw [List.getD_eq_getElem?_getD,h];rfl
  exact (show ∀ w:World,(Instr.index 87 (.agg (Zs.map txt).toArray) (.int .i64 (10:Nat))).run Tryd.prog w=.ok (txt (Zs.getD 10 [])) w from fun _=>by kernel_rfl) w
 obtain rfl | k11:=Nat.eq_or_lt_of_le (show 11<=k by omega)
 ·obtain rfl:Zs.getD 11 []=g:=by rw [List.getD_eq_getElem?_getD,h];rfl
  exact (show ∀ w:World,(Instr.index 87 (.agg (Zs.map txt).toArray) (.int .i64 (11:Nat))).run Tryd.prog w=.ok (txt (Zs.getD 11 [])) w from fun _=>by kernel_rfl) w
 obtain rfl | k12:=Nat.eq_or_lt_of_le (show 12<=k by omega)
 ·obtain rfl:Zs.getD 12 []=g:=by rw [List.getD_eq_getElem?_getD,h];rfl
  exact (show ∀ w:World,(Instr.index 87 (.agg (Zs.map txt).toArray) (.int .i64 (12:Nat))).run Tryd.prog w=.ok (txt (Zs.getD 12 [])) w from fun _=>by kernel_rfl) w
 obtain rfl | k13:=Nat.eq_or_lt_of_le (show 13<=k by omega)
 ·obtain rfl:Zs.getD 13 []=g:=by rw [List.getD_eq_getElem?_getD,h];rfl
  exact (show ∀ w:World,(Instr.index 87 (.agg (Zs.map txt).toArray) (.int .i64 (13:Nat))).run Tryd.prog w=.ok (txt (Zs.getD 13 [])) w from fun _=>by kernel_rfl) w
 obtain rfl | k14:=Nat.eq_or_lt_of_le (show 14<=k by omega)
 ·obtain rfl:Zs.getD 14 []=g:=by rw [List.getD_eq_getElem?_getD,h];rfl
  exact (show ∀ w:World,(Instr.index 87 (.agg (Zs.map txt).toArray) (.int .i64 (14:Nat))).run Tryd.prog w=.ok (txt (Zs.getD 14 [])) w from fun _=>by kernel_rfl) w
 obtain rfl | k15:=Nat.eq_or_lt_of_le (show 15<=k by omega)
 ·obtain rfl:Zs.getD 15 []=g:=by rw [List.getD_eq_getElem?_getD,h];rfl
  exact (show ∀ w:World,(Instr.index 87 (.agg (Zs.map txt).toArray) (.int .i64 (15:Nat))).run Tryd.prog w=.ok (txt (Zs.getD 15 [])) w from fun _=>by kernel_rfl) w
 obtain rfl | k16:=Nat.eq_or_lt_of_le (show 16<=k by omega)
 ·obtain rfl:Zs.getD 16 []=g:=by rw [List.getD_eq_getElem?_getD,h];rfl
  exact (show ∀ w:World,(Instr.index 87 (.agg (Zs.map txt).toArray) (.int .i64 (16:Nat))).run Tryd.prog w=.ok (txt (Zs.getD 16 [])) w from fun _=>by kernel_rfl) w
 obtain rfl | k17:=Nat.eq_or_lt_of_le (show 17<=k by omega)
 ·obtain rfl:Zs.getD 17 []=g:=by rw [List.getD_eq_getElem?_getD,h];rfl
  exact (show ∀ w:World,(Instr.index 87 (.agg (Zs.map txt).toArray) (.int .i64 (17:Nat))).run Tryd.prog w=.ok (txt (Zs.getD 17 [])) w from fun _=>by kernel_rfl) w
 obtain rfl | k18:=Nat.eq_or_lt_of_le (show 18<=k by omega)
 ·obtain rfl:Zs.getD 18 []=g:=by rw [List.getD_eq_getElem?_getD,h];rfl
  exact (show ∀ w:World,(Instr.index 87 (.agg (Zs.map txt).toArray) (.int .i64 (18:Nat))).run Tryd.prog w=.ok (txt (Zs.getD 18 [])) w from fun _=>by kernel_rfl) w
 obtain rfl | k19:=Nat.eq_or_lt_of_le (show 19<=k by omega)
 ·obtain rfl:Zs.getD 19 []=g:=by rw [List.getD_eq_getElem?_getD,h];rfl
  exact (show ∀ w:World,(Instr.index 87 (.agg (Zs.map txt).toArray) (.int .i64 (19:Nat))).run Tryd.prog w=.ok (txt (Zs.getD 19 [])) w from fun _=>by kernel_rfl) w
 obtain rfl | k20:=Nat.eq_or_lt_of_le (show 20<=k by omega)
 ·obtain rfl:Zs.getD 20 []=g:=by rw [List.getD_eq_getElem?_getD,h];rfl
  exact (show ∀ w:World,(Instr.index 87 (.agg (Zs.map txt).toArray) (.int .i64 (20:Nat))).run Tryd.prog w=.ok (txt (Zs.getD 20 [])) w from fun _=>by kernel_rfl) w
 obtain rfl | k21:=Nat.eq_or_lt_of_le (show 21<=k by omega)
 ·obtain rfl:Zs.getD 21 []=g:=by rw [List.getD_eq_getElem?_getD,h];rfl
  exact (show ∀ w:World,(Instr.index 87 (.agg (Zs.map txt).toArray) (.int .i64 (21:Nat))).run Tryd.prog w=.ok (txt (Zs.getD 21 [])) w from fun _=>by kernel_rfl) w
 obtain rfl | k22:=Nat.eq_or_lt_of_le (show 22<=k by omega)
 ·obtain rfl:Zs.getD 22 []=g:=by rw [List.getD_eq_getElem?_getD,h];rfl
  exact (show ∀ w:World,(Instr.index 87 (.agg (Zs.map txt).toArray) (.int .i64 (22:Nat))).run Tryd.prog w=.ok (txt (Zs.getD 22 [])) w from fun _=>by kernel_rfl) w
 obtain rfl | k23:=Nat.eq_or_lt_of_le (show 23<=k by omega)
 ·obtain rfl:Zs.getD 23 []=g:=by rw [List.getD_eq_getElem?_getD,h];rfl
  exact (show ∀ w:World,(Instr.index 87 (.agg (Zs.map txt).toArray) (.int .i64 (23:Nat))).run Tryd.prog w=.ok (txt (Zs.getD 23 [])) w from fun _=>by kernel_rfl) w
 omega
theorem ZlX (s:ByteArray) (w:World) (ht:Zaf w 3 Zs) :
  Calls Tryd.prog 53 #[.string s] w (Zbx w (.bool (isKey s.data.toList))):=by
 obtain ⟨z,hz⟩:∃ z,z=isKey s.data.toList:=⟨_,rfl⟩
 rw [<- hz]
 obtain ⟨tt,fr,hrow⟩:=ht
 have hinfo:=Zkt
 have hat:=Zmp
 generalize (Zs.map txt).toArray=SA at *
 have ROW:=zh (zi hrow (zi hinfo hat))
 have HZ:=zh hz
 clear hz hrow hinfo hat
 go_enter Tryd.func53,Tryd.ntmps53
 go_wp2_with (refine wpList_load_row rfl 87 _ rfl 3 rfl _ SA _ _ ROW.out.1 Tryd.underlying87 rfl ROW.out.2.1 ?_)
 go_loopg [6] 24 (fun g v6 wr=>∃ k:Nat,v6=.int .i64 k/\k<=24/\g=24-k/\z=((Zs.drop k).any fun k=>k==s.data.toList)/\wr=w)
 case atStart=>exact ⟨0,rfl,Nat.zero_le _,rfl,by rw [HZ.out];rfl,rfl⟩
 case round=>
  obtain ⟨k,rfl,hk,hg,hall,rfl⟩:=hrel
  by_cases hlt:k<24
  ·obtain ⟨g,hgk⟩:∃ g,Zs[k]? = some g:=⟨_,List.getElem?_eq_getElem (by exact hlt)⟩
   have ix:=ROW.out.2.2 k g hgk
   rw [ZhR hgk,List.any_cons] at hall
   have i1:(k:Int)<24:=by omega
   have i2:(0:Int)<=(k:Int):=by omega
   have wk:IntKind.i64.wrap ((k:Int)+1)=(k:Int)+1:=IntWalk.i64_in _ (by omega)
   have HK:=zh (zi hlt hg)
   have HA:=zh hall
   clear hall hg hgk
   by_cases R:g=s.data.toList
   ·go_wp2_with fail
    go_ret
    exact ⟨Zb0 (by rw [HA.out,beq_iff_eq.2 R];rfl),rfl⟩
   ·have R1:(g==s.toList)=false:=by rw [Lib.toList_data];simpa using R
    have R2:=zh R
    clear R
    go_wp2_with fail
    go_roundg (24-(k+1))
    case measure=>have:=HK.out;omega
    case rel=>exact ⟨k+1,by push_cast;rfl,by have:=HK.out;omega,rfl,by rw [HA.out,beq_eq_false_iff_ne.2 R2.out,Bool.false_or],rfl⟩
  ·obtain rfl:k=24:=by omega
   have HA:=zh hall
   clear hg hk hlt hall
   go_wp2_with fail
   go_ret
   exact ⟨Zb0 (by rw [HA.out];rfl),rfl⟩
theorem Zlc (s:ByteArray) (w:World) (h:s.data.toList=[]):Calls Tryd.prog 42 #[.string s] w (Zbx w (.bool (Zbn s.data.toList))):=by
 have hs:s=⟨#[]⟩:=by
  apply ByteArray.ext
  apply Array.ext'
  exact h
 subst hs
 clear h
 go_enter Tryd.func42,Tryd.ntmps42
 go_wp2_with fail
 go_ret
 exact ⟨rfl,rfl⟩
theorem Zlb (s:ByteArray) (w:World) (hs:s.size<=maxLen) (ht:Zaf w 3 Zs) :
  Calls Tryd.prog 42 #[.string s] w (Zbx w (.bool (Zbn s.data.toList))):=by
 cases h:s.data.toList with
 | nil=>rw [<- h];exact Zlc s w h
 | cons c r=>
  have ka:=fun w (h:Zaf w 3 Zs)=>ZlX s w h
  have sp:=fun w=>ZhC s w hs
  have la:=fun w=>Zcj c.toNat w
  rw [Zdp] at la
  have h0:0<s.size:=by rw [<- Zbi,h];simp
  have hc:=Zd0 h h0
  have m:=congrArg UInt8.toNat hc
  have e0:=Zc2 h
  have hlen:(c::r).length=s.size:=by rw [<- h,Zbi]
  have hn:Zbn (c::r)=(ZaA c&&decide (s.size<=16)&&decide (Zac ZbR (c::r)=s.size)&&!isKey (c::r)):=by
   unfold Zbn
   rw [hlen]
  rw [h] at ka sp
  rw [hn]
  generalize Zac ZbR (c::r)=q at *
  generalize isKey (c::r)=K at *
  generalize ZaA c=L at *
  have KA:=zh (ka w ht)
  have SP:=zh sp
  have LA:=zh la
  generalize c.toNat=cn at *
  clear ka sp la ht h hc hn hlen hs
  by_cases h16:s.size<=16
  ·have d16:(s.size:Int)<=16:=by omega
   by_cases hq:q=s.size
   ·have dq:((q:Int)==(s.size:Int))=true:=by rw [hq];exact beq_self_eq_true _
    have HQ:=zh (zi hq h16)
    clear hq
    cases L<;>cases K
    all_goals
     go_enter Tryd.func42,Tryd.ntmps42
     go_wp2_with (first | (go_at_call 27;(with_reducible refine (LA.out _).mono ?_);rintro e w1 ⟨rfl,rfl⟩) | (go_at_call 25;(with_reducible refine (SP.out _).mono ?_);rintro e w1 ⟨rfl,rfl⟩) | (go_at_call 53;(with_reducible refine KA.out.mono ?_);rintro e w1 ⟨rfl,rfl⟩))
     go_ret
     exact ⟨Zb0 (by rw [decide_eq_true HQ.out.1,decide_eq_true HQ.out.2];rfl),rfl⟩
   ·have dq:((q:Int)==(s.size:Int))=false:=by simpa using fun e=>hq (by omega)
    have HQ:=zh (zi hq h16)
    clear hq
    cases L<;>cases K
    all_goals
     go_enter Tryd.func42,Tryd.ntmps42
     go_wp2_with (first | (go_at_call 27;(with_reducible refine (LA.out _).mono ?_);rintro e w1 ⟨rfl,rfl⟩) | (go_at_call 25;(with_reducible refine (SP.out _).mono ?_);rintro e w1 ⟨rfl,rfl⟩) | (go_at_call 53;(with_reducible refine KA.out.mono ?_);rintro e w1 ⟨rfl,rfl⟩))
     go_ret
     exact ⟨Zb0 (by rw [decide_eq_false HQ.out.1,decide_eq_true HQ.out.2];rfl),rfl⟩
  ·have d16:¬ (s.size:Int)<=16:=by omega
   have HQ:=zh h16
   clear h16
   go_enter Tryd.func42,Tryd.ntmps42
   go_wp2_with (first | (go_at_call 27;(with_reducible refine (LA.out _).mono ?_);rintro e w1 ⟨rfl,rfl⟩) | (go_at_call 25;(with_reducible refine (SP.out _).mono ?_);rintro e w1 ⟨rfl,rfl⟩) | (go_at_call 53;(with_reducible refine KA.out.mono ?_);rintro e w1 ⟨rfl,rfl⟩))
   go_ret
   exact ⟨Zb0 (by rw [decide_eq_false HQ.out];simp),rfl⟩
end
end Go.Proofs.YtfdgeijnkkdplaaDoor
