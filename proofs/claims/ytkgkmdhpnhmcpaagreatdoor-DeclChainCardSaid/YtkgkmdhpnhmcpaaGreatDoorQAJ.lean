import Derived.Test.YtkgkmdhpnhmcpaaGreatDoorQAI
set_option maxRecDepth 100000
set_option maxHeartbeats 8000000
namespace Go.Proofs.YtkgkmdhpnhmcpaaGreatDoor
section
open Go.RowKit
def isKey (l:List UInt8):Bool:=Zh.any fun k=>k==l
def Zbf (l:List UInt8):Bool:=(match l with | []=>false | c::_=>Zek c)&&decide (l.length<=16)&&decide (ZaT ZbE l=l.length)&&!isKey l
theorem Zf7 {l:List (List UInt8)} {k:Nat} {c:List UInt8} (h:l[k]? = some c):l.drop k=c::l.drop (k+1):=by
 obtain ⟨hk,rfl⟩:=List.getElem?_eq_some_iff.1 h
 exact List.drop_eq_getElem_cons hk
theorem Zg3:(Tryz.prog.info? 162).map (·.size)=some (Zh.map txt).toArray.size:=by kernel_rfl
theorem Zjk (k:Nat) (g:List UInt8) (h:Zh[k]? = some g) (w:World):(Instr.index 162 (.agg (Zh.map txt).toArray) (.int .i64 k)).run Tryz.prog w=.ok (txt g) w:=by
 have hk:k<24:=by
  rcases Nat.lt_or_ge k 24 with q | q
  ·exact q
  ·rw [List.getElem?_eq_none (by exact q)] at h;cases h
 obtain rfl | k0:=Nat.eq_or_lt_of_le (show 0<=k by omega)
 ·obtain rfl:Zh.getD 0 []=g:=by rw [List.getD_eq_getElem?_getD,h];rfl
  exact (show ∀ w:World,(Instr.index 162 (.agg (Zh.map txt).toArray) (.int .i64 (0:Nat))).run Tryz.prog w=.ok (txt (Zh.getD 0 [])) w from fun _=>by kernel_rfl) w
 obtain rfl | k1:=Nat.eq_or_lt_of_le (show 1<=k by omega)
 ·obtain rfl:Zh.getD 1 []=g:=by rw [List.getD_eq_getElem?_getD,h];rfl
  exact (show ∀ w:World,(Instr.index 162 (.agg (Zh.map txt).toArray) (.int .i64 (1:Nat))).run Tryz.prog w=.ok (txt (Zh.getD 1 [])) w from fun _=>by kernel_rfl) w
 obtain rfl | k2:=Nat.eq_or_lt_of_le (show 2<=k by omega)
 ·obtain rfl:Zh.getD 2 []=g:=by rw [List.getD_eq_getElem?_getD,h];rfl
  exact (show ∀ w:World,(Instr.index 162 (.agg (Zh.map txt).toArray) (.int .i64 (2:Nat))).run Tryz.prog w=.ok (txt (Zh.getD 2 [])) w from fun _=>by kernel_rfl) w
 obtain rfl | k3:=Nat.eq_or_lt_of_le (show 3<=k by omega)
 ·obtain rfl:Zh.getD 3 []=g:=by rw [List.getD_eq_getElem?_getD,h];rfl
  exact (show ∀ w:World,(Instr.index 162 (.agg (Zh.map txt).toArray) (.int .i64 (3:Nat))).run Tryz.prog w=.ok (txt (Zh.getD 3 [])) w from fun _=>by kernel_rfl) w
 obtain rfl | k4:=Nat.eq_or_lt_of_le (show 4<=k by omega)
 ·obtain rfl:Zh.getD 4 []=g:=by rw [List.getD_eq_getElem?_getD,h];rfl
  exact (show ∀ w:World,(Instr.index 162 (.agg (Zh.map txt).toArray) (.int .i64 (4:Nat))).run Tryz.prog w=.ok (txt (Zh.getD 4 [])) w from fun _=>by kernel_rfl) w
 obtain rfl | k5:=Nat.eq_or_lt_of_le (show 5<=k by omega)
 ·obtain rfl:Zh.getD 5 []=g:=by rw [List.getD_eq_getElem?_getD,h];rfl
  exact (show ∀ w:World,(Instr.index 162 (.agg (Zh.map txt).toArray) (.int .i64 (5:Nat))).run Tryz.prog w=.ok (txt (Zh.getD 5 [])) w from fun _=>by kernel_rfl) w
 obtain rfl | k6:=Nat.eq_or_lt_of_le (show 6<=k by omega)
 ·obtain rfl:Zh.getD 6 []=g:=by rw [List.getD_eq_getElem?_getD,h];rfl
  exact (show ∀ w:World,(Instr.index 162 (.agg (Zh.map txt).toArray) (.int .i64 (6:Nat))).run Tryz.prog w=.ok (txt (Zh.getD 6 [])) w from fun _=>by kernel_rfl) w
 obtain rfl | k7:=Nat.eq_or_lt_of_le (show 7<=k by omega)
 ·obtain rfl:Zh.getD 7 []=g:=by rw [List.getD_eq_getElem?_getD,h];rfl
  exact (show ∀ w:World,(Instr.index 162 (.agg (Zh.map txt).toArray) (.int .i64 (7:Nat))).run Tryz.prog w=.ok (txt (Zh.getD 7 [])) w from fun _=>by kernel_rfl) w
 obtain rfl | k8:=Nat.eq_or_lt_of_le (show 8<=k by omega)
 ·obtain rfl:Zh.getD 8 []=g:=by rw [List.getD_eq_getElem?_getD,h];rfl
  exact (show ∀ w:World,(Instr.index 162 (.agg (Zh.map txt).toArray) (.int .i64 (8:Nat))).run Tryz.prog w=.ok (txt (Zh.getD 8 [])) w from fun _=>by kernel_rfl) w
 obtain rfl | k9:=Nat.eq_or_lt_of_le (show 9<=k by omega)
 ·obtain rfl:Zh.getD 9 []=g:=by rw [List.getD_eq_getElem?_getD,h];rfl
  exact (show ∀ w:World,(Instr.index 162 (.agg (Zh.map txt).toArray) (.int .i64 (9:Nat))).run Tryz.prog w=.ok (txt (Zh.getD 9 [])) w from fun _=>by kernel_rfl) w
 obtain rfl | k10:=Nat.eq_or_lt_of_le (show 10<=k by omega)
 ·obtain rfl:Zh.getD 10 []=g:=by rw [List.getD_eq_getElem?_getD,h];rfl
  exact (show ∀ w:World,(Instr.index 162 (.agg (Zh.map txt).toArray) (.int .i64 (10:Nat))).run Tryz.prog w=.ok (txt (Zh.getD 10 [])) w from fun _=>by kernel_rfl) w
 obtain rfl | k11:=Nat.eq_or_lt_of_le (show 11<=k by omega)
 ·obtain rfl:Zh.getD 11 []=g:=by rw [List.getD_eq_getElem?_getD,h];rfl
  exact (show ∀ w:World,(Instr.index 162 (.agg (Zh.map txt).toArray) (.int .i64 (11:Nat))).run Tryz.prog w=.ok (txt (Zh.getD 11 [])) w from fun _=>by kernel_rfl) w
 obtain rfl | k12:=Nat.eq_or_lt_of_le (show 12<=k by omega)
 ·obtain rfl:Zh.getD 12 []=g:=by rw [List.getD_eq_getElem?_getD,h];rfl
  exact (show ∀ w:World,(Instr.index 162 (.agg (Zh.map txt).toArray) (.int .i64 (12:Nat))).run Tryz.prog w=.ok (txt (Zh.getD 12 [])) w from fun _=>by kernel_rfl) w
 obtain rfl | k13:=Nat.eq_or_lt_of_le (show 13<=k by omega)
 ·obtain rfl:Zh.getD 13 []=g:=by rw [List.getD_eq_getElem?_getD,h];rfl
  exact (show ∀ w:World,(Instr.index 162 (.agg (Zh.map txt).toArray) (.int .i64 (13:Nat))).run Tryz.prog w=.ok (txt (Zh.getD 13 [])) w from fun _=>by kernel_rfl) w
 obtain rfl | k14:=Nat.eq_or_lt_of_le (show 14<=k by omega)
 ·obtain rfl:Zh.getD 14 []=g:=by rw [List.getD_eq_getElem?_getD,h];rfl
  exact (show ∀ w:World,(Instr.index 162 (.agg (Zh.map txt).toArray) (.int .i64 (14:Nat))).run Tryz.prog w=.ok (txt (Zh.getD 14 [])) w from fun _=>by kernel_rfl) w
 obtain rfl | k15:=Nat.eq_or_lt_of_le (show 15<=k by omega)
 ·obtain rfl:Zh.getD 15 []=g:=by rw [List.getD_eq_getElem?_getD,h];rfl
  exact (show ∀ w:World,(Instr.index 162 (.agg (Zh.map txt).toArray) (.int .i64 (15:Nat))).run Tryz.prog w=.ok (txt (Zh.getD 15 [])) w from fun _=>by kernel_rfl) w
 obtain rfl | k16:=Nat.eq_or_lt_of_le (show 16<=k by omega)
 ·obtain rfl:Zh.getD 16 []=g:=by rw [List.getD_eq_getElem?_getD,h];rfl
  exact (show ∀ w:World,(Instr.index 162 (.agg (Zh.map txt).toArray) (.int .i64 (16:Nat))).run Tryz.prog w=.ok (txt (Zh.getD 16 [])) w from fun _=>by kernel_rfl) w
 obtain rfl | k17:=Nat.eq_or_lt_of_le (show 17<=k by omega)
 ·obtain rfl:Zh.getD 17 []=g:=by rw [List.getD_eq_getElem?_getD,h];rfl
  exact (show ∀ w:World,(Instr.index 162 (.agg (Zh.map txt).toArray) (.int .i64 (17:Nat))).run Tryz.prog w=.ok (txt (Zh.getD 17 [])) w from fun _=>by kernel_rfl) w
 obtain rfl | k18:=Nat.eq_or_lt_of_le (show 18<=k by omega)
 ·obtain rfl:Zh.getD 18 []=g:=by rw [List.getD_eq_getElem?_getD,h];rfl
  exact (show ∀ w:World,(Instr.index 162 (.agg (Zh.map txt).toArray) (.int .i64 (18:Nat))).run Tryz.prog w=.ok (txt (Zh.getD 18 [])) w from fun _=>by kernel_rfl) w
 obtain rfl | k19:=Nat.eq_or_lt_of_le (show 19<=k by omega)
 ·obtain rfl:Zh.getD 19 []=g:=by rw [List.getD_eq_getElem?_getD,h];rfl
  exact (show ∀ w:World,(Instr.index 162 (.agg (Zh.map txt).toArray) (.int .i64 (19:Nat))).run Tryz.prog w=.ok (txt (Zh.getD 19 [])) w from fun _=>by kernel_rfl) w
 obtain rfl | k20:=Nat.eq_or_lt_of_le (show 20<=k by omega)
 ·obtain rfl:Zh.getD 20 []=g:=by rw [List.getD_eq_getElem?_getD,h];rfl
  exact (show ∀ w:World,(Instr.index 162 (.agg (Zh.map txt).toArray) (.int .i64 (20:Nat))).run Tryz.prog w=.ok (txt (Zh.getD 20 [])) w from fun _=>by kernel_rfl) w
 obtain rfl | k21:=Nat.eq_or_lt_of_le (show 21<=k by omega)
 ·obtain rfl:Zh.getD 21 []=g:=by rw [List.getD_eq_getElem?_getD,h];rfl
  exact (show ∀ w:World,(Instr.index 162 (.agg (Zh.map txt).toArray) (.int .i64 (21:Nat))).run Tryz.prog w=.ok (txt (Zh.getD 21 [])) w from fun _=>by kernel_rfl) w
 obtain rfl | k22:=Nat.eq_or_lt_of_le (show 22<=k by omega)
 ·obtain rfl:Zh.getD 22 []=g:=by rw [List.getD_eq_getElem?_getD,h];rfl
  exact (show ∀ w:World,(Instr.index 162 (.agg (Zh.map txt).toArray) (.int .i64 (22:Nat))).run Tryz.prog w=.ok (txt (Zh.getD 22 [])) w from fun _=>by kernel_rfl) w
 obtain rfl | k23:=Nat.eq_or_lt_of_le (show 23<=k by omega)
 ·obtain rfl:Zh.getD 23 []=g:=by rw [List.getD_eq_getElem?_getD,h];rfl
  exact (show ∀ w:World,(Instr.index 162 (.agg (Zh.map txt).toArray) (.int .i64 (23:Nat))).run Tryz.prog w=.ok (txt (Zh.getD 23 [])) w from fun _=>by kernel_rfl) w
 omega
theorem ZiX (s:ByteArray) (w:World) (ht:ZZ w 0 Zh) :
  Calls Tryz.prog 128 #[.string s] w (ZbM w (.bool (isKey s.data.toList))):=by
 obtain ⟨z,hz⟩:∃ z,z=isKey s.data.toList:=⟨_,rfl⟩
 rw [<- hz]
 obtain ⟨tt,fr,hrow⟩:=ht
 have hinfo:=Zg3
 have hat:=Zjk
 generalize (Zh.map txt).toArray=SA at *
 have ROW:=zh (zi hrow (zi hinfo hat))
 have HZ:=zh hz
 clear hz hrow hinfo hat
 go_enter Tryz.func128,Tryz.ntmps128
 go_wp2_with (refine wpList_load_row rfl 162 _ rfl 0 rfl _ SA _ _ ROW.out.1 Tryz.underlying162 rfl ROW.out.2.1 ?_)
 go_loopg [6] 24 (fun g v6 wr=>∃ k:Nat,v6=.int .i64 k/\k<=24/\g=24-k/\z=((Zh.drop k).any fun k=>k==s.data.toList)/\wr=w)
 case atStart=>exact ⟨0,rfl,Nat.zero_le _,rfl,by rw [HZ.out];rfl,rfl⟩
 case round=>
  obtain ⟨k,rfl,hk,hg,hall,rfl⟩:=hrel
  by_cases hlt:k<24
  ·obtain ⟨g,hgk⟩:∃ g,Zh[k]? = some g:=⟨_,List.getElem?_eq_getElem (by exact hlt)⟩
   have ix:=ROW.out.2.2 k g hgk
   rw [Zf7 hgk,List.any_cons] at hall
   have i1:(k:Int)<24:=by omega
   have i2:(0:Int)<=(k:Int):=by omega
   have wk:IntKind.i64.wrap ((k:Int)+1)=(k:Int)+1:=IntWalk.i64_in _ (by omega)
   have HK:=zh (zi hlt hg)
   have HA:=zh hall
   clear hall hg hgk
   by_cases R:g=s.data.toList
   ·go_wp2_with fail
    go_ret
    exact ⟨Za4 (by rw [HA.out,beq_iff_eq.2 R];rfl),rfl⟩
   ·have R1:(g==s.toList)=false:=by rw [Lib.toList_data];simpa using R
    have R2:=zh R
    clear R
    go_wp2_with fail
    go_roundg (24-(k+1))
    case measure=>have:=HK.out;omega
    case rel=>exact ⟨k+1,by push_cast;rfl,by have:=HK.out;omega,rfl,by rw [HA.out,beq_eq_false_iff_ne.2 R2.out,Bool.false_or],rfl⟩
  ·obtain rfl:k=24:=by omega
   have HA:=zh hall
   clear hg hk hlt hall
   go_wp2_with fail
   go_ret
   exact ⟨Za4 (by rw [HA.out];rfl),rfl⟩
theorem Zh8 (s:ByteArray) (w:World) (h:s.data.toList=[]):Calls Tryz.prog 93 #[.string s] w (ZbM w (.bool (Zbf s.data.toList))):=by
 have hs:s=⟨#[]⟩:=by
  apply ByteArray.ext
  apply Array.ext'
  exact h
 subst hs
 clear h
 go_enter Tryz.func93,Tryz.ntmps93
 go_wp2_with fail
 go_ret
 exact ⟨rfl,rfl⟩
theorem Zh7 (s:ByteArray) (w:World) (hs:s.size<=maxLen) (ht:ZZ w 0 Zh) :
  Calls Tryz.prog 93 #[.string s] w (ZbM w (.bool (Zbf s.data.toList))):=by
 cases h:s.data.toList with
 | nil=>rw [<- h];exact Zh8 s w h
 | cons c r=>
  have ka:=fun w (h:ZZ w 0 Zh)=>ZiX s w h
  have sp:=fun w=>Zja s w hs
  have la:=fun w=>Zdp c.toNat w
  rw [ZhX] at la
  have h0:0<s.size:=by rw [<- ZeK,h];simp
  have hc:=ZiD h h0
  have m:=congrArg UInt8.toNat hc
  have e0:=Zhf h
  have hlen:(c::r).length=s.size:=by rw [<- h,ZeK]
  have hn:Zbf (c::r)=(Zek c&&decide (s.size<=16)&&decide (ZaT ZbE (c::r)=s.size)&&!isKey (c::r)):=by
   unfold Zbf
   rw [hlen]
  rw [h] at ka sp
  rw [hn]
  generalize ZaT ZbE (c::r)=q at *
  generalize isKey (c::r)=K at *
  generalize Zek c=L at *
  have KA:=zh (ka w ht)
  have SP:=zh sp
  have LA:=zh la
  generalize c.toNat=cn at *
  clear ka sp la ht h hc hn hlen hs
  by_cases h16:s.size<=16
  ·have d16:(s.size:Int)<=16:=by omega
   by_cases hq:q=s.size
   ·have dq:((q:Int)==(s.size:Int))=true:=by rw [hq];exact beq_self_eq_true _
    have HQ:=zh (zi hq h16)
    clear hq
    cases L<;>cases K
    all_goals
     go_enter Tryz.func93,Tryz.ntmps93
     go_wp2_with (first | (go_at_call 125;(with_reducible refine (LA.out _).mono ?_);rintro e w1 ⟨rfl,rfl⟩) | (go_at_call 126;(with_reducible refine (SP.out _).mono ?_);rintro e w1 ⟨rfl,rfl⟩) | (go_at_call 128;(with_reducible refine KA.out.mono ?_);rintro e w1 ⟨rfl,rfl⟩))
     go_ret
     exact ⟨Za4 (by rw [decide_eq_true HQ.out.1,decide_eq_true HQ.out.2];rfl),rfl⟩
   ·have dq:((q:Int)==(s.size:Int))=false:=by simpa using fun e=>hq (by omega)
    have HQ:=zh (zi hq h16)
    clear hq
    cases L<;>cases K
    all_goals
     go_enter Tryz.func93,Tryz.ntmps93
     go_wp2_with (first | (go_at_call 125;(with_reducible refine (LA.out _).mono ?_);rintro e w1 ⟨rfl,rfl⟩) | (go_at_call 126;(with_reducible refine (SP.out _).mono ?_);rintro e w1 ⟨rfl,rfl⟩) | (go_at_call 128;(with_reducible refine KA.out.mono ?_);rintro e w1 ⟨rfl,rfl⟩))
     go_ret
     exact ⟨Za4 (by rw [decide_eq_false HQ.out.1,decide_eq_true HQ.out.2];rfl),rfl⟩
  ·have d16:¬ (s.size:Int)<=16:=by omega
   have HQ:=zh h16
   clear h16
   go_enter Tryz.func93,Tryz.ntmps93
   go_wp2_with (first | (go_at_call 125;(with_reducible refine (LA.out _).mono ?_);rintro e w1 ⟨rfl,rfl⟩) | (go_at_call 126;(with_reducible refine (SP.out _).mono ?_);rintro e w1 ⟨rfl,rfl⟩) | (go_at_call 128;(with_reducible refine KA.out.mono ?_);rintro e w1 ⟨rfl,rfl⟩))
   go_ret
   exact ⟨Za4 (by rw [decide_eq_false HQ.out];simp),rfl⟩
end
end Go.Proofs.YtkgkmdhpnhmcpaaGreatDoor
