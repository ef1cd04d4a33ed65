import Derived.Test.YtkongcicmajolaaGreatDoorQAC
set_option maxRecDepth 100000
set_option maxHeartbeats 8000000
namespace Go.Proofs.YtkongcicmajolaaGreatDoor
section
open Go.RowKit
def isKey (l:List UInt8):Bool:=ZG.any fun k=>k==l
def ZN (l:List UInt8):Bool:=(match l with | []=>false | c::_=>ZbS c)&&decide (l.length<=16)&&decide (Zap Za3 l=l.length)&&!isKey l
theorem ZiK {l:List (List UInt8)} {k:Nat} {c:List UInt8} (h:l[k]? = some c):l.drop k=c::l.drop (k+1):=by
 obtain ⟨hk,rfl⟩:=List.getElem?_eq_some_iff.1 h
 exact List.drop_eq_getElem_cons hk
theorem ZoM:(Tryz.prog.info? 130).map (·.size)=some (ZG.map txt).toArray.size:=by kernel_rfl
theorem Zsd (k:Nat) (g:List UInt8) (h:ZG[k]? = some g) (w:World):(Instr.index 130 (.agg (ZG.map txt).toArray) (.int .i64 k)).run Tryz.prog w=.ok (txt g) w:=by
 have hk:k<24:=by
  rcases Nat.lt_or_ge k 24 with q | q
  ·exact q
  ·rw [List.getElem?_eq_none (by exact q)] at h;cases h
 obtain rfl | k0:=Nat.eq_or_lt_of_le (show 0<=k by omega)
 ·obtain rfl:ZG.getD 0 []=g:=by rw [List.getD_eq_getElem?_getD,h];rfl
  exact (show ∀ w:World,(Instr.index 130 (.agg (ZG.map txt).toArray) (.int .i64 (0:Nat))).run Tryz.prog w=.ok (txt (ZG.getD 0 [])) w from fun _=>by kernel_rfl) w
 obtain rfl | k1:=Nat.eq_or_lt_of_le (show 1<=k by omega)
 ·obtain rfl:ZG.getD 1 []=g:=by rw [List.getD_eq_getElem?_getD,h];rfl
  exact (show ∀ w:World,(Instr.index 130 (.agg (ZG.map txt).toArray) (.int .i64 (1:Nat))).run Tryz.prog w=.ok (txt (ZG.getD 1 [])) w from fun _=>by kernel_rfl) w
 obtain rfl | k2:=Nat.eq_or_lt_of_le (show 2<=k by omega)
 ·obtain rfl:ZG.getD 2 []=g:=by rw [List.getD_eq_getElem?_getD,h];rfl
  exact (show ∀ w:World,(Instr.index 130 (.agg (ZG.map txt).toArray) (.int .i64 (2:Nat))).run Tryz.prog w=.ok (txt (ZG.getD 2 [])) w from fun _=>by kernel_rfl) w
 obtain rfl | k3:=Nat.eq_or_lt_of_le (show 3<=k by omega)
 ·obtain rfl:ZG.getD 3 []=g:=by rw [List.getD_eq_getElem?_getD,h];rfl
  exact (show ∀ w:World,(Instr.index 130 (.agg (ZG.map txt).toArray) (.int .i64 (3:Nat))).run Tryz.prog w=.ok (txt (ZG.getD 3 [])) w from fun _=>by kernel_rfl) w
 obtain rfl | k4:=Nat.eq_or_lt_of_le (show 4<=k by omega)
 ·obtain rfl:ZG.getD 4 []=g:=by rw [List.getD_eq_getElem?_getD,h];rfl
  exact (show ∀ w:World,(Instr.index 130 (.agg (ZG.map txt).toArray) (.int .i64 (4:Nat))).run Tryz.prog w=.ok (txt (ZG.getD 4 [])) w from fun _=>by kernel_rfl) w
 obtain rfl | k5:=Nat.eq_or_lt_of_le (show 5<=k by omega)
 ·obtain rfl:ZG.getD 5 []=g:=by rw [List.getD_eq_getElem?_getD,h];rfl
  exact (show ∀ w:World,(Instr.index 130 (.agg (ZG.map txt).toArray) (.int .i64 (5:Nat))).run Tryz.prog w=.ok (txt (ZG.getD 5 [])) w from fun _=>by kernel_rfl) w
 obtain rfl | k6:=Nat.eq_or_lt_of_le (show 6<=k by omega)
 ·obtain rfl:ZG.getD 6 []=g:=by rw [List.getD_eq_getElem?_getD,h];rfl
  exact (show ∀ w:World,(Instr.index 130 (.agg (ZG.map txt).toArray) (.int .i64 (6:Nat))).run Tryz.prog w=.ok (txt (ZG.getD 6 [])) w from fun _=>by kernel_rfl) w
 obtain rfl | k7:=Nat.eq_or_lt_of_le (show 7<=k by omega)
 ·obtain rfl:ZG.getD 7 []=g:=by rw [List.getD_eq_getElem?_getD,h];rfl
  exact (show ∀ w:World,(Instr.index 130 (.agg (ZG.map txt).toArray) (.int .i64 (7:Nat))).run Tryz.prog w=.ok (txt (ZG.getD 7 [])) w from fun _=>by kernel_rfl) w
 obtain rfl | k8:=Nat.eq_or_lt_of_le (show 8<=k by omega)
 ·obtain rfl:ZG.getD 8 []=g:=by rw [List.getD_eq_getElem?_getD,h];rfl
  exact (show ∀ w:World,(Instr.index 130 (.agg (ZG.map txt).toArray) (.int .i64 (8:Nat))).run Tryz.prog w=.ok (txt (ZG.getD 8 [])) w from fun _=>by kernel_rfl) w
 obtain rfl | k9:=Nat.eq_or_lt_of_le (show 9<=k by omega)
 ·obtain rfl:ZG.getD 9 []=g:=by rw [List.getD_eq_getElem?_getD,h];rfl
  exact (show ∀ w:World,(Instr.index 130 (.agg (ZG.map txt).toArray) (.int .i64 (9:Nat))).run Tryz.prog w=.ok (txt (ZG.getD 9 [])) w from fun _=>by kernel_rfl) w
 obtain rfl | k10:=Nat.eq_or_lt_of_le (show 10<=k by omega)
 ·obtain rfl:ZG.getD 10 []=g:=by rw [List.getD_eq_getElem?_getD,h];rfl
  exact (show ∀ w:World,(Instr.index 130 (.agg (ZG.map txt).toArray) (.int .i64 (10:Nat))).run Tryz.prog w=.ok (txt (ZG.getD 10 [])) w from fun _=>by kernel_rfl) w
 obtain rfl | k11:=Nat.eq_or_lt_of_le (show 11<=k by omega)
 ·obtain rfl:ZG.getD 11 []=g:=by rw [List.getD_eq_getElem?_getD,h];rfl
  exact (show ∀ w:World,(Instr.index 130 (.agg (ZG.map txt).toArray) (.int .i64 (11:Nat))).run Tryz.prog w=.ok (txt (ZG.getD 11 [])) w from fun _=>by kernel_rfl) w
 obtain rfl | k12:=Nat.eq_or_lt_of_le (show 12<=k by omega)
 ·obtain rfl:ZG.getD 12 []=g:=by rw [List.getD_eq_getElem?_getD,h];rfl
  exact (show ∀ w:World,(Instr.index 130 (.agg (ZG.map txt).toArray) (.int .i64 (12:Nat))).run Tryz.prog w=.ok (txt (ZG.getD 12 [])) w from fun _=>by kernel_rfl) w
 obtain rfl | k13:=Nat.eq_or_lt_of_le (show 13<=k by omega)
 ·obtain rfl:ZG.getD 13 []=g:=by rw [List.getD_eq_getElem?_getD,h];rfl
  exact (show ∀ w:World,(Instr.index 130 (.agg (ZG.map txt).toArray) (.int .i64 (13:Nat))).run Tryz.prog w=.ok (txt (ZG.getD 13 [])) w from fun _=>by kernel_rfl) w
 obtain rfl | k14:=Nat.eq_or_lt_of_le (show 14<=k by omega)
 ·obtain rfl:ZG.getD 14 []=g:=by rw [List.getD_eq_getElem?_getD,h];rfl
  exact (show ∀ w:World,(Instr.index 130 (.agg (ZG.map txt).toArray) (.int .i64 (14:Nat))).run Tryz.prog w=.ok (txt (ZG.getD 14 [])) w from fun _=>by kernel_rfl) w
 obtain rfl | k15:=Nat.eq_or_lt_of_le (show 15<=k by omega)
 ·obtain rfl:ZG.getD 15 []=g:=by rw [List.getD_eq_getElem?_getD,h];rfl
  exact (show ∀ w:World,(Instr.index 130 (.agg (ZG.map txt).toArray) (.int .i64 (15:Nat))).run Tryz.prog w=.ok (txt (ZG.getD 15 [])) w from fun _=>by kernel_rfl) w
 obtain rfl | k16:=Nat.eq_or_lt_of_le (show 16<=k by omega)
 ·obtain rfl:ZG.getD 16 []=g:=by rw [List.getD_eq_getElem?_getD,h];rfl
  exact (show ∀ w:World,(Instr.index 130 (.agg (ZG.map txt).toArray) (.int .i64 (16:Nat))).run Tryz.prog w=.ok (txt (ZG.getD 16 [])) w from fun _=>by kernel_rfl) w
 obtain rfl | k17:=Nat.eq_or_lt_of_le (show 17<=k by omega)
 ·obtain rfl:ZG.getD 17 []=g:=by rw [List.getD_eq_getElem?_getD,h];rfl
  exact (show ∀ w:World,(Instr.index 130 (.agg (ZG.map txt).toArray) (.int .i64 (17:Nat))).run Tryz.prog w=.ok (txt (ZG.getD 17 [])) w from fun _=>by kernel_rfl) w
 obtain rfl | k18:=Nat.eq_or_lt_of_le (show 18<=k by omega)
 ·obtain rfl:ZG.getD 18 []=g:=by rw [List.getD_eq_getElem?_getD,h];rfl
  exact (show ∀ w:World,(Instr.index 130 (.agg (ZG.map txt).toArray) (.int .i64 (18:Nat))).run Tryz.prog w=.ok (txt (ZG.getD 18 [])) w from fun _=>by kernel_rfl) w
 obtain rfl | k19:=Nat.eq_or_lt_of_le (show 19<=k by omega)
 ·obtain rfl:ZG.getD 19 []=g:=by rw [List.getD_eq_getElem?_getD,h];rfl
  exact (show ∀ w:World,(Instr.index 130 (.agg (ZG.map txt).toArray) (.int .i64 (19:Nat))).run Tryz.prog w=.ok (txt (ZG.getD 19 [])) w from fun _=>by kernel_rfl) w
 obtain rfl | k20:=Nat.eq_or_lt_of_le (show 20<=k by omega)
 ·obtain rfl:ZG.getD 20 []=g:=by rw [List.getD_eq_getElem?_getD,h];rfl
  exact (show ∀ w:World,(Instr.index 130 (.agg (ZG.map txt).toArray) (.int .i64 (20:Nat))).run Tryz.prog w=.ok (txt (ZG.getD 20 [])) w from fun _=>by kernel_rfl) w
 obtain rfl | k21:=Nat.eq_or_lt_of_le (show 21<=k by omega)
 ·obtain rfl:ZG.getD 21 []=g:=by rw [List.getD_eq_getElem?_getD,h];rfl
  exact (show ∀ w:World,(Instr.index 130 (.agg (ZG.map txt).toArray) (.int .i64 (21:Nat))).run Tryz.prog w=.ok (txt (ZG.getD 21 [])) w from fun _=>by kernel_rfl) w
 obtain rfl | k22:=Nat.eq_or_lt_of_le (show 22<=k by omega)
 ·obtain rfl:ZG.getD 22 []=g:=by rw [List.getD_eq_getElem?_getD,h];rfl
  exact (show ∀ w:World,(Instr.index 130 (.agg (ZG.map txt).toArray) (.int .i64 (22:Nat))).run Tryz.prog w=.ok (txt (ZG.getD 22 [])) w from fun _=>by kernel_rfl) w
 obtain rfl | k23:=Nat.eq_or_lt_of_le (show 23<=k by omega)
 ·obtain rfl:ZG.getD 23 []=g:=by rw [List.getD_eq_getElem?_getD,h];rfl
  exact (show ∀ w:World,(Instr.index 130 (.agg (ZG.map txt).toArray) (.int .i64 (23:Nat))).run Tryz.prog w=.ok (txt (ZG.getD 23 [])) w from fun _=>by kernel_rfl) w
 omega
theorem ZrA (s:ByteArray) (w:World) (ht:Zay w 3 ZG) :
  Calls Tryz.prog 108 #[.string s] w (ZeS w (.bool (isKey s.data.toList))):=by
 obtain ⟨z,hz⟩:∃ z,z=isKey s.data.toList:=⟨_,rfl⟩
 rw [<- hz]
 obtain ⟨tt,fr,hrow⟩:=ht
 have hinfo:=ZoM
 have hat:=Zsd
 generalize (ZG.map txt).toArray=SA at *
 have ROW:=zh (zi hrow (zi hinfo hat))
 have HZ:=zh hz
 clear hz hrow hinfo hat
 go_enter Tryz.func108,Tryz.ntmps108
 go_wp2_with (refine wpList_load_row rfl 130 _ rfl 3 rfl _ SA _ _ ROW.out.1 Tryz.underlying130 rfl ROW.out.2.1 ?_)
 go_loopg [6] 24 (fun g v6 wr=>∃ k:Nat,v6=.int .i64 k/\k<=24/\g=24-k/\z=((ZG.drop k).any fun k=>k==s.data.toList)/\wr=w)
 case atStart=>exact ⟨0,rfl,Nat.zero_le _,rfl,by rw [HZ.out];rfl,rfl⟩
 case round=>
  obtain ⟨k,rfl,hk,hg,hall,rfl⟩:=hrel
  by_cases hlt:k<24
  ·obtain ⟨g,hgk⟩:∃ g,ZG[k]? = some g:=⟨_,List.getElem?_eq_getElem (by exact hlt)⟩
   have ix:=ROW.out.2.2 k g hgk
   rw [ZiK hgk,List.any_cons] at hall
   have i1:(k:Int)<24:=by omega
   have i2:(0:Int)<=(k:Int):=by omega
   have wk:IntKind.i64.wrap ((k:Int)+1)=(k:Int)+1:=IntWalk.i64_in _ (by omega)
   have HK:=zh (zi hlt hg)
   have HA:=zh hall
   clear hall hg hgk
   by_cases R:g=s.data.toList
   ·go_wp2_with fail
    go_ret
    exact ⟨Zca (by rw [HA.out,beq_iff_eq.2 R];rfl),rfl⟩
   ·have R1:(g==s.toList)=false:=by rw [Lib.toList_data];simpa using R
    have R2:=zh R
    clear R
    go_wp2_with fail
    go_roundg (24-(k+1))
    case measure=>have:=HK.out;omega
    case rel=>exact ⟨k+1,by push_cast;rfl,by have:=HK.out;omega,rfl,by rw [HA.out,beq_eq_false_iff_ne.2 R2.out,Bool.false_or],rfl⟩
  ·obtain rfl:k=24:=by omega
   have HA:=zh hall
   clear hg hk hlt hall
   go_wp2_with fail
   go_ret
   exact ⟨Zca (by rw [HA.out];rfl),rfl⟩
theorem Zpl (w:World):Calls Tryz.prog 95 #[] w fun e w'=>e=.returned (.slice (some ⟨w.heap.size,0,none⟩) 24 24)/\Below w.heap.size w w'/\Blk w' w.heap.size (ZG.map txt).toArray:=by
 go_enter Tryz.func95,Tryz.ntmps95
 go_wp2_with fail
 go_ret
 exact ⟨rfl,below_alloc1 _ _,Blk.start _ _ _⟩
theorem Zlh (s:ByteArray) (w:World) :
  Calls Tryz.prog 70 #[.string s] w fun e w'=>e=.returned (.bool (isKey s.data.toList))/\Below w.heap.size w w':=by
 obtain ⟨z,hz⟩:∃ z,z=isKey s.data.toList:=⟨_,rfl⟩
 rw [<- hz]
 have HZ:=zh hz
 have rk:=Zpl w
 have RK:=zh rk
 clear hz rk
 go_enter Tryz.func70,Tryz.ntmps70
 go_wp2_with (go_at_call 95;(with_reducible refine RK.out.mono ?_);rintro e w1 ⟨rfl,hb,hB⟩)
 have HB:=zh (zi hb hB)
 clear hb hB
 go_loopg [4] 24 (fun g v6 wr=>∃ k:Nat,v6=.int .i64 k/\k<=24/\g=24-k/\z=((ZG.drop k).any fun k=>k==s.data.toList)/\wr=w1)
 case atStart=>exact ⟨0,rfl,Nat.zero_le _,rfl,by rw [HZ.out];rfl,rfl⟩
 case round=>
  obtain ⟨k,rfl,hk,hg,hall,rfl⟩:=hrel
  by_cases hlt:k<24
  ·obtain ⟨g,hgk⟩:∃ g,ZG[k]? = some g:=⟨_,List.getElem?_eq_getElem (by exact hlt)⟩
   have c0:=HB.out.2.cell k
   rw [List.getElem?_toArray,List.getElem?_map,hgk] at c0
   have c1:wr.cell? ⟨w.heap.size,k,none⟩=some (txt g):=c0
   rw [ZiK hgk,List.any_cons] at hall
   have i1:(k:Int)<24:=by omega
   have i2:(0:Int)<=(k:Int):=by omega
   have wk:IntKind.i64.wrap ((k:Int)+1)=(k:Int)+1:=IntWalk.i64_in _ (by omega)
   have HK:=zh (zi hlt hg)
   have HA:=zh hall
   clear hall hg hgk c0
   by_cases R:g=s.data.toList
   ·have R0:(g==s.toList)=true:=by rw [Lib.toList_data];simpa using R
    have R2:=zh R
    clear R
    go_wp2_with fail
    go_ret
    exact ⟨Zca (by rw [HA.out,beq_iff_eq.2 R2.out];rfl),HB.out.1⟩
   ·have R1:(g==s.toList)=false:=by rw [Lib.toList_data];simpa using R
    have R2:=zh R
    clear R
    go_wp2_with fail
    go_roundg (24-(k+1))
    case measure=>have:=HK.out;omega
    case rel=>exact ⟨k+1,by push_cast;rfl,by have:=HK.out;omega,rfl,by rw [HA.out,beq_eq_false_iff_ne.2 R2.out,Bool.false_or],rfl⟩
  ·obtain rfl:k=24:=by omega
   have HA:=zh hall
   clear hg hk hlt hall
   go_wp2_with fail
   go_ret
   exact ⟨Zca (by rw [HA.out];rfl),HB.out.1⟩
theorem Zqq (s:ByteArray) (w:World) (h:s.data.toList=[]):Calls Tryz.prog 79 #[.string s] w (ZeS w (.bool (ZN s.data.toList))):=by
 have hs:s=⟨#[]⟩:=by
  apply ByteArray.ext
  apply Array.ext'
  exact h
 subst hs
 clear h
 go_enter Tryz.func79,Tryz.ntmps79
 go_wp2_with fail
 go_ret
 exact ⟨rfl,rfl⟩
theorem Zqp (s:ByteArray) (w:World) (hs:s.size<=maxLen) (ht:Zay w 3 ZG) :
  Calls Tryz.prog 79 #[.string s] w (ZeS w (.bool (ZN s.data.toList))):=by
 cases h:s.data.toList with
 | nil=>rw [<- h];exact Zqq s w h
 | cons c r=>
  have ka:=fun w (h:Zay w 3 ZG)=>ZrA s w h
  have sp:=fun w=>ZrQ s w hs
  have la:=fun w=>Zi0 c.toNat w
  rw [Zf5] at la
  have h0:0<s.size:=by rw [<- Zdm,h];simp
  have hc:=Zmo h h0
  have m:=congrArg UInt8.toNat hc
  have e0:=Zo2 h
  have hlen:(c::r).length=s.size:=by rw [<- h,Zdm]
  have hn:ZN (c::r)=(ZbS c&&decide (s.size<=16)&&decide (Zap Za3 (c::r)=s.size)&&!isKey (c::r)):=by
   unfold ZN
   rw [hlen]
  rw [h] at ka sp
  rw [hn]
  generalize Zap Za3 (c::r)=q at *
  generalize isKey (c::r)=K at *
  generalize ZbS c=L at *
  have KA:=zh (ka w ht)
  have SP:=zh sp
  have LA:=zh la
  generalize c.toNat=cn at *
  clear ka sp la ht h hc hn hlen hs
  by_cases h16:s.size<=16
  ·have d16:(s.size:Int)<=16:=by omega
   by_cases hq:q=s.size
   ·have dq:((q:Int)==(s.size:Int))=true:=by rw [hq];exact beq_self_eq_true _
    have HQ:=zh (zi hq h16)
    clear hq
    cases L<;>cases K
    all_goals
     go_enter Tryz.func79,Tryz.ntmps79
     go_wp2_with (first | (go_at_call 105;(with_reducible refine (LA.out _).mono ?_);rintro e w1 ⟨rfl,rfl⟩) | (go_at_call 106;(with_reducible refine (SP.out _).mono ?_);rintro e w1 ⟨rfl,rfl⟩) | (go_at_call 108;(with_reducible refine KA.out.mono ?_);rintro e w1 ⟨rfl,rfl⟩))
     go_ret
     exact ⟨Zca (by rw [decide_eq_true HQ.out.1,decide_eq_true HQ.out.2];rfl),rfl⟩
   ·have dq:((q:Int)==(s.size:Int))=false:=by simpa using fun e=>hq (by omega)
    have HQ:=zh (zi hq h16)
    clear hq
    cases L<;>cases K
    all_goals
     go_enter Tryz.func79,Tryz.ntmps79
     go_wp2_with (first | (go_at_call 105;(with_reducible refine (LA.out _).mono ?_);rintro e w1 ⟨rfl,rfl⟩) | (go_at_call 106;(with_reducible refine (SP.out _).mono ?_);rintro e w1 ⟨rfl,rfl⟩) | (go_at_call 108;(with_reducible refine KA.out.mono ?_);rintro e w1 ⟨rfl,rfl⟩))
     go_ret
     exact ⟨Zca (by rw [decide_eq_false HQ.out.1,decide_eq_true HQ.out.2];rfl),rfl⟩
  ·have d16:¬ (s.size:Int)<=16:=by omega
   have HQ:=zh h16
   clear h16
   go_enter Tryz.func79,Tryz.ntmps79
   go_wp2_with (first | (go_at_call 105;(with_reducible refine (LA.out _).mono ?_);rintro e w1 ⟨rfl,rfl⟩) | (go_at_call 106;(with_reducible refine (SP.out _).mono ?_);rintro e w1 ⟨rfl,rfl⟩) | (go_at_call 108;(with_reducible refine KA.out.mono ?_);rintro e w1 ⟨rfl,rfl⟩))
   go_ret
   exact ⟨Zca (by rw [decide_eq_false HQ.out];simp),rfl⟩
theorem Zpn (s:ByteArray) (w:World) (h:s.data.toList=[]):Calls Tryz.prog 56 #[.string s] w fun e w'=>e=.returned (.bool (ZN s.data.toList))/\Below w.heap.size w w':=by
 have hs:s=⟨#[]⟩:=by
  apply ByteArray.ext
  apply Array.ext'
  exact h
 subst hs
 clear h
 go_enter Tryz.func56,Tryz.ntmps56
 go_wp2_with fail
 go_ret
 exact ⟨rfl,Below.refl _ _⟩
theorem Zpm (s:ByteArray) (w:World) (hs:s.size<=maxLen) :
  Calls Tryz.prog 56 #[.string s] w fun e w'=>e=.returned (.bool (ZN s.data.toList))/\Below w.heap.size w w':=by
 cases h:s.data.toList with
 | nil=>rw [<- h];exact Zpn s w h
 | cons c r=>
  have ka:=fun w=>Zlh s w
  have la:=fun w=>Zfl c.toNat w
  rw [Zf5] at la
  have h0:0<s.size:=by rw [<- Zdm,h];simp
  have hc:=Zmo h h0
  have m:=congrArg UInt8.toNat hc
  have z0:((s.size:Int)==0)=false:=by simpa using fun e=>by rw [e] at h0;cases h0
  have hlen:(c::r).length=s.size:=by rw [<- h,Zdm]
  have hn:ZN (c::r)=(ZbS c&&decide (s.size<=16)&&decide (Zap Za3 (c::r)=s.size)&&!isKey (c::r)):=by
   unfold ZN
   rw [hlen]
  have hsp:ZbS c=true->Zap Za3 s.data.toList=1+Zap Za3 (s.data.toList.drop 1):=fun q=>by
   rw [h,ZcH,if_pos (Zk6 q)]
   show _=1+Zap Za3 r
   omega
  rw [hn,<- h]
  rw [<- h] at hn
  generalize hz:ZN s.data.toList=z at *
  obtain ⟨p,hp⟩:∃ p,p=Zap Za3 s.data.toList:=⟨_,rfl⟩
  rw [<- hp] at hsp hn ⊢
  rw [<- hn]
  generalize isKey s.data.toList=K at *
  generalize ZbS c=L at *
  have KA:=zh ka
  have LA:=zh la
  have HN:=zh (zi hn hsp)
  generalize c.toNat=cn at *
  unfold maxLen at hs
  clear ka la h hc hn hlen hz hp hsp
  by_cases h16:s.size<=16
  ·have d16:(s.size:Int)<=16:=by omega
   have H16:=zh h16
   cases L
   ·clear h16
    go_enter Tryz.func56,Tryz.ntmps56
    go_wp2_with (go_at_call 44;(with_reducible refine (LA.out _).mono ?_);rintro e w1 ⟨rfl,rfl⟩)
    go_ret
    exact ⟨Zca (by rw [HN.out.1];rfl),Below.refl _ _⟩
   ·clear h16
    go_enter Tryz.func56,Tryz.ntmps56
    go_wp2_with (go_at_call 44;(with_reducible refine (LA.out _).mono ?_);rintro e w1 ⟨rfl,rfl⟩)
    clear m LA
    go_loopg [3] (s.size-1) (fun g v3 wr=>∃ k:Nat,v3=.int .i64 k/\k<=s.size/\g=s.size-k/\p=k+Zap Za3 (s.data.toList.drop k)/\wr=w)
    case atStart=>exact ⟨1,rfl,h0,rfl,HN.out.2 trivial,rfl⟩
    case round=>
     obtain ⟨k,rfl,hk,hg,hall,rfl⟩:=hrel
     have HA:=zh hall
     clear hall
     by_cases hlt:k<s.size
     ·have hb:=byte_at hlt
      have lj:=fun w=>Zfl s[k].toNat w
      have dj:=fun w=>Zec s[k].toNat w
      rw [Zf5] at lj
      rw [Ze7] at dj
      have i1:(k:Int)<(s.size:Int):=by omega
      have i2:(0:Int)<=(k:Int):=by omega
      have wk:IntKind.i64.wrap ((k:Int)+1)=(k:Int)+1:=IntWalk.i64_in _ (by omega)
      by_cases hld:Za3 s[k]=true
      ·have S1:=zh (ZdE (p:=Za3) hb hld)
       rcases Zk5 hld with q | ⟨q,q2⟩
       ·rw [q] at lj
        have LJ:=zh lj
        have HL:=zh (zi hlt hg)
        clear lj dj hld q hb hg
        go_wp2_with (go_at_call 44;(with_reducible refine (LJ.out _).mono ?_);rintro e w1 ⟨rfl,rfl⟩)
        go_roundg (s.size-(k+1))
        case measure=>have:=HL.out;omega
        case rel=>exact ⟨k+1,by push_cast;rfl,by have:=HL.out;omega,rfl,by have:=S1.out;have:=HA.out;omega,rfl⟩
       ·rw [q] at lj
        rw [q2] at dj
        have LJ:=zh lj
        have DJ:=zh dj
        have HL:=zh (zi hlt hg)
        clear lj dj hld q q2 hb hg
        go_wp2_with (first | (go_at_call 44;(with_reducible refine (LJ.out _).mono ?_);rintro e w1 ⟨rfl,rfl⟩) | (go_at_call 45;(with_reducible refine (DJ.out _).mono ?_);rintro e w1 ⟨rfl,rfl⟩))
        go_roundg (s.size-(k+1))
        case measure=>have:=HL.out;omega
        case rel=>exact ⟨k+1,by push_cast;rfl,by have:=HL.out;omega,rfl,by have:=S1.out;have:=HA.out;omega,rfl⟩
      ·have hld:Za3 s[k]=false:=by simpa using hld
       have S0:=Zgi (p:=Za3) hb hld
       obtain ⟨q,q2⟩:=ZoR hld
       rw [q] at lj
       rw [q2] at dj
       have LJ:=zh lj
       have DJ:=zh dj
       have FZ:=zh (show z=false from by
        have:=HA.out
        rw [HN.out.1,decide_eq_false (show ¬ p=s.size by omega)]
        simp)
       clear lj dj hld q q2 hb hg S0
       go_wp2_with (first | (go_at_call 44;(with_reducible refine (LJ.out _).mono ?_);rintro e w1 ⟨rfl,rfl⟩) | (go_at_call 45;(with_reducible refine (DJ.out _).mono ?_);rintro e w1 ⟨rfl,rfl⟩))
       go_ret
       exact ⟨Zca FZ.out.symm,Below.refl _ _⟩
     ·obtain rfl:k=s.size:=by omega
      have S0:=Zft (p:=Za3) (Nat.le_of_eq (Zdm s))
      have FZ:=zh (show z=!K from by
       have:=HA.out
       rw [HN.out.1,decide_eq_true (show p=s.size by omega),decide_eq_true H16.out]
       rfl)
      clear S0 hlt hk hg
      go_wp2_with (go_at_call 70;(with_reducible refine (KA.out _).mono ?_);rintro e w1 ⟨rfl,hb1⟩)
      go_ret
      exact ⟨Zca FZ.out.symm,hb1⟩
  ·have d16:¬ (s.size:Int)<=16:=by omega
   have FZ:=zh (show z=false from by rw [HN.out.1,decide_eq_false h16];simp)
   clear h16
   go_enter Tryz.func56,Tryz.ntmps56
   go_wp2_with fail
   go_ret
   exact ⟨Zca FZ.out.symm,Below.refl _ _⟩
end
section
open Go.RowKit
structure Nd where
 kind:Int
 words:List (List UInt8)
 nums:List Int
 kids:List Int
 pos:Int
deriving DecidableEq
def nd0:Nd:=⟨0,[],[],[],0⟩
def Za (ns:List Nd) (k:Int):Nd:=(ns[k.toNat]?).getD nd0
def ZJ (ns:List Nd) (k:Int):Int:=(Za ns k).kind
def atI (p:List Int) (k:Int):Int:=(p[k.toNat]?).getD (-1)
def Zb6 (n at_:Nat):List Int->List Int->Option (List Int)
 | [],p=>some p
 | k::r,p=>if k<=(at_:Int)\/(n:Int)<=k\/0<=atI p k then none else Zb6 n at_ r (p.set k.toNat at_)
def ZcA (ns:List Nd):Nat->Option (List Int)
 | 0=>some (List.replicate ns.length (-1))
 | j+1=>(ZcA ns j).bind fun p=>if 0<j/\atI p j<0 then none else Zb6 ns.length j (Za ns j).kids p
def Zcg (ns:List Nd):Option (List Int):=if ns.length=0\/1500<ns.length then none else ZcA ns ns.length
def Zc2 (p:List Int):Nat->List Int
 | 0=>[]
 | j+1=>Zc2 p j++[if 0<=atI p j then 1+atI (Zc2 p j) (atI p j) else 1]
def Zb8 (p:List Int):List Int:=Zc2 p p.length
def Zgd:List Int->Int
 | []=>0
 | x::r=>r.foldl max x
def ZcL (k:Int):Bool:=decide (8<=k)&&decide (k<=19)&&!(k==12)&&!(k==15)
def Zat (k:Int):Bool:=decide (20<=k)&&decide (k<=23)
def Zef (k:Int):Bool:=k==15||Zat k
def ZcF (ws:List (List UInt8)):Bool:=ws.all ZN
def ZbW (l:List Int):Bool:=l.all fun x=>decide (0<=x)&&decide (x<1000000000000000000)
def ZF (n:Nd) (w m:Nat):Bool:=decide (n.words.length=w)&&decide (n.nums.length=m)
def isB (ks:List Int) (k:Int):Bool:=ks.contains k
def ZbM (ns:List Nd) (kids:List Int) (f:Int->Bool):Bool:=kids.all fun k=>f (ZJ ns k)
def Zp (ns:List Nd):List Int->List (Int->Bool)->Bool
 | [],[]=>true
 | k::r,f::g=>f (ZJ ns k)&&Zp ns r g
 | _,_=>false
def ZaD (ns:List Nd) (k:Int):Int:=match (Za ns k).nums with
 | []=>-1
 | x::_=>x
def Zbm (ns:List Nd):List Int->Bool
 | []=>true
 | [_]=>true
 | a::b::r=>decide (ZaD ns a<ZaD ns b)&&Zbm ns (b::r)
def num (n:Nd) (k:Nat):Int:=(n.nums[k]?).getD 0
def ZdY (n:Nd):Bool:=decide (1<=num n 1)&&decide (1<=num n 2)
def ZcK (ns:List Nd) (n:Nd):Bool:=decide (num n 0<=4)&&((num n 1==0&&num n 2==0)||ZdY n)&&ZbM ns n.kids (isB [6])&&Zbm ns n.kids
def Zer (ns:List Nd) (n:Nd):Bool:=
 !(num n 0==0)&&decide (num n 0<=4)&&ZdY n&&(Zp ns n.kids [isB [7]]||Zp ns n.kids [isB [6],isB [7]]&&ZaD ns (atI n.kids 0)==2)
def Zn (ns:List Nd) (n:Nd):Bool:=
 if n.kind=0 then ZF n 0 0&&ZbM ns n.kids (isB [1,4])
 else if n.kind=1 then ZF n 1 0&&ZbM ns n.kids (isB [2,3])
 else if n.kind=2 then ZF n 1 1&&decide (num n 0<=1)&&Zp ns n.kids []
 else if n.kind=3 then decide (4<=n.words.length)&&decide (n.words.length % 2=0)&&ZF n n.words.length 0&&Zp ns n.kids []
 else if n.kind=4 then ZF n 1 0&&ZbM ns (n.kids.take (n.kids.length-1)) (isB [5])&&Zp ns (n.kids.drop (n.kids.length-1)) [isB [7]]
 else if n.kind=5 then ZF n 1 0&&Zp ns n.kids []||ZF n 2 3&&ZcK ns n
 else if n.kind=6 then decide (1<=n.words.length)&&ZF n n.words.length 1&&decide (num n 0<=2)&&Zp ns n.kids []
 else if n.kind=7 then ZF n 0 0&&ZbM ns n.kids ZcL
 else if n.kind=8\/n.kind=9 then ZF n 1 0&&Zp ns n.kids [Zat]
 else if n.kind=10 then ZF n 2 0&&Zp ns n.kids [isB [7],isB [7]]
 else if n.kind=11 then ZF n 2 0&&ZbM ns n.kids (isB [12])
 else if n.kind=12 then ZF n 1 0&&Zp ns n.kids [isB [7]]
 else if n.kind=13 then ZF n 2 3&&Zer ns n
 else if n.kind=14 then (ZF n 1 0||ZF n 2 0)&&ZbM ns n.kids Zef
 else if n.kind=15\/n.kind=21 then ZF n 1 0&&Zp ns n.kids []
 else if n.kind=16 then ZF n 0 0&&(Zp ns n.kids [Zat,isB [7]]||Zp ns n.kids [Zat,isB [7],isB [7]])
 else if n.kind=17 then ZF n 0 0&&Zp ns n.kids [Zat,isB [7]]
 else if n.kind=18\/n.kind=23 then ZF n 0 0&&Zp ns n.kids [Zat]
 else if n.kind=19 then ZF n 0 0&&Zp ns n.kids []
 else if n.kind=20 then ZF n 0 1&&Zp ns n.kids []
 else if n.kind=22 then ZF n 0 1&&decide (num n 0<=5)&&Zp ns n.kids [Zat,Zat]
 else false
def Zc5 (ns:List Nd) (n:Nd):Bool:=ZcF n.words&&ZbW n.nums&&Zn ns n
def Zcw (ns:List Nd):Bool:=match Zcg ns with
 | none=>false
 | some p=>ZJ ns 0==0&&decide (Zgd (Zb8 p)<=24)&&ns.all (Zc5 ns)
def Zd4 (ns:List Nd):Nat->Int->List Int
 | 0,k=>[k]
 | d+1,k=>k::(Za ns k).kids.flatMap (Zd4 ns d)
end
end Go.Proofs.YtkongcicmajolaaGreatDoor
