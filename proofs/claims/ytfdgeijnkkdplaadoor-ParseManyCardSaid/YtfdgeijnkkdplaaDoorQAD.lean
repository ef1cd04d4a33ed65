import Derived.Test.YtfdgeijnkkdplaaDoorQAC
set_option maxRecDepth 100000
set_option maxHeartbeats 8000000
namespace Go.Proofs.YtfdgeijnkkdplaaDoor
section
open Go.RowKit
def Zb7 (f:Nat×Nat×Bool):Value:=.tuple #[.int .i64 f.1,.int .i64 f.2.1,.bool f.2.2]
theorem Zc2 {s:ByteArray} {c:UInt8} {r:List UInt8} (h:s.data.toList=c::r):s.toList.isEmpty=false:=by
 rw [Lib.toList_data,h]
 rfl
theorem Zd0 {s:ByteArray} {c:UInt8} {r:List UInt8} (h:s.data.toList=c::r) (h0:0<s.size):s[0]=c:=by
 have:=byte_at h0
 rw [h] at this
 simpa using this.symm
theorem ZhX (s:ByteArray) (w:World) (h:s.data.toList=[]) :
  Calls Tryd.prog 17 #[.string s] w (Zbx w (Zb7 (3,0,true))):=by
 have hs:s=⟨#[]⟩:=by
  apply ByteArray.ext
  apply Array.ext'
  exact h
 subst hs
 clear h
 unfold Zb7
 go_enter Tryd.func17,Tryd.ntmps17
 go_wp2_with fail
 go_ret3
 exact ⟨rfl,rfl⟩
theorem Zkn (s:ByteArray) (w:World) (c:UInt8) (r:List UInt8) (h:s.data.toList=c::r) (hs:s.size<=maxLen) (hl:ZaA c=true) :
  Calls Tryd.prog 17 #[.string s] w (Zbx w (Zb7 (0,Zac ZbR (c::r),true))):=by
 have h0:0<s.size:=by rw [<- Zbi,h];simp
 have hc:=Zd0 h h0
 have la:=fun w=>Zcj c.toNat w
 have da:=fun w=>Zcv c.toNat w
 rw [Zdp] at la
 rw [Zdo] at da
 have e0:=Zc2 h
 have m:=congrArg UInt8.toNat hc
 have sp:=fun w=>ZhC s w hs
 rw [h] at sp
 rw [hl] at la
 generalize Zac ZbR (c::r)=q at *
 have SP:=zh sp
 clear sp hs h hl
 generalize c.toNat=cn at *
 have LA:=zh la
 have DA:=zh da
 clear la da hc
 unfold Zb7
 go_enter Tryd.func17,Tryd.ntmps17
 go_wp2_with (first
  | (go_at_call 27;(with_reducible refine (LA.out _).mono ?_);rintro e w1 ⟨rfl,rfl⟩)
  | (go_at_call 29;(with_reducible refine (DA.out _).mono ?_);rintro e w1 ⟨rfl,rfl⟩)
  | (go_at_call 25;(with_reducible refine (SP.out _).mono ?_);rintro e w1 ⟨rfl,rfl⟩))
 go_ret3
 exact ⟨rfl,rfl⟩
theorem Zkm (s:ByteArray) (w:World) (c:UInt8) (r:List UInt8) (h:s.data.toList=c::r) (hs:s.size<=maxLen) (hl:ZaA c=false) (hd:Zai c=true) :
  Calls Tryd.prog 17 #[.string s] w (Zbx w (Zb7 (1,Zac Zai (c::r),decide (Zac Zai (c::r)<=18)))):=by
 have h0:0<s.size:=by rw [<- Zbi,h];simp
 have hc:=Zd0 h h0
 have la:=fun w=>Zcj c.toNat w
 have da:=fun w=>Zcv c.toNat w
 rw [Zdp] at la
 rw [Zdo] at da
 have e0:=Zc2 h
 have m:=congrArg UInt8.toNat hc
 have sp:=fun w=>Zly s w hs
 rw [h] at sp
 rw [hl] at la
 rw [hd] at da
 generalize Zac Zai (c::r)=q at *
 have SP:=zh sp
 clear sp hs h hl hd
 generalize c.toNat=cn at *
 have LA:=zh la
 have DA:=zh da
 clear la da hc
 unfold Zb7
 go_enter Tryd.func17,Tryd.ntmps17
 go_wp2_with (first
  | (go_at_call 27;(with_reducible refine (LA.out _).mono ?_);rintro e w1 ⟨rfl,rfl⟩)
  | (go_at_call 29;(with_reducible refine (DA.out _).mono ?_);rintro e w1 ⟨rfl,rfl⟩)
  | (go_at_call 25;(with_reducible refine (SP.out _).mono ?_);rintro e w1 ⟨rfl,rfl⟩))
 go_ret3
 refine ⟨?_,rfl⟩
 congr 4
 first | rfl | (simp;omega)
theorem ZhS {l:List (List UInt8)} {k:Nat} {c:List UInt8} (h:l[k]? = some c):l.drop k=c::l.drop (k+1):=by
 obtain ⟨hk,rfl⟩:=List.getElem?_eq_some_iff.1 h
 exact List.drop_eq_getElem_cons hk
theorem Zmd (k:Nat) (g:List UInt8) (h:Zp[k]? = some g) (w:World):(Instr.index 70 (.agg (Zp.map txt).toArray) (.int .i64 k)).run Tryd.prog w=.ok (txt g) w:=by
 have hk:k<18:=by
  rcases Nat.lt_or_ge k 18 with q | q
  ·exact q
  ·rw [List.getElem?_eq_none (by exact q)] at h;cases h
 obtain rfl | k0:=Nat.eq_or_lt_of_le (show 0<=k by omega)
 ·obtain rfl:Zp.getD 0 []=g:=by rw [List.getD_eq_getElem?_getD,h];rfl
  exact (show ∀ w:World,(Instr.index 70 (.agg (Zp.map txt).toArray) (.int .i64 (0:Nat))).run Tryd.prog w=.ok (txt (Zp.getD 0 [])) w from fun _=>by kernel_rfl) w
 obtain rfl | k1:=Nat.eq_or_lt_of_le (show 1<=k by omega)
 ·obtain rfl:Zp.getD 1 []=g:=by rw [List.getD_eq_getElem?_getD,h];rfl
  exact (show ∀ w:World,(Instr.index 70 (.agg (Zp.map txt).toArray) (.int .i64 (1:Nat))).run Tryd.prog w=.ok (txt (Zp.getD 1 [])) w from fun _=>by kernel_rfl) w
 obtain rfl | k2:=Nat.eq_or_lt_of_le (show 2<=k by omega)
 ·obtain rfl:Zp.getD 2 []=g:=by rw [List.getD_eq_getElem?_getD,h];rfl
  exact (show ∀ w:World,(Instr.index 70 (.agg (Zp.map txt).toArray) (.int .i64 (2:Nat))).run Tryd.prog w=.ok (txt (Zp.getD 2 [])) w from fun _=>by kernel_rfl) w
 obtain rfl | k3:=Nat.eq_or_lt_of_le (show 3<=k by omega)
 ·obtain rfl:Zp.getD 3 []=g:=by rw [List.getD_eq_getElem?_getD,h];rfl
  exact (show ∀ w:World,(Instr.index 70 (.agg (Zp.map txt).toArray) (.int .i64 (3:Nat))).run Tryd.prog w=.ok (txt (Zp.getD 3 [])) w from fun _=>by kernel_rfl) w
 obtain rfl | k4:=Nat.eq_or_lt_of_le (show 4<=k by omega)
 ·obtain rfl:Zp.getD 4 []=g:=by rw [List.getD_eq_getElem?_getD,h];rfl
  exact (show ∀ w:World,(Instr.index 70 (.agg (Zp.map txt).toArray) (.int .i64 (4:Nat))).run Tryd.prog w=.ok (txt (Zp.getD 4 [])) w from fun _=>by kernel_rfl) w
 obtain rfl | k5:=Nat.eq_or_lt_of_le (show 5<=k by omega)
 ·obtain rfl:Zp.getD 5 []=g:=by rw [List.getD_eq_getElem?_getD,h];rfl
  exact (show ∀ w:World,(Instr.index 70 (.agg (Zp.map txt).toArray) (.int .i64 (5:Nat))).run Tryd.prog w=.ok (txt (Zp.getD 5 [])) w from fun _=>by kernel_rfl) w
 obtain rfl | k6:=Nat.eq_or_lt_of_le (show 6<=k by omega)
 ·obtain rfl:Zp.getD 6 []=g:=by rw [List.getD_eq_getElem?_getD,h];rfl
  exact (show ∀ w:World,(Instr.index 70 (.agg (Zp.map txt).toArray) (.int .i64 (6:Nat))).run Tryd.prog w=.ok (txt (Zp.getD 6 [])) w from fun _=>by kernel_rfl) w
 obtain rfl | k7:=Nat.eq_or_lt_of_le (show 7<=k by omega)
 ·obtain rfl:Zp.getD 7 []=g:=by rw [List.getD_eq_getElem?_getD,h];rfl
  exact (show ∀ w:World,(Instr.index 70 (.agg (Zp.map txt).toArray) (.int .i64 (7:Nat))).run Tryd.prog w=.ok (txt (Zp.getD 7 [])) w from fun _=>by kernel_rfl) w
 obtain rfl | k8:=Nat.eq_or_lt_of_le (show 8<=k by omega)
 ·obtain rfl:Zp.getD 8 []=g:=by rw [List.getD_eq_getElem?_getD,h];rfl
  exact (show ∀ w:World,(Instr.index 70 (.agg (Zp.map txt).toArray) (.int .i64 (8:Nat))).run Tryd.prog w=.ok (txt (Zp.getD 8 [])) w from fun _=>by kernel_rfl) w
 obtain rfl | k9:=Nat.eq_or_lt_of_le (show 9<=k by omega)
 ·obtain rfl:Zp.getD 9 []=g:=by rw [List.getD_eq_getElem?_getD,h];rfl
  exact (show ∀ w:World,(Instr.index 70 (.agg (Zp.map txt).toArray) (.int .i64 (9:Nat))).run Tryd.prog w=.ok (txt (Zp.getD 9 [])) w from fun _=>by kernel_rfl) w
 obtain rfl | k10:=Nat.eq_or_lt_of_le (show 10<=k by omega)
 ·obtain rfl:Zp.getD 10 []=g:=by rw [List.getD_eq_getElem?_getD,h];rfl
  exact (show ∀ w:World,(Instr.index 70 (.agg (Zp.map txt).toArray) (.int .i64 (10:Nat))).run Tryd.prog w=.ok (txt (Zp.getD 10 [])) w from fun _=>by kernel_rfl) w
 obtain rfl | k11:=Nat.eq_or_lt_of_le (show 11<=k by omega)
 ·obtain rfl:Zp.getD 11 []=g:=by rw [List.getD_eq_getElem?_getD,h];rfl
  exact (show ∀ w:World,(Instr.index 70 (.agg (Zp.map txt).toArray) (.int .i64 (11:Nat))).run Tryd.prog w=.ok (txt (Zp.getD 11 [])) w from fun _=>by kernel_rfl) w
 obtain rfl | k12:=Nat.eq_or_lt_of_le (show 12<=k by omega)
 ·obtain rfl:Zp.getD 12 []=g:=by rw [List.getD_eq_getElem?_getD,h];rfl
  exact (show ∀ w:World,(Instr.index 70 (.agg (Zp.map txt).toArray) (.int .i64 (12:Nat))).run Tryd.prog w=.ok (txt (Zp.getD 12 [])) w from fun _=>by kernel_rfl) w
 obtain rfl | k13:=Nat.eq_or_lt_of_le (show 13<=k by omega)
 ·obtain rfl:Zp.getD 13 []=g:=by rw [List.getD_eq_getElem?_getD,h];rfl
  exact (show ∀ w:World,(Instr.index 70 (.agg (Zp.map txt).toArray) (.int .i64 (13:Nat))).run Tryd.prog w=.ok (txt (Zp.getD 13 [])) w from fun _=>by kernel_rfl) w
 obtain rfl | k14:=Nat.eq_or_lt_of_le (show 14<=k by omega)
 ·obtain rfl:Zp.getD 14 []=g:=by rw [List.getD_eq_getElem?_getD,h];rfl
  exact (show ∀ w:World,(Instr.index 70 (.agg (Zp.map txt).toArray) (.int .i64 (14:Nat))).run Tryd.prog w=.ok (txt (Zp.getD 14 [])) w from fun _=>by kernel_rfl) w
 obtain rfl | k15:=Nat.eq_or_lt_of_le (show 15<=k by omega)
 ·obtain rfl:Zp.getD 15 []=g:=by rw [List.getD_eq_getElem?_getD,h];rfl
  exact (show ∀ w:World,(Instr.index 70 (.agg (Zp.map txt).toArray) (.int .i64 (15:Nat))).run Tryd.prog w=.ok (txt (Zp.getD 15 [])) w from fun _=>by kernel_rfl) w
 obtain rfl | k16:=Nat.eq_or_lt_of_le (show 16<=k by omega)
 ·obtain rfl:Zp.getD 16 []=g:=by rw [List.getD_eq_getElem?_getD,h];rfl
  exact (show ∀ w:World,(Instr.index 70 (.agg (Zp.map txt).toArray) (.int .i64 (16:Nat))).run Tryd.prog w=.ok (txt (Zp.getD 16 [])) w from fun _=>by kernel_rfl) w
 obtain rfl | k17:=Nat.eq_or_lt_of_le (show 17<=k by omega)
 ·obtain rfl:Zp.getD 17 []=g:=by rw [List.getD_eq_getElem?_getD,h];rfl
  exact (show ∀ w:World,(Instr.index 70 (.agg (Zp.map txt).toArray) (.int .i64 (17:Nat))).run Tryd.prog w=.ok (txt (Zp.getD 17 [])) w from fun _=>by kernel_rfl) w
 omega
theorem ZiS:(Tryd.prog.info? 70).map (·.size)=some (Zp.map txt).toArray.size:=by kernel_rfl
def Zmc:Option Nat->Nat×Nat×Bool
 | some n=>(2,n,true)
 | none=>(0,0,false)
theorem ZhY (s:ByteArray) (w:World) (c:UInt8) (r:List UInt8) (h:s.data.toList=c::r) (hl:ZaA c=false) (hd:Zai c=false) (ht:Zaf w 0 Zp) :
  Calls Tryd.prog 17 #[.string s] w (Zbx w (Zb7 (Zmc (Zbr (c::r))))):=by
 have h0:0<s.size:=by rw [<- Zbi,h];simp
 have hc:=Zd0 h h0
 have la:=fun w=>Zcj c.toNat w
 have da:=fun w=>Zcv c.toNat w
 rw [Zdp] at la
 rw [Zdo] at da
 have e0:=Zc2 h
 have m:=congrArg UInt8.toNat hc
 rw [hl] at la
 rw [hd] at da
 obtain ⟨z,hz⟩:∃ z,z=Zbr (c::r):=⟨_,rfl⟩
 rw [<- hz]
 have hp:=fun (g:List UInt8) (w:World)=>Tryd.strings_HasPrefix s ⟨g.toArray⟩ w
 rw [h] at hp
 obtain ⟨tt,fr,hrow⟩:=ht
 have hinfo:=ZiS
 have hat:=Zmd
 generalize (Zp.map txt).toArray=SA at *
 have ROW:=zh (zi hrow (zi hinfo hat))
 have HZ:=zh hz
 have HP:=zh hp
 clear h hl hd hz hp hrow hinfo hat
 generalize c.toNat=cn at *
 have LA:=zh la
 have DA:=zh da
 clear la da hc
 unfold Zb7
 go_enter Tryd.func17,Tryd.ntmps17
 go_wp2_with (first
  | (go_at_call 27;(with_reducible refine (LA.out _).mono ?_);rintro e w1 ⟨rfl,rfl⟩)
  | (go_at_call 29;(with_reducible refine (DA.out _).mono ?_);rintro e w1 ⟨rfl,rfl⟩)
  | (refine wpList_load_row rfl 70 _ rfl 0 rfl _ SA _ _ ROW.out.1 Tryd.underlying70 rfl ROW.out.2.1 ?_))
 go_loopg [26] 18 (fun g v26 wr=>∃ k:Nat,v26=.int .i64 k/\k<=18/\g=18-k/\z=((Zp.drop k).find? fun g=>g.isPrefixOf (c::r)).map (·.length)/\wr=w)
 case atStart=>exact ⟨0,rfl,Nat.zero_le _,rfl,by rw [HZ.out];rfl,rfl⟩
 case round=>
  obtain ⟨k,rfl,hk,hg,hall,rfl⟩:=hrel
  by_cases hlt:k<18
  ·obtain ⟨g,hgk⟩:∃ g,Zp[k]? = some g:=⟨_,List.getElem?_eq_getElem (by exact hlt)⟩
   have ix:=ROW.out.2.2 k g hgk
   have hp:=HP.out g
   rw [ZhS hgk,List.find?_cons] at hall
   have i1:(k:Int)<18:=by omega
   have i2:(0:Int)<=(k:Int):=by omega
   have wk:IntKind.i64.wrap ((k:Int)+1)=(k:Int)+1:=IntWalk.i64_in _ (by omega)
   have HK:=zh (zi hlt hg)
   unfold Lib.hasPrefix at hp
   cases R:g.isPrefixOf (c::r)
   ·rw [R] at hall hp
    have HA:=zh hall
    have HQ:=zh hp
    clear hall hp hg hgk R
    go_wp2_with (go_at_call 30;(with_reducible refine (HQ.out _).mono ?_);rintro e w1 ⟨rfl,rfl⟩)
    go_roundg (18-(k+1))
    case measure=>have:=HK.out;omega
    case rel=>exact ⟨k+1,by push_cast;rfl,by have:=HK.out;omega,rfl,HA.out,rfl⟩
   ·rw [R] at hall hp
    have HA:=zh hall
    have HQ:=zh hp
    clear hall hp hg hgk R
    go_wp2_with (go_at_call 30;(with_reducible refine (HQ.out _).mono ?_);rintro e w1 ⟨rfl,rfl⟩)
    go_ret3
    refine ⟨?_,rfl⟩
    rw [HA.out]
    rfl
  ·obtain rfl:k=18:=by omega
   have HA:=zh hall
   clear hg hk hlt hall
   go_wp2_with fail
   go_ret3
   refine ⟨?_,rfl⟩
   rw [HA.out]
   rfl
theorem Zkl (s:ByteArray) (w:World) (hs:s.size<=maxLen) (ht:Zaf w 0 Zp) :
  Calls Tryd.prog 17 #[.string s] w (Zbx w (Zb7 (ZY s.data.toList))):=by
 cases h:s.data.toList with
 | nil=>exact ZhX s w h
 | cons c r=>
  rw [Zbf]
  cases hl:ZaA c with
  | true=>exact Zkn s w c r h hs hl
  | false=>
   cases hd:Zai c with
   | true=>exact Zkm s w c r h hs hl hd
   | false=>
    have:=ZhY s w c r h hl hd ht
    rw [if_neg (by decide),if_neg (by decide)]
    cases q:Zbr (c::r)<;>rw [q] at this<;>exact this
end
end Go.Proofs.YtfdgeijnkkdplaaDoor
