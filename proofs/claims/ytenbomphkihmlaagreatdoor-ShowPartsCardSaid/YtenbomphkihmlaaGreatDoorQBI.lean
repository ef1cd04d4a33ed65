import Derived.RegionTactic
import Derived.Test.YtenbomphkihmlaaGreatDoorQAB
import Derived.Test.YtenbomphkihmlaaGreatDoorQBH
set_option maxRecDepth 100000
set_option maxHeartbeats 8000000
namespace Go.Proofs.YtenbomphkihmlaaGreatDoor
section
open Go.RowKit
theorem Zh (w:World):Below w.heap.size w w.drew:=(Below.refl _ _).drew
theorem ZiW (w0 w:World) (bp dp f:Nat) (t:Txt) (vn:Value) (ns:List Nd) (x:NdV×Nd) (h:PrS w0 w bp t dp vn) (hx:Zv w0 x) (ht:Zb7 w0 w0) (v:Int) (r:List Int) (hk:x.2.kind=20) (hn:x.2.nums=v::r) (hv:-9223372036854775808<=v/\v<=9223372036854775807) (hl:t.length+(Zu ns (f+1) x.2).length+100<=140737488355328) :
  Calls Tryz.prog 69 #[.pointer (some ⟨bp,0,none⟩),ndX x] w fun e w'=>e=.returned (.tuple #[])/\PrS w0 w' bp (t++Zu ns (f+1) x.2) dp vn/\Fr w w' bp:=by
 have hq:=hx
 obtain ⟨⟨vw,vu,vk⟩,kd,ws,nums,ks,ps⟩:=x
 obtain ⟨hw,hu,hkk⟩:=hx
 dsimp only at hk hn hw hu hkk hl ⊢
 obtain ⟨Aw,cw,rfl,hwl,hwm,hW,hWl⟩:=hw
 obtain ⟨Au,cu,rfl,hul,hum,hU⟩:=hu
 obtain ⟨Ak,ck,rfl,hkl,hkm,hK⟩:=hkk
 subst hk
 have a1:=Zb w (.cells #[.int .i64 20,.slice Aw ws.length cw,.slice Au nums.length cu,.slice Ak ks.length ck,.int .i64 ps] 29)
 have B1:Zm _ _ _ _:=Zm.start w #[.int .i64 20,.slice Aw ws.length cw,.slice Au nums.length cu,.slice Ak ks.length ck,.int .i64 ps] 29
 have p1:=h.keep a1
 have he:Zu ns (f+1) ⟨20,ws,nums,ks,ps⟩=ZbT v:=by simp only [Zu,num,hn];rfl
 rw [he] at hl ⊢
 obtain ⟨c0,c1,c2,c3,c4⟩:=Zg (x:=((.slice Aw ws.length cw,.slice Au nums.length cu,.slice Ak ks.length ck),⟨20,ws,nums,ks,ps⟩)) (B1)
 dsimp only at c0 c1 c2 c3 c4
 generalize hw1:w.alloc (.cells #[.int .i64 20,.slice Aw ws.length cw,.slice Au nums.length cu,.slice Ak ks.length ck,.int .i64 ps] 29)=w1 at *
 obtain ⟨au,rfl,u0⟩:=Zp (k:=0) (x:=v) hU (p1.keep (Zh w1)).below (by rw [hn];rfl) (by rw [hn];exact Nat.succ_pos _)
 have u1:w1.drew.cell? au=some (.int .i64 v):=u0
 have u2:w1.cell? au=some (.int .i64 v):=u0
 have hl2:0<nums.length:=by rw [hn];exact Nat.succ_pos _
 obtain ⟨d0,d1,d2,d3,d4⟩:=Zg (x:=((.slice Aw ws.length cw,.slice (some au) nums.length cu,.slice Ak ks.length ck),⟨20,ws,nums,ks,ps⟩)) (B1.keep (Zh w1))
 dsimp only at d0 d1 d2 d3 d4
 have NU:=Lib.hid (Zc6 w0 w1.drew bp dp t vn v (p1.keep (Zh w1)) (ht.on (p1.keep (Zh w1)).below) hv.1 hv.2 (by omega))
 have HX:=Lib.hid a1
 clear p1 B1 a1 hq hwl hwm hW hWl hul hum hU hkl hkm hK h hv hl he ht u0 hn
 go_enter Tryz.func69,Tryz.ntmps69
 go_upto_region 3 with fail
 refine wp_region_still_tail 7 (by kernel_rfl) (by kernel_rfl) ?_
 simp only [List.take_succ_cons,List.take_zero,List.drop_succ_cons,List.drop_zero]
 iterate 7 still_step
 refine wpStill_nil ?_
 change wpList _ _ _ _ _ w1.drew
 go_wp2_with (go_at_call 62;(refine NU.out.mono ?_);rintro e w3 ⟨rfl,hp,hf⟩;have H3:=Lib.hid (And.intro hp hf);clear hp hf)
 go_end0
 exact ⟨rfl,H3.out.1,((Fr.of_below bp (hw1▸HX.out)).trans (Fr.of_below bp (Zh w1))).trans H3.out.2⟩
theorem ZiX (w0 w:World) (bp dp f:Nat) (t:Txt) (vn:Value) (ns:List Nd) (x:NdV×Nd) (h:PrS w0 w bp t dp vn) (hx:Zv w0 x) (s:Txt) (r:List Txt) (hk:x.2.kind=21) (hn:x.2.words=s::r) (hl:t.length+(Zu ns (f+1) x.2).length+100<=140737488355328) :
  Calls Tryz.prog 69 #[.pointer (some ⟨bp,0,none⟩),ndX x] w fun e w'=>e=.returned (.tuple #[])/\PrS w0 w' bp (t++Zu ns (f+1) x.2) dp vn/\Fr w w' bp:=by
 have hq:=hx
 obtain ⟨⟨vw,vu,vk⟩,kd,ws,nums,ks,ps⟩:=x
 obtain ⟨hw,hu,hkk⟩:=hx
 dsimp only at hk hn hw hu hkk hl ⊢
 obtain ⟨Aw,cw,rfl,hwl,hwm,hW,hWl⟩:=hw
 obtain ⟨Au,cu,rfl,hul,hum,hU⟩:=hu
 obtain ⟨Ak,ck,rfl,hkl,hkm,hK⟩:=hkk
 subst hk
 have a1:=Zb w (.cells #[.int .i64 21,.slice Aw ws.length cw,.slice Au nums.length cu,.slice Ak ks.length ck,.int .i64 ps] 29)
 have B1:Zm _ _ _ _:=Zm.start w #[.int .i64 21,.slice Aw ws.length cw,.slice Au nums.length cu,.slice Ak ks.length ck,.int .i64 ps] 29
 have p1:=h.keep a1
 have he:Zu ns (f+1) ⟨21,ws,nums,ks,ps⟩=s:=by simp only [Zu,ZD,hn];rfl
 rw [he] at hl ⊢
 obtain ⟨c0,c1,c2,c3,c4⟩:=Zg (x:=((.slice Aw ws.length cw,.slice Au nums.length cu,.slice Ak ks.length ck),⟨21,ws,nums,ks,ps⟩)) (B1)
 dsimp only at c0 c1 c2 c3 c4
 generalize hw1:w.alloc (.cells #[.int .i64 21,.slice Aw ws.length cw,.slice Au nums.length cu,.slice Ak ks.length ck,.int .i64 ps] 29)=w1 at *
 obtain ⟨au,rfl,u0⟩:=ZaH (k:=0) (x:=s) hW (p1.keep (Zh w1)).below (by rw [hn];rfl) (by rw [hn];exact Nat.succ_pos _)
 have u1:w1.drew.cell? au=some (txt s):=u0
 have u2:w1.cell? au=some (txt s):=u0
 have hl2:0<ws.length:=by rw [hn];exact Nat.succ_pos _
 obtain ⟨d0,d1,d2,d3,d4⟩:=Zg (x:=((.slice (some au) ws.length cw,.slice Au nums.length cu,.slice Ak ks.length ck),⟨21,ws,nums,ks,ps⟩)) (B1.keep (Zh w1))
 dsimp only at d0 d1 d2 d3 d4
 have AD:=Lib.hid (ZH w0 w1.drew bp dp t vn s (p1.keep (Zh w1)) (by omega))
 have HX:=Lib.hid a1
 clear p1 B1 a1 hq hwl hwm hW hWl hul hum hU hkl hkm hK h hl he u0 hn
 go_enter Tryz.func69,Tryz.ntmps69
 go_upto_region 5 with fail
 go_region_with (go_at_call 26;(refine AD.out.mono ?_);rintro e w3 ⟨rfl,hp,hf⟩;have H3:=Lib.hid (And.intro hp hf);clear hp hf)
 all_goals
  go_wp2_with fail
  go_end0
  exact ⟨rfl,H3.out.1,((Fr.of_below bp (hw1▸HX.out)).trans (Fr.of_below bp (Zh w1))).trans H3.out.2⟩
theorem Zat {ns:List Nd} {k:Nat} {y:Nd} (h:ns[k]? = some y):Ze ns k=y:=by unfold Ze;rw [Int.toNat_natCast,h];rfl
theorem ZaA {ns:List Nd} {n:Nd} {i k:Nat} {y:Nd} (hi:n.kids[i]? = some (k:Int)) (h:ns[k]? = some y):ZP ns n i=y:=by
 have:atI n.kids i=k:=by unfold atI;rw [Int.toNat_natCast,hi];rfl
 unfold ZP
 rw [this]
 exact Zat h
theorem ZiV (w0 w:World) (bp dp f:Nat) (t:Txt) (vn:Value) (ns:List Nd) (x:NdV×Nd) (h:PrS w0 w bp t dp vn) (hN:Zf w0 vn ns) (hx:Zv w0 x) (hE:Zaj w0 ns f) (k:Nat) (hk:x.2.kind=23) (hi:x.2.kids[0]? = some (k:Int)) (hkn:k<ns.length) (hv:ZX ns f (Ze ns k)) (hl:t.length+(Zu ns (f+1) x.2).length+100<=140737488355328) :
  Calls Tryz.prog 69 #[.pointer (some ⟨bp,0,none⟩),ndX x] w fun e w'=>e=.returned (.tuple #[])/\PrS w0 w' bp (t++Zu ns (f+1) x.2) dp vn/\Fr w w' bp:=by
 have hq:=hx
 obtain ⟨⟨vw,vu,vk⟩,kd,ws,nums,ks,ps⟩:=x
 obtain ⟨hw,hu,hkk⟩:=hx
 dsimp only at hk hi hw hu hkk hl ⊢
 obtain ⟨Aw,cw,rfl,hwl,hwm,hW,hWl⟩:=hw
 obtain ⟨Au,cu,rfl,hul,hum,hU⟩:=hu
 obtain ⟨Ak,ck,rfl,hkl,hkm,hK⟩:=hkk
 subst hk
 have a1:=Zb w (.cells #[.int .i64 23,.slice Aw ws.length cw,.slice Au nums.length cu,.slice Ak ks.length ck,.int .i64 ps] 29)
 have B1:Zm _ _ _ _:=Zm.start w #[.int .i64 23,.slice Aw ws.length cw,.slice Au nums.length cu,.slice Ak ks.length ck,.int .i64 ps] 29
 have p1:=h.keep a1
 obtain ⟨z,hz⟩:∃ z,ns[k]? = some z:=⟨_,List.getElem?_eq_getElem hkn⟩
 have he:Zu ns (f+1) ⟨23,ws,nums,ks,ps⟩=[45]++opT ns f z 3:=by
  rw [<- ZaA (n:=⟨23,ws,nums,ks,ps⟩) hi hz]
  simp only [Zu,opT]
  rfl
 rw [Zat hz] at hv
 rw [he] at hl ⊢
 simp only [List.length_append,List.length_cons,List.length_nil] at hl
 obtain ⟨c0,c1,c2,c3,c4⟩:=Zg (x:=((.slice Aw ws.length cw,.slice Au nums.length cu,.slice Ak ks.length ck),⟨23,ws,nums,ks,ps⟩)) (B1)
 dsimp only at c0 c1 c2 c3 c4
 generalize hw1:w.alloc (.cells #[.int .i64 23,.slice Aw ws.length cw,.slice Au nums.length cu,.slice Ak ks.length ck,.int .i64 ps] 29)=w1 at *
 have AD:=Lib.hid (ZH w0 w1 bp dp t vn [45] p1 (by simp only [List.length_cons,List.length_nil];omega))
 have HX:=Lib.hid (And.intro a1 (And.intro B1 (And.intro hq (And.intro hi (And.intro hkn (And.intro hz (And.intro hv (And.intro hE (And.intro hN (And.intro hl p1))))))))))
 clear p1 B1 a1 hq hwl hwm hW hWl hul hum hU hkl hkm hK h hl he hi hkn hz hv hE hN
 go_enter Tryz.func69,Tryz.ntmps69
 go_upto_region 8 with (go_at_call 26;(refine AD.out.mono ?_);rintro e w3 ⟨rfl,hp,hf⟩;have H3:=Lib.hid (And.intro hp hf);clear hp hf)
 have K3:=H3.out.2.at_ _ _ _ (Za3 HX.out.2.2.2.2.2.2.2.2.2.2 HX.out.2.1) (by decide) HX.out.2.1
 obtain ⟨d0,d1,d2,d3,d4⟩:=Zg (x:=((.slice Aw ws.length cw,.slice Au nums.length cu,.slice Ak ks.length ck),⟨23,ws,nums,ks,ps⟩)) (K3)
 dsimp only at d0 d1 d2 d3 d4
 have KI:=Lib.hid (Zas w0 w3 bp dp _ vn ns _ 0 k ⟨H3.out.1,HX.out.2.2.2.2.2.2.2.2.1⟩ HX.out.2.2.1 HX.out.2.2.2.1 HX.out.2.2.2.2.1)
 clear K3
 go_wp2_with (first
  | (go_at_call 32;(refine KI.out.mono ?_);rintro e w4 ⟨y,rfl,hy,hy2,hb⟩;have ey:y.2=z:=Option.some.inj (hy.symm.trans HX.out.2.2.2.2.2.1);have H4:=Lib.hid (And.intro hy2 (And.intro hb ey));clear hy hy2 hb ey;have OP:=Lib.hid (ZaB w0 w4 bp dp f 3 _ vn ns y HX.out.2.2.2.2.2.2.2.1 (H3.out.1.keep H4.out.2.1) HX.out.2.2.2.2.2.2.2.2.1 H4.out.1 (H4.out.2.2▸HX.out.2.2.2.2.2.2.1) (by rw [H4.out.2.2];have:=HX.out.2.2.2.2.2.2.2.2.2.1;simp only [List.length_append,List.length_cons,List.length_nil];omega)))
  | (go_at_call 91;(refine OP.out.mono ?_);rintro e w5 ⟨rfl,hp,hf⟩;have H5:=Lib.hid (And.intro hp hf);clear hp hf))
 go_end0
 refine ⟨rfl,?_,(((Fr.of_below bp (hw1▸HX.out.1)).trans H3.out.2).trans (Fr.of_below bp H4.out.2.1)).trans H5.out.2⟩
 have:=H5.out.1
 rw [H4.out.2.2] at this
 simp only [List.append_assoc] at this ⊢
 exact this
def ZbD:List Txt:=[Zaq 0,Zaq 1,Zaq 2,Zaq 3,Zaq 4,Zaq 5]
theorem ZbR {w0 W:World} (h:ZV w0 2 ZbD) (hb:Below w0.heap.size w0 W) (k:Nat) (hk:k<6):W.cell? ⟨2,k,none⟩=some (txt (Zaq k)):=by
 obtain ⟨t,fr,e⟩:=h.below hb
 have:k=0\/k=1\/k=2\/k=3\/k=4\/k=5:=by omega
 rcases this with rfl | rfl | rfl | rfl | rfl | rfl<;>simp [World.cell?,e,ZbD]
theorem ZhP (w0 w:World) (bp dp f:Nat) (t:Txt) (vn:Value) (ns:List Nd) (x:NdV×Nd) (h:PrS w0 w bp t dp vn) (hN:Zf w0 vn ns) (hx:Zv w0 x) (ht:ZV w0 2 ZbD) (hE:Zaj w0 ns f) (r:List Int) (j k:Nat) (hk:x.2.kind=22) (hn:x.2.nums=0::r) (hi:x.2.kids[0]? = some (j:Int)) (hjn:j<ns.length) (hv:ZX ns f (Ze ns j)) (hi2:x.2.kids[1]? = some (k:Int)) (hkn:k<ns.length) (hv2:ZX ns f (Ze ns k)) (hl:t.length+(Zu ns (f+1) x.2).length+100<=140737488355328) :
  Calls Tryz.prog 69 #[.pointer (some ⟨bp,0,none⟩),ndX x] w fun e w'=>e=.returned (.tuple #[])/\PrS w0 w' bp (t++Zu ns (f+1) x.2) dp vn/\Fr w w' bp:=by
 have hq:=hx
 obtain ⟨⟨vw,vu,vk⟩,kd,ws,nums,ks,ps⟩:=x
 obtain ⟨hw,hu,hkk⟩:=hx
 dsimp only at hk hn hi hi2 hw hu hkk hl ⊢
 obtain ⟨Aw,cw,rfl,hwl,hwm,hW,hWl⟩:=hw
 obtain ⟨Au,cu,rfl,hul,hum,hU⟩:=hu
 obtain ⟨Ak,ck,rfl,hkl,hkm,hK⟩:=hkk
 subst hk
 have a1:=Zb w (.cells #[.int .i64 22,.slice Aw ws.length cw,.slice Au nums.length cu,.slice Ak ks.length ck,.int .i64 ps] 29)
 have B1:Zm _ _ _ _:=Zm.start w #[.int .i64 22,.slice Aw ws.length cw,.slice Au nums.length cu,.slice Ak ks.length ck,.int .i64 ps] 29
 have p1:=h.keep a1
 obtain ⟨z,hz⟩:∃ z,ns[j]? = some z:=⟨_,List.getElem?_eq_getElem hjn⟩
 obtain ⟨y,hy⟩:∃ y,ns[k]? = some y:=⟨_,List.getElem?_eq_getElem hkn⟩
 have hs:ZO ⟨22,ws,nums,ks,ps⟩=0:=by unfold ZO num;rw [if_pos rfl];dsimp only;rw [hn];rfl
 have hg:num ⟨22,ws,nums,ks,ps⟩ 0=0:=by unfold num;dsimp only;rw [hn];rfl
 have he:Zu ns (f+1) ⟨22,ws,nums,ks,ps⟩=opT ns f z 1++Zaq 0++opT ns f y 1:=by
  rw [<- ZaA (n:=⟨22,ws,nums,ks,ps⟩) hi hz,<- ZaA (n:=⟨22,ws,nums,ks,ps⟩) hi2 hy]
  simp only [Zu,opT,hs,hg]
  rfl
 rw [Zat hz] at hv
 rw [Zat hy] at hv2
 rw [he] at hl ⊢
 simp only [List.length_append] at hl
 have hsl:(Zaq 0).length=3:=rfl
 have hbo:Zci ⟨22,ws,nums,ks,ps⟩:=fun _=>⟨0,r,hn,by omega,by omega⟩
 obtain ⟨c0,c1,c2,c3,c4⟩:=Zg (x:=((.slice Aw ws.length cw,.slice Au nums.length cu,.slice Ak ks.length ck),⟨22,ws,nums,ks,ps⟩)) (B1)
 dsimp only at c0 c1 c2 c3 c4
 generalize hw1:w.alloc (.cells #[.int .i64 22,.slice Aw ws.length cw,.slice Au nums.length cu,.slice Ak ks.length ck,.int .i64 ps] 29)=w1 at *
 have ST:=Lib.hid (Zbc w0 w1 _ hq p1.below hbo)
 rw [hs] at ST
 have HX:=Lib.hid (And.intro a1 (And.intro B1 (And.intro hq (And.intro hN (And.intro hE (And.intro hl (And.intro hsl p1)))))))
 have HI:=Lib.hid (And.intro hi (And.intro hjn (And.intro hz hv)))
 have HJ:=Lib.hid (And.intro hi2 (And.intro hkn (And.intro hy hv2)))
 have HU:=Lib.hid (And.intro hU (And.intro hn ht))
 clear p1 B1 a1 hq hwl hwm hW hWl hul hum hU hkl hkm hK h hl hsl he hi hjn hz hv hi2 hkn hy hv2 hE hN hs hg hbo hn ht
 go_enter Tryz.func69,Tryz.ntmps69
 go_upto_region 11 with (go_at_call 92;(refine ST.out.mono ?_);rintro e w2 ⟨rfl,hb⟩;have HB:=Lib.hid hb;clear hb)
 have K2:=HX.out.2.1.keep HB.out
 have P2:=Lib.hid (HX.out.2.2.2.2.2.2.2.keep HB.out)
 obtain ⟨d0,d1,d2,d3,d4⟩:=Zg (x:=((.slice Aw ws.length cw,.slice Au nums.length cu,.slice Ak ks.length ck),⟨22,ws,nums,ks,ps⟩)) (K2)
 dsimp only at d0 d1 d2 d3 d4
 have KI:=Lib.hid (Zas w0 w2 bp dp _ vn ns _ 0 j ⟨P2.out,HX.out.2.2.2.1⟩ HX.out.2.2.1 HI.out.1 HI.out.2.1)
 have K2w:=K2
 clear K2
 go_upto_region 12 with (first
  | (go_at_call 32;(refine KI.out.mono ?_);rintro e w3 ⟨q,rfl,hy,hy2,hb⟩;have ey:q.2=z:=Option.some.inj (hy.symm.trans HI.out.2.2.1);have H3:=Lib.hid (And.intro hy2 (And.intro hb ey));clear hy hy2 hb ey;have OP:=Lib.hid (ZaB w0 w3 bp dp f 1 _ vn ns q HX.out.2.2.2.2.1 (P2.out.keep H3.out.2.1) HX.out.2.2.2.1 H3.out.1 (H3.out.2.2▸HI.out.2.2.2) (by rw [H3.out.2.2];have:=HX.out.2.2.2.2.2.1;omega)))
  | (go_at_call 91;(refine OP.out.mono ?_);rintro e w4 ⟨rfl,hp,hf⟩;have H4:=Lib.hid (And.intro (show PrS w0 w4 bp (t++opT ns f z 1) dp vn from H3.out.2.2▸hp) hf);clear hp hf))
 have K3:=K2w.keep H3.out.2.1
 have K4:=(H4.out.2.at_ _ _ _ (Za3 (P2.out.keep H3.out.2.1) K3) (by decide) K3).keep (Zh w4)
 obtain ⟨a0,a1,a2,a3,a4⟩:=Zg (x:=((.slice Aw ws.length cw,.slice Au nums.length cu,.slice Ak ks.length ck),⟨22,ws,nums,ks,ps⟩)) (K4)
 dsimp only at a0 a1 a2 a3 a4
 have P4:=Lib.hid (H4.out.1.keep (Zh w4))
 obtain ⟨au,rfl,u0⟩:=Zp (k:=0) (x:=0) HU.out.1 P4.out.below (by rw [HU.out.2.1];rfl) (by rw [HU.out.2.1];exact Nat.succ_pos _)
 have u1:w4.drew.cell? au=some (.int .i64 0):=u0
 have u2:w4.cell? au=some (.int .i64 0):=u0
 have v1:=ZbR HU.out.2.2 P4.out.below 0 (by decide)
 have v2:w4.cell? ⟨2,0,none⟩=some (txt (Zaq 0)):=v1
 have hl2:0<nums.length:=by rw [HU.out.2.1];exact Nat.succ_pos _
 have KS:=Lib.hid K4
 have AD:=Lib.hid (ZH w0 w4.drew bp dp _ vn (Zaq 0) P4.out (by have:=HX.out.2.2.2.2.2.1;simp only [List.length_append];omega))
 clear u0 K3 K4 K2w
 go_region_with (go_at_call 26;(refine AD.out.mono ?_);rintro e w5 ⟨rfl,hp,hf⟩;have H5:=Lib.hid (And.intro hp hf);clear hp hf)
 have K5:=H5.out.2.at_ _ _ _ (Za3 P4.out KS.out) (by decide) KS.out
 obtain ⟨b0,b1,b2,b3,b4⟩:=Zg (x:=((.slice Aw ws.length cw,.slice (some au) nums.length cu,.slice Ak ks.length ck),⟨22,ws,nums,ks,ps⟩)) (K5)
 dsimp only at b0 b1 b2 b3 b4
 have KJ:=Lib.hid (Zas w0 w5 bp dp _ vn ns _ 1 k ⟨H5.out.1,HX.out.2.2.2.1⟩ HX.out.2.2.1 HJ.out.1 HJ.out.2.1)
 have wk:IntKind.i64.wrap (0+1)=1:=by decide
 clear K5
 go_wp2_with (first
  | (go_at_call 32;(refine KJ.out.mono ?_);rintro e w6 ⟨q2,rfl,hy,hy2,hb⟩;have ey:q2.2=y:=Option.some.inj (hy.symm.trans HJ.out.2.2.1);have H6:=Lib.hid (And.intro hy2 (And.intro hb ey));clear hy hy2 hb ey;have OQ:=Lib.hid (ZaB w0 w6 bp dp f 1 _ vn ns q2 HX.out.2.2.2.2.1 (H5.out.1.keep H6.out.2.1) HX.out.2.2.2.1 H6.out.1 (H6.out.2.2▸HJ.out.2.2.2) (by rw [H6.out.2.2];have:=HX.out.2.2.2.2.2.1;simp only [List.length_append];omega)))
  | (go_at_call 91;(refine OQ.out.mono ?_);rintro e w7 ⟨rfl,hp,hf⟩;have H7:=Lib.hid (And.intro hp hf);clear hp hf))
 go_end0
 refine ⟨rfl,?_,(((((((Fr.of_below bp (hw1▸HX.out.1)).trans (Fr.of_below bp HB.out)).trans (Fr.of_below bp H3.out.2.1)).trans H4.out.2).trans (Fr.of_below bp (Zh w4))).trans H5.out.2).trans (Fr.of_below bp H6.out.2.1)).trans H7.out.2⟩
 have:=H7.out.1
 rw [H6.out.2.2] at this
 simp only [List.append_assoc] at this ⊢
 exact this
theorem ZhQ (w0 w:World) (bp dp f:Nat) (t:Txt) (vn:Value) (ns:List Nd) (x:NdV×Nd) (h:PrS w0 w bp t dp vn) (hN:Zf w0 vn ns) (hx:Zv w0 x) (ht:ZV w0 2 ZbD) (hE:Zaj w0 ns f) (r:List Int) (j k:Nat) (hk:x.2.kind=22) (hn:x.2.nums=1::r) (hi:x.2.kids[0]? = some (j:Int)) (hjn:j<ns.length) (hv:ZX ns f (Ze ns j)) (hi2:x.2.kids[1]? = some (k:Int)) (hkn:k<ns.length) (hv2:ZX ns f (Ze ns k)) (hl:t.length+(Zu ns (f+1) x.2).length+100<=140737488355328) :
  Calls Tryz.prog 69 #[.pointer (some ⟨bp,0,none⟩),ndX x] w fun e w'=>e=.returned (.tuple #[])/\PrS w0 w' bp (t++Zu ns (f+1) x.2) dp vn/\Fr w w' bp:=by
 have hq:=hx
 obtain ⟨⟨vw,vu,vk⟩,kd,ws,nums,ks,ps⟩:=x
 obtain ⟨hw,hu,hkk⟩:=hx
 dsimp only at hk hn hi hi2 hw hu hkk hl ⊢
 obtain ⟨Aw,cw,rfl,hwl,hwm,hW,hWl⟩:=hw
 obtain ⟨Au,cu,rfl,hul,hum,hU⟩:=hu
 obtain ⟨Ak,ck,rfl,hkl,hkm,hK⟩:=hkk
 subst hk
 have a1:=Zb w (.cells #[.int .i64 22,.slice Aw ws.length cw,.slice Au nums.length cu,.slice Ak ks.length ck,.int .i64 ps] 29)
 have B1:Zm _ _ _ _:=Zm.start w #[.int .i64 22,.slice Aw ws.length cw,.slice Au nums.length cu,.slice Ak ks.length ck,.int .i64 ps] 29
 have p1:=h.keep a1
 obtain ⟨z,hz⟩:∃ z,ns[j]? = some z:=⟨_,List.getElem?_eq_getElem hjn⟩
 obtain ⟨y,hy⟩:∃ y,ns[k]? = some y:=⟨_,List.getElem?_eq_getElem hkn⟩
 have hs:ZO ⟨22,ws,nums,ks,ps⟩=0:=by unfold ZO num;rw [if_pos rfl];dsimp only;rw [hn];rfl
 have hg:num ⟨22,ws,nums,ks,ps⟩ 0=1:=by unfold num;dsimp only;rw [hn];rfl
 have he:Zu ns (f+1) ⟨22,ws,nums,ks,ps⟩=opT ns f z 1++Zaq 1++opT ns f y 1:=by
  rw [<- ZaA (n:=⟨22,ws,nums,ks,ps⟩) hi hz,<- ZaA (n:=⟨22,ws,nums,ks,ps⟩) hi2 hy]
  simp only [Zu,opT,hs,hg]
  rfl
 rw [Zat hz] at hv
 rw [Zat hy] at hv2
 rw [he] at hl ⊢
 simp only [List.length_append] at hl
 have hsl:(Zaq 1).length=4:=rfl
 have hbo:Zci ⟨22,ws,nums,ks,ps⟩:=fun _=>⟨1,r,hn,by omega,by omega⟩
 obtain ⟨c0,c1,c2,c3,c4⟩:=Zg (x:=((.slice Aw ws.length cw,.slice Au nums.length cu,.slice Ak ks.length ck),⟨22,ws,nums,ks,ps⟩)) (B1)
 dsimp only at c0 c1 c2 c3 c4
 generalize hw1:w.alloc (.cells #[.int .i64 22,.slice Aw ws.length cw,.slice Au nums.length cu,.slice Ak ks.length ck,.int .i64 ps] 29)=w1 at *
 have ST:=Lib.hid (Zbc w0 w1 _ hq p1.below hbo)
 rw [hs] at ST
 have HX:=Lib.hid (And.intro a1 (And.intro B1 (And.intro hq (And.intro hN (And.intro hE (And.intro hl (And.intro hsl p1)))))))
 have HI:=Lib.hid (And.intro hi (And.intro hjn (And.intro hz hv)))
 have HJ:=Lib.hid (And.intro hi2 (And.intro hkn (And.intro hy hv2)))
 have HU:=Lib.hid (And.intro hU (And.intro hn ht))
 clear p1 B1 a1 hq hwl hwm hW hWl hul hum hU hkl hkm hK h hl hsl he hi hjn hz hv hi2 hkn hy hv2 hE hN hs hg hbo hn ht
 go_enter Tryz.func69,Tryz.ntmps69
 go_upto_region 11 with (go_at_call 92;(refine ST.out.mono ?_);rintro e w2 ⟨rfl,hb⟩;have HB:=Lib.hid hb;clear hb)
 have K2:=HX.out.2.1.keep HB.out
 have P2:=Lib.hid (HX.out.2.2.2.2.2.2.2.keep HB.out)
 obtain ⟨d0,d1,d2,d3,d4⟩:=Zg (x:=((.slice Aw ws.length cw,.slice Au nums.length cu,.slice Ak ks.length ck),⟨22,ws,nums,ks,ps⟩)) (K2)
 dsimp only at d0 d1 d2 d3 d4
 have KI:=Lib.hid (Zas w0 w2 bp dp _ vn ns _ 0 j ⟨P2.out,HX.out.2.2.2.1⟩ HX.out.2.2.1 HI.out.1 HI.out.2.1)
 have K2w:=K2
 clear K2
 go_upto_region 12 with (first
  | (go_at_call 32;(refine KI.out.mono ?_);rintro e w3 ⟨q,rfl,hy,hy2,hb⟩;have ey:q.2=z:=Option.some.inj (hy.symm.trans HI.out.2.2.1);have H3:=Lib.hid (And.intro hy2 (And.intro hb ey));clear hy hy2 hb ey;have OP:=Lib.hid (ZaB w0 w3 bp dp f 1 _ vn ns q HX.out.2.2.2.2.1 (P2.out.keep H3.out.2.1) HX.out.2.2.2.1 H3.out.1 (H3.out.2.2▸HI.out.2.2.2) (by rw [H3.out.2.2];have:=HX.out.2.2.2.2.2.1;omega)))
  | (go_at_call 91;(refine OP.out.mono ?_);rintro e w4 ⟨rfl,hp,hf⟩;have H4:=Lib.hid (And.intro (show PrS w0 w4 bp (t++opT ns f z 1) dp vn from H3.out.2.2▸hp) hf);clear hp hf))
 have K3:=K2w.keep H3.out.2.1
 have K4:=(H4.out.2.at_ _ _ _ (Za3 (P2.out.keep H3.out.2.1) K3) (by decide) K3).keep (Zh w4)
 obtain ⟨a0,a1,a2,a3,a4⟩:=Zg (x:=((.slice Aw ws.length cw,.slice Au nums.length cu,.slice Ak ks.length ck),⟨22,ws,nums,ks,ps⟩)) (K4)
 dsimp only at a0 a1 a2 a3 a4
 have P4:=Lib.hid (H4.out.1.keep (Zh w4))
 obtain ⟨au,rfl,u0⟩:=Zp (k:=0) (x:=1) HU.out.1 P4.out.below (by rw [HU.out.2.1];rfl) (by rw [HU.out.2.1];exact Nat.succ_pos _)
 have u1:w4.drew.cell? au=some (.int .i64 1):=u0
 have u2:w4.cell? au=some (.int .i64 1):=u0
 have v1:=ZbR HU.out.2.2 P4.out.below 1 (by decide)
 have v2:w4.cell? ⟨2,1,none⟩=some (txt (Zaq 1)):=v1
 have hl2:0<nums.length:=by rw [HU.out.2.1];exact Nat.succ_pos _
 have KS:=Lib.hid K4
 have AD:=Lib.hid (ZH w0 w4.drew bp dp _ vn (Zaq 1) P4.out (by have:=HX.out.2.2.2.2.2.1;simp only [List.length_append];omega))
 clear u0 K3 K4 K2w
 go_region_with (go_at_call 26;(refine AD.out.mono ?_);rintro e w5 ⟨rfl,hp,hf⟩;have H5:=Lib.hid (And.intro hp hf);clear hp hf)
 have K5:=H5.out.2.at_ _ _ _ (Za3 P4.out KS.out) (by decide) KS.out
 obtain ⟨b0,b1,b2,b3,b4⟩:=Zg (x:=((.slice Aw ws.length cw,.slice (some au) nums.length cu,.slice Ak ks.length ck),⟨22,ws,nums,ks,ps⟩)) (K5)
 dsimp only at b0 b1 b2 b3 b4
 have KJ:=Lib.hid (Zas w0 w5 bp dp _ vn ns _ 1 k ⟨H5.out.1,HX.out.2.2.2.1⟩ HX.out.2.2.1 HJ.out.1 HJ.out.2.1)
 have wk:IntKind.i64.wrap (0+1)=1:=by decide
 clear K5
 go_wp2_with (first
  | (go_at_call 32;(refine KJ.out.mono ?_);rintro e w6 ⟨q2,rfl,hy,hy2,hb⟩;have ey:q2.2=y:=Option.some.inj (hy.symm.trans HJ.out.2.2.1);have H6:=Lib.hid (And.intro hy2 (And.intro hb ey));clear hy hy2 hb ey;have OQ:=Lib.hid (ZaB w0 w6 bp dp f 1 _ vn ns q2 HX.out.2.2.2.2.1 (H5.out.1.keep H6.out.2.1) HX.out.2.2.2.1 H6.out.1 (H6.out.2.2▸HJ.out.2.2.2) (by rw [H6.out.2.2];have:=HX.out.2.2.2.2.2.1;simp only [List.length_append];omega)))
  | (go_at_call 91;(refine OQ.out.mono ?_);rintro e w7 ⟨rfl,hp,hf⟩;have H7:=Lib.hid (And.intro hp hf);clear hp hf))
 go_end0
 refine ⟨rfl,?_,(((((((Fr.of_below bp (hw1▸HX.out.1)).trans (Fr.of_below bp HB.out)).trans (Fr.of_below bp H3.out.2.1)).trans H4.out.2).trans (Fr.of_below bp (Zh w4))).trans H5.out.2).trans (Fr.of_below bp H6.out.2.1)).trans H7.out.2⟩
 have:=H7.out.1
 rw [H6.out.2.2] at this
 simp only [List.append_assoc] at this ⊢
 exact this
theorem ZhR (w0 w:World) (bp dp f:Nat) (t:Txt) (vn:Value) (ns:List Nd) (x:NdV×Nd) (h:PrS w0 w bp t dp vn) (hN:Zf w0 vn ns) (hx:Zv w0 x) (ht:ZV w0 2 ZbD) (hE:Zaj w0 ns f) (r:List Int) (j k:Nat) (hk:x.2.kind=22) (hn:x.2.nums=2::r) (hi:x.2.kids[0]? = some (j:Int)) (hjn:j<ns.length) (hv:ZX ns f (Ze ns j)) (hi2:x.2.kids[1]? = some (k:Int)) (hkn:k<ns.length) (hv2:ZX ns f (Ze ns k)) (hl:t.length+(Zu ns (f+1) x.2).length+100<=140737488355328) :
  Calls Tryz.prog 69 #[.pointer (some ⟨bp,0,none⟩),ndX x] w fun e w'=>e=.returned (.tuple #[])/\PrS w0 w' bp (t++Zu ns (f+1) x.2) dp vn/\Fr w w' bp:=by
 have hq:=hx
 obtain ⟨⟨vw,vu,vk⟩,kd,ws,nums,ks,ps⟩:=x
 obtain ⟨hw,hu,hkk⟩:=hx
 dsimp only at hk hn hi hi2 hw hu hkk hl ⊢
 obtain ⟨Aw,cw,rfl,hwl,hwm,hW,hWl⟩:=hw
 obtain ⟨Au,cu,rfl,hul,hum,hU⟩:=hu
 obtain ⟨Ak,ck,rfl,hkl,hkm,hK⟩:=hkk
 subst hk
 have a1:=Zb w (.cells #[.int .i64 22,.slice Aw ws.length cw,.slice Au nums.length cu,.slice Ak ks.length ck,.int .i64 ps] 29)
 have B1:Zm _ _ _ _:=Zm.start w #[.int .i64 22,.slice Aw ws.length cw,.slice Au nums.length cu,.slice Ak ks.length ck,.int .i64 ps] 29
 have p1:=h.keep a1
 obtain ⟨z,hz⟩:∃ z,ns[j]? = some z:=⟨_,List.getElem?_eq_getElem hjn⟩
 obtain ⟨y,hy⟩:∃ y,ns[k]? = some y:=⟨_,List.getElem?_eq_getElem hkn⟩
 have hs:ZO ⟨22,ws,nums,ks,ps⟩=1:=by unfold ZO num;rw [if_pos rfl];dsimp only;rw [hn];rfl
 have hg:num ⟨22,ws,nums,ks,ps⟩ 0=2:=by unfold num;dsimp only;rw [hn];rfl
 have he:Zu ns (f+1) ⟨22,ws,nums,ks,ps⟩=opT ns f z 1++Zaq 2++opT ns f y 2:=by
  rw [<- ZaA (n:=⟨22,ws,nums,ks,ps⟩) hi hz,<- ZaA (n:=⟨22,ws,nums,ks,ps⟩) hi2 hy]
  simp only [Zu,opT,hs,hg]
  rfl
 rw [Zat hz] at hv
 rw [Zat hy] at hv2
 rw [he] at hl ⊢
 simp only [List.length_append] at hl
 have hsl:(Zaq 2).length=3:=rfl
 have hbo:Zci ⟨22,ws,nums,ks,ps⟩:=fun _=>⟨2,r,hn,by omega,by omega⟩
 obtain ⟨c0,c1,c2,c3,c4⟩:=Zg (x:=((.slice Aw ws.length cw,.slice Au nums.length cu,.slice Ak ks.length ck),⟨22,ws,nums,ks,ps⟩)) (B1)
 dsimp only at c0 c1 c2 c3 c4
 generalize hw1:w.alloc (.cells #[.int .i64 22,.slice Aw ws.length cw,.slice Au nums.length cu,.slice Ak ks.length ck,.int .i64 ps] 29)=w1 at *
 have ST:=Lib.hid (Zbc w0 w1 _ hq p1.below hbo)
 rw [hs] at ST
 have HX:=Lib.hid (And.intro a1 (And.intro B1 (And.intro hq (And.intro hN (And.intro hE (And.intro hl (And.intro hsl p1)))))))
 have HI:=Lib.hid (And.intro hi (And.intro hjn (And.intro hz hv)))
 have HJ:=Lib.hid (And.intro hi2 (And.intro hkn (And.intro hy hv2)))
 have HU:=Lib.hid (And.intro hU (And.intro hn ht))
 clear p1 B1 a1 hq hwl hwm hW hWl hul hum hU hkl hkm hK h hl hsl he hi hjn hz hv hi2 hkn hy hv2 hE hN hs hg hbo hn ht
 go_enter Tryz.func69,Tryz.ntmps69
 go_upto_region 11 with (go_at_call 92;(refine ST.out.mono ?_);rintro e w2 ⟨rfl,hb⟩;have HB:=Lib.hid hb;clear hb)
 have K2:=HX.out.2.1.keep HB.out
 have P2:=Lib.hid (HX.out.2.2.2.2.2.2.2.keep HB.out)
 obtain ⟨d0,d1,d2,d3,d4⟩:=Zg (x:=((.slice Aw ws.length cw,.slice Au nums.length cu,.slice Ak ks.length ck),⟨22,ws,nums,ks,ps⟩)) (K2)
 dsimp only at d0 d1 d2 d3 d4
 have KI:=Lib.hid (Zas w0 w2 bp dp _ vn ns _ 0 j ⟨P2.out,HX.out.2.2.2.1⟩ HX.out.2.2.1 HI.out.1 HI.out.2.1)
 have K2w:=K2
 clear K2
 go_upto_region 12 with (first
  | (go_at_call 32;(refine KI.out.mono ?_);rintro e w3 ⟨q,rfl,hy,hy2,hb⟩;have ey:q.2=z:=Option.some.inj (hy.symm.trans HI.out.2.2.1);have H3:=Lib.hid (And.intro hy2 (And.intro hb ey));clear hy hy2 hb ey;have OP:=Lib.hid (ZaB w0 w3 bp dp f 1 _ vn ns q HX.out.2.2.2.2.1 (P2.out.keep H3.out.2.1) HX.out.2.2.2.1 H3.out.1 (H3.out.2.2▸HI.out.2.2.2) (by rw [H3.out.2.2];have:=HX.out.2.2.2.2.2.1;omega)))
  | (go_at_call 91;(refine OP.out.mono ?_);rintro e w4 ⟨rfl,hp,hf⟩;have H4:=Lib.hid (And.intro (show PrS w0 w4 bp (t++opT ns f z 1) dp vn from H3.out.2.2▸hp) hf);clear hp hf))
 have K3:=K2w.keep H3.out.2.1
 have K4:=(H4.out.2.at_ _ _ _ (Za3 (P2.out.keep H3.out.2.1) K3) (by decide) K3).keep (Zh w4)
 obtain ⟨a0,a1,a2,a3,a4⟩:=Zg (x:=((.slice Aw ws.length cw,.slice Au nums.length cu,.slice Ak ks.length ck),⟨22,ws,nums,ks,ps⟩)) (K4)
 dsimp only at a0 a1 a2 a3 a4
 have P4:=Lib.hid (H4.out.1.keep (Zh w4))
 obtain ⟨au,rfl,u0⟩:=Zp (k:=0) (x:=2) HU.out.1 P4.out.below (by rw [HU.out.2.1];rfl) (by rw [HU.out.2.1];exact Nat.succ_pos _)
 have u1:w4.drew.cell? au=some (.int .i64 2):=u0
 have u2:w4.cell? au=some (.int .i64 2):=u0
 have v1:=ZbR HU.out.2.2 P4.out.below 2 (by decide)
 have v2:w4.cell? ⟨2,2,none⟩=some (txt (Zaq 2)):=v1
 have hl2:0<nums.length:=by rw [HU.out.2.1];exact Nat.succ_pos _
 have KS:=Lib.hid K4
 have AD:=Lib.hid (ZH w0 w4.drew bp dp _ vn (Zaq 2) P4.out (by have:=HX.out.2.2.2.2.2.1;simp only [List.length_append];omega))
 clear u0 K3 K4 K2w
 go_region_with (go_at_call 26;(refine AD.out.mono ?_);rintro e w5 ⟨rfl,hp,hf⟩;have H5:=Lib.hid (And.intro hp hf);clear hp hf)
 have K5:=H5.out.2.at_ _ _ _ (Za3 P4.out KS.out) (by decide) KS.out
 obtain ⟨b0,b1,b2,b3,b4⟩:=Zg (x:=((.slice Aw ws.length cw,.slice (some au) nums.length cu,.slice Ak ks.length ck),⟨22,ws,nums,ks,ps⟩)) (K5)
 dsimp only at b0 b1 b2 b3 b4
 have KJ:=Lib.hid (Zas w0 w5 bp dp _ vn ns _ 1 k ⟨H5.out.1,HX.out.2.2.2.1⟩ HX.out.2.2.1 HJ.out.1 HJ.out.2.1)
 have wk:IntKind.i64.wrap (1+1)=2:=by decide
 clear K5
 go_wp2_with (first
  | (go_at_call 32;(refine KJ.out.mono ?_);rintro e w6 ⟨q2,rfl,hy,hy2,hb⟩;have ey:q2.2=y:=Option.some.inj (hy.symm.trans HJ.out.2.2.1);have H6:=Lib.hid (And.intro hy2 (And.intro hb ey));clear hy hy2 hb ey;have OQ:=Lib.hid (ZaB w0 w6 bp dp f 2 _ vn ns q2 HX.out.2.2.2.2.1 (H5.out.1.keep H6.out.2.1) HX.out.2.2.2.1 H6.out.1 (H6.out.2.2▸HJ.out.2.2.2) (by rw [H6.out.2.2];have:=HX.out.2.2.2.2.2.1;simp only [List.length_append];omega)))
  | (go_at_call 91;(refine OQ.out.mono ?_);rintro e w7 ⟨rfl,hp,hf⟩;have H7:=Lib.hid (And.intro hp hf);clear hp hf))
 go_end0
 refine ⟨rfl,?_,(((((((Fr.of_below bp (hw1▸HX.out.1)).trans (Fr.of_below bp HB.out)).trans (Fr.of_below bp H3.out.2.1)).trans H4.out.2).trans (Fr.of_below bp (Zh w4))).trans H5.out.2).trans (Fr.of_below bp H6.out.2.1)).trans H7.out.2⟩
 have:=H7.out.1
 rw [H6.out.2.2] at this
 simp only [List.append_assoc] at this ⊢
 exact this
theorem ZhS (w0 w:World) (bp dp f:Nat) (t:Txt) (vn:Value) (ns:List Nd) (x:NdV×Nd) (h:PrS w0 w bp t dp vn) (hN:Zf w0 vn ns) (hx:Zv w0 x) (ht:ZV w0 2 ZbD) (hE:Zaj w0 ns f) (r:List Int) (j k:Nat) (hk:x.2.kind=22) (hn:x.2.nums=3::r) (hi:x.2.kids[0]? = some (j:Int)) (hjn:j<ns.length) (hv:ZX ns f (Ze ns j)) (hi2:x.2.kids[1]? = some (k:Int)) (hkn:k<ns.length) (hv2:ZX ns f (Ze ns k)) (hl:t.length+(Zu ns (f+1) x.2).length+100<=140737488355328) :
  Calls Tryz.prog 69 #[.pointer (some ⟨bp,0,none⟩),ndX x] w fun e w'=>e=.returned (.tuple #[])/\PrS w0 w' bp (t++Zu ns (f+1) x.2) dp vn/\Fr w w' bp:=by
 have hq:=hx
 obtain ⟨⟨vw,vu,vk⟩,kd,ws,nums,ks,ps⟩:=x
 obtain ⟨hw,hu,hkk⟩:=hx
 dsimp only at hk hn hi hi2 hw hu hkk hl ⊢
 obtain ⟨Aw,cw,rfl,hwl,hwm,hW,hWl⟩:=hw
 obtain ⟨Au,cu,rfl,hul,hum,hU⟩:=hu
 obtain ⟨Ak,ck,rfl,hkl,hkm,hK⟩:=hkk
 subst hk
 have a1:=Zb w (.cells #[.int .i64 22,.slice Aw ws.length cw,.slice Au nums.length cu,.slice Ak ks.length ck,.int .i64 ps] 29)
 have B1:Zm _ _ _ _:=Zm.start w #[.int .i64 22,.slice Aw ws.length cw,.slice Au nums.length cu,.slice Ak ks.length ck,.int .i64 ps] 29
 have p1:=h.keep a1
 obtain ⟨z,hz⟩:∃ z,ns[j]? = some z:=⟨_,List.getElem?_eq_getElem hjn⟩
 obtain ⟨y,hy⟩:∃ y,ns[k]? = some y:=⟨_,List.getElem?_eq_getElem hkn⟩
 have hs:ZO ⟨22,ws,nums,ks,ps⟩=1:=by unfold ZO num;rw [if_pos rfl];dsimp only;rw [hn];rfl
 have hg:num ⟨22,ws,nums,ks,ps⟩ 0=3:=by unfold num;dsimp only;rw [hn];rfl
 have he:Zu ns (f+1) ⟨22,ws,nums,ks,ps⟩=opT ns f z 1++Zaq 3++opT ns f y 2:=by
  rw [<- ZaA (n:=⟨22,ws,nums,ks,ps⟩) hi hz,<- ZaA (n:=⟨22,ws,nums,ks,ps⟩) hi2 hy]
  simp only [Zu,opT,hs,hg]
  rfl
 rw [Zat hz] at hv
 rw [Zat hy] at hv2
 rw [he] at hl ⊢
 simp only [List.length_append] at hl
 have hsl:(Zaq 3).length=3:=rfl
 have hbo:Zci ⟨22,ws,nums,ks,ps⟩:=fun _=>⟨3,r,hn,by omega,by omega⟩
 obtain ⟨c0,c1,c2,c3,c4⟩:=Zg (x:=((.slice Aw ws.length cw,.slice Au nums.length cu,.slice Ak ks.length ck),⟨22,ws,nums,ks,ps⟩)) (B1)
 dsimp only at c0 c1 c2 c3 c4
 generalize hw1:w.alloc (.cells #[.int .i64 22,.slice Aw ws.length cw,.slice Au nums.length cu,.slice Ak ks.length ck,.int .i64 ps] 29)=w1 at *
 have ST:=Lib.hid (Zbc w0 w1 _ hq p1.below hbo)
 rw [hs] at ST
 have HX:=Lib.hid (And.intro a1 (And.intro B1 (And.intro hq (And.intro hN (And.intro hE (And.intro hl (And.intro hsl p1)))))))
 have HI:=Lib.hid (And.intro hi (And.intro hjn (And.intro hz hv)))
 have HJ:=Lib.hid (And.intro hi2 (And.intro hkn (And.intro hy hv2)))
 have HU:=Lib.hid (And.intro hU (And.intro hn ht))
 clear p1 B1 a1 hq hwl hwm hW hWl hul hum hU hkl hkm hK h hl hsl he hi hjn hz hv hi2 hkn hy hv2 hE hN hs hg hbo hn ht
 go_enter Tryz.func69,Tryz.ntmps69
 go_upto_region 11 with (go_at_call 92;(refine ST.out.mono ?_);rintro e w2 ⟨rfl,hb⟩;have HB:=Lib.hid hb;clear hb)
 have K2:=HX.out.2.1.keep HB.out
 have P2:=Lib.hid (HX.out.2.2.2.2.2.2.2.keep HB.out)
 obtain ⟨d0,d1,d2,d3,d4⟩:=Zg (x:=((.slice Aw ws.length cw,.slice Au nums.length cu,.slice Ak ks.length ck),⟨22,ws,nums,ks,ps⟩)) (K2)
 dsimp only at d0 d1 d2 d3 d4
 have KI:=Lib.hid (Zas w0 w2 bp dp _ vn ns _ 0 j ⟨P2.out,HX.out.2.2.2.1⟩ HX.out.2.2.1 HI.out.1 HI.out.2.1)
 have K2w:=K2
 clear K2
 go_upto_region 12 with (first
  | (go_at_call 32;(refine KI.out.mono ?_);rintro e w3 ⟨q,rfl,hy,hy2,hb⟩;have ey:q.2=z:=Option.some.inj (hy.symm.trans HI.out.2.2.1);have H3:=Lib.hid (And.intro hy2 (And.intro hb ey));clear hy hy2 hb ey;have OP:=Lib.hid (ZaB w0 w3 bp dp f 1 _ vn ns q HX.out.2.2.2.2.1 (P2.out.keep H3.out.2.1) HX.out.2.2.2.1 H3.out.1 (H3.out.2.2▸HI.out.2.2.2) (by rw [H3.out.2.2];have:=HX.out.2.2.2.2.2.1;omega)))
  | (go_at_call 91;(refine OP.out.mono ?_);rintro e w4 ⟨rfl,hp,hf⟩;have H4:=Lib.hid (And.intro (show PrS w0 w4 bp (t++opT ns f z 1) dp vn from H3.out.2.2▸hp) hf);clear hp hf))
 have K3:=K2w.keep H3.out.2.1
 have K4:=(H4.out.2.at_ _ _ _ (Za3 (P2.out.keep H3.out.2.1) K3) (by decide) K3).keep (Zh w4)
 obtain ⟨a0,a1,a2,a3,a4⟩:=Zg (x:=((.slice Aw ws.length cw,.slice Au nums.length cu,.slice Ak ks.length ck),⟨22,ws,nums,ks,ps⟩)) (K4)
 dsimp only at a0 a1 a2 a3 a4
 have P4:=Lib.hid (H4.out.1.keep (Zh w4))
 obtain ⟨au,rfl,u0⟩:=Zp (k:=0) (x:=3) HU.out.1 P4.out.below (by rw [HU.out.2.1];rfl) (by rw [HU.out.2.1];exact Nat.succ_pos _)
 have u1:w4.drew.cell? au=some (.int .i64 3):=u0
 have u2:w4.cell? au=some (.int .i64 3):=u0
 have v1:=ZbR HU.out.2.2 P4.out.below 3 (by decide)
 have v2:w4.cell? ⟨2,3,none⟩=some (txt (Zaq 3)):=v1
 have hl2:0<nums.length:=by rw [HU.out.2.1];exact Nat.succ_pos _
 have KS:=Lib.hid K4
 have AD:=Lib.hid (ZH w0 w4.drew bp dp _ vn (Zaq 3) P4.out (by have:=HX.out.2.2.2.2.2.1;simp only [List.length_append];omega))
 clear u0 K3 K4 K2w
 go_region_with (go_at_call 26;(refine AD.out.mono ?_);rintro e w5 ⟨rfl,hp,hf⟩;have H5:=Lib.hid (And.intro hp hf);clear hp hf)
 have K5:=H5.out.2.at_ _ _ _ (Za3 P4.out KS.out) (by decide) KS.out
 obtain ⟨b0,b1,b2,b3,b4⟩:=Zg (x:=((.slice Aw ws.length cw,.slice (some au) nums.length cu,.slice Ak ks.length ck),⟨22,ws,nums,ks,ps⟩)) (K5)
 dsimp only at b0 b1 b2 b3 b4
 have KJ:=Lib.hid (Zas w0 w5 bp dp _ vn ns _ 1 k ⟨H5.out.1,HX.out.2.2.2.1⟩ HX.out.2.2.1 HJ.out.1 HJ.out.2.1)
 have wk:IntKind.i64.wrap (1+1)=2:=by decide
 clear K5
 go_wp2_with (first
  | (go_at_call 32;(refine KJ.out.mono ?_);rintro e w6 ⟨q2,rfl,hy,hy2,hb⟩;have ey:q2.2=y:=Option.some.inj (hy.symm.trans HJ.out.2.2.1);have H6:=Lib.hid (And.intro hy2 (And.intro hb ey));clear hy hy2 hb ey;have OQ:=Lib.hid (ZaB w0 w6 bp dp f 2 _ vn ns q2 HX.out.2.2.2.2.1 (H5.out.1.keep H6.out.2.1) HX.out.2.2.2.1 H6.out.1 (H6.out.2.2▸HJ.out.2.2.2) (by rw [H6.out.2.2];have:=HX.out.2.2.2.2.2.1;simp only [List.length_append];omega)))
  | (go_at_call 91;(refine OQ.out.mono ?_);rintro e w7 ⟨rfl,hp,hf⟩;have H7:=Lib.hid (And.intro hp hf);clear hp hf))
 go_end0
 refine ⟨rfl,?_,(((((((Fr.of_below bp (hw1▸HX.out.1)).trans (Fr.of_below bp HB.out)).trans (Fr.of_below bp H3.out.2.1)).trans H4.out.2).trans (Fr.of_below bp (Zh w4))).trans H5.out.2).trans (Fr.of_below bp H6.out.2.1)).trans H7.out.2⟩
 have:=H7.out.1
 rw [H6.out.2.2] at this
 simp only [List.append_assoc] at this ⊢
 exact this
theorem ZhT (w0 w:World) (bp dp f:Nat) (t:Txt) (vn:Value) (ns:List Nd) (x:NdV×Nd) (h:PrS w0 w bp t dp vn) (hN:Zf w0 vn ns) (hx:Zv w0 x) (ht:ZV w0 2 ZbD) (hE:Zaj w0 ns f) (r:List Int) (j k:Nat) (hk:x.2.kind=22) (hn:x.2.nums=4::r) (hi:x.2.kids[0]? = some (j:Int)) (hjn:j<ns.length) (hv:ZX ns f (Ze ns j)) (hi2:x.2.kids[1]? = some (k:Int)) (hkn:k<ns.length) (hv2:ZX ns f (Ze ns k)) (hl:t.length+(Zu ns (f+1) x.2).length+100<=140737488355328) :
  Calls Tryz.prog 69 #[.pointer (some ⟨bp,0,none⟩),ndX x] w fun e w'=>e=.returned (.tuple #[])/\PrS w0 w' bp (t++Zu ns (f+1) x.2) dp vn/\Fr w w' bp:=by
 have hq:=hx
 obtain ⟨⟨vw,vu,vk⟩,kd,ws,nums,ks,ps⟩:=x
 obtain ⟨hw,hu,hkk⟩:=hx
 dsimp only at hk hn hi hi2 hw hu hkk hl ⊢
 obtain ⟨Aw,cw,rfl,hwl,hwm,hW,hWl⟩:=hw
 obtain ⟨Au,cu,rfl,hul,hum,hU⟩:=hu
 obtain ⟨Ak,ck,rfl,hkl,hkm,hK⟩:=hkk
 subst hk
 have a1:=Zb w (.cells #[.int .i64 22,.slice Aw ws.length cw,.slice Au nums.length cu,.slice Ak ks.length ck,.int .i64 ps] 29)
 have B1:Zm _ _ _ _:=Zm.start w #[.int .i64 22,.slice Aw ws.length cw,.slice Au nums.length cu,.slice Ak ks.length ck,.int .i64 ps] 29
 have p1:=h.keep a1
 obtain ⟨z,hz⟩:∃ z,ns[j]? = some z:=⟨_,List.getElem?_eq_getElem hjn⟩
 obtain ⟨y,hy⟩:∃ y,ns[k]? = some y:=⟨_,List.getElem?_eq_getElem hkn⟩
 have hs:ZO ⟨22,ws,nums,ks,ps⟩=2:=by unfold ZO num;rw [if_pos rfl];dsimp only;rw [hn];rfl
 have hg:num ⟨22,ws,nums,ks,ps⟩ 0=4:=by unfold num;dsimp only;rw [hn];rfl
 have he:Zu ns (f+1) ⟨22,ws,nums,ks,ps⟩=opT ns f z 2++Zaq 4++opT ns f y 3:=by
  rw [<- ZaA (n:=⟨22,ws,nums,ks,ps⟩) hi hz,<- ZaA (n:=⟨22,ws,nums,ks,ps⟩) hi2 hy]
  simp only [Zu,opT,hs,hg]
  rfl
 rw [Zat hz] at hv
 rw [Zat hy] at hv2
 rw [he] at hl ⊢
 simp only [List.length_append] at hl
 have hsl:(Zaq 4).length=3:=rfl
 have hbo:Zci ⟨22,ws,nums,ks,ps⟩:=fun _=>⟨4,r,hn,by omega,by omega⟩
 obtain ⟨c0,c1,c2,c3,c4⟩:=Zg (x:=((.slice Aw ws.length cw,.slice Au nums.length cu,.slice Ak ks.length ck),⟨22,ws,nums,ks,ps⟩)) (B1)
 dsimp only at c0 c1 c2 c3 c4
 generalize hw1:w.alloc (.cells #[.int .i64 22,.slice Aw ws.length cw,.slice Au nums.length cu,.slice Ak ks.length ck,.int .i64 ps] 29)=w1 at *
 have ST:=Lib.hid (Zbc w0 w1 _ hq p1.below hbo)
 rw [hs] at ST
 have HX:=Lib.hid (And.intro a1 (And.intro B1 (And.intro hq (And.intro hN (And.intro hE (And.intro hl (And.intro hsl p1)))))))
 have HI:=Lib.hid (And.intro hi (And.intro hjn (And.intro hz hv)))
 have HJ:=Lib.hid (And.intro hi2 (And.intro hkn (And.intro hy hv2)))
 have HU:=Lib.hid (And.intro hU (And.intro hn ht))
 clear p1 B1 a1 hq hwl hwm hW hWl hul hum hU hkl hkm hK h hl hsl he hi hjn hz hv hi2 hkn hy hv2 hE hN hs hg hbo hn ht
 go_enter Tryz.func69,Tryz.ntmps69
 go_upto_region 11 with (go_at_call 92;(refine ST.out.mono ?_);rintro e w2 ⟨rfl,hb⟩;have HB:=Lib.hid hb;clear hb)
 have K2:=HX.out.2.1.keep HB.out
 have P2:=Lib.hid (HX.out.2.2.2.2.2.2.2.keep HB.out)
 obtain ⟨d0,d1,d2,d3,d4⟩:=Zg (x:=((.slice Aw ws.length cw,.slice Au nums.length cu,.slice Ak ks.length ck),⟨22,ws,nums,ks,ps⟩)) (K2)
 dsimp only at d0 d1 d2 d3 d4
 have KI:=Lib.hid (Zas w0 w2 bp dp _ vn ns _ 0 j ⟨P2.out,HX.out.2.2.2.1⟩ HX.out.2.2.1 HI.out.1 HI.out.2.1)
 have K2w:=K2
 clear K2
 go_upto_region 12 with (first
  | (go_at_call 32;(refine KI.out.mono ?_);rintro e w3 ⟨q,rfl,hy,hy2,hb⟩;have ey:q.2=z:=Option.some.inj (hy.symm.trans HI.out.2.2.1);have H3:=Lib.hid (And.intro hy2 (And.intro hb ey));clear hy hy2 hb ey;have OP:=Lib.hid (ZaB w0 w3 bp dp f 2 _ vn ns q HX.out.2.2.2.2.1 (P2.out.keep H3.out.2.1) HX.out.2.2.2.1 H3.out.1 (H3.out.2.2▸HI.out.2.2.2) (by rw [H3.out.2.2];have:=HX.out.2.2.2.2.2.1;omega)))
  | (go_at_call 91;(refine OP.out.mono ?_);rintro e w4 ⟨rfl,hp,hf⟩;have H4:=Lib.hid (And.intro (show PrS w0 w4 bp (t++opT ns f z 2) dp vn from H3.out.2.2▸hp) hf);clear hp hf))
 have K3:=K2w.keep H3.out.2.1
 have K4:=(H4.out.2.at_ _ _ _ (Za3 (P2.out.keep H3.out.2.1) K3) (by decide) K3).keep (Zh w4)
 obtain ⟨a0,a1,a2,a3,a4⟩:=Zg (x:=((.slice Aw ws.length cw,.slice Au nums.length cu,.slice Ak ks.length ck),⟨22,ws,nums,ks,ps⟩)) (K4)
 dsimp only at a0 a1 a2 a3 a4
 have P4:=Lib.hid (H4.out.1.keep (Zh w4))
 obtain ⟨au,rfl,u0⟩:=Zp (k:=0) (x:=4) HU.out.1 P4.out.below (by rw [HU.out.2.1];rfl) (by rw [HU.out.2.1];exact Nat.succ_pos _)
 have u1:w4.drew.cell? au=some (.int .i64 4):=u0
 have u2:w4.cell? au=some (.int .i64 4):=u0
 have v1:=ZbR HU.out.2.2 P4.out.below 4 (by decide)
 have v2:w4.cell? ⟨2,4,none⟩=some (txt (Zaq 4)):=v1
 have hl2:0<nums.length:=by rw [HU.out.2.1];exact Nat.succ_pos _
 have KS:=Lib.hid K4
 have AD:=Lib.hid (ZH w0 w4.drew bp dp _ vn (Zaq 4) P4.out (by have:=HX.out.2.2.2.2.2.1;simp only [List.length_append];omega))
 clear u0 K3 K4 K2w
 go_region_with (go_at_call 26;(refine AD.out.mono ?_);rintro e w5 ⟨rfl,hp,hf⟩;have H5:=Lib.hid (And.intro hp hf);clear hp hf)
 have K5:=H5.out.2.at_ _ _ _ (Za3 P4.out KS.out) (by decide) KS.out
 obtain ⟨b0,b1,b2,b3,b4⟩:=Zg (x:=((.slice Aw ws.length cw,.slice (some au) nums.length cu,.slice Ak ks.length ck),⟨22,ws,nums,ks,ps⟩)) (K5)
 dsimp only at b0 b1 b2 b3 b4
 have KJ:=Lib.hid (Zas w0 w5 bp dp _ vn ns _ 1 k ⟨H5.out.1,HX.out.2.2.2.1⟩ HX.out.2.2.1 HJ.out.1 HJ.out.2.1)
 have wk:IntKind.i64.wrap (2+1)=3:=by decide
 clear K5
 go_wp2_with (first
  | (go_at_call 32;(refine KJ.out.mono ?_);rintro e w6 ⟨q2,rfl,hy,hy2,hb⟩;have ey:q2.2=y:=Option.some.inj (hy.symm.trans HJ.out.2.2.1);have H6:=Lib.hid (And.intro hy2 (And.intro hb ey));clear hy hy2 hb ey;have OQ:=Lib.hid (ZaB w0 w6 bp dp f 3 _ vn ns q2 HX.out.2.2.2.2.1 (H5.out.1.keep H6.out.2.1) HX.out.2.2.2.1 H6.out.1 (H6.out.2.2▸HJ.out.2.2.2) (by rw [H6.out.2.2];have:=HX.out.2.2.2.2.2.1;simp only [List.length_append];omega)))
  | (go_at_call 91;(refine OQ.out.mono ?_);rintro e w7 ⟨rfl,hp,hf⟩;have H7:=Lib.hid (And.intro hp hf);clear hp hf))
 go_end0
 refine ⟨rfl,?_,(((((((Fr.of_below bp (hw1▸HX.out.1)).trans (Fr.of_below bp HB.out)).trans (Fr.of_below bp H3.out.2.1)).trans H4.out.2).trans (Fr.of_below bp (Zh w4))).trans H5.out.2).trans (Fr.of_below bp H6.out.2.1)).trans H7.out.2⟩
 have:=H7.out.1
 rw [H6.out.2.2] at this
 simp only [List.append_assoc] at this ⊢
 exact this
theorem ZhU (w0 w:World) (bp dp f:Nat) (t:Txt) (vn:Value) (ns:List Nd) (x:NdV×Nd) (h:PrS w0 w bp t dp vn) (hN:Zf w0 vn ns) (hx:Zv w0 x) (ht:ZV w0 2 ZbD) (hE:Zaj w0 ns f) (r:List Int) (j k:Nat) (hk:x.2.kind=22) (hn:x.2.nums=5::r) (hi:x.2.kids[0]? = some (j:Int)) (hjn:j<ns.length) (hv:ZX ns f (Ze ns j)) (hi2:x.2.kids[1]? = some (k:Int)) (hkn:k<ns.length) (hv2:ZX ns f (Ze ns k)) (hl:t.length+(Zu ns (f+1) x.2).length+100<=140737488355328) :
  Calls Tryz.prog 69 #[.pointer (some ⟨bp,0,none⟩),ndX x] w fun e w'=>e=.returned (.tuple #[])/\PrS w0 w' bp (t++Zu ns (f+1) x.2) dp vn/\Fr w w' bp:=by
 have hq:=hx
 obtain ⟨⟨vw,vu,vk⟩,kd,ws,nums,ks,ps⟩:=x
 obtain ⟨hw,hu,hkk⟩:=hx
 dsimp only at hk hn hi hi2 hw hu hkk hl ⊢
 obtain ⟨Aw,cw,rfl,hwl,hwm,hW,hWl⟩:=hw
 obtain ⟨Au,cu,rfl,hul,hum,hU⟩:=hu
 obtain ⟨Ak,ck,rfl,hkl,hkm,hK⟩:=hkk
 subst hk
 have a1:=Zb w (.cells #[.int .i64 22,.slice Aw ws.length cw,.slice Au nums.length cu,.slice Ak ks.length ck,.int .i64 ps] 29)
 have B1:Zm _ _ _ _:=Zm.start w #[.int .i64 22,.slice Aw ws.length cw,.slice Au nums.length cu,.slice Ak ks.length ck,.int .i64 ps] 29
 have p1:=h.keep a1
 obtain ⟨z,hz⟩:∃ z,ns[j]? = some z:=⟨_,List.getElem?_eq_getElem hjn⟩
 obtain ⟨y,hy⟩:∃ y,ns[k]? = some y:=⟨_,List.getElem?_eq_getElem hkn⟩
 have hs:ZO ⟨22,ws,nums,ks,ps⟩=2:=by unfold ZO num;rw [if_pos rfl];dsimp only;rw [hn];rfl
 have hg:num ⟨22,ws,nums,ks,ps⟩ 0=5:=by unfold num;dsimp only;rw [hn];rfl
 have he:Zu ns (f+1) ⟨22,ws,nums,ks,ps⟩=opT ns f z 2++Zaq 5++opT ns f y 3:=by
  rw [<- ZaA (n:=⟨22,ws,nums,ks,ps⟩) hi hz,<- ZaA (n:=⟨22,ws,nums,ks,ps⟩) hi2 hy]
  simp only [Zu,opT,hs,hg]
  rfl
 rw [Zat hz] at hv
 rw [Zat hy] at hv2
 rw [he] at hl ⊢
 simp only [List.length_append] at hl
 have hsl:(Zaq 5).length=3:=rfl
 have hbo:Zci ⟨22,ws,nums,ks,ps⟩:=fun _=>⟨5,r,hn,by omega,by omega⟩
 obtain ⟨c0,c1,c2,c3,c4⟩:=Zg (x:=((.slice Aw ws.length cw,.slice Au nums.length cu,.slice Ak ks.length ck),⟨22,ws,nums,ks,ps⟩)) (B1)
 dsimp only at c0 c1 c2 c3 c4
 generalize hw1:w.alloc (.cells #[.int .i64 22,.slice Aw ws.length cw,.slice Au nums.length cu,.slice Ak ks.length ck,.int .i64 ps] 29)=w1 at *
 have ST:=Lib.hid (Zbc w0 w1 _ hq p1.below hbo)
 rw [hs] at ST
 have HX:=Lib.hid (And.intro a1 (And.intro B1 (And.intro hq (And.intro hN (And.intro hE (And.intro hl (And.intro hsl p1)))))))
 have HI:=Lib.hid (And.intro hi (And.intro hjn (And.intro hz hv)))
 have HJ:=Lib.hid (And.intro hi2 (And.intro hkn (And.intro hy hv2)))
 have HU:=Lib.hid (And.intro hU (And.intro hn ht))
 clear p1 B1 a1 hq hwl hwm hW hWl hul hum hU hkl hkm hK h hl hsl he hi hjn hz hv hi2 hkn hy hv2 hE hN hs hg hbo hn ht
 go_enter Tryz.func69,Tryz.ntmps69
 go_upto_region 11 with (go_at_call 92;(refine ST.out.mono ?_);rintro e w2 ⟨rfl,hb⟩;have HB:=Lib.hid hb;clear hb)
 have K2:=HX.out.2.1.keep HB.out
 have P2:=Lib.hid (HX.out.2.2.2.2.2.2.2.keep HB.out)
 obtain ⟨d0,d1,d2,d3,d4⟩:=Zg (x:=((.slice Aw ws.length cw,.slice Au nums.length cu,.slice Ak ks.length ck),⟨22,ws,nums,ks,ps⟩)) (K2)
 dsimp only at d0 d1 d2 d3 d4
 have KI:=Lib.hid (Zas w0 w2 bp dp _ vn ns _ 0 j ⟨P2.out,HX.out.2.2.2.1⟩ HX.out.2.2.1 HI.out.1 HI.out.2.1)
 have K2w:=K2
 clear K2
 go_upto_region 12 with (first
  | (go_at_call 32;(refine KI.out.mono ?_);rintro e w3 ⟨q,rfl,hy,hy2,hb⟩;have ey:q.2=z:=Option.some.inj (hy.symm.trans HI.out.2.2.1);have H3:=Lib.hid (And.intro hy2 (And.intro hb ey));clear hy hy2 hb ey;have OP:=Lib.hid (ZaB w0 w3 bp dp f 2 _ vn ns q HX.out.2.2.2.2.1 (P2.out.keep H3.out.2.1) HX.out.2.2.2.1 H3.out.1 (H3.out.2.2▸HI.out.2.2.2) (by rw [H3.out.2.2];have:=HX.out.2.2.2.2.2.1;omega)))
  | (go_at_call 91;(refine OP.out.mono ?_);rintro e w4 ⟨rfl,hp,hf⟩;have H4:=Lib.hid (And.intro (show PrS w0 w4 bp (t++opT ns f z 2) dp vn from H3.out.2.2▸hp) hf);clear hp hf))
 have K3:=K2w.keep H3.out.2.1
 have K4:=(H4.out.2.at_ _ _ _ (Za3 (P2.out.keep H3.out.2.1) K3) (by decide) K3).keep (Zh w4)
 obtain ⟨a0,a1,a2,a3,a4⟩:=Zg (x:=((.slice Aw ws.length cw,.slice Au nums.length cu,.slice Ak ks.length ck),⟨22,ws,nums,ks,ps⟩)) (K4)
 dsimp only at a0 a1 a2 a3 a4
 have P4:=Lib.hid (H4.out.1.keep (Zh w4))
 obtain ⟨au,rfl,u0⟩:=Zp (k:=0) (x:=5) HU.out.1 P4.out.below (by rw [HU.out.2.1];rfl) (by rw [HU.out.2.1];exact Nat.succ_pos _)
 have u1:w4.drew.cell? au=some (.int .i64 5):=u0
 have u2:w4.cell? au=some (.int .i64 5):=u0
 have v1:=ZbR HU.out.2.2 P4.out.below 5 (by decide)
 have v2:w4.cell? ⟨2,5,none⟩=some (txt (Zaq 5)):=v1
 have hl2:0<nums.length:=by rw [HU.out.2.1];exact Nat.succ_pos _
 have KS:=Lib.hid K4
 have AD:=Lib.hid (ZH w0 w4.drew bp dp _ vn (Zaq 5) P4.out (by have:=HX.out.2.2.2.2.2.1;simp only [List.length_append];omega))
 clear u0 K3 K4 K2w
 go_region_with (go_at_call 26;(refine AD.out.mono ?_);rintro e w5 ⟨rfl,hp,hf⟩;have H5:=Lib.hid (And.intro hp hf);clear hp hf)
 have K5:=H5.out.2.at_ _ _ _ (Za3 P4.out KS.out) (by decide) KS.out
 obtain ⟨b0,b1,b2,b3,b4⟩:=Zg (x:=((.slice Aw ws.length cw,.slice (some au) nums.length cu,.slice Ak ks.length ck),⟨22,ws,nums,ks,ps⟩)) (K5)
 dsimp only at b0 b1 b2 b3 b4
 have KJ:=Lib.hid (Zas w0 w5 bp dp _ vn ns _ 1 k ⟨H5.out.1,HX.out.2.2.2.1⟩ HX.out.2.2.1 HJ.out.1 HJ.out.2.1)
 have wk:IntKind.i64.wrap (2+1)=3:=by decide
 clear K5
 go_wp2_with (first
  | (go_at_call 32;(refine KJ.out.mono ?_);rintro e w6 ⟨q2,rfl,hy,hy2,hb⟩;have ey:q2.2=y:=Option.some.inj (hy.symm.trans HJ.out.2.2.1);have H6:=Lib.hid (And.intro hy2 (And.intro hb ey));clear hy hy2 hb ey;have OQ:=Lib.hid (ZaB w0 w6 bp dp f 3 _ vn ns q2 HX.out.2.2.2.2.1 (H5.out.1.keep H6.out.2.1) HX.out.2.2.2.1 H6.out.1 (H6.out.2.2▸HJ.out.2.2.2) (by rw [H6.out.2.2];have:=HX.out.2.2.2.2.2.1;simp only [List.length_append];omega)))
  | (go_at_call 91;(refine OQ.out.mono ?_);rintro e w7 ⟨rfl,hp,hf⟩;have H7:=Lib.hid (And.intro hp hf);clear hp hf))
 go_end0
 refine ⟨rfl,?_,(((((((Fr.of_below bp (hw1▸HX.out.1)).trans (Fr.of_below bp HB.out)).trans (Fr.of_below bp H3.out.2.1)).trans H4.out.2).trans (Fr.of_below bp (Zh w4))).trans H5.out.2).trans (Fr.of_below bp H6.out.2.1)).trans H7.out.2⟩
 have:=H7.out.1
 rw [H6.out.2.2] at this
 simp only [List.append_assoc] at this ⊢
 exact this
theorem ZiU (w0:World) (ns:List Nd) (ht:Zb7 w0 w0) (hs:ZV w0 2 ZbD):∀ f,Zaj w0 ns f:=by
 intro f
 induction f with
 | zero=>intro w bp dp t vn x h hN hx hv _;exact hv.elim
 | succ f ih=>
  intro w bp dp t vn x h hN hx hv hl
  obtain ⟨hb,hv⟩:=hv
  rcases hv with ⟨hk,v,r,hn,hv⟩ | ⟨hk,s,r,hn⟩ | ⟨hk,k,hi,hkn,hv⟩ | ⟨hk,j,k,hi,hjn,hv,hi2,hkn,hv2⟩
  ·exact ZiW w0 w bp dp f t vn ns x h hx ht v r hk hn hv hl
  ·exact ZiX w0 w bp dp f t vn ns x h hx s r hk hn hl
  ·exact ZiV w0 w bp dp f t vn ns x h hN hx ih k hk hi hkn hv hl
  ·obtain ⟨g,r,hn,h0,h5⟩:=hb hk
   have:g=0\/g=1\/g=2\/g=3\/g=4\/g=5:=by omega
   rcases this with rfl | rfl | rfl | rfl | rfl | rfl
   ·exact ZhP w0 w bp dp f t vn ns x h hN hx hs ih r j k hk hn hi hjn hv hi2 hkn hv2 hl
   ·exact ZhQ w0 w bp dp f t vn ns x h hN hx hs ih r j k hk hn hi hjn hv hi2 hkn hv2 hl
   ·exact ZhR w0 w bp dp f t vn ns x h hN hx hs ih r j k hk hn hi hjn hv hi2 hkn hv2 hl
   ·exact ZhS w0 w bp dp f t vn ns x h hN hx hs ih r j k hk hn hi hjn hv hi2 hkn hv2 hl
   ·exact ZhT w0 w bp dp f t vn ns x h hN hx hs ih r j k hk hn hi hjn hv hi2 hkn hv2 hl
   ·exact ZhU w0 w bp dp f t vn ns x h hN hx hs ih r j k hk hn hi hjn hv hi2 hkn hv2 hl
end
end Go.Proofs.YtenbomphkihmlaaGreatDoor
