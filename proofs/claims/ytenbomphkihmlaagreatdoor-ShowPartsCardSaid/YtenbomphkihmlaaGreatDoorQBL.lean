import Derived.Test.YtenbomphkihmlaaGreatDoorQBJ
set_option maxRecDepth 100000
set_option maxHeartbeats 8000000
namespace Go.Proofs.YtenbomphkihmlaaGreatDoor
section
open Go.RowKit
theorem Zha (w0 w:World) (bp dp:Nat) (t:Txt) (vn:Value) (x:NdV×Nd) (h:PrS w0 w bp t dp vn) (hx:Zv w0 x) (ht:ZV w0 1 ZaN) (r:List Int) (hn:x.2.nums=1::r) (hw0:0<x.2.words.length) (hl:t.length+(Zai x.2).length+100<=140737488355328) :
  Calls Tryz.prog 46 #[.pointer (some ⟨bp,0,none⟩),ndX x] w fun e w'=>e=.returned (.tuple #[])/\PrS w0 w' bp (t++Zai x.2) dp vn/\Fr w w' bp:=by
 have hq:=hx
 obtain ⟨⟨vw,vu,vk⟩,kd,ws,nums,ks,ps⟩:=x
 obtain ⟨hw,hu,hkk⟩:=hx
 dsimp only at hn hw0 hw hu hkk hl ⊢
 obtain ⟨Aw,cw,rfl,hwl,hwm,hW,hWl⟩:=hw
 obtain ⟨Au,cu,rfl,hul,hum,hU⟩:=hu
 obtain ⟨Ak,ck,rfl,hkl,hkm,hK⟩:=hkk
 have a1:=Zb w (.cells #[.int .i64 kd,.slice Aw ws.length cw,.slice Au nums.length cu,.slice Ak ks.length ck,.int .i64 ps] 29)
 have B1:Zm _ _ _ _:=Zm.start w #[.int .i64 kd,.slice Aw ws.length cw,.slice Au nums.length cu,.slice Ak ks.length ck,.int .i64 ps] 29
 have p1:=h.keep a1
 have he:Zai ⟨kd,ws,nums,ks,ps⟩=Zbd 1++ZS [124] ws:=by
  unfold Zai num
  dsimp only
  rw [hn]
  rfl
 rw [he] at hl ⊢
 simp only [List.length_append] at hl
 have hwc:ws.length<=140737488355328:=by have:=ZdZ [124] (by decide) ws;omega
 generalize hw1:w.alloc (.cells #[.int .i64 kd,.slice Aw ws.length cw,.slice Au nums.length cu,.slice Ak ks.length ck,.int .i64 ps] 29)=w1 at *
 have P1:=Lib.hid (p1.keep (Zh w1))
 have JN:=Lib.hid (ZdT w0 w1.drew Aw cw ws hW hw0 hwc hwl P1.out.below (by omega))
 obtain ⟨au,rfl,u0⟩:=Zey (x:=1) hU (by rw [hn];rfl) (by rw [hn];exact Nat.succ_pos _)
 have u1:w1.drew.cell? au=some (.int .i64 1):=u0 _ P1.out.below
 have v1:w1.drew.cell? ⟨1,1,none⟩=some (txt (Zbd 1)):=ZbM (k:=1) ht P1.out.below rfl
 have hl2:0<nums.length:=by rw [hn];exact Nat.succ_pos _
 obtain ⟨d0,d1,d2,d3,d4⟩:=Zg (x:=((.slice Aw ws.length cw,.slice (some au) nums.length cu,.slice Ak ks.length ck),⟨kd,ws,nums,ks,ps⟩)) (B1.keep (Zh w1))
 dsimp only at d0 d1 d2 d3 d4
 have HX:=Lib.hid (And.intro a1 (And.intro (B1.keep (Zh w1)) (And.intro hl (And.intro u0 ht))))
 clear p1 B1 a1 hq hwl hwm hW hWl hul hum hU hkl hkm hK h hl he u0 hn ht hwc hw0
 go_enter Tryz.func46,Tryz.ntmps46
 go_upto_region 1 with fail
 go_region_with (first
  | (go_at_call 63;(refine JN.out.mono ?_);rintro e w3 ⟨rfl,hb⟩;have HB:=Lib.hid hb;clear hb;obtain ⟨b0,b1,b2,b3,b4⟩:=Zg (x:=((.slice Aw ws.length cw,.slice (some au) nums.length cu,.slice Ak ks.length ck),⟨kd,ws,nums,ks,ps⟩)) (HX.out.2.1.keep HB.out);dsimp only at b0 b1 b2 b3 b4;have u3:=HX.out.2.2.2.1 _ (P1.out.keep HB.out).below;have v3:w3.cell? ⟨1,1,none⟩=some (txt (Zbd 1)):=ZbM (k:=1) HX.out.2.2.2.2 (P1.out.keep HB.out).below rfl;have AD:=Lib.hid (Zbl w0 w3 bp dp t vn (Zbd 1) (ZS [124] ws) (P1.out.keep HB.out) (by have:=HX.out.2.2.1;omega)))
  | (go_at_call 26;(refine AD.out.mono ?_);rintro e w4 ⟨rfl,hp,hf⟩;have H4:=Lib.hid (And.intro hp hf);clear hp hf))
 all_goals
  go_wp2_with fail
  go_end0
  exact ⟨rfl,H4.out.1,(((Fr.of_below bp (hw1▸HX.out.1)).trans (Fr.of_below bp (Zh w1))).trans (Fr.of_below bp HB.out)).trans H4.out.2⟩
end
end Go.Proofs.YtenbomphkihmlaaGreatDoor
