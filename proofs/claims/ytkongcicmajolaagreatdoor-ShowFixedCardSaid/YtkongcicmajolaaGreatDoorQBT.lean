import Derived.Test.YtkongcicmajolaaGreatDoorQAN
import Derived.Test.YtkongcicmajolaaGreatDoorQAP
set_option maxRecDepth 100000
set_option maxHeartbeats 8000000
namespace Go.Proofs.YtkongcicmajolaaGreatDoor
section
open Go.RowKit
theorem Zny (w0 w:World) (bp dp:Nat) (t:Txt) (vn:Value) (x:NdV×Nd) (h:PrS w0 w bp t dp vn) (hx:ZaW w0 x) (ht:Zay w0 2 Zcm) (r:List Int) (hn:x.2.nums=0::r) (hw0:0<x.2.words.length) (hl:t.length+(ZaT x.2).length+100<=140737488355328) :
  Calls Tryz.prog 68 #[.pointer (some ⟨bp,0,none⟩),ndX x] w fun e w'=>e=.returned (.tuple #[])/\PrS w0 w' bp (t++ZaT x.2) dp vn/\Fr w w' bp:=by
 have hq:=hx
 obtain ⟨⟨vw,vu,vk⟩,kd,ws,nums,ks,ps⟩:=x
 obtain ⟨hw,hu,hkk⟩:=hx
 dsimp only at hn hw0 hw hu hkk hl ⊢
 obtain ⟨Aw,cw,rfl,hwl,hwm,hW,hWl⟩:=hw
 obtain ⟨Au,cu,rfl,hul,hum,hU⟩:=hu
 obtain ⟨Ak,ck,rfl,hkl,hkm,hK⟩:=hkk
 have a1:=below_alloc1 w (.cells #[.int .i64 kd,.slice Aw ws.length cw,.slice Au nums.length cu,.slice Ak ks.length ck,.int .i64 ps] 37)
 have B1:Zh _ _ _ _:=Zh.start w #[.int .i64 kd,.slice Aw ws.length cw,.slice Au nums.length cu,.slice Ak ks.length ck,.int .i64 ps] 37
 have p1:=h.keep a1
 have he:ZaT ⟨kd,ws,nums,ks,ps⟩=Zc0 0++Zal [124] ws:=by
  unfold ZaT num
  dsimp only
  rw [hn]
  rfl
 rw [he] at hl ⊢
 simp only [List.length_append] at hl
 have hwc:ws.length<=140737488355328:=by have:=Ziy [124] (by decide) ws;omega
 generalize hw1:w.alloc (.cells #[.int .i64 kd,.slice Aw ws.length cw,.slice Au nums.length cu,.slice Ak ks.length ck,.int .i64 ps] 37)=w1 at *
 have P1:=zh (p1.keep (Zj w1))
 have JN:=zh (Zin w0 w1.drew Aw cw ws hW hw0 hwc hwl P1.out.below (by omega))
 obtain ⟨au,rfl,u0⟩:=ZjA (x:=0) hU (by rw [hn];rfl) (by rw [hn];exact Nat.succ_pos _)
 have u1:w1.drew.cell? au=some (.int .i64 0):=u0 _ P1.out.below
 have v1:w1.drew.cell? ⟨2,0,none⟩=some (txt (Zc0 0)):=ZeA (k:=0) ht P1.out.below rfl
 have hl2:0<nums.length:=by rw [hn];exact Nat.succ_pos _
 obtain ⟨d0,d1,d2,d3,d4⟩:=Zg (x:=((.slice Aw ws.length cw,.slice (some au) nums.length cu,.slice Ak ks.length ck),⟨kd,ws,nums,ks,ps⟩)) (B1.keep (Zj w1))
 dsimp only at d0 d1 d2 d3 d4
 have HX:=zh (zi a1 (zi (B1.keep (Zj w1)) (zi hl (zi u0 ht))))
 clear p1 B1 a1 hq hwl hwm hW hWl hul hum hU hkl hkm hK h hl he u0 hn ht hwc hw0
 go_enter Tryz.func68,Tryz.ntmps68
 go_upto_region 1 with fail
 go_region_with (first
  | (go_at_call 89;(refine JN.out.mono ?_);rintro e w3 ⟨rfl,hb⟩;have HB:=zh hb;clear hb;obtain ⟨b0,b1,b2,b3,b4⟩:=Zg (x:=((.slice Aw ws.length cw,.slice (some au) nums.length cu,.slice Ak ks.length ck),⟨kd,ws,nums,ks,ps⟩)) (HX.out.2.1.keep HB.out);dsimp only at b0 b1 b2 b3 b4;have u3:=HX.out.2.2.2.1 _ (P1.out.keep HB.out).below;have v3:w3.cell? ⟨2,0,none⟩=some (txt (Zc0 0)):=ZeA (k:=0) HX.out.2.2.2.2 (P1.out.keep HB.out).below rfl;have AD:=zh (Zds w0 w3 bp dp t vn (Zc0 0) (Zal [124] ws) (P1.out.keep HB.out) (by have:=HX.out.2.2.1;omega)))
  | (go_at_call 36;(refine AD.out.mono ?_);rintro e w4 ⟨rfl,hp,hf⟩;have H4:=zh (zi hp hf);clear hp hf))
 all_goals
  go_wp2_with fail
  go_end0
  exact ⟨rfl,H4.out.1,(((Fr.of_below bp (hw1▸HX.out.1)).trans (Fr.of_below bp (Zj w1))).trans (Fr.of_below bp HB.out)).trans H4.out.2⟩
end
section
open Go.RowKit
theorem ZnA (w0 w:World) (bp dp:Nat) (t:Txt) (vn:Value) (x:NdV×Nd) (h:PrS w0 w bp t dp vn) (hx:ZaW w0 x) (ht:Zay w0 2 Zcm) (r:List Int) (hn:x.2.nums=2::r) (hw0:0<x.2.words.length) (hl:t.length+(ZaT x.2).length+100<=140737488355328) :
  Calls Tryz.prog 68 #[.pointer (some ⟨bp,0,none⟩),ndX x] w fun e w'=>e=.returned (.tuple #[])/\PrS w0 w' bp (t++ZaT x.2) dp vn/\Fr w w' bp:=by
 have hq:=hx
 obtain ⟨⟨vw,vu,vk⟩,kd,ws,nums,ks,ps⟩:=x
 obtain ⟨hw,hu,hkk⟩:=hx
 dsimp only at hn hw0 hw hu hkk hl ⊢
 obtain ⟨Aw,cw,rfl,hwl,hwm,hW,hWl⟩:=hw
 obtain ⟨Au,cu,rfl,hul,hum,hU⟩:=hu
 obtain ⟨Ak,ck,rfl,hkl,hkm,hK⟩:=hkk
 have a1:=below_alloc1 w (.cells #[.int .i64 kd,.slice Aw ws.length cw,.slice Au nums.length cu,.slice Ak ks.length ck,.int .i64 ps] 37)
 have B1:Zh _ _ _ _:=Zh.start w #[.int .i64 kd,.slice Aw ws.length cw,.slice Au nums.length cu,.slice Ak ks.length ck,.int .i64 ps] 37
 have p1:=h.keep a1
 have he:ZaT ⟨kd,ws,nums,ks,ps⟩=Zc0 2++Zal [124] ws:=by
  unfold ZaT num
  dsimp only
  rw [hn]
  rfl
 rw [he] at hl ⊢
 simp only [List.length_append] at hl
 have hwc:ws.length<=140737488355328:=by have:=Ziy [124] (by decide) ws;omega
 generalize hw1:w.alloc (.cells #[.int .i64 kd,.slice Aw ws.length cw,.slice Au nums.length cu,.slice Ak ks.length ck,.int .i64 ps] 37)=w1 at *
 have P1:=zh (p1.keep (Zj w1))
 have JN:=zh (Zin w0 w1.drew Aw cw ws hW hw0 hwc hwl P1.out.below (by omega))
 obtain ⟨au,rfl,u0⟩:=ZjA (x:=2) hU (by rw [hn];rfl) (by rw [hn];exact Nat.succ_pos _)
 have u1:w1.drew.cell? au=some (.int .i64 2):=u0 _ P1.out.below
 have v1:w1.drew.cell? ⟨2,2,none⟩=some (txt (Zc0 2)):=ZeA (k:=2) ht P1.out.below rfl
 have hl2:0<nums.length:=by rw [hn];exact Nat.succ_pos _
 obtain ⟨d0,d1,d2,d3,d4⟩:=Zg (x:=((.slice Aw ws.length cw,.slice (some au) nums.length cu,.slice Ak ks.length ck),⟨kd,ws,nums,ks,ps⟩)) (B1.keep (Zj w1))
 dsimp only at d0 d1 d2 d3 d4
 have HX:=zh (zi a1 (zi (B1.keep (Zj w1)) (zi hl (zi u0 ht))))
 clear p1 B1 a1 hq hwl hwm hW hWl hul hum hU hkl hkm hK h hl he u0 hn ht hwc hw0
 go_enter Tryz.func68,Tryz.ntmps68
 go_upto_region 1 with fail
 go_region_with (first
  | (go_at_call 89;(refine JN.out.mono ?_);rintro e w3 ⟨rfl,hb⟩;have HB:=zh hb;clear hb;obtain ⟨b0,b1,b2,b3,b4⟩:=Zg (x:=((.slice Aw ws.length cw,.slice (some au) nums.length cu,.slice Ak ks.length ck),⟨kd,ws,nums,ks,ps⟩)) (HX.out.2.1.keep HB.out);dsimp only at b0 b1 b2 b3 b4;have u3:=HX.out.2.2.2.1 _ (P1.out.keep HB.out).below;have v3:w3.cell? ⟨2,2,none⟩=some (txt (Zc0 2)):=ZeA (k:=2) HX.out.2.2.2.2 (P1.out.keep HB.out).below rfl;have AD:=zh (Zds w0 w3 bp dp t vn (Zc0 2) (Zal [124] ws) (P1.out.keep HB.out) (by have:=HX.out.2.2.1;omega)))
  | (go_at_call 36;(refine AD.out.mono ?_);rintro e w4 ⟨rfl,hp,hf⟩;have H4:=zh (zi hp hf);clear hp hf))
 all_goals
  go_wp2_with fail
  go_end0
  exact ⟨rfl,H4.out.1,(((Fr.of_below bp (hw1▸HX.out.1)).trans (Fr.of_below bp (Zj w1))).trans (Fr.of_below bp HB.out)).trans H4.out.2⟩
end
section
open Go.RowKit
theorem Zg3 (w0:World) (ns:List Nd) (dp:Nat) (ht:Zay w0 2 Zcm):Zc1 68 w0 ns dp ZeB ZaT:=by
 intro w bp t vn x h hN hx hok hl
 obtain ⟨hw0,g,r,hn,h0,h2⟩:=hok
 have:g=0\/g=1\/g=2:=by omega
 rcases this with rfl | rfl | rfl
 ·exact Zny w0 w bp dp t vn x h hx ht r hn hw0 (by omega)
 ·exact Znz w0 w bp dp t vn x h hx ht r hn hw0 (by omega)
 ·exact ZnA w0 w bp dp t vn x h hx ht r hn hw0 (by omega)
def ZeX:List Txt:=[Zax 0,Zax 1,Zax 2,Zax 3,Zax 4]
theorem ZoP {w0 W:World} (h:Zay w0 1 ZeX) (hb:Below w0.heap.size w0 W) (k:Nat) (hk:k<=4):W.cell? ⟨1,k,none⟩=some (txt (Zax k)):=by
 refine ZeA h hb ?_
 have:k=0\/k=1\/k=2\/k=3\/k=4:=by omega
 rcases this with rfl | rfl | rfl | rfl | rfl<;>rfl
theorem ZfU {w0 W:World} {b cw cu:Nat} {aw au:Addr} {ws:List Txt} {nums:List Int} {kd ps:Value} {vk:Value} {s1 s2:Txt} {p:Nat} (hk:Zh W b 37 #[kd,.slice (some aw) ws.length cw,.slice (some au) nums.length cu,vk,ps]) (hb:Below w0.heap.size w0 W)
  (hW:ZM w0 w0.heap.size 1 (some aw) ws.length (ws.map txt)) (hU:ZM w0 w0.heap.size 1 (some au) nums.length (nums.map (Value.int .i64))) (h0:ws[0]? = some s1) (h1:ws[1]? = some s2) (g0:nums[0]? = some (p:Int)) (ht:Zay w0 1 ZeX) (hp:p<=4) :
  (W.cell? ⟨b,1,none⟩=some (.slice (some aw) ws.length cw)/\W.cell? ⟨b,2,none⟩=some (.slice (some au) nums.length cu)/\W.cell? aw=some (txt s1)/\W.cell? (aw.add 1)=some (txt s2)/\W.cell? ⟨aw.block,aw.off+1,none⟩=some (txt s2)/\W.cell? au=some (.int .i64 (p:Int))/\W.cell? ⟨1,p,none⟩=some (txt (Zax p)))/\Zh W b 37 #[kd,.slice (some aw) ws.length cw,.slice (some au) nums.length cu,vk,ps]/\Below w0.heap.size w0 W:=by
 have c1:=hk.blk.cell 1
 have c2:=hk.blk.cell 2
 simp only [List.getElem?_toArray,List.getElem?_cons_zero,List.getElem?_cons_succ] at c1 c2
 have l1:=(List.getElem?_eq_some_iff.1 h1).1
 have e1:=Zz hW hb h1 l1
 exact ⟨⟨c1,c2,Zz hW hb h0 (by omega),e1,e1,ZaM hU hb g0 (List.getElem?_eq_some_iff.1 g0).1,ZoP ht hb p hp⟩,hk,hb⟩
def Zb5 (ns:List Nd) (l:List Int):Txt:=(l.map fun k=>ZaT (Za ns k)).flatten
theorem ZgZ {ns:List Nd} {l:List Int} {i:Nat} {k:Int} (h:l[i]? = some k):Zb5 ns (l.take (i+1))=Zb5 ns (l.take i)++ZaT (Za ns k):=by
 unfold Zb5
 rw [List.take_add_one,h,List.map_append,List.flatten_append]
 simp
theorem Zij {ns:List Nd} {l:List Int} (i:Nat):(Zb5 ns (l.take i)).length<=(Zb5 ns l).length:=by
 have e:Zb5 ns l=Zb5 ns (l.take i)++Zb5 ns (l.drop i):=by
  unfold Zb5
  rw [<- List.flatten_append,<- List.map_append,List.take_append_drop]
 rw [e,List.length_append]
 omega
end
end Go.Proofs.YtkongcicmajolaaGreatDoor
