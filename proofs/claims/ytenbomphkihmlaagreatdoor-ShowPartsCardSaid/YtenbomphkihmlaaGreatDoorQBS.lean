import Derived.Test.YtenbomphkihmlaaGreatDoorQBR
set_option maxRecDepth 100000
set_option maxHeartbeats 8000000
namespace Go.Proofs.YtenbomphkihmlaaGreatDoor
section
open Go.RowKit
theorem Zhg (w0 w:World) (bp dp:Nat) (t:Txt) (vn:Value) (ns:List Nd) (x:NdV×Nd) (h:PrS w0 w bp t dp vn) (hN:Zf w0 vn ns) (hx:Zv w0 x) (a:Txt) (hn:x.2.words=[a]) (hl:t.length+(ZaS ns x.2).length+10000<=140737488355328) :
  Calls Tryz.prog 30 #[.pointer (some ⟨bp,0,none⟩),ndX x] w fun e w'=>e=.returned (.tuple #[])/\PrS w0 w' bp (t++ZaS ns x.2) dp vn/\Fr w w' bp:=by
 have hq:=hx
 obtain ⟨⟨vw,vu,vk⟩,kd,ws,nums,ks,ps⟩:=x
 obtain ⟨hw,hu,hkk⟩:=hx
 dsimp only at hn hw hu hkk hl ⊢
 obtain ⟨Aw,cw,rfl,hwl,hwm,hW,hWl⟩:=hw
 obtain ⟨Au,cu,rfl,hul,hum,hU⟩:=hu
 obtain ⟨Ak,ck,rfl,hkl,hkm,hK⟩:=hkk
 have he:ZaS ns ⟨kd,ws,nums,ks,ps⟩=a:=by
  unfold ZaS ZD
  dsimp only
  rw [hn]
  exact List.append_nil a
 rw [he] at hl ⊢
 clear he
 have t1:((ws.length:Int)==1)=true:=by rw [hn];rfl
 have N1:=Nw.start (w:=w) #[.int .i64 kd,.slice Aw ws.length cw,.slice Au nums.length cu,.slice Ak ks.length ck,.int .i64 ps] h
 generalize hw1:w.alloc (.cells #[.int .i64 kd,.slice Aw ws.length cw,.slice Au nums.length cu,.slice Ak ks.length ck,.int .i64 ps] 29)=w1 at *
 obtain ⟨aw,rfl,_⟩:=ZaH (k:=0) (x:=a) hW N1.p.below (by rw [hn];rfl) (by rw [hn];exact Nat.succ_pos _)
 have lw0:0<ws.length:=by rw [hn];exact Nat.succ_pos _
 have SW:=Lib.hid (And.intro hW hn)
 have H1:=Lib.hid N1
 have HN:=Lib.hid (And.intro hN (And.intro hq (And.intro hK (And.intro hkm hkl))))
 have HL:=Lib.hid hl
 clear N1 hq hwl hwm hW hWl hul hum hU hkl hkm hK h hN hl hn
 have D1:=Lib.hid H1.out.drew
 obtain ⟨c0,c1,c2,c3,c4⟩:=Zg (x:=((.slice (some aw) ws.length cw,.slice Au nums.length cu,.slice Ak ks.length ck),⟨kd,ws,nums,ks,ps⟩)) H1.out.k
 dsimp only at c0 c1 c2 c3 c4
 have cw0:=Zs (k:=0) (x:=a) SW.out.1 H1.out.p.below (by rw [SW.out.2];rfl) lw0
 have cv0:w1.cell? aw=some (txt a):=cw0
 obtain ⟨d0,d1,d2,d3,d4⟩:=Zg (x:=((.slice (some aw) ws.length cw,.slice Au nums.length cu,.slice Ak ks.length ck),⟨kd,ws,nums,ks,ps⟩)) D1.out.k
 dsimp only at d0 d1 d2 d3 d4
 have dw0:=Zs (k:=0) (x:=a) SW.out.1 D1.out.p.below (by rw [SW.out.2];rfl) lw0
 have dv0:w1.drew.cell? aw=some (txt a):=dw0
 have AD:=Lib.hid (ZH w0 w1.drew bp dp t vn a D1.out.p (by have:=HL.out;omega))
 go_enter Tryz.func30,Tryz.ntmps30
 go_upto_region 1 with fail
 go_region_with (go_at_call 26;(refine AD.out.mono ?_);rintro e w2 ⟨rfl,hp,hf⟩;have H2:=Lib.hid (D1.out.next hp hf);clear hp hf)
 all_goals
  clear c0 c1 c2 c3 c4 cw0 cv0 d0 d1 d2 d3 d4 dw0 dv0
  obtain ⟨c0,c1,c2,c3,c4⟩:=Zg (x:=((.slice (some aw) ws.length cw,.slice Au nums.length cu,.slice Ak ks.length ck),⟨kd,ws,nums,ks,ps⟩)) H2.out.k
  dsimp only at c0 c1 c2 c3 c4
  have cw0:=Zs (k:=0) (x:=a) SW.out.1 H2.out.p.below (by rw [SW.out.2];rfl) lw0
  have cv0:w2.cell? aw=some (txt a):=cw0
  go_wp2_with fail
  refine bodyPost_ret (v:=.tuple #[]) (results_none (by kernel_rfl) _ _ _) rfl ⟨rfl,H2.out.p,H2.out.f⟩
theorem Zhh (w0 w:World) (bp dp:Nat) (t:Txt) (vn:Value) (ns:List Nd) (x:NdV×Nd) (h:PrS w0 w bp t dp vn) (hN:Zf w0 vn ns) (hx:Zv w0 x) (htk:ZV w0 0 ZbU) (htn:ZV w0 1 ZaN) (ht:Zb7 w0 w0)
  (a b:Txt) (hn:x.2.words=[a,b]) (p:Nat) (q r:Int) (hm:x.2.nums=[(p:Int),q,r]) (hp4:p<=4) (hq0:Za0 q) (hr0:Za0 r) (hol:ZM ns x.2.kids ZbZ) (hl:t.length+(ZaS ns x.2).length+10000<=140737488355328) :
  Calls Tryz.prog 30 #[.pointer (some ⟨bp,0,none⟩),ndX x] w fun e w'=>e=.returned (.tuple #[])/\PrS w0 w' bp (t++ZaS ns x.2) dp vn/\Fr w w' bp:=by
 have hq:=hx
 obtain ⟨⟨vw,vu,vk⟩,kd,ws,nums,ks,ps⟩:=x
 obtain ⟨hw,hu,hkk⟩:=hx
 dsimp only at hn hm hol hw hu hkk hl ⊢
 obtain ⟨Aw,cw,rfl,hwl,hwm,hW,hWl⟩:=hw
 obtain ⟨Au,cu,rfl,hul,hum,hU⟩:=hu
 obtain ⟨Ak,ck,rfl,hkl,hkm,hK⟩:=hkk
 obtain ⟨Z,hZ⟩:∃ Z,Z=(if 0<r then [32,108,101,97,115,116,32]++Zbo q r else []):=⟨_,rfl⟩
 have he:ZaS ns ⟨kd,ws,nums,ks,ps⟩=a++([58,32]++b++[32]++Zaz p++Z++ZaC ns ks):=by
  unfold ZaS ZD num ZaC
  dsimp only
  rw [hn,hm,hZ]
  rfl
 rw [he] at hl ⊢
 clear he
 simp only [List.length_append,List.length_cons,List.length_nil] at hl
 have t1:((ws.length:Int)==1)=false:=by rw [hn];rfl
 have p0:(0:Int)<=(p:Int):=by omega
 have p1:(p:Int)<5:=by omega
 have N1:=Nw.start (w:=w) #[.int .i64 kd,.slice Aw ws.length cw,.slice Au nums.length cu,.slice Ak ks.length ck,.int .i64 ps] h
 generalize hw1:w.alloc (.cells #[.int .i64 kd,.slice Aw ws.length cw,.slice Au nums.length cu,.slice Ak ks.length ck,.int .i64 ps] 29)=w1 at *
 obtain ⟨aw,rfl,_⟩:=ZaH (k:=0) (x:=a) hW N1.p.below (by rw [hn];rfl) (by rw [hn];exact Nat.succ_pos _)
 have lw0:0<ws.length:=by rw [hn];exact Nat.succ_pos _
 have lw1:1<ws.length:=by rw [hn];simp only [List.length_cons];omega
 have SW:=Lib.hid (And.intro hW hn)
 obtain ⟨au,rfl,_⟩:=Zp (k:=0) (x:=(p:Int)) hU N1.p.below (by rw [hm];rfl) (by rw [hm];exact Nat.succ_pos _)
 have lu0:0<nums.length:=by rw [hm];exact Nat.succ_pos _
 have lu1:1<nums.length:=by rw [hm];simp only [List.length_cons];omega
 have lu2:2<nums.length:=by rw [hm];simp only [List.length_cons];omega
 have SU:=Lib.hid (And.intro hU hm)
 have H1:=Lib.hid N1
 have HN:=Lib.hid (And.intro hN (And.intro hq (And.intro hK (And.intro hkm hkl))))
 have HL:=Lib.hid hl
 have HT:=Lib.hid (And.intro htk (And.intro htn ht))
 have HQ:=Lib.hid (And.intro hp4 (And.intro hq0 (And.intro hr0 hol)))
 have HZ:=Lib.hid hZ
 clear N1 hq hwl hwm hW hWl hul hum hU hkl hkm hK h hN hl hn hm hol htk htn ht hp4 hq0 hr0 hZ
 have D1:=Lib.hid H1.out.drew
 obtain ⟨c0,c1,c2,c3,c4⟩:=Zg (x:=((.slice (some aw) ws.length cw,.slice (some au) nums.length cu,.slice Ak ks.length ck),⟨kd,ws,nums,ks,ps⟩)) H1.out.k
 dsimp only at c0 c1 c2 c3 c4
 have cw0:=Zs (k:=0) (x:=a) SW.out.1 H1.out.p.below (by rw [SW.out.2];rfl) lw0
 have cv0:w1.cell? aw=some (txt a):=cw0
 have cw1:=Zs (k:=1) (x:=b) SW.out.1 H1.out.p.below (by rw [SW.out.2];rfl) lw1
 have cv1:w1.cell? ⟨aw.block,aw.off+1,none⟩=some (txt b):=cw1
 have cn0:=Zab (k:=0) (x:=(p:Int)) SU.out.1 H1.out.p.below (by rw [SU.out.2];rfl) lu0
 have cm0:w1.cell? au=some (.int .i64 (p:Int)):=cn0
 have cn1:=Zab (k:=1) (x:=q) SU.out.1 H1.out.p.below (by rw [SU.out.2];rfl) lu1
 have cm1:w1.cell? ⟨au.block,au.off+1,none⟩=some (.int .i64 q):=cn1
 have cn2:=Zab (k:=2) (x:=r) SU.out.1 H1.out.p.below (by rw [SU.out.2];rfl) lu2
 have cm2:w1.cell? ⟨au.block,au.off+2,none⟩=some (.int .i64 r):=cn2
 obtain ⟨d0,d1,d2,d3,d4⟩:=Zg (x:=((.slice (some aw) ws.length cw,.slice (some au) nums.length cu,.slice Ak ks.length ck),⟨kd,ws,nums,ks,ps⟩)) D1.out.k
 dsimp only at d0 d1 d2 d3 d4
 have dw0:=Zs (k:=0) (x:=a) SW.out.1 D1.out.p.below (by rw [SW.out.2];rfl) lw0
 have dv0:w1.drew.cell? aw=some (txt a):=dw0
 have dw1:=Zs (k:=1) (x:=b) SW.out.1 D1.out.p.below (by rw [SW.out.2];rfl) lw1
 have dv1:w1.drew.cell? ⟨aw.block,aw.off+1,none⟩=some (txt b):=dw1
 have dn0:=Zab (k:=0) (x:=(p:Int)) SU.out.1 D1.out.p.below (by rw [SU.out.2];rfl) lu0
 have dm0:w1.drew.cell? au=some (.int .i64 (p:Int)):=dn0
 have dn1:=Zab (k:=1) (x:=q) SU.out.1 D1.out.p.below (by rw [SU.out.2];rfl) lu1
 have dm1:w1.drew.cell? ⟨au.block,au.off+1,none⟩=some (.int .i64 q):=dn1
 have dn2:=Zab (k:=2) (x:=r) SU.out.1 D1.out.p.below (by rw [SU.out.2];rfl) lu2
 have dm2:w1.drew.cell? ⟨au.block,au.off+2,none⟩=some (.int .i64 r):=dn2
 have AD:=Lib.hid (ZH w0 w1.drew bp dp t vn a D1.out.p (by have:=HL.out;omega))
 have jw0:(0:Int)<(ws.length:Int):=by omega
 have jw1:(1:Int)<(ws.length:Int):=by omega
 have ju0:(0:Int)<(nums.length:Int):=by omega
 have ju1:(1:Int)<(nums.length:Int):=by omega
 have ju2:(2:Int)<(nums.length:Int):=by omega
 go_enter Tryz.func30,Tryz.ntmps30
 go_upto_region 1 with fail
 go_region_with (go_at_call 26;(refine AD.out.mono ?_);rintro e w2 ⟨rfl,hp,hf⟩;have H2:=Lib.hid (D1.out.next hp hf);clear hp hf)
 all_goals
  clear c0 c1 c2 c3 c4 cw0 cw1 cn0 cn1 cn2 cv0 cv1 cm0 cm1 cm2 d0 d1 d2 d3 d4 dw0 dw1 dn0 dn1 dn2 dv0 dv1 dm0 dm1 dm2
  obtain ⟨c0,c1,c2,c3,c4⟩:=Zg (x:=((.slice (some aw) ws.length cw,.slice (some au) nums.length cu,.slice Ak ks.length ck),⟨kd,ws,nums,ks,ps⟩)) H2.out.k
  dsimp only at c0 c1 c2 c3 c4
  have cw0:=Zs (k:=0) (x:=a) SW.out.1 H2.out.p.below (by rw [SW.out.2];rfl) lw0
  have cv0:w2.cell? aw=some (txt a):=cw0
  have cw1:=Zs (k:=1) (x:=b) SW.out.1 H2.out.p.below (by rw [SW.out.2];rfl) lw1
  have cv1:w2.cell? ⟨aw.block,aw.off+1,none⟩=some (txt b):=cw1
  have cn0:=Zab (k:=0) (x:=(p:Int)) SU.out.1 H2.out.p.below (by rw [SU.out.2];rfl) lu0
  have cm0:w2.cell? au=some (.int .i64 (p:Int)):=cn0
  have cn1:=Zab (k:=1) (x:=q) SU.out.1 H2.out.p.below (by rw [SU.out.2];rfl) lu1
  have cm1:w2.cell? ⟨au.block,au.off+1,none⟩=some (.int .i64 q):=cn1
  have cn2:=Zab (k:=2) (x:=r) SU.out.1 H2.out.p.below (by rw [SU.out.2];rfl) lu2
  have cm2:w2.cell? ⟨au.block,au.off+2,none⟩=some (.int .i64 r):=cn2
  go_upto_region 3 with fail
  clear c0 c1 c2 c3 c4 cw0 cw1 cn0 cn1 cn2 cv0 cv1 cm0 cm1 cm2
  have D2:=Lib.hid H2.out.drew
  have AD:=Lib.hid (ZdJ w0 w2.drew bp dp _ vn [58,32] b [32] (Zaz p) D2.out.p (by have:=HL.out;simp only [List.length_append,List.length_cons,List.length_nil];omega))
  have HS:(fun W:World=>(W.cell? ⟨w.heap.size,1,none⟩=some (.slice (some aw) ws.length cw)/\W.cell? ⟨w.heap.size,2,none⟩=some (.slice (some au) nums.length cu)/\W.cell? aw=some (txt a)/\W.cell? (aw.add 1)=some (txt b)/\W.cell? ⟨aw.block,aw.off+1,none⟩=some (txt b)/\W.cell? au=some (.int .i64 (p:Int))/\W.cell? ⟨0,p,none⟩=some (txt (Zaz p)))/\Zm W w.heap.size 29 #[.int .i64 kd,.slice (some aw) ws.length cw,.slice (some au) nums.length cu,.slice Ak ks.length ck,.int .i64 ps]/\Below w0.heap.size w0 W) w2.drew:=Zct (D2.out.k) (D2.out.p.below) SW.out.1 SU.out.1 (by rw [SW.out.2];rfl) (by rw [SW.out.2];rfl) (by rw [SU.out.2];rfl) HT.out.1 HQ.out.1
  refine wp_region_noPanic ?_
  refine wp_region_held_drew (S:=fun W:World=>(W.cell? ⟨w.heap.size,1,none⟩=some (.slice (some aw) ws.length cw)/\W.cell? ⟨w.heap.size,2,none⟩=some (.slice (some au) nums.length cu)/\W.cell? aw=some (txt a)/\W.cell? (aw.add 1)=some (txt b)/\W.cell? ⟨aw.block,aw.off+1,none⟩=some (txt b)/\W.cell? au=some (.int .i64 (p:Int))/\W.cell? ⟨0,p,none⟩=some (txt (Zaz p)))/\Zm W w.heap.size 29 #[.int .i64 kd,.slice (some aw) ws.length cw,.slice (some au) nums.length cu,.slice Ak ks.length ck,.int .i64 ps]/\Below w0.heap.size w0 W) (by kernel_rfl) HS (fun hHeld=>?_)
  clear HS
  refine tk 0 rfl ?_
  refine tk 1 rfl ?_
  refine tk 2 rfl ?_
  refine tk 3 rfl ?_
  refine tk 4 rfl ?_
  refine tk 5 rfl ?_
  refine tk 6 rfl ?_
  refine tk 7 rfl ?_
  refine tk 8 rfl ?_
  refine tk 9 rfl ?_
  refine tk 10 rfl ?_
  refine tk 11 rfl ?_
  refine tk 12 rfl ?_
  (try simp only [cl,Act.put])
  refine rd 13 rfl fun K hK=>?_
  go_simp
  refine hK.out _ _ ?_ (fun hH2=>?_)
  ·exact Zct (hHeld.2.1.keep (Zb _ _)) (hHeld.2.2.trans ((Zb _ _).mono hHeld.2.2.size)) SW.out.1 SU.out.1 (by rw [SW.out.2];rfl) (by rw [SW.out.2];rfl) (by rw [SU.out.2];rfl) HT.out.1 HQ.out.1
  clear hK K hHeld;have hHeld:=hH2;clear hH2
  (try simp only [cl,Act.put])
  refine rd 14 rfl fun K hK=>?_
  go_simp
  go_at_call 26
  refine AD.out.mono ?_
  rintro e w3 ⟨rfl,hp,hf⟩
  have H3:=Lib.hid (D2.out.next hp hf)
  have hb:=H3.out.p.below
  clear hp hf
  go_wp2_with fail
  refine hK.out _ _ (Zct (H3.out.k) (H3.out.p.below) SW.out.1 SU.out.1 (by rw [SW.out.2];rfl) (by rw [SW.out.2];rfl) (by rw [SU.out.2];rfl) HT.out.1 HQ.out.1) (fun hH2=>?_)
  clear hK K hHeld hb;have hHeld:=hH2;clear hH2
  (try simp only [cl,Act.put])
  refine wpAnyH_done (by kernel_rfl) ?_ _
  refine NoPanic.normal ?_
  clear hHeld
  obtain ⟨c0,c1,c2,c3,c4⟩:=Zg (x:=((.slice (some aw) ws.length cw,.slice (some au) nums.length cu,.slice Ak ks.length ck),⟨kd,ws,nums,ks,ps⟩)) H3.out.k
  dsimp only at c0 c1 c2 c3 c4
  have cw0:=Zs (k:=0) (x:=a) SW.out.1 H3.out.p.below (by rw [SW.out.2];rfl) lw0
  have cv0:w3.cell? aw=some (txt a):=cw0
  have cw1:=Zs (k:=1) (x:=b) SW.out.1 H3.out.p.below (by rw [SW.out.2];rfl) lw1
  have cv1:w3.cell? ⟨aw.block,aw.off+1,none⟩=some (txt b):=cw1
  have cn0:=Zab (k:=0) (x:=(p:Int)) SU.out.1 H3.out.p.below (by rw [SU.out.2];rfl) lu0
  have cm0:w3.cell? au=some (.int .i64 (p:Int)):=cn0
  have cn1:=Zab (k:=1) (x:=q) SU.out.1 H3.out.p.below (by rw [SU.out.2];rfl) lu1
  have cm1:w3.cell? ⟨au.block,au.off+1,none⟩=some (.int .i64 q):=cn1
  have cn2:=Zab (k:=2) (x:=r) SU.out.1 H3.out.p.below (by rw [SU.out.2];rfl) lu2
  have cm2:w3.cell? ⟨au.block,au.off+2,none⟩=some (.int .i64 r):=cn2
  by_cases hr:0<r
  ·have ez:=HZ.out
   rw [if_pos hr] at ez
   have HE:=Lib.hid ez
   clear ez
   have AD:=Lib.hid (ZH w0 w3 bp dp _ vn [32,108,101,97,115,116,32] H3.out.p (by have:=HL.out;rw [HE.out] at this;simp only [List.length_append,List.length_cons,List.length_nil] at this ⊢;omega))
   go_upto_region 6 with (go_at_call 26;(refine AD.out.mono ?_);rintro e w4 ⟨rfl,hp,hf⟩;have H4:=Lib.hid (H3.out.next hp hf);clear hp hf)
   clear hr c0 c1 c2 c3 c4 cw0 cw1 cn0 cn1 cn2 cv0 cv1 cm0 cm1 cm2
   have D4:=Lib.hid H4.out.drew
   obtain ⟨c0,c1,c2,c3,c4⟩:=Zg (x:=((.slice (some aw) ws.length cw,.slice (some au) nums.length cu,.slice Ak ks.length ck),⟨kd,ws,nums,ks,ps⟩)) H4.out.k
   dsimp only at c0 c1 c2 c3 c4
   have cw0:=Zs (k:=0) (x:=a) SW.out.1 H4.out.p.below (by rw [SW.out.2];rfl) lw0
   have cv0:w4.cell? aw=some (txt a):=cw0
   have cw1:=Zs (k:=1) (x:=b) SW.out.1 H4.out.p.below (by rw [SW.out.2];rfl) lw1
   have cv1:w4.cell? ⟨aw.block,aw.off+1,none⟩=some (txt b):=cw1
   have cn0:=Zab (k:=0) (x:=(p:Int)) SU.out.1 H4.out.p.below (by rw [SU.out.2];rfl) lu0
   have cm0:w4.cell? au=some (.int .i64 (p:Int)):=cn0
   have cn1:=Zab (k:=1) (x:=q) SU.out.1 H4.out.p.below (by rw [SU.out.2];rfl) lu1
   have cm1:w4.cell? ⟨au.block,au.off+1,none⟩=some (.int .i64 q):=cn1
   have cn2:=Zab (k:=2) (x:=r) SU.out.1 H4.out.p.below (by rw [SU.out.2];rfl) lu2
   have cm2:w4.cell? ⟨au.block,au.off+2,none⟩=some (.int .i64 r):=cn2
   have FA:=Lib.hid (Zdd w0 w4.drew bp dp _ vn q r D4.out.p HT.out.2.2 (by have:=HQ.out.2.1;unfold Za0 at this;omega) (by have:=HQ.out.2.2.1;unfold Za0 at this;omega) (by have:=HL.out;rw [HE.out] at this;simp only [List.length_append,List.length_cons,List.length_nil] at this ⊢;omega))
   refine wp_region_still_tail 11 (by kernel_rfl) (by kernel_rfl) ?_
   simp only [List.take_succ_cons,List.take_zero,List.drop_succ_cons,List.drop_zero]
   iterate 11 still_step
   refine wpStill_nil ?_
   change wpList _ _ _ _ _ w4.drew
   go_upto_region 7 with (go_at_call 45;(refine FA.out.mono ?_);rintro e w5 ⟨rfl,hp,hf⟩;have H5:=Lib.hid (D4.out.next hp hf);clear hp hf)
   clear c0 c1 c2 c3 c4 cw0 cw1 cn0 cn1 cn2 cv0 cv1 cm0 cm1 cm2
   have H6:=Lib.hid (show Nw w0 w w5 bp w.heap.size (t++(a++([58,32]++b++[32]++Zaz p++Z))) dp vn #[.int .i64 kd,.slice (some aw) ws.length cw,.slice (some au) nums.length cu,.slice Ak ks.length ck,.int .i64 ps] by have:=H5.out;rw [HE.out];simp only [List.append_assoc] at this ⊢;exact this)
   obtain ⟨c0,c1,c2,c3,c4⟩:=Zg (x:=((.slice (some aw) ws.length cw,.slice (some au) nums.length cu,.slice Ak ks.length ck),⟨kd,ws,nums,ks,ps⟩)) H6.out.k
   dsimp only at c0 c1 c2 c3 c4
   have cw0:=Zs (k:=0) (x:=a) SW.out.1 H6.out.p.below (by rw [SW.out.2];rfl) lw0
   have cv0:w5.cell? aw=some (txt a):=cw0
   have cw1:=Zs (k:=1) (x:=b) SW.out.1 H6.out.p.below (by rw [SW.out.2];rfl) lw1
   have cv1:w5.cell? ⟨aw.block,aw.off+1,none⟩=some (txt b):=cw1
   have cn0:=Zab (k:=0) (x:=(p:Int)) SU.out.1 H6.out.p.below (by rw [SU.out.2];rfl) lu0
   have cm0:w5.cell? au=some (.int .i64 (p:Int)):=cn0
   have cn1:=Zab (k:=1) (x:=q) SU.out.1 H6.out.p.below (by rw [SU.out.2];rfl) lu1
   have cm1:w5.cell? ⟨au.block,au.off+1,none⟩=some (.int .i64 q):=cn1
   have cn2:=Zab (k:=2) (x:=r) SU.out.1 H6.out.p.below (by rw [SU.out.2];rfl) lu2
   have cm2:w5.cell? ⟨au.block,au.off+2,none⟩=some (.int .i64 r):=cn2
   have FLe:=Lib.hid (And.intro (fun i=>ZdR (ns:=ns) (l:=ks) i) HQ.out.2.2.2)
   go_wp2_with fail
   clear c0 c1 c2 c3 c4 cw0 cw1 cn0 cn1 cn2 cv0 cv1 cm0 cm1 cm2
   go_loopg [58] ks.length (fun g v58 wr=>∃ i:Nat,v58=.int .i64 i/\i<=ks.length/\g=ks.length-i/\Nw w0 w wr bp w.heap.size (t++(a++([58,32]++b++[32]++Zaz p++Z))++ZaC ns (ks.take i)) dp vn #[.int .i64 kd,.slice (some aw) ws.length cw,.slice (some au) nums.length cu,.slice Ak ks.length ck,.int .i64 ps])
   case atStart=>exact ⟨0,rfl,Nat.zero_le _,rfl,by simpa [ZaC] using H6.out⟩
   case round=>
    obtain ⟨i,rfl,hi,hg,hS⟩:=hrel
    have HS:=Lib.hid hS
    obtain ⟨c0,c1,c2,c3,c4⟩:=Zg (x:=((.slice (some aw) ws.length cw,.slice (some au) nums.length cu,.slice Ak ks.length ck),⟨kd,ws,nums,ks,ps⟩)) HS.out.k
    dsimp only at c0 c1 c2 c3 c4
    have cw0:=Zs (k:=0) (x:=a) SW.out.1 HS.out.p.below (by rw [SW.out.2];rfl) lw0
    have cv0:wr.cell? aw=some (txt a):=cw0
    have cw1:=Zs (k:=1) (x:=b) SW.out.1 HS.out.p.below (by rw [SW.out.2];rfl) lw1
    have cv1:wr.cell? ⟨aw.block,aw.off+1,none⟩=some (txt b):=cw1
    have cn0:=Zab (k:=0) (x:=(p:Int)) SU.out.1 HS.out.p.below (by rw [SU.out.2];rfl) lu0
    have cm0:wr.cell? au=some (.int .i64 (p:Int)):=cn0
    have cn1:=Zab (k:=1) (x:=q) SU.out.1 HS.out.p.below (by rw [SU.out.2];rfl) lu1
    have cm1:wr.cell? ⟨au.block,au.off+1,none⟩=some (.int .i64 q):=cn1
    have cn2:=Zab (k:=2) (x:=r) SU.out.1 HS.out.p.below (by rw [SU.out.2];rfl) lu2
    have cm2:wr.cell? ⟨au.block,au.off+2,none⟩=some (.int .i64 r):=cn2
    by_cases him:i=ks.length
    ·have j1:decide (i<ks.length)=false:=decide_eq_false (by omega)
     have j2:¬ ((i:Int)<(ks.length:Int)):=by omega
     have hi2:ks.take i=ks:=by rw [him,List.take_length]
     rw [hi2] at HS
     clear hi hg hS him hi2
     go_wp2_with fail
     go_end0
     refine ⟨rfl,?_,HS.out.f⟩
     have:=HS.out.p
     simp only [List.append_assoc] at this ⊢
     exact this
    ·have hlt:i<ks.length:=by omega
     obtain ⟨y0,hy0⟩:∃ y,ks[i]? = some y:=⟨_,List.getElem?_eq_getElem hlt⟩
     obtain ⟨g0,g1,g2⟩:=FLe.out.2 y0 (List.mem_of_getElem? hy0)
     obtain ⟨n,rfl⟩:=Int.eq_ofNat_of_zero_le g0
     have hnl:n<ns.length:=by omega
     obtain ⟨z2,hz2⟩:∃ z,ns[n]? = some z:=⟨_,List.getElem?_eq_getElem hnl⟩
     rw [Zat hz2] at g2
     have nx:=ZcX (ns:=ns) hy0
     rw [Zat hz2] at nx
     have j1:(i:Int)<(ks.length:Int):=by omega
     have wk:IntKind.i64.wrap ((i:Int)+1)=(i:Int)+1:=IntWalk.i64_in _ (by have:=HN.out.2.2.2;have e:maxLen=9223372036854775807:=rfl;omega)
     have KI:=Lib.hid (Zas w0 wr bp dp _ vn ns _ i n ⟨HS.out.p,HN.out.1⟩ HN.out.2.1 hy0 hnl)
     have le:(ZaC ns (ks.take i)).length+(Zai z2).length<=(ZaC ns ks).length:=by
      have:=FLe.out.1 (i+1)
      rw [nx,List.length_append] at this
      exact this
     have HI:=Lib.hid (And.intro hlt (And.intro hg (And.intro nx (And.intro hz2 (And.intro g2 le)))))
     clear hi hg hS him hy0 g0 g1 g2 hnl hz2 nx le hlt
     go_wp2_with (first
      | (go_at_call 32;(refine KI.out.mono ?_);rintro e w8 ⟨y,rfl,hy,hy2,hb⟩;have ey:y.2=z2:=Option.some.inj (hy.symm.trans HI.out.2.2.2.1);have H8:=Lib.hid (And.intro hy2 (And.intro (HS.out.below hb) ey));clear hy hy2 hb ey;have EX:=Lib.hid (Zc5 w0 ns dp HT.out.2.1 w8 bp _ vn y H8.out.2.1.p HN.out.1 H8.out.1 (H8.out.2.2▸HI.out.2.2.2.2.1) (by rw [H8.out.2.2];have:=HL.out;have:=HI.out.2.2.2.2.2;simp only [List.length_append,List.length_cons,List.length_nil];omega)))
      | (go_at_call 46;(refine EX.out.mono ?_);rintro e w9 ⟨rfl,hp,hf⟩;have H9:=Lib.hid (H8.out.2.1.next hp hf);clear hp hf))
     go_roundg (ks.length-(i+1))
     case measure=>have:=HI.out.1;have:=HI.out.2.1;omega
     case rel=>
      refine ⟨i+1,by push_cast;rfl,HI.out.1,rfl,?_⟩
      rw [HI.out.2.2.1]
      have:=H9.out
      rw [H8.out.2.2] at this
      simp only [List.append_assoc] at this ⊢
      exact this
  ·have ez:=HZ.out
   rw [if_neg hr] at ez
   have HE:=Lib.hid ez
   clear ez
   go_upto_region 7 with fail
   clear hr c0 c1 c2 c3 c4 cw0 cw1 cn0 cn1 cn2 cv0 cv1 cm0 cm1 cm2
   have H6:=Lib.hid (show Nw w0 w w3 bp w.heap.size (t++(a++([58,32]++b++[32]++Zaz p++Z))) dp vn #[.int .i64 kd,.slice (some aw) ws.length cw,.slice (some au) nums.length cu,.slice Ak ks.length ck,.int .i64 ps] by have:=H3.out;rw [HE.out];simp only [List.append_assoc,List.append_nil] at this ⊢;exact this)
   obtain ⟨c0,c1,c2,c3,c4⟩:=Zg (x:=((.slice (some aw) ws.length cw,.slice (some au) nums.length cu,.slice Ak ks.length ck),⟨kd,ws,nums,ks,ps⟩)) H6.out.k
   dsimp only at c0 c1 c2 c3 c4
   have cw0:=Zs (k:=0) (x:=a) SW.out.1 H6.out.p.below (by rw [SW.out.2];rfl) lw0
   have cv0:w3.cell? aw=some (txt a):=cw0
   have cw1:=Zs (k:=1) (x:=b) SW.out.1 H6.out.p.below (by rw [SW.out.2];rfl) lw1
   have cv1:w3.cell? ⟨aw.block,aw.off+1,none⟩=some (txt b):=cw1
   have cn0:=Zab (k:=0) (x:=(p:Int)) SU.out.1 H6.out.p.below (by rw [SU.out.2];rfl) lu0
   have cm0:w3.cell? au=some (.int .i64 (p:Int)):=cn0
   have cn1:=Zab (k:=1) (x:=q) SU.out.1 H6.out.p.below (by rw [SU.out.2];rfl) lu1
   have cm1:w3.cell? ⟨au.block,au.off+1,none⟩=some (.int .i64 q):=cn1
   have cn2:=Zab (k:=2) (x:=r) SU.out.1 H6.out.p.below (by rw [SU.out.2];rfl) lu2
   have cm2:w3.cell? ⟨au.block,au.off+2,none⟩=some (.int .i64 r):=cn2
   have FLe:=Lib.hid (And.intro (fun i=>ZdR (ns:=ns) (l:=ks) i) HQ.out.2.2.2)
   go_wp2_with fail
   clear c0 c1 c2 c3 c4 cw0 cw1 cn0 cn1 cn2 cv0 cv1 cm0 cm1 cm2
   go_loopg [58] ks.length (fun g v58 wr=>∃ i:Nat,v58=.int .i64 i/\i<=ks.length/\g=ks.length-i/\Nw w0 w wr bp w.heap.size (t++(a++([58,32]++b++[32]++Zaz p++Z))++ZaC ns (ks.take i)) dp vn #[.int .i64 kd,.slice (some aw) ws.length cw,.slice (some au) nums.length cu,.slice Ak ks.length ck,.int .i64 ps])
   case atStart=>exact ⟨0,rfl,Nat.zero_le _,rfl,by simpa [ZaC] using H6.out⟩
   case round=>
    obtain ⟨i,rfl,hi,hg,hS⟩:=hrel
    have HS:=Lib.hid hS
    obtain ⟨c0,c1,c2,c3,c4⟩:=Zg (x:=((.slice (some aw) ws.length cw,.slice (some au) nums.length cu,.slice Ak ks.length ck),⟨kd,ws,nums,ks,ps⟩)) HS.out.k
    dsimp only at c0 c1 c2 c3 c4
    have cw0:=Zs (k:=0) (x:=a) SW.out.1 HS.out.p.below (by rw [SW.out.2];rfl) lw0
    have cv0:wr.cell? aw=some (txt a):=cw0
    have cw1:=Zs (k:=1) (x:=b) SW.out.1 HS.out.p.below (by rw [SW.out.2];rfl) lw1
    have cv1:wr.cell? ⟨aw.block,aw.off+1,none⟩=some (txt b):=cw1
    have cn0:=Zab (k:=0) (x:=(p:Int)) SU.out.1 HS.out.p.below (by rw [SU.out.2];rfl) lu0
    have cm0:wr.cell? au=some (.int .i64 (p:Int)):=cn0
    have cn1:=Zab (k:=1) (x:=q) SU.out.1 HS.out.p.below (by rw [SU.out.2];rfl) lu1
    have cm1:wr.cell? ⟨au.block,au.off+1,none⟩=some (.int .i64 q):=cn1
    have cn2:=Zab (k:=2) (x:=r) SU.out.1 HS.out.p.below (by rw [SU.out.2];rfl) lu2
    have cm2:wr.cell? ⟨au.block,au.off+2,none⟩=some (.int .i64 r):=cn2
    by_cases him:i=ks.length
    ·have j1:decide (i<ks.length)=false:=decide_eq_false (by omega)
     have j2:¬ ((i:Int)<(ks.length:Int)):=by omega
     have hi2:ks.take i=ks:=by rw [him,List.take_length]
     rw [hi2] at HS
     clear hi hg hS him hi2
     go_wp2_with fail
     go_end0
     refine ⟨rfl,?_,HS.out.f⟩
     have:=HS.out.p
     simp only [List.append_assoc] at this ⊢
     exact this
    ·have hlt:i<ks.length:=by omega
     obtain ⟨y0,hy0⟩:∃ y,ks[i]? = some y:=⟨_,List.getElem?_eq_getElem hlt⟩
     obtain ⟨g0,g1,g2⟩:=FLe.out.2 y0 (List.mem_of_getElem? hy0)
     obtain ⟨n,rfl⟩:=Int.eq_ofNat_of_zero_le g0
     have hnl:n<ns.length:=by omega
     obtain ⟨z2,hz2⟩:∃ z,ns[n]? = some z:=⟨_,List.getElem?_eq_getElem hnl⟩
     rw [Zat hz2] at g2
     have nx:=ZcX (ns:=ns) hy0
     rw [Zat hz2] at nx
     have j1:(i:Int)<(ks.length:Int):=by omega
     have wk:IntKind.i64.wrap ((i:Int)+1)=(i:Int)+1:=IntWalk.i64_in _ (by have:=HN.out.2.2.2;have e:maxLen=9223372036854775807:=rfl;omega)
     have KI:=Lib.hid (Zas w0 wr bp dp _ vn ns _ i n ⟨HS.out.p,HN.out.1⟩ HN.out.2.1 hy0 hnl)
     have le:(ZaC ns (ks.take i)).length+(Zai z2).length<=(ZaC ns ks).length:=by
      have:=FLe.out.1 (i+1)
      rw [nx,List.length_append] at this
      exact this
     have HI:=Lib.hid (And.intro hlt (And.intro hg (And.intro nx (And.intro hz2 (And.intro g2 le)))))
     clear hi hg hS him hy0 g0 g1 g2 hnl hz2 nx le hlt
     go_wp2_with (first
      | (go_at_call 32;(refine KI.out.mono ?_);rintro e w8 ⟨y,rfl,hy,hy2,hb⟩;have ey:y.2=z2:=Option.some.inj (hy.symm.trans HI.out.2.2.2.1);have H8:=Lib.hid (And.intro hy2 (And.intro (HS.out.below hb) ey));clear hy hy2 hb ey;have EX:=Lib.hid (Zc5 w0 ns dp HT.out.2.1 w8 bp _ vn y H8.out.2.1.p HN.out.1 H8.out.1 (H8.out.2.2▸HI.out.2.2.2.2.1) (by rw [H8.out.2.2];have:=HL.out;have:=HI.out.2.2.2.2.2;simp only [List.length_append,List.length_cons,List.length_nil];omega)))
      | (go_at_call 46;(refine EX.out.mono ?_);rintro e w9 ⟨rfl,hp,hf⟩;have H9:=Lib.hid (H8.out.2.1.next hp hf);clear hp hf))
     go_roundg (ks.length-(i+1))
     case measure=>have:=HI.out.1;have:=HI.out.2.1;omega
     case rel=>
      refine ⟨i+1,by push_cast;rfl,HI.out.1,rfl,?_⟩
      rw [HI.out.2.2.1]
      have:=H9.out
      rw [H8.out.2.2] at this
      simp only [List.append_assoc] at this ⊢
      exact this
theorem Zhi (w0:World) (ns:List Nd) (dp:Nat) (htk:ZV w0 0 ZbU) (htn:ZV w0 1 ZaN) (ht:Zb7 w0 w0):Za4 30 w0 ns dp (Zdx ns) (ZaS ns):=by
 intro w bp t vn x h hN hx hok hl
 rcases hok with ⟨s,hn⟩ | ⟨⟨a,b,hn⟩,⟨p,q,r,hm,h0,h4,hq,hr⟩,hk⟩
 ·exact Zhg w0 w bp dp t vn ns x h hN hx s hn hl
 ·obtain ⟨p,rfl⟩:=Int.eq_ofNat_of_zero_le h0
  exact Zhh w0 w bp dp t vn ns x h hN hx htk htn ht a b hn p q r hm (by omega) hq hr hk hl
end
end Go.Proofs.YtenbomphkihmlaaGreatDoor
