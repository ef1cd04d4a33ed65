import Derived.Test.YtenbomphkihmlaaGreatDoorQBR
set_option maxRecDepth 100000
set_option maxHeartbeats 8000000
namespace Go.Proofs.YtenbomphkihmlaaGreatDoor
section
open Go.RowKit
theorem Zcs {w0 W:World} {b b2 bp cw:Nat} {aw:Addr} {ws:List Txt} {kd ps vu vk:Value} {s1:Txt} (hk:Zm W b 29 #[kd,.slice (some aw) ws.length cw,vu,vk,ps]) (h2:Zm W b2 34 #[ZW bp]) (hb:Below w0.heap.size w0 W)
  (hW:ZB w0 w0.heap.size 1 (some aw) ws.length (ws.map txt)) (h0:ws[0]? = some s1) :
  (W.cell? ⟨b,1,none⟩=some (.slice (some aw) ws.length cw)/\W.cell? ⟨b2,0,none⟩=some (ZW bp)/\W.cell? aw=some (txt s1))/\Zm W b 29 #[kd,.slice (some aw) ws.length cw,vu,vk,ps]/\Zm W b2 34 #[ZW bp]/\Below w0.heap.size w0 W:=by
 have c1:=hk.blk.cell 1
 simp only [List.getElem?_toArray,List.getElem?_cons_zero,List.getElem?_cons_succ] at c1
 exact ⟨⟨c1,ZZ h2,Zs hW hb h0 (List.getElem?_eq_some_iff.1 h0).1⟩,hk,h2,hb⟩
theorem Zge (w0 w:World) (bp dp:Nat) (t:Txt) (vn:Value) (ns:List Nd) (x:NdV×Nd) (h:PrS w0 w bp t dp vn) (hN:Zf w0 vn ns) (hx:Zv w0 x) (hk:x.2.kind=2) (a:Txt) (hn:x.2.words=[a]) (hm:x.2.nums=[0]) (hl:t.length+(ZaX x.2).length+10000<=140737488355328) :
  Calls Tryz.prog 28 #[.pointer (some ⟨bp,0,none⟩),ndX x] w fun e w'=>e=.returned (.tuple #[])/\PrS w0 w' bp (t++ZaX x.2) dp vn/\Fr w w' bp:=by
 have hq:=hx
 obtain ⟨⟨vw,vu,vk⟩,kd,ws,nums,ks,ps⟩:=x
 obtain ⟨hw,hu,hkk⟩:=hx
 dsimp only at hk hn hm hw hu hkk hl ⊢
 obtain ⟨Aw,cw,rfl,hwl,hwm,hW,hWl⟩:=hw
 obtain ⟨Au,cu,rfl,hul,hum,hU⟩:=hu
 obtain ⟨Ak,ck,rfl,hkl,hkm,hK⟩:=hkk
 subst hk
 have he:ZaX ⟨2,ws,nums,ks,ps⟩=[115,116,97,116,101,32]++a++[59]:=by
  unfold ZaX ZD num
  dsimp only
  rw [hn,hm]
  rfl
 rw [he] at hl ⊢
 clear he
 simp only [List.length_append,List.length_cons,List.length_nil] at hl
 have a0:=Zb w (.cells #[ZW bp] 34)
 have BP:Zm _ _ _ _:=Zm.start w #[ZW bp] 34
 have P0:=h.keep a0
 generalize hw0:w.alloc (.cells #[ZW bp] 34)=wb at *
 have h:=P0
 have HP:=Lib.hid (And.intro P0 (And.intro BP a0))
 clear P0 BP a0
 have N1:=Nw.start (w:=wb) #[.int .i64 2,.slice Aw ws.length cw,.slice Au nums.length cu,.slice Ak ks.length ck,.int .i64 ps] h
 generalize hw1:wb.alloc (.cells #[.int .i64 2,.slice Aw ws.length cw,.slice Au nums.length cu,.slice Ak ks.length ck,.int .i64 ps] 29)=w1 at *
 obtain ⟨aw,rfl,_⟩:=ZaH (k:=0) (x:=a) hW N1.p.below (by rw [hn];rfl) (by rw [hn];exact Nat.succ_pos _)
 have lw0:0<ws.length:=by rw [hn];exact Nat.succ_pos _
 have SW:=Lib.hid (And.intro hW hn)
 obtain ⟨au,rfl,_⟩:=Zp (k:=0) (x:=0) hU N1.p.below (by rw [hm];rfl) (by rw [hm];exact Nat.succ_pos _)
 have lu0:0<nums.length:=by rw [hm];exact Nat.succ_pos _
 have SU:=Lib.hid (And.intro hU hm)
 have H1:=Lib.hid N1
 have HN:=Lib.hid (And.intro hN (And.intro hq (And.intro hK (And.intro hkm hkl))))
 have HL:=Lib.hid hl
 clear N1 hq hwl hwm hW hWl hul hum hU hkl hkm hK h hN hl hn hm
 have D1:=Lib.hid H1.out.drew
 obtain ⟨c0,c1,c2,c3,c4⟩:=Zg (x:=((.slice (some aw) ws.length cw,.slice (some au) nums.length cu,.slice Ak ks.length ck),⟨2,ws,nums,ks,ps⟩)) H1.out.k
 dsimp only at c0 c1 c2 c3 c4
 have cw0:=Zs (k:=0) (x:=a) SW.out.1 H1.out.p.below (by rw [SW.out.2];rfl) lw0
 have cv0:w1.cell? aw=some (txt a):=cw0
 have cn0:=Zab (k:=0) (x:=0) SU.out.1 H1.out.p.below (by rw [SU.out.2];rfl) lu0
 have cm0:w1.cell? au=some (.int .i64 0):=cn0
 have AD:=Lib.hid (Zbl w0 w1.drew bp dp t vn [115,116,97,116,101,32] a D1.out.p (by have:=HL.out;simp only [List.length_cons,List.length_nil];omega))
 have jw0:(0:Int)<(ws.length:Int):=by omega
 go_enter Tryz.func28,Tryz.ntmps28
 go_upto_region 7 with fail
 clear c0 c1 c2 c3 c4 cw0 cn0 cv0 cm0
 have HS:(fun W:World=>(W.cell? ⟨wb.heap.size,1,none⟩=some (.slice (some aw) ws.length cw)/\W.cell? ⟨w.heap.size,0,none⟩=some (ZW bp)/\W.cell? aw=some (txt a))/\Zm W wb.heap.size 29 #[.int .i64 2,.slice (some aw) ws.length cw,.slice (some au) nums.length cu,.slice Ak ks.length ck,.int .i64 ps]/\Zm W w.heap.size 34 #[ZW bp]/\Below w0.heap.size w0 W) w1.drew:=Zcs (D1.out.k) ((D1.out.f.at_ _ _ _ (Zal HP.out.1 HP.out.2.1 (by decide)) (by decide) HP.out.2.1)) (D1.out.p.below) SW.out.1 (by rw [SW.out.2];rfl)
 refine wp_region_noPanic ?_
 refine wp_region_held_drew (S:=fun W:World=>(W.cell? ⟨wb.heap.size,1,none⟩=some (.slice (some aw) ws.length cw)/\W.cell? ⟨w.heap.size,0,none⟩=some (ZW bp)/\W.cell? aw=some (txt a))/\Zm W wb.heap.size 29 #[.int .i64 2,.slice (some aw) ws.length cw,.slice (some au) nums.length cu,.slice Ak ks.length ck,.int .i64 ps]/\Zm W w.heap.size 34 #[ZW bp]/\Below w0.heap.size w0 W) (by kernel_rfl) HS (fun hHeld=>?_)
 clear HS
 refine tk 0 rfl ?_
 refine tk 1 rfl ?_
 refine tk 2 rfl ?_
 refine tk 3 rfl ?_
 refine tk 4 rfl ?_
 refine tk 5 rfl ?_
 refine tk 6 rfl ?_
 (try simp only [cl,Act.put])
 refine rd 7 rfl fun K hK=>?_
 go_simp
 refine hK.out _ _ ?_ (fun hH2=>?_)
 ·exact Zcs (hHeld.2.1.keep (Zb _ _)) (hHeld.2.2.1.keep (Zb _ _)) (hHeld.2.2.2.trans ((Zb _ _).mono hHeld.2.2.2.size)) SW.out.1 (by rw [SW.out.2];rfl)
 clear hK K hHeld;have hHeld:=hH2;clear hH2
 (try simp only [cl,Act.put])
 refine rd 8 rfl fun K hK=>?_
 go_simp
 go_at_call 26
 refine AD.out.mono ?_
 rintro e w2 ⟨rfl,hp,hf⟩
 have H2:=Lib.hid (D1.out.next hp hf)
 have G2:=Lib.hid hf
 have hb:=H2.out.p.below
 clear hp hf
 go_wp2_with fail
 refine hK.out _ _ (Zcs (H2.out.k) ((H2.out.f.at_ _ _ _ (Zal HP.out.1 HP.out.2.1 (by decide)) (by decide) HP.out.2.1)) (H2.out.p.below) SW.out.1 (by rw [SW.out.2];rfl)) (fun hH2=>?_)
 clear hK K hHeld hb;have hHeld:=hH2;clear hH2
 (try simp only [cl,Act.put])
 refine wpAnyH_done (by kernel_rfl) ?_ _
 refine NoPanic.normal ?_
 clear hHeld
 have ep:=ZZ (H2.out.f.at_ _ _ _ (Zal HP.out.1 HP.out.2.1 (by decide)) (by decide) HP.out.2.1)
 have AD:=Lib.hid (ZH w0 w2 bp dp _ vn [59] H2.out.p (by have:=HL.out;simp only [List.length_append,List.length_cons,List.length_nil];omega))
 go_wp2_with (go_at_call 26;(refine AD.out.mono ?_);rintro e w3 ⟨rfl,hp,hf⟩;have H3:=Lib.hid (H2.out.next hp hf);clear hp hf)
 go_end0
 refine ⟨rfl,?_,(Fr.of_below bp HP.out.2.2).trans H3.out.f⟩
 have:=H3.out.p
 simp only [List.append_assoc] at this ⊢
 exact this
theorem Zgf (w0 w:World) (bp dp:Nat) (t:Txt) (vn:Value) (ns:List Nd) (x:NdV×Nd) (h:PrS w0 w bp t dp vn) (hN:Zf w0 vn ns) (hx:Zv w0 x) (hk:x.2.kind=2) (a:Txt) (hn:x.2.words=[a]) (hm:x.2.nums=[1]) (hl:t.length+(ZaX x.2).length+10000<=140737488355328) :
  Calls Tryz.prog 28 #[.pointer (some ⟨bp,0,none⟩),ndX x] w fun e w'=>e=.returned (.tuple #[])/\PrS w0 w' bp (t++ZaX x.2) dp vn/\Fr w w' bp:=by
 have hq:=hx
 obtain ⟨⟨vw,vu,vk⟩,kd,ws,nums,ks,ps⟩:=x
 obtain ⟨hw,hu,hkk⟩:=hx
 dsimp only at hk hn hm hw hu hkk hl ⊢
 obtain ⟨Aw,cw,rfl,hwl,hwm,hW,hWl⟩:=hw
 obtain ⟨Au,cu,rfl,hul,hum,hU⟩:=hu
 obtain ⟨Ak,ck,rfl,hkl,hkm,hK⟩:=hkk
 subst hk
 have he:ZaX ⟨2,ws,nums,ks,ps⟩=[102,105,110,97,108,32]++a++[59]:=by
  unfold ZaX ZD num
  dsimp only
  rw [hn,hm]
  rfl
 rw [he] at hl ⊢
 clear he
 simp only [List.length_append,List.length_cons,List.length_nil] at hl
 have a0:=Zb w (.cells #[ZW bp] 34)
 have BP:Zm _ _ _ _:=Zm.start w #[ZW bp] 34
 have P0:=h.keep a0
 generalize hw0:w.alloc (.cells #[ZW bp] 34)=wb at *
 have h:=P0
 have HP:=Lib.hid (And.intro P0 (And.intro BP a0))
 clear P0 BP a0
 have N1:=Nw.start (w:=wb) #[.int .i64 2,.slice Aw ws.length cw,.slice Au nums.length cu,.slice Ak ks.length ck,.int .i64 ps] h
 generalize hw1:wb.alloc (.cells #[.int .i64 2,.slice Aw ws.length cw,.slice Au nums.length cu,.slice Ak ks.length ck,.int .i64 ps] 29)=w1 at *
 obtain ⟨aw,rfl,_⟩:=ZaH (k:=0) (x:=a) hW N1.p.below (by rw [hn];rfl) (by rw [hn];exact Nat.succ_pos _)
 have lw0:0<ws.length:=by rw [hn];exact Nat.succ_pos _
 have SW:=Lib.hid (And.intro hW hn)
 obtain ⟨au,rfl,_⟩:=Zp (k:=0) (x:=1) hU N1.p.below (by rw [hm];rfl) (by rw [hm];exact Nat.succ_pos _)
 have lu0:0<nums.length:=by rw [hm];exact Nat.succ_pos _
 have SU:=Lib.hid (And.intro hU hm)
 have H1:=Lib.hid N1
 have HN:=Lib.hid (And.intro hN (And.intro hq (And.intro hK (And.intro hkm hkl))))
 have HL:=Lib.hid hl
 clear N1 hq hwl hwm hW hWl hul hum hU hkl hkm hK h hN hl hn hm
 have D1:=Lib.hid H1.out.drew
 obtain ⟨c0,c1,c2,c3,c4⟩:=Zg (x:=((.slice (some aw) ws.length cw,.slice (some au) nums.length cu,.slice Ak ks.length ck),⟨2,ws,nums,ks,ps⟩)) H1.out.k
 dsimp only at c0 c1 c2 c3 c4
 have cw0:=Zs (k:=0) (x:=a) SW.out.1 H1.out.p.below (by rw [SW.out.2];rfl) lw0
 have cv0:w1.cell? aw=some (txt a):=cw0
 have cn0:=Zab (k:=0) (x:=1) SU.out.1 H1.out.p.below (by rw [SU.out.2];rfl) lu0
 have cm0:w1.cell? au=some (.int .i64 1):=cn0
 have AD:=Lib.hid (Zbl w0 w1.drew bp dp t vn [102,105,110,97,108,32] a D1.out.p (by have:=HL.out;simp only [List.length_cons,List.length_nil];omega))
 have jw0:(0:Int)<(ws.length:Int):=by omega
 go_enter Tryz.func28,Tryz.ntmps28
 go_upto_region 1 with fail
 clear c0 c1 c2 c3 c4 cw0 cn0 cv0 cm0
 have HS:(fun W:World=>(W.cell? ⟨wb.heap.size,1,none⟩=some (.slice (some aw) ws.length cw)/\W.cell? ⟨w.heap.size,0,none⟩=some (ZW bp)/\W.cell? aw=some (txt a))/\Zm W wb.heap.size 29 #[.int .i64 2,.slice (some aw) ws.length cw,.slice (some au) nums.length cu,.slice Ak ks.length ck,.int .i64 ps]/\Zm W w.heap.size 34 #[ZW bp]/\Below w0.heap.size w0 W) w1.drew:=Zcs (D1.out.k) ((D1.out.f.at_ _ _ _ (Zal HP.out.1 HP.out.2.1 (by decide)) (by decide) HP.out.2.1)) (D1.out.p.below) SW.out.1 (by rw [SW.out.2];rfl)
 refine wp_region_noPanic ?_
 refine wp_region_held_drew (S:=fun W:World=>(W.cell? ⟨wb.heap.size,1,none⟩=some (.slice (some aw) ws.length cw)/\W.cell? ⟨w.heap.size,0,none⟩=some (ZW bp)/\W.cell? aw=some (txt a))/\Zm W wb.heap.size 29 #[.int .i64 2,.slice (some aw) ws.length cw,.slice (some au) nums.length cu,.slice Ak ks.length ck,.int .i64 ps]/\Zm W w.heap.size 34 #[ZW bp]/\Below w0.heap.size w0 W) (by kernel_rfl) HS (fun hHeld=>?_)
 clear HS
 refine tk 0 rfl ?_
 refine tk 1 rfl ?_
 refine tk 2 rfl ?_
 refine tk 3 rfl ?_
 refine tk 4 rfl ?_
 refine tk 5 rfl ?_
 refine tk 6 rfl ?_
 (try simp only [cl,Act.put])
 refine rd 7 rfl fun K hK=>?_
 go_simp
 refine hK.out _ _ ?_ (fun hH2=>?_)
 ·exact Zcs (hHeld.2.1.keep (Zb _ _)) (hHeld.2.2.1.keep (Zb _ _)) (hHeld.2.2.2.trans ((Zb _ _).mono hHeld.2.2.2.size)) SW.out.1 (by rw [SW.out.2];rfl)
 clear hK K hHeld;have hHeld:=hH2;clear hH2
 (try simp only [cl,Act.put])
 refine rd 8 rfl fun K hK=>?_
 go_simp
 go_at_call 26
 refine AD.out.mono ?_
 rintro e w2 ⟨rfl,hp,hf⟩
 have H2:=Lib.hid (D1.out.next hp hf)
 have G2:=Lib.hid hf
 have hb:=H2.out.p.below
 clear hp hf
 go_wp2_with fail
 refine hK.out _ _ (Zcs (H2.out.k) ((H2.out.f.at_ _ _ _ (Zal HP.out.1 HP.out.2.1 (by decide)) (by decide) HP.out.2.1)) (H2.out.p.below) SW.out.1 (by rw [SW.out.2];rfl)) (fun hH2=>?_)
 clear hK K hHeld hb;have hHeld:=hH2;clear hH2
 (try simp only [cl,Act.put])
 refine wpAnyH_done (by kernel_rfl) ?_ _
 refine NoPanic.normal ?_
 clear hHeld
 have ep:=ZZ (H2.out.f.at_ _ _ _ (Zal HP.out.1 HP.out.2.1 (by decide)) (by decide) HP.out.2.1)
 have AD:=Lib.hid (ZH w0 w2 bp dp _ vn [59] H2.out.p (by have:=HL.out;simp only [List.length_append,List.length_cons,List.length_nil];omega))
 go_wp2_with (go_at_call 26;(refine AD.out.mono ?_);rintro e w3 ⟨rfl,hp,hf⟩;have H3:=Lib.hid (H2.out.next hp hf);clear hp hf)
 go_end0
 refine ⟨rfl,?_,(Fr.of_below bp HP.out.2.2).trans H3.out.f⟩
 have:=H3.out.p
 simp only [List.append_assoc] at this ⊢
 exact this
theorem Zev {w0 W:World} {b b2 bp cw:Nat} {aw:Addr} {ws:List Txt} {kd ps vu vk:Value} {s1 s2:Txt} (hk:Zm W b 29 #[kd,.slice (some aw) ws.length cw,vu,vk,ps]) (h2:Zm W b2 34 #[ZW bp]) (hb:Below w0.heap.size w0 W)
  (hW:ZB w0 w0.heap.size 1 (some aw) ws.length (ws.map txt)) (h0:ws[0]? = some s1) (h1:ws[1]? = some s2) :
  (W.cell? ⟨b,1,none⟩=some (.slice (some aw) ws.length cw)/\W.cell? ⟨b2,0,none⟩=some (ZW bp)/\W.cell? aw=some (txt s1)/\W.cell? (aw.add 1)=some (txt s2)/\W.cell? ⟨aw.block,aw.off+1,none⟩=some (txt s2))/\Zm W b 29 #[kd,.slice (some aw) ws.length cw,vu,vk,ps]/\Zm W b2 34 #[ZW bp]/\Below w0.heap.size w0 W:=by
 have c1:=hk.blk.cell 1
 simp only [List.getElem?_toArray,List.getElem?_cons_zero,List.getElem?_cons_succ] at c1
 have l1:=(List.getElem?_eq_some_iff.1 h1).1
 have e1:=Zs hW hb h1 l1
 exact ⟨⟨c1,ZZ h2,Zs hW hb h0 (by omega),e1,e1⟩,hk,h2,hb⟩
theorem ZjO (w0 w:World) (bp dp:Nat) (t:Txt) (vn:Value) (ns:List Nd) (x:NdV×Nd) (h:PrS w0 w bp t dp vn) (hN:Zf w0 vn ns) (hx:Zv w0 x) (hk:x.2.kind=3) (a b:Txt) (r:List Txt) (hn:x.2.words=a::b::r) (hev:r.length % 2=0) (hr2:2<=r.length) (hl:t.length+(ZaX x.2).length+10000<=140737488355328) :
  Calls Tryz.prog 28 #[.pointer (some ⟨bp,0,none⟩),ndX x] w fun e w'=>e=.returned (.tuple #[])/\PrS w0 w' bp (t++ZaX x.2) dp vn/\Fr w w' bp:=by
 have hq:=hx
 obtain ⟨⟨vw,vu,vk⟩,kd,ws,nums,ks,ps⟩:=x
 obtain ⟨hw,hu,hkk⟩:=hx
 dsimp only at hk hn hw hu hkk hl ⊢
 obtain ⟨Aw,cw,rfl,hwl,hwm,hW,hWl⟩:=hw
 obtain ⟨Au,cu,rfl,hul,hum,hU⟩:=hu
 obtain ⟨Ak,ck,rfl,hkl,hkm,hK⟩:=hkk
 subst hk
 have he:ZaX ⟨3,ws,nums,ks,ps⟩=[111,112,32]++a++[32]++b++[32,45,62,32]++ZS [44,32] (Zap r)++[59]:=by
  unfold ZaX ZD
  dsimp only
  rw [hn]
  rfl
 rw [he] at hl ⊢
 clear he
 simp only [List.length_append,List.length_cons,List.length_nil] at hl
 have jw0:(0:Int)<(ws.length:Int):=by rw [hn];simp only [List.length_cons];omega
 have jw1:(1:Int)<(ws.length:Int):=by rw [hn];simp only [List.length_cons];omega
 have jw2:(2:Int)<=(ws.length:Int):=by rw [hn];simp only [List.length_cons];omega
 have jn2:2<=ws.length:=by omega
 have wz:ws.length=r.length+2:=by rw [hn];simp only [List.length_cons]
 have wd:ws.drop 2=r:=by rw [hn];rfl
 have a0:=Zb w (.cells #[ZW bp] 34)
 have BP:Zm _ _ _ _:=Zm.start w #[ZW bp] 34
 have P0:=h.keep a0
 generalize hw0:w.alloc (.cells #[ZW bp] 34)=wb at *
 have h:=P0
 have HP:=Lib.hid (And.intro P0 (And.intro BP a0))
 clear P0 BP a0
 have N1:=Nw.start (w:=wb) #[.int .i64 3,.slice Aw ws.length cw,.slice Au nums.length cu,.slice Ak ks.length ck,.int .i64 ps] h
 generalize hw1:wb.alloc (.cells #[.int .i64 3,.slice Aw ws.length cw,.slice Au nums.length cu,.slice Ak ks.length ck,.int .i64 ps] 29)=w1 at *
 obtain ⟨aw,rfl,_⟩:=ZaH (k:=0) (x:=a) hW N1.p.below (by rw [hn];rfl) (by rw [hn];exact Nat.succ_pos _)
 have lw0:0<ws.length:=by rw [hn];exact Nat.succ_pos _
 have lw1:1<ws.length:=by rw [hn];simp only [List.length_cons];omega
 have SW:=Lib.hid (And.intro hW hn)
 have H1:=Lib.hid N1
 have HN:=Lib.hid (And.intro hN (And.intro hq (And.intro hK (And.intro hkm hkl))))
 have HL:=Lib.hid hl
 have HR:=Lib.hid (And.intro hev (And.intro hr2 (And.intro wz (And.intro wd (And.intro hwl hwm)))))
 clear N1 hq hwl hwm hW hWl hul hum hU hkl hkm hK h hN hl hn hev hr2 wz wd
 obtain ⟨c0,c1,c2,c3,c4⟩:=Zg (x:=((.slice (some aw) ws.length cw,.slice Au nums.length cu,.slice Ak ks.length ck),⟨3,ws,nums,ks,ps⟩)) H1.out.k
 dsimp only at c0 c1 c2 c3 c4
 have cw0:=Zs (k:=0) (x:=a) SW.out.1 H1.out.p.below (by rw [SW.out.2];rfl) lw0
 have cv0:w1.cell? aw=some (txt a):=cw0
 have cw1:=Zs (k:=1) (x:=b) SW.out.1 H1.out.p.below (by rw [SW.out.2];rfl) lw1
 have cv1:w1.cell? ⟨aw.block,aw.off+1,none⟩=some (txt b):=cw1
 go_enter Tryz.func28,Tryz.ntmps28
 have lw2:(if cw=2 then some aw else some (⟨aw.block,aw.off+2,none⟩:Addr))=some ⟨aw.block,aw.off+2,none⟩:=by rw [if_neg (by have:=HR.out;omega)]
 have lz:ws.length-2=r.length:=by have:=HR.out.2.2.1;omega
 have BO:Zm _ _ _ _:=Zm.start w1 #[.slice (some ⟨aw.block,aw.off+2,none⟩) r.length (cw-2)] 26
 have a2:=Zb w1 (.cells #[.slice (some ⟨aw.block,aw.off+2,none⟩) r.length (cw-2)] 26)
 go_upto_region 4 with fail
 generalize hA2:(⟨aw.block,aw.off+2,none⟩:Addr)=A2 at *
 have HA2:=Lib.hid (show aw.add 2=A2 from hA2)
 clear hA2
 clear c0 c1 c2 c3 c4 cw0 cw1 cv0 cv1
 generalize hw2:w1.alloc (.cells #[.slice (some A2) r.length (cw-2)] 26)=w2 at *
 have H2:=Lib.hid (H1.out.below a2)
 have HO:=Lib.hid BO
 clear a2 BO lw2 lz
 have D2:=Lib.hid H2.out.drew
 have AD:=Lib.hid (ZiJ w0 w2.drew bp dp t vn [111,112,32] a [32] b [32,45,62,32] D2.out.p (by have:=HL.out;simp only [List.length_cons,List.length_nil];omega))
 have HS:(fun W:World=>(W.cell? ⟨wb.heap.size,1,none⟩=some (.slice (some aw) ws.length cw)/\W.cell? ⟨w.heap.size,0,none⟩=some (ZW bp)/\W.cell? aw=some (txt a)/\W.cell? (aw.add 1)=some (txt b)/\W.cell? ⟨aw.block,aw.off+1,none⟩=some (txt b))/\Zm W wb.heap.size 29 #[.int .i64 3,.slice (some aw) ws.length cw,.slice Au nums.length cu,.slice Ak ks.length ck,.int .i64 ps]/\Zm W w.heap.size 34 #[ZW bp]/\Below w0.heap.size w0 W) w2.drew:=Zev (D2.out.k) ((D2.out.f.at_ _ _ _ (Zal HP.out.1 HP.out.2.1 (by decide)) (by decide) HP.out.2.1)) (D2.out.p.below) SW.out.1 (by rw [SW.out.2];rfl) (by rw [SW.out.2];rfl)
 refine wp_region_noPanic ?_
 refine wp_region_held_drew (S:=fun W:World=>(W.cell? ⟨wb.heap.size,1,none⟩=some (.slice (some aw) ws.length cw)/\W.cell? ⟨w.heap.size,0,none⟩=some (ZW bp)/\W.cell? aw=some (txt a)/\W.cell? (aw.add 1)=some (txt b)/\W.cell? ⟨aw.block,aw.off+1,none⟩=some (txt b))/\Zm W wb.heap.size 29 #[.int .i64 3,.slice (some aw) ws.length cw,.slice Au nums.length cu,.slice Ak ks.length ck,.int .i64 ps]/\Zm W w.heap.size 34 #[ZW bp]/\Below w0.heap.size w0 W) (by kernel_rfl) HS (fun hHeld=>?_)
 clear HS
 refine tk 0 rfl ?_
 refine tk 1 rfl ?_
 refine tk 2 rfl ?_
 refine tk 3 rfl ?_
 refine tk 4 rfl ?_
 refine tk 5 rfl ?_
 refine tk 6 rfl ?_
 refine tk 7 rfl ?_
 refine tk 8 rfl ?_
 refine tk 9 rfl ?_
 refine tk 10 rfl ?_
 (try simp only [cl,Act.put])
 refine rd 11 rfl fun K hK=>?_
 go_simp
 refine hK.out _ _ ?_ (fun hH2=>?_)
 ·exact Zev (hHeld.2.1.keep (Zb _ _)) (hHeld.2.2.1.keep (Zb _ _)) (hHeld.2.2.2.trans ((Zb _ _).mono hHeld.2.2.2.size)) SW.out.1 (by rw [SW.out.2];rfl) (by rw [SW.out.2];rfl)
 clear hK K hHeld;have hHeld:=hH2;clear hH2
 (try simp only [cl,Act.put])
 refine rd 12 rfl fun K hK=>?_
 go_simp
 go_at_call 26
 refine AD.out.mono ?_
 rintro e w3 ⟨rfl,hp,hf⟩
 have H3:=Lib.hid (D2.out.next hp hf)
 have G3:=Lib.hid hf
 have hb:=H3.out.p.below
 clear hp hf
 go_wp2_with fail
 refine hK.out _ _ (Zev (H3.out.k) ((H3.out.f.at_ _ _ _ (Zal HP.out.1 HP.out.2.1 (by decide)) (by decide) HP.out.2.1)) (H3.out.p.below) SW.out.1 (by rw [SW.out.2];rfl) (by rw [SW.out.2];rfl)) (fun hH2=>?_)
 clear hK K hHeld hb;have hHeld:=hH2;clear hH2
 (try simp only [cl,Act.put])
 refine wpAnyH_done (by kernel_rfl) ?_ _
 refine NoPanic.normal ?_
 clear hHeld
 have D3:=Lib.hid H3.out.drew
 have TO:=Lib.hid (G3.out.at_ _ _ _ (Zal D2.out.p (HO.out.keep (Zh w2)) (by decide)) (by decide) (HO.out.keep (Zh w2)))
 have TP:=Lib.hid (H3.out.f.at_ _ _ _ (Zal HP.out.1 HP.out.2.1 (by decide)) (by decide) HP.out.2.1)
 have e1:=ZZ TO.out
 have e2:=ZZ TP.out
 have f1:=ZZ (TO.out.keep (Zh w3))
 have f2:=ZZ (TP.out.keep (Zh w3))
 have RD:=Lib.hid (show ZB w0 w0.heap.size 1 (some A2) r.length (r.map txt) from by
  have:=Zei SW.out.1 2 (by have:=HR.out;omega)
  rw [<- List.map_drop,HR.out.2.2.2.1,HA2.out] at this
  rw [show r.length=ws.length-2 by have:=HR.out;omega]
  exact this)
 have q0:(r.length:Int).tdiv 2=((Zap r).length:Int):=by rw [ZbW,Int.tdiv_eq_ediv_of_nonneg (by omega)];omega
 have q3:(r.length:Int) / 2=((Zap r).length:Int):=by rw [ZbW];omega
 have q1:IntKind.i64.wrap ((Zap r).length:Int)=((Zap r).length:Int):=IntWalk.i64_in _ (by rw [ZbW];have:=HR.out;have e9:maxLen=9223372036854775807:=rfl;omega)
 have SP:=Lib.hid (Zce 43 #[ZW w.heap.size,ZW w1.heap.size] (Zbg Tryz.func43 (by kernel_rfl) rfl) w0 w3.drew bp dp _ [44,32] vn (Zap r) D3.out.p (fun k x w' t' hx hp hf hl'=>by
  obtain ⟨u,v,h1,h2,rfl⟩:=ZeS r k x hx
  exact Zii w0 w' bp dp _ _ t' vn A2 (cw-2) r k u v hp
   (hf.at_ _ _ _ (Zal D3.out.p (TP.out.keep (Zh w3)) (by decide)) (by decide) (TP.out.keep (Zh w3)))
   (hf.at_ _ _ _ (Zal D3.out.p (TO.out.keep (Zh w3)) (by decide)) (by decide) (TO.out.keep (Zh w3)))
   RD.out (by have:=HR.out;have e9:maxLen=9223372036854775807:=rfl;omega) h1 h2 hl') (by rw [ZbW];have:=HR.out;have e9:maxLen=9223372036854775807:=rfl;omega) (by have:=HL.out;simp only [List.length_append,List.length_cons,List.length_nil];omega))
 go_upto_region 5 with fail
 go_region_with (go_at_call 42;(refine SP.out.mono ?_);rintro e w4 ⟨rfl,hp,hf⟩;have H4:=Lib.hid (D3.out.next hp hf);clear hp hf)
 all_goals
  have ep:=ZZ (H4.out.f.at_ _ _ _ (Zal HP.out.1 HP.out.2.1 (by decide)) (by decide) HP.out.2.1)
  have AD:=Lib.hid (ZH w0 w4 bp dp _ vn [59] H4.out.p (by have:=HL.out;simp only [List.length_append,List.length_cons,List.length_nil];omega))
  go_wp2_with (go_at_call 26;(refine AD.out.mono ?_);rintro e w5 ⟨rfl,hp,hf⟩;have H5:=Lib.hid (H4.out.next hp hf);clear hp hf)
  go_end0
  refine ⟨rfl,?_,(Fr.of_below bp HP.out.2.2).trans H5.out.f⟩
  have:=H5.out.p
  simp only [List.append_assoc] at this ⊢
  exact this
theorem Zik (w0:World) (ns:List Nd) (dp:Nat):Za4 28 w0 ns dp Zd3 ZaX:=by
 intro w bp t vn x h hN hx hok hl
 rcases hok with ⟨hk,a,b,r,hn,he,h2⟩ | ⟨hk,⟨a,hn⟩,y,hm,h0,h1⟩
 ·exact ZjO w0 w bp dp t vn ns x h hN hx hk a b r hn he h2 hl
 ·have:y=0\/y=1:=by omega
  rcases this with rfl | rfl
  ·exact Zge w0 w bp dp t vn ns x h hN hx hk a hn hm hl
  ·exact Zgf w0 w bp dp t vn ns x h hN hx hk a hn hm hl
end
end Go.Proofs.YtenbomphkihmlaaGreatDoor
