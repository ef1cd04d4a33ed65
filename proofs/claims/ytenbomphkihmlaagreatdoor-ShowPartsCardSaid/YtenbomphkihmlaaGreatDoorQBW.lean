import Derived.Test.YtenbomphkihmlaaGreatDoorQBJ
import Derived.Test.YtenbomphkihmlaaGreatDoorQBR
set_option maxRecDepth 100000
set_option maxHeartbeats 8000000
namespace Go.Proofs.YtenbomphkihmlaaGreatDoor
section
open Go.RowKit
theorem Zfm (w0:World) (ns:List Nd) (dp f:Nat) (hE:Zaj w0 ns f):Za4 90 w0 ns dp (Zch ns f) (ZaU ns f):=by
 intro w bp t vn x h hN hx hok hl
 rcases hok with ⟨hk,s,r,hn⟩ | ⟨hk,hv⟩
 ·exact ZgN w0 w bp dp f t vn ns x h hx s r hk hn (by omega)
 ·exact ZiO w0 w bp dp f t vn ns x h hN hx hE hk hv (by omega)
def ZbS (ns:List Nd) (f:Nat) (n:Nd):Txt:=[99,97,108,108,32]++(if n.words.length=2 then ZD n 1++[32,61,32] else [])++ZD n 0++[40]++ZS [44,32] (n.kids.map fun k=>ZaU ns f (Ze ns k))++[41,59]
theorem ZhH (w0 w:World) (bp dp f:Nat) (t:Txt) (vn:Value) (ns:List Nd) (x:NdV×Nd) (h:PrS w0 w bp t dp vn) (hN:Zf w0 vn ns) (hx:Zv w0 x) (hE:Zaj w0 ns f) (a:Txt) (hn:x.2.words=[a]) (hok:ZM ns x.2.kids (Zch ns f)) (hl:t.length+(ZbS ns f x.2).length+10000<=140737488355328) :
  Calls Tryz.prog 68 #[.pointer (some ⟨bp,0,none⟩),ndX x] w fun e w'=>e=.returned (.tuple #[])/\PrS w0 w' bp (t++ZbS ns f x.2) dp vn/\Fr w w' bp:=by
 have hq:=hx
 obtain ⟨⟨vw,vu,vk⟩,kd,ws,nums,ks,ps⟩:=x
 obtain ⟨hw,hu,hkk⟩:=hx
 dsimp only at hn hok hw hu hkk hl ⊢
 obtain ⟨Aw,cw,rfl,hwl,hwm,hW,hWl⟩:=hw
 obtain ⟨Au,cu,rfl,hul,hum,hU⟩:=hu
 obtain ⟨Ak,ck,rfl,hkl,hkm,hK⟩:=hkk
 have he:ZbS ns f ⟨kd,ws,nums,ks,ps⟩=[99,97,108,108,32]++[]++a++[40]++ZS [44,32] (ks.map fun k=>ZaU ns f (Ze ns k))++[41,59]:=by
  unfold ZbS ZD
  dsimp only
  rw [hn]
  rfl
 rw [he] at hl ⊢
 clear he
 generalize hA:(ks.map fun k=>ZaU ns f (Ze ns k))=L at hl ⊢
 simp only [List.length_append,List.length_cons,List.length_nil] at hl
 have t2:((ws.length:Int)==2)=false:=by rw [hn];rfl
 have N1:=Nw.start (w:=w) #[.int .i64 kd,.slice Aw ws.length cw,.slice Au nums.length cu,.slice Ak ks.length ck,.int .i64 ps] h
 generalize hw1:w.alloc (.cells #[.int .i64 kd,.slice Aw ws.length cw,.slice Au nums.length cu,.slice Ak ks.length ck,.int .i64 ps] 29)=w1 at *
 obtain ⟨aw,rfl,_⟩:=ZaH (k:=0) (x:=a) hW N1.p.below (by rw [hn];rfl) (by rw [hn];exact Nat.succ_pos _)
 have lw0:0<ws.length:=by rw [hn];exact Nat.succ_pos _
 have SW:=Lib.hid (And.intro hW hn)
 have H1:=Lib.hid N1
 have HN:=Lib.hid (And.intro hN (And.intro hq (And.intro hK (And.intro hkm hkl))))
 have HL:=Lib.hid hl
 have HO:=Lib.hid (And.intro hok (And.intro hE hA))
 clear N1 hq hwl hwm hW hWl hul hum hU hkl hkm hK h hN hl hok hE hn hA
 obtain ⟨c0,c1,c2,c3,c4⟩:=Zg (x:=((.slice (some aw) ws.length cw,.slice Au nums.length cu,.slice Ak ks.length ck),⟨kd,ws,nums,ks,ps⟩)) H1.out.k
 dsimp only at c0 c1 c2 c3 c4
 have cw0:=Zs (k:=0) (x:=a) SW.out.1 H1.out.p.below (by rw [SW.out.2];rfl) lw0
 have cv0:w1.cell? aw=some (txt a):=cw0
 have AD:=Lib.hid (ZH w0 w1 bp dp t vn [99,97,108,108,32] H1.out.p (by have:=HL.out;simp only [List.length_cons,List.length_nil];omega))
 go_enter Tryz.func68,Tryz.ntmps68
 go_upto_region 2 with (go_at_call 26;(refine AD.out.mono ?_);rintro e w2 ⟨rfl,hp,hf⟩;have H2:=Lib.hid (H1.out.next hp hf);clear hp hf)
 clear c0 c1 c2 c3 c4 cw0 cv0
 obtain ⟨c0,c1,c2,c3,c4⟩:=Zg (x:=((.slice (some aw) ws.length cw,.slice Au nums.length cu,.slice Ak ks.length ck),⟨kd,ws,nums,ks,ps⟩)) H2.out.k
 dsimp only at c0 c1 c2 c3 c4
 have cw0:=Zs (k:=0) (x:=a) SW.out.1 H2.out.p.below (by rw [SW.out.2];rfl) lw0
 have cv0:w2.cell? aw=some (txt a):=cw0
 go_upto_region 4 with fail
 have D2:=Lib.hid H2.out.drew
 obtain ⟨d0,d1,d2,d3,d4⟩:=Zg (x:=((.slice (some aw) ws.length cw,.slice Au nums.length cu,.slice Ak ks.length ck),⟨kd,ws,nums,ks,ps⟩)) D2.out.k
 dsimp only at d0 d1 d2 d3 d4
 have dw0:=Zs (k:=0) (x:=a) SW.out.1 D2.out.p.below (by rw [SW.out.2];rfl) lw0
 have dv0:w2.drew.cell? aw=some (txt a):=dw0
 have AD:=Lib.hid (ZH w0 w2.drew bp dp _ vn a D2.out.p (by have:=HL.out;simp only [List.length_append,List.length_cons,List.length_nil];omega))
 go_region_with (go_at_call 26;(refine AD.out.mono ?_);rintro e w3 ⟨rfl,hp,hf⟩;have H3:=Lib.hid (D2.out.next hp hf);clear hp hf)
 all_goals
  clear c0 c1 c2 c3 c4 cw0 cv0 d0 d1 d2 d3 d4 dw0 dv0
  obtain ⟨c0,c1,c2,c3,c4⟩:=Zg (x:=((.slice (some aw) ws.length cw,.slice Au nums.length cu,.slice Ak ks.length ck),⟨kd,ws,nums,ks,ps⟩)) H3.out.k
  dsimp only at c0 c1 c2 c3 c4
  have cw0:=Zs (k:=0) (x:=a) SW.out.1 H3.out.p.below (by rw [SW.out.2];rfl) lw0
  have cv0:w3.cell? aw=some (txt a):=cw0
  have EN:=Lib.hid (Zcu _ Zd6 w0 w3 bp dp _ vn ns Ak ck ks (Zch ns f) (ZaU ns f) H3.out.p HN.out.1 HN.out.2.2.1 (by have:=HN.out.2.2.2;omega) HO.out.1 (Zfm w0 ns dp f HO.out.2.1) (by have:=HL.out;rw [HO.out.2.2];simp only [List.length_append,List.length_cons,List.length_nil];omega))
  go_upto_region 6 with (go_at_call 29;(refine EN.out.mono ?_);rintro e w4 ⟨rfl,hp,hf⟩;have H4:=Lib.hid (H3.out.next hp hf);clear hp hf)
  have AD:=Lib.hid (ZH w0 w4 bp dp _ vn [59] H4.out.p (by have:=HL.out;rw [HO.out.2.2];simp only [List.length_append,List.length_cons,List.length_nil];omega))
  go_wp2_with (go_at_call 26;(refine AD.out.mono ?_);rintro e w5 ⟨rfl,hp,hf⟩;have H5:=Lib.hid (H4.out.next hp hf);clear hp hf)
  go_end0
  refine ⟨rfl,?_,H5.out.f⟩
  have:=H5.out.p
  rw [HO.out.2.2] at this
  simp only [List.append_assoc,List.cons_append,List.nil_append] at this ⊢
  exact this
theorem ZhI (w0 w:World) (bp dp f:Nat) (t:Txt) (vn:Value) (ns:List Nd) (x:NdV×Nd) (h:PrS w0 w bp t dp vn) (hN:Zf w0 vn ns) (hx:Zv w0 x) (hE:Zaj w0 ns f) (a b:Txt) (hn:x.2.words=[a,b]) (hok:ZM ns x.2.kids (Zch ns f)) (hl:t.length+(ZbS ns f x.2).length+10000<=140737488355328) :
  Calls Tryz.prog 68 #[.pointer (some ⟨bp,0,none⟩),ndX x] w fun e w'=>e=.returned (.tuple #[])/\PrS w0 w' bp (t++ZbS ns f x.2) dp vn/\Fr w w' bp:=by
 have hq:=hx
 obtain ⟨⟨vw,vu,vk⟩,kd,ws,nums,ks,ps⟩:=x
 obtain ⟨hw,hu,hkk⟩:=hx
 dsimp only at hn hok hw hu hkk hl ⊢
 obtain ⟨Aw,cw,rfl,hwl,hwm,hW,hWl⟩:=hw
 obtain ⟨Au,cu,rfl,hul,hum,hU⟩:=hu
 obtain ⟨Ak,ck,rfl,hkl,hkm,hK⟩:=hkk
 have he:ZbS ns f ⟨kd,ws,nums,ks,ps⟩=[99,97,108,108,32]++(b++[32,61,32])++a++[40]++ZS [44,32] (ks.map fun k=>ZaU ns f (Ze ns k))++[41,59]:=by
  unfold ZbS ZD
  dsimp only
  rw [hn]
  rfl
 rw [he] at hl ⊢
 clear he
 generalize hA:(ks.map fun k=>ZaU ns f (Ze ns k))=L at hl ⊢
 simp only [List.length_append,List.length_cons,List.length_nil] at hl
 have t2:((ws.length:Int)==2)=true:=by rw [hn];rfl
 have N1:=Nw.start (w:=w) #[.int .i64 kd,.slice Aw ws.length cw,.slice Au nums.length cu,.slice Ak ks.length ck,.int .i64 ps] h
 generalize hw1:w.alloc (.cells #[.int .i64 kd,.slice Aw ws.length cw,.slice Au nums.length cu,.slice Ak ks.length ck,.int .i64 ps] 29)=w1 at *
 obtain ⟨aw,rfl,_⟩:=ZaH (k:=0) (x:=a) hW N1.p.below (by rw [hn];rfl) (by rw [hn];exact Nat.succ_pos _)
 have lw0:0<ws.length:=by rw [hn];exact Nat.succ_pos _
 have lw1:1<ws.length:=by rw [hn];simp only [List.length_cons];omega
 have SW:=Lib.hid (And.intro hW hn)
 have H1:=Lib.hid N1
 have HN:=Lib.hid (And.intro hN (And.intro hq (And.intro hK (And.intro hkm hkl))))
 have HL:=Lib.hid hl
 have HO:=Lib.hid (And.intro hok (And.intro hE hA))
 clear N1 hq hwl hwm hW hWl hul hum hU hkl hkm hK h hN hl hok hE hn hA
 obtain ⟨c0,c1,c2,c3,c4⟩:=Zg (x:=((.slice (some aw) ws.length cw,.slice Au nums.length cu,.slice Ak ks.length ck),⟨kd,ws,nums,ks,ps⟩)) H1.out.k
 dsimp only at c0 c1 c2 c3 c4
 have cw0:=Zs (k:=0) (x:=a) SW.out.1 H1.out.p.below (by rw [SW.out.2];rfl) lw0
 have cv0:w1.cell? aw=some (txt a):=cw0
 have cw1:=Zs (k:=1) (x:=b) SW.out.1 H1.out.p.below (by rw [SW.out.2];rfl) lw1
 have cv1:w1.cell? ⟨aw.block,aw.off+1,none⟩=some (txt b):=cw1
 have AD:=Lib.hid (ZH w0 w1 bp dp t vn [99,97,108,108,32] H1.out.p (by have:=HL.out;simp only [List.length_cons,List.length_nil];omega))
 go_enter Tryz.func68,Tryz.ntmps68
 go_upto_region 2 with (go_at_call 26;(refine AD.out.mono ?_);rintro e w2 ⟨rfl,hp,hf⟩;have H2:=Lib.hid (H1.out.next hp hf);clear hp hf)
 clear c0 c1 c2 c3 c4 cw0 cw1 cv0 cv1
 obtain ⟨c0,c1,c2,c3,c4⟩:=Zg (x:=((.slice (some aw) ws.length cw,.slice Au nums.length cu,.slice Ak ks.length ck),⟨kd,ws,nums,ks,ps⟩)) H2.out.k
 dsimp only at c0 c1 c2 c3 c4
 have cw0:=Zs (k:=0) (x:=a) SW.out.1 H2.out.p.below (by rw [SW.out.2];rfl) lw0
 have cv0:w2.cell? aw=some (txt a):=cw0
 have cw1:=Zs (k:=1) (x:=b) SW.out.1 H2.out.p.below (by rw [SW.out.2];rfl) lw1
 have cv1:w2.cell? ⟨aw.block,aw.off+1,none⟩=some (txt b):=cw1
 go_upto_region 3 with fail
 have D2:=Lib.hid H2.out.drew
 obtain ⟨d0,d1,d2,d3,d4⟩:=Zg (x:=((.slice (some aw) ws.length cw,.slice Au nums.length cu,.slice Ak ks.length ck),⟨kd,ws,nums,ks,ps⟩)) D2.out.k
 dsimp only at d0 d1 d2 d3 d4
 have dw0:=Zs (k:=0) (x:=a) SW.out.1 D2.out.p.below (by rw [SW.out.2];rfl) lw0
 have dv0:w2.drew.cell? aw=some (txt a):=dw0
 have dw1:=Zs (k:=1) (x:=b) SW.out.1 D2.out.p.below (by rw [SW.out.2];rfl) lw1
 have dv1:w2.drew.cell? ⟨aw.block,aw.off+1,none⟩=some (txt b):=dw1
 have AD:=Lib.hid (Zbl w0 w2.drew bp dp _ vn b [32,61,32] D2.out.p (by have:=HL.out;simp only [List.length_append,List.length_cons,List.length_nil];omega))
 go_region_with (go_at_call 26;(refine AD.out.mono ?_);rintro e w3 ⟨rfl,hp,hf⟩;have H3:=Lib.hid (D2.out.next hp hf);clear hp hf)
 all_goals
  clear c0 c1 c2 c3 c4 cw0 cw1 cv0 cv1 d0 d1 d2 d3 d4 dw0 dw1 dv0 dv1
  obtain ⟨c0,c1,c2,c3,c4⟩:=Zg (x:=((.slice (some aw) ws.length cw,.slice Au nums.length cu,.slice Ak ks.length ck),⟨kd,ws,nums,ks,ps⟩)) H3.out.k
  dsimp only at c0 c1 c2 c3 c4
  have cw0:=Zs (k:=0) (x:=a) SW.out.1 H3.out.p.below (by rw [SW.out.2];rfl) lw0
  have cv0:w3.cell? aw=some (txt a):=cw0
  have cw1:=Zs (k:=1) (x:=b) SW.out.1 H3.out.p.below (by rw [SW.out.2];rfl) lw1
  have cv1:w3.cell? ⟨aw.block,aw.off+1,none⟩=some (txt b):=cw1
  go_upto_region 4 with fail
  have D3:=Lib.hid H3.out.drew
  obtain ⟨d0,d1,d2,d3,d4⟩:=Zg (x:=((.slice (some aw) ws.length cw,.slice Au nums.length cu,.slice Ak ks.length ck),⟨kd,ws,nums,ks,ps⟩)) D3.out.k
  dsimp only at d0 d1 d2 d3 d4
  have dw0:=Zs (k:=0) (x:=a) SW.out.1 D3.out.p.below (by rw [SW.out.2];rfl) lw0
  have dv0:w3.drew.cell? aw=some (txt a):=dw0
  have dw1:=Zs (k:=1) (x:=b) SW.out.1 D3.out.p.below (by rw [SW.out.2];rfl) lw1
  have dv1:w3.drew.cell? ⟨aw.block,aw.off+1,none⟩=some (txt b):=dw1
  have AD:=Lib.hid (ZH w0 w3.drew bp dp _ vn a D3.out.p (by have:=HL.out;simp only [List.length_append,List.length_cons,List.length_nil];omega))
  go_region_with (go_at_call 26;(refine AD.out.mono ?_);rintro e w4 ⟨rfl,hp,hf⟩;have H4:=Lib.hid (D3.out.next hp hf);clear hp hf)
  all_goals
   clear c0 c1 c2 c3 c4 cw0 cw1 cv0 cv1 d0 d1 d2 d3 d4 dw0 dw1 dv0 dv1
   obtain ⟨c0,c1,c2,c3,c4⟩:=Zg (x:=((.slice (some aw) ws.length cw,.slice Au nums.length cu,.slice Ak ks.length ck),⟨kd,ws,nums,ks,ps⟩)) H4.out.k
   dsimp only at c0 c1 c2 c3 c4
   have cw0:=Zs (k:=0) (x:=a) SW.out.1 H4.out.p.below (by rw [SW.out.2];rfl) lw0
   have cv0:w4.cell? aw=some (txt a):=cw0
   have cw1:=Zs (k:=1) (x:=b) SW.out.1 H4.out.p.below (by rw [SW.out.2];rfl) lw1
   have cv1:w4.cell? ⟨aw.block,aw.off+1,none⟩=some (txt b):=cw1
   have EN:=Lib.hid (Zcu _ Zd6 w0 w4 bp dp _ vn ns Ak ck ks (Zch ns f) (ZaU ns f) H4.out.p HN.out.1 HN.out.2.2.1 (by have:=HN.out.2.2.2;omega) HO.out.1 (Zfm w0 ns dp f HO.out.2.1) (by have:=HL.out;rw [HO.out.2.2];simp only [List.length_append,List.length_cons,List.length_nil];omega))
   go_upto_region 6 with (go_at_call 29;(refine EN.out.mono ?_);rintro e w5 ⟨rfl,hp,hf⟩;have H5:=Lib.hid (H4.out.next hp hf);clear hp hf)
   have AD:=Lib.hid (ZH w0 w5 bp dp _ vn [59] H5.out.p (by have:=HL.out;rw [HO.out.2.2];simp only [List.length_append,List.length_cons,List.length_nil];omega))
   go_wp2_with (go_at_call 26;(refine AD.out.mono ?_);rintro e w6 ⟨rfl,hp,hf⟩;have H6:=Lib.hid (H5.out.next hp hf);clear hp hf)
   go_end0
   refine ⟨rfl,?_,H6.out.f⟩
   have:=H6.out.p
   rw [HO.out.2.2] at this
   simp only [List.append_assoc,List.cons_append,List.nil_append] at this ⊢
   exact this
end
end Go.Proofs.YtenbomphkihmlaaGreatDoor
