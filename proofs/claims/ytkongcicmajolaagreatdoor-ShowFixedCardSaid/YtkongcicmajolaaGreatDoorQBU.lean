import Derived.Test.YtkongcicmajolaaGreatDoorQAP
import Derived.Test.YtkongcicmajolaaGreatDoorQBT
set_option maxRecDepth 100000
set_option maxHeartbeats 8000000
namespace Go.Proofs.YtkongcicmajolaaGreatDoor
section
open Go.RowKit
theorem ZpC (w0 w:World) (bp dp:Nat) (t:Txt) (vn:Value) (ns:List Nd) (Ok:Nd->Prop) (T:Nd->Txt) (x:NdV×Nd) (h:PrS w0 w bp t dp vn) (hN:Zs w0 vn ns) (hx:ZaW w0 x) (htk:Zay w0 1 ZeX) (htn:Zay w0 2 Zcm) (ht:Zff w0 w0) (hB:Zc1 41 w0 ns dp Ok T)
  (a b:Txt) (hn:x.2.words=[a,b]) (p:Nat) (q r:Int) (hm:x.2.nums=[(p:Int),q,r]) (hp4:p<=4) (hq0:ZaI q) (hr0:ZaI r) (l:List Int) (k:Nat) (hks:x.2.kids=l++[(k:Int)]) (hol:Zaa ns l ZeB) (hkn:k<ns.length) (hok:Ok (Za ns k))
  (hl:t.length+([115,112,108,105,116,32]++a++[32,61,32]++b++[32]++Zax p++[32]++Zdk q r++Zb5 ns l++T (Za ns k)).length+10000<=140737488355328) :
  Calls Tryz.prog 93 #[.pointer (some ⟨bp,0,none⟩),ndX x] w fun e w'=>e=.returned (.tuple #[])/\PrS w0 w' bp (t++([115,112,108,105,116,32]++a++[32,61,32]++b++[32]++Zax p++[32]++Zdk q r++Zb5 ns l++T (Za ns k))) dp vn/\Fr w w' bp:=by
 have hq:=hx
 obtain ⟨⟨vw,vu,vk⟩,kd,ws,nums,ks,ps⟩:=x
 obtain ⟨hw,hu,hkk⟩:=hx
 dsimp only at hn hm hks hw hu hkk hl ⊢
 obtain ⟨Aw,cw,rfl,hwl,hwm,hW,hWl⟩:=hw
 obtain ⟨Au,cu,rfl,hul,hum,hU⟩:=hu
 obtain ⟨Ak,ck,rfl,hkl,hkm,hK⟩:=hkk
 obtain ⟨z,hz⟩:∃ z,ns[k]? = some z:=⟨_,List.getElem?_eq_getElem hkn⟩
 rw [ZbC hz] at hl hok ⊢
 simp only [List.length_append,List.length_cons,List.length_nil] at hl
 have hkl2:ks.length=l.length+1:=by rw [hks];simp
 have wl:IntKind.i64.wrap ((ks.length:Int)-1)=(l.length:Int):=by rw [hkl2];exact (IntWalk.i64_in _ (by have e:maxLen=9223372036854775807:=rfl;omega)).trans (by push_cast;omega)
 have p0:(0:Int)<=(p:Int):=by omega
 have p1:(p:Int)<5:=by omega
 have N1:=Nw.start (w:=w) #[.int .i64 kd,.slice Aw ws.length cw,.slice Au nums.length cu,.slice Ak ks.length ck,.int .i64 ps] h
 generalize hw1:w.alloc (.cells #[.int .i64 kd,.slice Aw ws.length cw,.slice Au nums.length cu,.slice Ak ks.length ck,.int .i64 ps] 37)=w1 at *
 obtain ⟨aw,rfl,_⟩:=Zcl (k:=0) (x:=a) hW N1.p.below (by rw [hn];rfl) (by rw [hn];exact Nat.succ_pos _)
 have lw0:0<ws.length:=by rw [hn];exact Nat.succ_pos _
 have lw1:1<ws.length:=by rw [hn];simp only [List.length_cons];omega
 have SW:=zh (zi hW hn)
 obtain ⟨au,rfl,_⟩:=ints_at (k:=0) (x:=(p:Int)) hU N1.p.below (by rw [hm];rfl) (by rw [hm];exact Nat.succ_pos _)
 have lu0:0<nums.length:=by rw [hm];exact Nat.succ_pos _
 have lu1:1<nums.length:=by rw [hm];simp only [List.length_cons];omega
 have lu2:2<nums.length:=by rw [hm];simp only [List.length_cons];omega
 have SU:=zh (zi hU hm)
 have H1:=zh N1
 have HN:=zh (zi hN (zi hq (zi hK (zi hkm hkl))))
 have HL:=zh hl
 have HK:=zh (zi hks (zi hol (zi hkn (zi hz hok))))
 have HT:=zh (zi htk (zi htn ht))
 have HB:=zh hB
 have HQ:=zh (zi hp4 (zi hq0 (zi hr0 hkl2)))
 clear N1 hq hwl hwm hW hWl hul hum hU hkl hkm hK h hN hl hn hm hks hol hkn hz hok htk htn ht hB hp4 hq0 hr0 hkl2
 have D1:=zh H1.out.drew
 have AD:=zh (ZpP w0 w1.drew bp dp t vn [115,112,108,105,116,32] a [32,61,32] b [32] (Zax p) [32] D1.out.p (by have:=HL.out;simp only [List.length_cons,List.length_nil];omega))
 obtain ⟨c0,c1,c2,c3,c4⟩:=Zg (x:=((.slice (some aw) ws.length cw,.slice (some au) nums.length cu,.slice Ak ks.length ck),⟨kd,ws,nums,ks,ps⟩)) H1.out.k
 dsimp only at c0 c1 c2 c3 c4
 have cw0:=Zz (k:=0) (x:=a) SW.out.1 H1.out.p.below (by rw [SW.out.2];rfl) lw0
 have cv0:w1.cell? aw=some (txt a):=cw0
 have cw1:=Zz (k:=1) (x:=b) SW.out.1 H1.out.p.below (by rw [SW.out.2];rfl) lw1
 have cv1:w1.cell? ⟨aw.block,aw.off+1,none⟩=some (txt b):=cw1
 have cn0:=ZaM (k:=0) (x:=(p:Int)) SU.out.1 H1.out.p.below (by rw [SU.out.2];rfl) lu0
 have cm0:w1.cell? au=some (.int .i64 (p:Int)):=cn0
 have cn1:=ZaM (k:=1) (x:=q) SU.out.1 H1.out.p.below (by rw [SU.out.2];rfl) lu1
 have cm1:w1.cell? ⟨au.block,au.off+1,none⟩=some (.int .i64 q):=cn1
 have cn2:=ZaM (k:=2) (x:=r) SU.out.1 H1.out.p.below (by rw [SU.out.2];rfl) lu2
 have cm2:w1.cell? ⟨au.block,au.off+2,none⟩=some (.int .i64 r):=cn2
 go_enter Tryz.func93,Tryz.ntmps93
 go_upto_region 2 with fail
 clear c0 c1 c2 c3 c4 cw0 cw1 cn0 cn1 cn2 cv0 cv1 cm0 cm1 cm2
 have jw0:(0:Int)<(ws.length:Int):=by omega
 have jw1:(1:Int)<(ws.length:Int):=by omega
 have ju0:(0:Int)<(nums.length:Int):=by omega
 have ju1:(1:Int)<(nums.length:Int):=by omega
 have ju2:(2:Int)<(nums.length:Int):=by omega
 have HS:(fun W:World=>(W.cell? ⟨w.heap.size,1,none⟩=some (.slice (some aw) ws.length cw)/\W.cell? ⟨w.heap.size,2,none⟩=some (.slice (some au) nums.length cu)/\W.cell? aw=some (txt a)/\W.cell? (aw.add 1)=some (txt b)/\W.cell? ⟨aw.block,aw.off+1,none⟩=some (txt b)/\W.cell? au=some (.int .i64 (p:Int))/\W.cell? ⟨1,p,none⟩=some (txt (Zax p)))/\Zh W w.heap.size 37 #[.int .i64 kd,.slice (some aw) ws.length cw,.slice (some au) nums.length cu,.slice Ak ks.length ck,.int .i64 ps]/\Below w0.heap.size w0 W) w1.drew:=ZfU (D1.out.k) (D1.out.p.below) SW.out.1 SU.out.1 (by rw [SW.out.2];rfl) (by rw [SW.out.2];rfl) (by rw [SU.out.2];rfl) HT.out.1 HQ.out.1
 refine wp_region_noPanic ?_
 refine wp_region_held_drew (S:=fun W:World=>(W.cell? ⟨w.heap.size,1,none⟩=some (.slice (some aw) ws.length cw)/\W.cell? ⟨w.heap.size,2,none⟩=some (.slice (some au) nums.length cu)/\W.cell? aw=some (txt a)/\W.cell? (aw.add 1)=some (txt b)/\W.cell? ⟨aw.block,aw.off+1,none⟩=some (txt b)/\W.cell? au=some (.int .i64 (p:Int))/\W.cell? ⟨1,p,none⟩=some (txt (Zax p)))/\Zh W w.heap.size 37 #[.int .i64 kd,.slice (some aw) ws.length cw,.slice (some au) nums.length cu,.slice Ak ks.length ck,.int .i64 ps]/\Below w0.heap.size w0 W) (by kernel_rfl) HS (fun hHeld=>?_)
 clear HS
 refine tk 0 rfl ?_
 refine tk 1 rfl ?_
 refine tk 2 rfl ?_
 refine tk 3 rfl ?_
 refine tk 4 rfl ?_
 refine tk 5 rfl ?_
 refine tk 6 rfl ?_
 refine tk 7 rfl ?_
 refine tk 8 rfl ?_
 refine tk 9 rfl ?_
 refine tk 10 rfl ?_
 refine tk 11 rfl ?_
 refine tk 12 rfl ?_
 refine tk 13 rfl ?_
 refine tk 14 rfl ?_
 refine tk 15 rfl ?_
 refine tk 16 rfl ?_
 (try simp only [cl,Act.put])
 refine rd 17 rfl fun K hK=>?_
 go_simp
 refine hK.out _ _ ?_ (fun hH2=>?_)
 ·exact ZfU (hHeld.2.1.keep (below_alloc1 _ _)) (hHeld.2.2.trans ((below_alloc1 _ _).mono hHeld.2.2.size)) SW.out.1 SU.out.1 (by rw [SW.out.2];rfl) (by rw [SW.out.2];rfl) (by rw [SU.out.2];rfl) HT.out.1 HQ.out.1
 clear hK K hHeld;have hHeld:=hH2;clear hH2
 (try simp only [cl,Act.put])
 refine rd 18 rfl fun K hK=>?_
 go_simp
 go_at_call 36
 refine AD.out.mono ?_
 rintro e w2 ⟨rfl,hp,hf⟩
 have H2:=zh (D1.out.next hp hf)
 have hb:=H2.out.p.below
 clear hp hf
 go_wp2_with fail
 refine hK.out _ _ (ZfU (H2.out.k) (H2.out.p.below) SW.out.1 SU.out.1 (by rw [SW.out.2];rfl) (by rw [SW.out.2];rfl) (by rw [SU.out.2];rfl) HT.out.1 HQ.out.1) (fun hH2=>?_)
 clear hK K hHeld hb;have hHeld:=hH2;clear hH2
 (try simp only [cl,Act.put])
 refine wpAnyH_done (by kernel_rfl) ?_ _
 refine NoPanic.normal ?_
 clear hHeld
 go_upto_region 3 with fail
 have D2:=zh H2.out.drew
 obtain ⟨c0,c1,c2,c3,c4⟩:=Zg (x:=((.slice (some aw) ws.length cw,.slice (some au) nums.length cu,.slice Ak ks.length ck),⟨kd,ws,nums,ks,ps⟩)) H2.out.k
 dsimp only at c0 c1 c2 c3 c4
 have cw0:=Zz (k:=0) (x:=a) SW.out.1 H2.out.p.below (by rw [SW.out.2];rfl) lw0
 have cv0:w2.cell? aw=some (txt a):=cw0
 have cw1:=Zz (k:=1) (x:=b) SW.out.1 H2.out.p.below (by rw [SW.out.2];rfl) lw1
 have cv1:w2.cell? ⟨aw.block,aw.off+1,none⟩=some (txt b):=cw1
 have cn0:=ZaM (k:=0) (x:=(p:Int)) SU.out.1 H2.out.p.below (by rw [SU.out.2];rfl) lu0
 have cm0:w2.cell? au=some (.int .i64 (p:Int)):=cn0
 have cn1:=ZaM (k:=1) (x:=q) SU.out.1 H2.out.p.below (by rw [SU.out.2];rfl) lu1
 have cm1:w2.cell? ⟨au.block,au.off+1,none⟩=some (.int .i64 q):=cn1
 have cn2:=ZaM (k:=2) (x:=r) SU.out.1 H2.out.p.below (by rw [SU.out.2];rfl) lu2
 have cm2:w2.cell? ⟨au.block,au.off+2,none⟩=some (.int .i64 r):=cn2
 have FA:=zh (Zhh w0 w2.drew bp dp _ vn q r D2.out.p HT.out.2.2 (by have:=HQ.out.2.1;unfold ZaI at this;omega) (by have:=HQ.out.2.2.1;unfold ZaI at this;omega) (by have:=HL.out;simp only [List.length_append,List.length_cons,List.length_nil];omega))
 refine wp_region_still_tail 11 (by kernel_rfl) (by kernel_rfl) ?_
 simp only [List.take_succ_cons,List.take_zero,List.drop_succ_cons,List.drop_zero]
 iterate 11 still_step
 refine wpStill_nil ?_
 change wpList _ _ _ _ _ w2.drew
 go_upto_region 4 with (go_at_call 67;(refine FA.out.mono ?_);rintro e w3 ⟨rfl,hp,hf⟩;have H3:=zh (D2.out.next hp hf);clear hp hf)
 clear c0 c1 c2 c3 c4 cw0 cw1 cn0 cn1 cn2 cv0 cv1 cm0 cm1 cm2
 have FLe:=zh (zi (fun i=>Zij (ns:=ns) (l:=l) i) HK.out.2.1)
 obtain ⟨m,hml⟩:∃ m,m=l.length:=⟨_,rfl⟩
 rw [<- hml]
 have HM:=zh hml
 clear hml
 go_wp2_with fail
 go_loopg [42] m (fun g v42 wr=>∃ i:Nat,v42=.int .i64 i/\i<=m/\g=m-i/\Nw w0 w wr bp w.heap.size (t++([115,112,108,105,116,32]++a++[32,61,32]++b++[32]++Zax p++[32])++Zdk q r++Zb5 ns (l.take i)) dp vn #[.int .i64 kd,.slice (some aw) ws.length cw,.slice (some au) nums.length cu,.slice Ak ks.length ck,.int .i64 ps])
 case atStart=>exact ⟨0,rfl,Nat.zero_le _,rfl,by simpa [Zb5] using H3.out⟩
 case round=>
  obtain ⟨i,rfl,hi,hg,hS⟩:=hrel
  have HS:=zh hS
  obtain ⟨c0,c1,c2,c3,c4⟩:=Zg (x:=((.slice (some aw) ws.length cw,.slice (some au) nums.length cu,.slice Ak ks.length ck),⟨kd,ws,nums,ks,ps⟩)) HS.out.k
  dsimp only at c0 c1 c2 c3 c4
  have cw0:=Zz (k:=0) (x:=a) SW.out.1 HS.out.p.below (by rw [SW.out.2];rfl) lw0
  have cv0:wr.cell? aw=some (txt a):=cw0
  have cw1:=Zz (k:=1) (x:=b) SW.out.1 HS.out.p.below (by rw [SW.out.2];rfl) lw1
  have cv1:wr.cell? ⟨aw.block,aw.off+1,none⟩=some (txt b):=cw1
  have cn0:=ZaM (k:=0) (x:=(p:Int)) SU.out.1 HS.out.p.below (by rw [SU.out.2];rfl) lu0
  have cm0:wr.cell? au=some (.int .i64 (p:Int)):=cn0
  have cn1:=ZaM (k:=1) (x:=q) SU.out.1 HS.out.p.below (by rw [SU.out.2];rfl) lu1
  have cm1:wr.cell? ⟨au.block,au.off+1,none⟩=some (.int .i64 q):=cn1
  have cn2:=ZaM (k:=2) (x:=r) SU.out.1 HS.out.p.below (by rw [SU.out.2];rfl) lu2
  have cm2:wr.cell? ⟨au.block,au.off+2,none⟩=some (.int .i64 r):=cn2
  by_cases him:i=m
  ·have j1:decide (i<m)=false:=decide_eq_false (by omega)
   have j2:¬ ((i:Int)<(m:Int)):=by omega
   have hi2:l.take i=l:=by rw [him,HM.out,List.take_length]
   rw [hi2] at HS
   have lk:ks[m]? = some (k:Int):=by rw [HK.out.1,HM.out];simp
   have KI:=zh (ZbB w0 wr bp dp _ vn ns _ m k ⟨HS.out.p,HN.out.1⟩ HN.out.2.1 lk HK.out.2.2.1)
   have HN2:=zh (zi HN.out.1 HB.out)
   clear hi hg hS him hi2 lk
   go_wp2_with (first
    | (go_at_call 42;(refine KI.out.mono ?_);rintro e w4 ⟨y,rfl,hy,hy2,hb⟩;have ey:y.2=z:=Option.some.inj (hy.symm.trans HK.out.2.2.2.1);have H4:=zh (zi hy2 (zi (HS.out.below hb) ey));clear hy hy2 hb ey;have EX:=zh (HN2.out.2 w4 bp _ vn y H4.out.2.1.p HN2.out.1 H4.out.1 (H4.out.2.2▸HK.out.2.2.2.2) (by rw [H4.out.2.2];have:=HL.out;simp only [List.length_append,List.length_cons,List.length_nil];omega)))
    | (go_at_call 41;(refine EX.out.mono ?_);rintro e w5 ⟨rfl,hp,hf⟩;have H5:=zh (H4.out.2.1.next hp hf);clear hp hf))
   go_end0
   refine ⟨rfl,?_,H5.out.f⟩
   have:=H5.out.p
   rw [H4.out.2.2] at this
   simp only [List.append_assoc] at this ⊢
   exact this
  ·have hlt:i<m:=by omega
   obtain ⟨y0,hy0⟩:∃ y,l[i]? = some y:=⟨_,List.getElem?_eq_getElem (by rw [<- HM.out];exact hlt)⟩
   obtain ⟨g0,g1,g2⟩:=FLe.out.2 y0 (List.mem_of_getElem? hy0)
   obtain ⟨n,rfl⟩:=Int.eq_ofNat_of_zero_le g0
   have hnl:n<ns.length:=by omega
   obtain ⟨z2,hz2⟩:∃ z,ns[n]? = some z:=⟨_,List.getElem?_eq_getElem hnl⟩
   rw [ZbC hz2] at g2
   have nx:=ZgZ (ns:=ns) hy0
   rw [ZbC hz2] at nx
   have j1:(i:Int)<(m:Int):=by omega
   have wk:IntKind.i64.wrap ((i:Int)+1)=(i:Int)+1:=IntWalk.i64_in _ (by have:=HN.out.2.2.2;have:=HQ.out.2.2.2;have:=HM.out;have e:maxLen=9223372036854775807:=rfl;omega)
   have lk:ks[i]? = some (n:Int):=by rw [HK.out.1,List.getElem?_append_left (by rw [<- HM.out];exact hlt)];exact hy0
   have KI:=zh (ZbB w0 wr bp dp _ vn ns _ i n ⟨HS.out.p,HN.out.1⟩ HN.out.2.1 lk hnl)
   have le:(Zb5 ns (l.take i)).length+(ZaT z2).length<=(Zb5 ns l).length:=by
    have:=FLe.out.1 (i+1)
    rw [nx,List.length_append] at this
    exact this
   have HI:=zh (zi hlt (zi hg (zi nx (zi hz2 (zi g2 le)))))
   clear hi hg hS him hy0 g0 g1 g2 hnl hz2 nx lk le hlt
   go_wp2_with (first
    | (go_at_call 42;(refine KI.out.mono ?_);rintro e w4 ⟨y,rfl,hy,hy2,hb⟩;have ey:y.2=z2:=Option.some.inj (hy.symm.trans HI.out.2.2.2.1);have H4:=zh (zi hy2 (zi (HS.out.below hb) ey));clear hy hy2 hb ey;have EX:=zh (Zg3 w0 ns dp HT.out.2.1 w4 bp _ vn y H4.out.2.1.p HN.out.1 H4.out.1 (H4.out.2.2▸HI.out.2.2.2.2.1) (by rw [H4.out.2.2];have:=HL.out;have:=HI.out.2.2.2.2.2;simp only [List.length_append,List.length_cons,List.length_nil];omega)))
    | (go_at_call 68;(refine EX.out.mono ?_);rintro e w5 ⟨rfl,hp,hf⟩;have H5:=zh (H4.out.2.1.next hp hf);clear hp hf))
   go_roundg (m-(i+1))
   case measure=>have:=HI.out.1;have:=HI.out.2.1;omega
   case rel=>
    refine ⟨i+1,by push_cast;rfl,HI.out.1,rfl,?_⟩
    rw [HI.out.2.2.1]
    have:=H5.out
    rw [H4.out.2.2] at this
    simp only [List.append_assoc] at this ⊢
    exact this
end
section
open Go.RowKit
theorem Zro (w0:World) (ns:List Nd) (dp:Nat) (S:Nd->Prop) (T:Nd->Txt) (hd:dp<4000) (hS:Zc1 120 w0 ns (dp+1) S T):Zc1 92 w0 ns dp (fun n=>(∃ a b,n.words=[a,b])/\Zaa ns n.kids S)
  (fun n=>[100,111,32]++word n 0++[46]++word n 1++(if n.kids=[] then [59] else ZI dp (n.kids.map fun k=>T (Za ns k)))):=by
 intro w bp t vn x h hN hx hok hl
 obtain ⟨⟨a,b,hn⟩,hok⟩:=hok
 have hq:=hx
 obtain ⟨⟨vw,vu,vk⟩,kd,ws,nums,ks,ps⟩:=x
 obtain ⟨hw,hu,hkk⟩:=hx
 dsimp only at hn hok hw hu hkk hl ⊢
 obtain ⟨Aw,cw,rfl,hwl,hwm,hW,hWl⟩:=hw
 obtain ⟨Au,cu,rfl,hul,hum,hU⟩:=hu
 obtain ⟨Ak,ck,rfl,hkl,hkm,hK⟩:=hkk
 have e0:word ⟨kd,ws,nums,ks,ps⟩ 0=a:=by unfold word;dsimp only;rw [hn];rfl
 have e1:word ⟨kd,ws,nums,ks,ps⟩ 1=b:=by unfold word;dsimp only;rw [hn];rfl
 rw [e0,e1] at hl ⊢
 clear e0 e1
 obtain ⟨Z,hZ⟩:∃ Z,Z=(if ks=[] then [59] else ZI dp (ks.map fun k=>T (Za ns k))):=⟨_,rfl⟩
 rw [<- hZ] at hl ⊢
 simp only [List.length_append,List.length_cons,List.length_nil] at hl
 have N1:=Nw.start (w:=w) #[.int .i64 kd,.slice Aw ws.length cw,.slice Au nums.length cu,.slice Ak ks.length ck,.int .i64 ps] h
 generalize hw1:w.alloc (.cells #[.int .i64 kd,.slice Aw ws.length cw,.slice Au nums.length cu,.slice Ak ks.length ck,.int .i64 ps] 37)=w1 at *
 obtain ⟨aw,rfl,_⟩:=Zcl (k:=0) (x:=a) hW N1.p.below (by rw [hn];rfl) (by rw [hn];exact Nat.succ_pos _)
 have lw0:0<ws.length:=by rw [hn];exact Nat.succ_pos _
 have lw1:1<ws.length:=by rw [hn];simp only [List.length_cons];omega
 have SW:=zh (zi hW hn)
 have H1:=zh N1
 have HN:=zh (zi hN (zi hq (zi hK (zi hkm hkl))))
 have HL:=zh hl
 have HO:=zh (zi hok (zi hS hd))
 have HZ:=zh hZ
 clear N1 hq hwl hwm hW hWl hul hum hU hkl hkm hK h hN hl hok hS hd hn hZ
 have D1:=zh H1.out.drew
 obtain ⟨c0,c1,c2,c3,c4⟩:=Zg (x:=((.slice (some aw) ws.length cw,.slice Au nums.length cu,.slice Ak ks.length ck),⟨kd,ws,nums,ks,ps⟩)) H1.out.k
 dsimp only at c0 c1 c2 c3 c4
 have cw0:=Zz (k:=0) (x:=a) SW.out.1 H1.out.p.below (by rw [SW.out.2];rfl) lw0
 have cv0:w1.cell? aw=some (txt a):=cw0
 have cw1:=Zz (k:=1) (x:=b) SW.out.1 H1.out.p.below (by rw [SW.out.2];rfl) lw1
 have cv1:w1.cell? ⟨aw.block,aw.off+1,none⟩=some (txt b):=cw1
 obtain ⟨d0,d1,d2,d3,d4⟩:=Zg (x:=((.slice (some aw) ws.length cw,.slice Au nums.length cu,.slice Ak ks.length ck),⟨kd,ws,nums,ks,ps⟩)) D1.out.k
 dsimp only at d0 d1 d2 d3 d4
 have dw0:=Zz (k:=0) (x:=a) SW.out.1 D1.out.p.below (by rw [SW.out.2];rfl) lw0
 have dv0:w1.drew.cell? aw=some (txt a):=dw0
 have dw1:=Zz (k:=1) (x:=b) SW.out.1 D1.out.p.below (by rw [SW.out.2];rfl) lw1
 have dv1:w1.drew.cell? ⟨aw.block,aw.off+1,none⟩=some (txt b):=dw1
 have AD:=zh (Zid w0 w1.drew bp dp t vn [100,111,32] a [46] b D1.out.p (by have:=HL.out;simp only [List.length_cons,List.length_nil];omega))
 go_enter Tryz.func92,Tryz.ntmps92
 go_upto_region 1 with fail
 go_region_with (go_at_call 36;(refine AD.out.mono ?_);rintro e w2 ⟨rfl,hp,hf⟩;have H2:=zh (D1.out.next hp hf);clear hp hf)
 all_goals
  clear c0 c1 c2 c3 c4 cw0 cw1 cv0 cv1 d0 d1 d2 d3 d4 dw0 dw1 dv0 dv1
  obtain ⟨c0,c1,c2,c3,c4⟩:=Zg (x:=((.slice (some aw) ws.length cw,.slice Au nums.length cu,.slice Ak ks.length ck),⟨kd,ws,nums,ks,ps⟩)) H2.out.k
  dsimp only at c0 c1 c2 c3 c4
  have cw0:=Zz (k:=0) (x:=a) SW.out.1 H2.out.p.below (by rw [SW.out.2];rfl) lw0
  have cv0:w2.cell? aw=some (txt a):=cw0
  have cw1:=Zz (k:=1) (x:=b) SW.out.1 H2.out.p.below (by rw [SW.out.2];rfl) lw1
  have cv1:w2.cell? ⟨aw.block,aw.off+1,none⟩=some (txt b):=cw1
  by_cases hz:ks=[]
  ·have ez:=HZ.out
   rw [if_pos hz] at ez
   have hz2:((ks.length:Int)==0)=true:=by rw [hz];rfl
   have HE:=zh ez
   clear ez hz
   have AE:=zh (Zaf w0 w2 bp dp _ vn [59] H2.out.p (by have:=HL.out;rw [HE.out] at this;simp only [List.length_append,List.length_cons,List.length_nil] at this ⊢;omega))
   go_wp2_with (go_at_call 36;(refine AE.out.mono ?_);rintro e w3 ⟨rfl,hp,hf⟩;have H3:=zh (H2.out.next hp hf);clear hp hf)
   refine bodyPost_ret (v:=.tuple #[]) (results_none (by kernel_rfl) _ _ _) rfl ⟨rfl,?_,H3.out.f⟩
   have:=H3.out.p
   rw [<- HE.out] at this
   simp only [List.append_assoc] at this ⊢
   exact this
  ·have ez:=HZ.out
   rw [if_neg hz] at ez
   have hz2:((ks.length:Int)==0)=false:=by
    rw [beq_eq_false_iff_ne]
    cases ks with
    | nil=>exact absurd rfl hz
    | cons p q=>simp only [List.length_cons];omega
   have HE:=zh ez
   clear ez hz
   have BR:=zh (ZgQ _ Zjv w0 w2 bp dp _ vn ns Ak ck ks S T H2.out.p HN.out.1 HO.out.2.2 HN.out.2.2.1 (by have:=HN.out.2.2.2;omega) HO.out.1 HO.out.2.1 (by have:=HL.out;rw [HE.out] at this;simp only [List.length_append,List.length_cons,List.length_nil];omega))
   go_wp2_with (go_at_call 37;(refine BR.out.mono ?_);rintro e w3 ⟨rfl,hp,hf⟩;have H3:=zh (H2.out.next hp hf);clear hp hf)
   go_end0
   refine ⟨rfl,?_,H3.out.f⟩
   have:=H3.out.p
   rw [<- HE.out] at this
   simp only [List.append_assoc] at this ⊢
   exact this
end
section
open Go.RowKit
abbrev Zc3 (ns:List Nd) (f d:Nat) (m:Nd):Txt:=ZI d (m.kids.map fun k=>Zl ns f (d+1) (Za ns k))
theorem Zsh (w0 w:World) (bp dp:Nat) (t:Txt) (vn:Value) (ns:List Nd) (f:Nat) (x:NdV×Nd) (h:PrS w0 w bp t dp vn) (hN:Zs w0 vn ns) (hx:ZaW w0 x) (hE:Zbp w0 ns f) (hk:x.2.kind=8) (s:Txt) (r:List Txt) (k:Nat) (hn:x.2.words=s::r) (hi:x.2.kids[0]? = some (k:Int)) (hkn:k<ns.length) (hv:ZP ns f (Za ns k)) (hl:t.length+(Zl ns (f+1) dp x.2).length+10000<=140737488355328) :
  Calls Tryz.prog 69 #[.pointer (some ⟨bp,0,none⟩),ndX x] w fun e w'=>e=.returned (.tuple #[])/\PrS w0 w' bp (t++Zl ns (f+1) dp x.2) dp vn/\Fr w w' bp:=by
 have hq:=hx
 obtain ⟨⟨vw,vu,vk⟩,kd,ws,nums,ks,ps⟩:=x
 obtain ⟨hw,hu,hkk⟩:=hx
 dsimp only at hk hn hi hw hu hkk hl ⊢
 obtain ⟨Aw,cw,rfl,hwl,hwm,hW,hWl⟩:=hw
 obtain ⟨Au,cu,rfl,hul,hum,hU⟩:=hu
 obtain ⟨Ak,ck,rfl,hkl,hkm,hK⟩:=hkk
 subst hk
 have he:Zl ns (f+1) dp ⟨8,ws,nums,ks,ps⟩=[108,101,116,32]++Zfa ns f ⟨8,ws,nums,ks,ps⟩:=by simp [Zl]
 rw [he] at hl ⊢
 clear he
 simp only [List.length_append,List.length_cons,List.length_nil] at hl
 have N1:=Nw.start (w:=w) #[.int .i64 8,.slice Aw ws.length cw,.slice Au nums.length cu,.slice Ak ks.length ck,.int .i64 ps] h
 generalize hw1:w.alloc (.cells #[.int .i64 8,.slice Aw ws.length cw,.slice Au nums.length cu,.slice Ak ks.length ck,.int .i64 ps] 37)=w1 at *
 have H1:=zh N1
 have HN:=zh (zi hN (zi hq (zi hK (zi hkm hkl))))
 have HL:=zh hl
 have HI:=zh (zi hn (zi hi (zi hkn (zi hv hE))))
 clear N1 hq hwl hwm hW hWl hul hum hU hkl hkm hK h hN hl hn hi hkn hv hE
 obtain ⟨c0,c1,c2,c3,c4⟩:=Zg (x:=((.slice Aw ws.length cw,.slice Au nums.length cu,.slice Ak ks.length ck),⟨8,ws,nums,ks,ps⟩)) H1.out.k
 dsimp only at c0 c1 c2 c3 c4
 have AD:=zh (Zaf w0 w1 bp dp t vn [108,101,116,32] H1.out.p (by have:=HL.out;simp only [List.length_cons,List.length_nil];omega))
 go_enter Tryz.func69,Tryz.ntmps69
 go_upto_region 4 with (go_at_call 36;(refine AD.out.mono ?_);rintro e w2 ⟨rfl,hp,hf⟩;have H2:=zh (H1.out.next hp hf);clear hp hf)
 clear c0 c1 c2 c3 c4
 obtain ⟨c0,c1,c2,c3,c4⟩:=Zg (x:=((.slice Aw ws.length cw,.slice Au nums.length cu,.slice Ak ks.length ck),⟨8,ws,nums,ks,ps⟩)) H2.out.k
 dsimp only at c0 c1 c2 c3 c4
 have SE:=zh (ZmN w0 w2 bp dp f _ vn ns _ H2.out.p HN.out.1 HN.out.2.1 HI.out.2.2.2.2 s r k HI.out.1 HI.out.2.1 HI.out.2.2.1 HI.out.2.2.2.1 (by have:=HL.out;simp only [List.length_append,List.length_cons,List.length_nil];omega))
 go_wp2_with (go_at_call 90;(refine SE.out.mono ?_);rintro e w3 ⟨rfl,hp,hf⟩;have H3:=zh (H2.out.next hp hf);clear hp hf)
 go_end0
 refine ⟨rfl,?_,H3.out.f⟩
 have:=H3.out.p
 simp only [List.append_assoc,List.cons_append,List.nil_append] at this ⊢
 exact this
theorem Zsi (w0 w:World) (bp dp:Nat) (t:Txt) (vn:Value) (ns:List Nd) (f:Nat) (x:NdV×Nd) (h:PrS w0 w bp t dp vn) (hN:Zs w0 vn ns) (hx:ZaW w0 x) (hE:Zbp w0 ns f) (hk:x.2.kind=9) (s:Txt) (r:List Txt) (k:Nat) (hn:x.2.words=s::r) (hi:x.2.kids[0]? = some (k:Int)) (hkn:k<ns.length) (hv:ZP ns f (Za ns k)) (hl:t.length+(Zl ns (f+1) dp x.2).length+10000<=140737488355328) :
  Calls Tryz.prog 69 #[.pointer (some ⟨bp,0,none⟩),ndX x] w fun e w'=>e=.returned (.tuple #[])/\PrS w0 w' bp (t++Zl ns (f+1) dp x.2) dp vn/\Fr w w' bp:=by
 have hq:=hx
 obtain ⟨⟨vw,vu,vk⟩,kd,ws,nums,ks,ps⟩:=x
 obtain ⟨hw,hu,hkk⟩:=hx
 dsimp only at hk hn hi hw hu hkk hl ⊢
 obtain ⟨Aw,cw,rfl,hwl,hwm,hW,hWl⟩:=hw
 obtain ⟨Au,cu,rfl,hul,hum,hU⟩:=hu
 obtain ⟨Ak,ck,rfl,hkl,hkm,hK⟩:=hkk
 subst hk
 have he:Zl ns (f+1) dp ⟨9,ws,nums,ks,ps⟩=Zfa ns f ⟨9,ws,nums,ks,ps⟩:=by simp [Zl]
 rw [he] at hl ⊢
 clear he
 have N1:=Nw.start (w:=w) #[.int .i64 9,.slice Aw ws.length cw,.slice Au nums.length cu,.slice Ak ks.length ck,.int .i64 ps] h
 generalize hw1:w.alloc (.cells #[.int .i64 9,.slice Aw ws.length cw,.slice Au nums.length cu,.slice Ak ks.length ck,.int .i64 ps] 37)=w1 at *
 have H1:=zh N1
 have HN:=zh (zi hN (zi hq (zi hK (zi hkm hkl))))
 have HL:=zh hl
 have HI:=zh (zi hn (zi hi (zi hkn (zi hv hE))))
 clear N1 hq hwl hwm hW hWl hul hum hU hkl hkm hK h hN hl hn hi hkn hv hE
 obtain ⟨c0,c1,c2,c3,c4⟩:=Zg (x:=((.slice Aw ws.length cw,.slice Au nums.length cu,.slice Ak ks.length ck),⟨9,ws,nums,ks,ps⟩)) H1.out.k
 dsimp only at c0 c1 c2 c3 c4
 go_enter Tryz.func69,Tryz.ntmps69
 have SE:=zh (ZmN w0 w1 bp dp f _ vn ns _ H1.out.p HN.out.1 HN.out.2.1 HI.out.2.2.2.2 s r k HI.out.1 HI.out.2.1 HI.out.2.2.1 HI.out.2.2.2.1 (by have:=HL.out;dsimp only;omega))
 go_wp2_with (go_at_call 90;(refine SE.out.mono ?_);rintro e w2 ⟨rfl,hp,hf⟩;have H2:=zh (H1.out.next hp hf);clear hp hf)
 go_end0
 exact ⟨rfl,H2.out.p,H2.out.f⟩
theorem ZrR (w0 w:World) (bp dp:Nat) (t:Txt) (vn:Value) (ns:List Nd) (f:Nat) (x:NdV×Nd) (h:PrS w0 w bp t dp vn) (hN:Zs w0 vn ns) (hx:ZaW w0 x) (S:Nd->Prop) (hB:Zc1 41 w0 ns dp S (Zc3 ns f dp)) (hk:x.2.kind=10) (a b:Txt) (hn:x.2.words=[a,b]) (hok:Zaa ns x.2.kids S) (hl:t.length+(Zl ns (f+1) dp x.2).length+10000<=140737488355328) :
  Calls Tryz.prog 69 #[.pointer (some ⟨bp,0,none⟩),ndX x] w fun e w'=>e=.returned (.tuple #[])/\PrS w0 w' bp (t++Zl ns (f+1) dp x.2) dp vn/\Fr w w' bp:=by
 have hq:=hx
 obtain ⟨⟨vw,vu,vk⟩,kd,ws,nums,ks,ps⟩:=x
 obtain ⟨hw,hu,hkk⟩:=hx
 dsimp only at hk hn hok hw hu hkk hl ⊢
 obtain ⟨Aw,cw,rfl,hwl,hwm,hW,hWl⟩:=hw
 obtain ⟨Au,cu,rfl,hul,hum,hU⟩:=hu
 obtain ⟨Ak,ck,rfl,hkl,hkm,hK⟩:=hkk
 subst hk
 have he:Zl ns (f+1) dp ⟨10,ws,nums,ks,ps⟩=[111,112,101,110,32]++a++[32]++b++Zal [32,101,108,115,101] (ks.map fun k=>Zc3 ns f dp (Za ns k)):=by
  simp [Zl,word,hn]
 rw [he] at hl ⊢
 clear he
 simp only [List.length_append,List.length_cons,List.length_nil] at hl
 have N1:=Nw.start (w:=w) #[.int .i64 10,.slice Aw ws.length cw,.slice Au nums.length cu,.slice Ak ks.length ck,.int .i64 ps] h
 generalize hw1:w.alloc (.cells #[.int .i64 10,.slice Aw ws.length cw,.slice Au nums.length cu,.slice Ak ks.length ck,.int .i64 ps] 37)=w1 at *
 obtain ⟨aw,rfl,_⟩:=Zcl (k:=0) (x:=a) hW N1.p.below (by rw [hn];rfl) (by rw [hn];exact Nat.succ_pos _)
 have lw0:0<ws.length:=by rw [hn];exact Nat.succ_pos _
 have lw1:1<ws.length:=by rw [hn];simp only [List.length_cons];omega
 have SW:=zh (zi hW hn)
 have H1:=zh N1
 have HN:=zh (zi hN (zi hq (zi hK (zi hkm hkl))))
 have HL:=zh hl
 have HO:=zh (zi hok hB)
 clear N1 hq hwl hwm hW hWl hul hum hU hkl hkm hK h hN hl hn hok hB
 have D1:=zh H1.out.drew
 obtain ⟨c0,c1,c2,c3,c4⟩:=Zg (x:=((.slice (some aw) ws.length cw,.slice Au nums.length cu,.slice Ak ks.length ck),⟨10,ws,nums,ks,ps⟩)) H1.out.k
 dsimp only at c0 c1 c2 c3 c4
 have cw0:=Zz (k:=0) (x:=a) SW.out.1 H1.out.p.below (by rw [SW.out.2];rfl) lw0
 have cv0:w1.cell? aw=some (txt a):=cw0
 have cw1:=Zz (k:=1) (x:=b) SW.out.1 H1.out.p.below (by rw [SW.out.2];rfl) lw1
 have cv1:w1.cell? ⟨aw.block,aw.off+1,none⟩=some (txt b):=cw1
 obtain ⟨d0,d1,d2,d3,d4⟩:=Zg (x:=((.slice (some aw) ws.length cw,.slice Au nums.length cu,.slice Ak ks.length ck),⟨10,ws,nums,ks,ps⟩)) D1.out.k
 dsimp only at d0 d1 d2 d3 d4
 have dw0:=Zz (k:=0) (x:=a) SW.out.1 D1.out.p.below (by rw [SW.out.2];rfl) lw0
 have dv0:w1.drew.cell? aw=some (txt a):=dw0
 have dw1:=Zz (k:=1) (x:=b) SW.out.1 D1.out.p.below (by rw [SW.out.2];rfl) lw1
 have dv1:w1.drew.cell? ⟨aw.block,aw.off+1,none⟩=some (txt b):=dw1
 have AD:=zh (Zid w0 w1.drew bp dp t vn [111,112,101,110,32] a [32] b D1.out.p (by have:=HL.out;simp only [List.length_cons,List.length_nil];omega))
 go_enter Tryz.func69,Tryz.ntmps69
 go_upto_region 8 with fail
 go_region_with (go_at_call 36;(refine AD.out.mono ?_);rintro e w2 ⟨rfl,hp,hf⟩;have H2:=zh (D1.out.next hp hf);clear hp hf)
 all_goals
  clear c0 c1 c2 c3 c4 cw0 cw1 cv0 cv1 d0 d1 d2 d3 d4 dw0 dw1 dv0 dv1
  obtain ⟨c0,c1,c2,c3,c4⟩:=Zg (x:=((.slice (some aw) ws.length cw,.slice Au nums.length cu,.slice Ak ks.length ck),⟨10,ws,nums,ks,ps⟩)) H2.out.k
  dsimp only at c0 c1 c2 c3 c4
  have cw0:=Zz (k:=0) (x:=a) SW.out.1 H2.out.p.below (by rw [SW.out.2];rfl) lw0
  have cv0:w2.cell? aw=some (txt a):=cw0
  have cw1:=Zz (k:=1) (x:=b) SW.out.1 H2.out.p.below (by rw [SW.out.2];rfl) lw1
  have cv1:w2.cell? ⟨aw.block,aw.off+1,none⟩=some (txt b):=cw1
  have BR:=zh (Zhp w0 w2 bp dp _ vn ns Ak ck ks S (Zc3 ns f dp) H2.out.p HN.out.1 HN.out.2.2.1 (by have:=HN.out.2.2.2;omega) HO.out.1 HO.out.2 (by have:=HL.out;simp only [List.length_append,List.length_cons,List.length_nil];omega))
  go_wp2_with (go_at_call 91;(refine BR.out.mono ?_);rintro e w3 ⟨rfl,hp,hf⟩;have H3:=zh (H2.out.next hp hf);clear hp hf)
  go_end0
  refine ⟨rfl,?_,H3.out.f⟩
  have:=H3.out.p
  simp only [List.append_assoc,List.cons_append,List.nil_append] at this ⊢
  exact this
theorem ZrS (w0 w:World) (bp dp:Nat) (t:Txt) (vn:Value) (ns:List Nd) (f:Nat) (x:NdV×Nd) (h:PrS w0 w bp t dp vn) (hN:Zs w0 vn ns) (hx:ZaW w0 x) (hd:dp<3999) (S:Nd->Prop) (hB:Zc1 41 w0 ns (dp+1) S (Zc3 ns f (dp+1))) (hk:x.2.kind=11) (hn:∃ a b,x.2.words=[a,b]) (hok:Zaa ns x.2.kids (fun n=>(∃ s r,n.words=s::r)/\∃ k,n.kids=[k]/\Zaa ns [k] S)) (hl:t.length+(Zl ns (f+1) dp x.2).length+10000<=140737488355328) :
  Calls Tryz.prog 69 #[.pointer (some ⟨bp,0,none⟩),ndX x] w fun e w'=>e=.returned (.tuple #[])/\PrS w0 w' bp (t++Zl ns (f+1) dp x.2) dp vn/\Fr w w' bp:=by
 have hq:=hx
 obtain ⟨⟨vw,vu,vk⟩,kd,ws,nums,ks,ps⟩:=x
 obtain ⟨hw,hu,hkk⟩:=hx
 dsimp only at hk hn hok hw hu hkk hl ⊢
 obtain ⟨Aw,cw,rfl,hwl,hwm,hW,hWl⟩:=hw
 obtain ⟨Au,cu,rfl,hul,hum,hU⟩:=hu
 obtain ⟨Ak,ck,rfl,hkl,hkm,hK⟩:=hkk
 subst hk
 have he:Zl ns (f+1) dp ⟨11,ws,nums,ks,ps⟩=[100,111,32]++word ⟨11,ws,nums,ks,ps⟩ 0++[46]++word ⟨11,ws,nums,ks,ps⟩ 1++(if ks=[] then [59] else ZI dp (ks.map fun k=>word (Za ns k) 0++Zc3 ns f (dp+1) (Zw ns (Za ns k) 0))):=by
  simp [Zl]
 generalize Zl ns (f+1) dp ⟨11,ws,nums,ks,ps⟩=Z at he hl ⊢
 have HE:=zh he
 clear he
 have N1:=Nw.start (w:=w) #[.int .i64 11,.slice Aw ws.length cw,.slice Au nums.length cu,.slice Ak ks.length ck,.int .i64 ps] h
 generalize hw1:w.alloc (.cells #[.int .i64 11,.slice Aw ws.length cw,.slice Au nums.length cu,.slice Ak ks.length ck,.int .i64 ps] 37)=w1 at *
 have H1:=zh N1
 have HN:=zh (zi hN (zi hq (zi hK (zi hkm hkl))))
 have HL:=zh hl
 have HO:=zh (zi hn (zi hok (zi hB hd)))
 clear N1 hq hwl hwm hW hWl hul hum hU hkl hkm hK h hN hl hn hok hB hd
 obtain ⟨c0,c1,c2,c3,c4⟩:=Zg (x:=((.slice Aw ws.length cw,.slice Au nums.length cu,.slice Ak ks.length ck),⟨11,ws,nums,ks,ps⟩)) H1.out.k
 dsimp only at c0 c1 c2 c3 c4
 have DO:=zh (Zro w0 ns dp _ _ (by have:=HO.out.2.2.2;omega) (Zlb w0 ns (dp+1) S _ HO.out.2.2.1) w1 bp t vn _ H1.out.p HN.out.1 HN.out.2.1 ⟨HO.out.1,HO.out.2.1⟩ (by have:=HL.out;rw [HE.out] at this;exact this))
 go_enter Tryz.func69,Tryz.ntmps69
 go_wp2_with (go_at_call 92;(refine DO.out.mono ?_);rintro e w2 ⟨rfl,hp,hf⟩;have H2:=zh (H1.out.next hp hf);clear hp hf)
 go_end0
 exact ⟨rfl,HE.out.symm▸H2.out.p,H2.out.f⟩
theorem ZrT (w0 w:World) (bp dp:Nat) (t:Txt) (vn:Value) (ns:List Nd) (f:Nat) (x:NdV×Nd) (h:PrS w0 w bp t dp vn) (hN:Zs w0 vn ns) (hx:ZaW w0 x) (htk:Zay w0 1 ZeX) (htn:Zay w0 2 Zcm) (ht:Zff w0 w0) (S:Nd->Prop) (hB:Zc1 41 w0 ns dp S (Zc3 ns f dp)) (hk:x.2.kind=13) (a b:Txt) (hn:x.2.words=[a,b]) (p:Nat) (q r:Int) (hm:x.2.nums=[(p:Int),q,r]) (hp4:p<=4) (hq0:ZaI q) (hr0:ZaI r) (l:List Int) (k:Nat) (hks:x.2.kids=l++[(k:Int)]) (hol:Zaa ns l ZeB) (hkn:k<ns.length) (hok:S (Za ns k)) (hl:t.length+(Zl ns (f+1) dp x.2).length+10000<=140737488355328) :
  Calls Tryz.prog 69 #[.pointer (some ⟨bp,0,none⟩),ndX x] w fun e w'=>e=.returned (.tuple #[])/\PrS w0 w' bp (t++Zl ns (f+1) dp x.2) dp vn/\Fr w w' bp:=by
 have hq:=hx
 obtain ⟨⟨vw,vu,vk⟩,kd,ws,nums,ks,ps⟩:=x
 obtain ⟨hw,hu,hkk⟩:=hx
 dsimp only at hk hn hm hks hw hu hkk hl ⊢
 obtain ⟨Aw,cw,rfl,hwl,hwm,hW,hWl⟩:=hw
 obtain ⟨Au,cu,rfl,hul,hum,hU⟩:=hu
 obtain ⟨Ak,ck,rfl,hkl,hkm,hK⟩:=hkk
 subst hk
 have hkl2:ks.length=l.length+1:=by rw [hks];simp
 have hlast:ks[l.length]? = some (k:Int):=by rw [hks];simp
 obtain ⟨z,hz⟩:∃ z,ns[k]? = some z:=⟨_,List.getElem?_eq_getElem hkn⟩
 have hkid:Zw ns ⟨13,ws,nums,ks,ps⟩ (ks.length-1)=Za ns k:=by rw [show ks.length-1=l.length by omega,ZbU (n:=⟨13,ws,nums,ks,ps⟩) hlast hz,ZbC hz]
 have he:Zl ns (f+1) dp ⟨13,ws,nums,ks,ps⟩=[115,112,108,105,116,32]++a++[32,61,32]++b++[32]++Zax p++[32]++Zdk q r++Zb5 ns l++Zc3 ns f dp (Za ns k):=by
  have e2:ks.take (ks.length-1)=l:=by rw [hks];simp
  have e3:Zl ns (f+1) dp ⟨13,ws,nums,ks,ps⟩=[115,112,108,105,116,32]++word ⟨13,ws,nums,ks,ps⟩ 0++[32,61,32]++word ⟨13,ws,nums,ks,ps⟩ 1++[32]++Zax (num ⟨13,ws,nums,ks,ps⟩ 0)++[32]++Zdk (num ⟨13,ws,nums,ks,ps⟩ 1) (num ⟨13,ws,nums,ks,ps⟩ 2)++Zb5 ns (ks.take (ks.length-1))++Zc3 ns f dp (Zw ns ⟨13,ws,nums,ks,ps⟩ (ks.length-1)):=by simp [Zl,Zb5]
  rw [e3,hkid,e2]
  simp [word,num,hn,hm]
 rw [he] at hl ⊢
 clear he hkid hz hlast hkl2
 have N1:=Nw.start (w:=w) #[.int .i64 13,.slice Aw ws.length cw,.slice Au nums.length cu,.slice Ak ks.length ck,.int .i64 ps] h
 generalize hw1:w.alloc (.cells #[.int .i64 13,.slice Aw ws.length cw,.slice Au nums.length cu,.slice Ak ks.length ck,.int .i64 ps] 37)=w1 at *
 have H1:=zh N1
 have HN:=zh (zi hN (zi hq (zi hK (zi hkm hkl))))
 have HL:=zh hl
 have HO:=zh (zi hn (zi hm (zi hp4 (zi hq0 (zi hr0 (zi hks (zi hol (zi hkn (zi hok (zi hB (zi htk (zi htn ht))))))))))))
 clear N1 hq hwl hwm hW hWl hul hum hU hkl hkm hK h hN hl hn hm hp4 hq0 hr0 hks hol hkn hok hB htk htn ht
 obtain ⟨c0,c1,c2,c3,c4⟩:=Zg (x:=((.slice Aw ws.length cw,.slice Au nums.length cu,.slice Ak ks.length ck),⟨13,ws,nums,ks,ps⟩)) H1.out.k
 dsimp only at c0 c1 c2 c3 c4
 have SP:=zh (ZpC w0 w1 bp dp t vn ns S (Zc3 ns f dp) _ H1.out.p HN.out.1 HN.out.2.1 HO.out.2.2.2.2.2.2.2.2.2.2.1 HO.out.2.2.2.2.2.2.2.2.2.2.2.1 HO.out.2.2.2.2.2.2.2.2.2.2.2.2 HO.out.2.2.2.2.2.2.2.2.2.1 a b HO.out.1 p q r HO.out.2.1 HO.out.2.2.1 HO.out.2.2.2.1 HO.out.2.2.2.2.1 l k HO.out.2.2.2.2.2.1 HO.out.2.2.2.2.2.2.1 HO.out.2.2.2.2.2.2.2.1 HO.out.2.2.2.2.2.2.2.2.1 HL.out)
 go_enter Tryz.func69,Tryz.ntmps69
 go_wp2_with (go_at_call 93;(refine SP.out.mono ?_);rintro e w2 ⟨rfl,hp,hf⟩;have H2:=zh (H1.out.next hp hf);clear hp hf)
 go_end0
 exact ⟨rfl,H2.out.p,H2.out.f⟩
theorem ZrU (w0 w:World) (bp dp:Nat) (t:Txt) (vn:Value) (ns:List Nd) (f:Nat) (x:NdV×Nd) (h:PrS w0 w bp t dp vn) (hN:Zs w0 vn ns) (hx:ZaW w0 x) (hE:Zbp w0 ns f) (hk:x.2.kind=14) (hn:(∃ a,x.2.words=[a])\/∃ a b,x.2.words=[a,b]) (hok:Zaa ns x.2.kids (ZfE ns f)) (hl:t.length+(Zl ns (f+1) dp x.2).length+10000<=140737488355328) :
  Calls Tryz.prog 69 #[.pointer (some ⟨bp,0,none⟩),ndX x] w fun e w'=>e=.returned (.tuple #[])/\PrS w0 w' bp (t++Zl ns (f+1) dp x.2) dp vn/\Fr w w' bp:=by
 have hq:=hx
 obtain ⟨⟨vw,vu,vk⟩,kd,ws,nums,ks,ps⟩:=x
 obtain ⟨hw,hu,hkk⟩:=hx
 dsimp only at hk hn hok hw hu hkk hl ⊢
 obtain ⟨Aw,cw,rfl,hwl,hwm,hW,hWl⟩:=hw
 obtain ⟨Au,cu,rfl,hul,hum,hU⟩:=hu
 obtain ⟨Ak,ck,rfl,hkl,hkm,hK⟩:=hkk
 subst hk
 have he:Zl ns (f+1) dp ⟨14,ws,nums,ks,ps⟩=ZeT ns f ⟨14,ws,nums,ks,ps⟩:=by simp [Zl,ZeT]
 rw [he] at hl ⊢
 clear he
 have N1:=Nw.start (w:=w) #[.int .i64 14,.slice Aw ws.length cw,.slice Au nums.length cu,.slice Ak ks.length ck,.int .i64 ps] h
 generalize hw1:w.alloc (.cells #[.int .i64 14,.slice Aw ws.length cw,.slice Au nums.length cu,.slice Ak ks.length ck,.int .i64 ps] 37)=w1 at *
 have H1:=zh N1
 have HN:=zh (zi hN (zi hq (zi hK (zi hkm hkl))))
 have HL:=zh hl
 have HO:=zh (zi hn (zi hok hE))
 clear N1 hq hwl hwm hW hWl hul hum hU hkl hkm hK h hN hl hn hok hE
 obtain ⟨c0,c1,c2,c3,c4⟩:=Zg (x:=((.slice Aw ws.length cw,.slice Au nums.length cu,.slice Ak ks.length ck),⟨14,ws,nums,ks,ps⟩)) H1.out.k
 dsimp only at c0 c1 c2 c3 c4
 have CA:=zh (show Calls Tryz.prog 94 #[.pointer (some ⟨bp,0,none⟩),ndX ((.slice Aw ws.length cw,.slice Au nums.length cu,.slice Ak ks.length ck),⟨14,ws,nums,ks,ps⟩)] w1 (fun e w'=>e=.returned (.tuple #[])/\PrS w0 w' bp (t++ZeT ns f ⟨14,ws,nums,ks,ps⟩) dp vn/\Fr w1 w' bp) from by
  rcases HO.out.1 with ⟨a,hn⟩ | ⟨a,b,hn⟩
  ·exact Zoi w0 w1 bp dp f t vn ns _ H1.out.p HN.out.1 HN.out.2.1 HO.out.2.2 a hn HO.out.2.1 HL.out
  ·exact Zoj w0 w1 bp dp f t vn ns _ H1.out.p HN.out.1 HN.out.2.1 HO.out.2.2 a b hn HO.out.2.1 HL.out)
 go_enter Tryz.func69,Tryz.ntmps69
 go_wp2_with (go_at_call 94;(refine CA.out.mono ?_);rintro e w2 ⟨rfl,hp,hf⟩;have H2:=zh (H1.out.next hp hf);clear hp hf)
 go_end0
 exact ⟨rfl,H2.out.p,H2.out.f⟩
end
end Go.Proofs.YtkongcicmajolaaGreatDoor
