import Derived.Test.YtkongcicmajolaaGreatDoorRows
import Derived.ProofKit
import Derived.Below
import Derived.Lib.SmallJoins
import Derived.OpenShut
import Derived.WalkKit
import Derived.Test.YtkongcicmajolaaGreatDoorQAN
import Derived.Test.YtkongcicmajolaaGreatDoorQAO
set_option maxRecDepth 100000
set_option maxHeartbeats 8000000
namespace Go.Proofs.YtkongcicmajolaaGreatDoor
section
open Go.RowKit
structure Nw (w0 w wi:World) (bp b:Nat) (t:Txt) (dp:Nat) (vn:Value) (cs:Array Value):Prop where
 p:PrS w0 wi bp t dp vn
 k:Zh wi b 37 cs
 f:Fr w wi bp
theorem Nw.start {w0 w:World} {bp dp:Nat} {t:Txt} {vn:Value} (cs:Array Value) (h:PrS w0 w bp t dp vn):Nw w0 w (w.alloc (.cells cs 37)) bp w.heap.size t dp vn cs:=
 ⟨h.keep (below_alloc1 w _),Zh.start w cs _,Fr.of_below bp (below_alloc1 w _)⟩
theorem Nw.next {w0 w wi w':World} {bp b dp d2:Nat} {t t2:Txt} {vn:Value} {cs:Array Value} (h:Nw w0 w wi bp b t dp vn cs) (hp:PrS w0 w' bp t2 d2 vn) (hf:Fr wi w' bp):Nw w0 w w' bp b t2 d2 vn cs:=
 ⟨hp,hf.at_ _ _ _ (ZcV h.p h.k) (by decide) h.k,h.f.trans hf⟩
theorem Nw.below {w0 w wi w':World} {bp b dp:Nat} {t:Txt} {vn:Value} {cs:Array Value} (h:Nw w0 w wi bp b t dp vn cs) (hb:Below wi.heap.size wi w'):Nw w0 w w' bp b t dp vn cs:=
 ⟨h.p.keep hb,h.k.keep hb,h.f.trans (Fr.of_below bp hb)⟩
theorem Nw.drew {w0 w wi:World} {bp b dp:Nat} {t:Txt} {vn:Value} {cs:Array Value} (h:Nw w0 w wi bp b t dp vn cs):Nw w0 w wi.drew bp b t dp vn cs:=h.below (Zj wi)
theorem Zz {w0 W:World} {a:Addr} {n k:Nat} {l:List Txt} {x:Txt} (h4:ZM w0 w0.heap.size 1 (some a) n (l.map txt)) (hb:Below w0.heap.size w0 W) (hx:l[k]? = some x) (hn:k<n):W.cell? (a.add k)=some (txt x):=by
 obtain ⟨ad,e,c⟩:=Zcl h4 hb hx (by omega)
 injection e with e
 subst e
 exact c
theorem ZaM {w0 W:World} {a:Addr} {n k:Nat} {l:List Int} {x:Int} (h4:ZM w0 w0.heap.size 1 (some a) n (l.map (Value.int .i64))) (hb:Below w0.heap.size w0 W) (hx:l[k]? = some x) (hn:k<n):W.cell? (a.add k)=some (.int .i64 x):=by
 obtain ⟨ad,e,c⟩:=ints_at h4 hb hx (by omega)
 injection e with e
 subst e
 exact c
theorem Zjv:Enters 120:=enters_of Tryz.func120 (by kernel_rfl) rfl
theorem ZiL:Enters 121:=enters_of Tryz.func121 (by kernel_rfl) rfl
theorem ZkN:Enters 40:=enters_of Tryz.func40 (by kernel_rfl) rfl
theorem ZlI:Enters 38:=enters_of Tryz.func38 (by kernel_rfl) rfl
theorem ZlH:Enters 18:=enters_of Tryz.func18 (by kernel_rfl) rfl
end
section
open Go.RowKit
theorem Zm9 (w0 w:World) (bp dp f:Nat) (t:Txt) (vn:Value) (ns:List Nd) (x:NdV×Nd) (h:PrS w0 w bp t dp vn) (hx:ZaW w0 x) (s:Txt) (r:List Txt) (hk:x.2.kind=15) (hn:x.2.words=s::r) (hl:t.length+(Zcd ns f x.2).length+100<=140737488355328) :
  Calls Tryz.prog 121 #[.pointer (some ⟨bp,0,none⟩),ndX x] w fun e w'=>e=.returned (.tuple #[])/\PrS w0 w' bp (t++Zcd ns f x.2) dp vn/\Fr w w' bp:=by
 have hq:=hx
 obtain ⟨⟨vw,vu,vk⟩,kd,ws,nums,ks,ps⟩:=x
 obtain ⟨hw,hu,hkk⟩:=hx
 dsimp only at hk hn hw hu hkk hl ⊢
 obtain ⟨Aw,cw,rfl,hwl,hwm,hW,hWl⟩:=hw
 obtain ⟨Au,cu,rfl,hul,hum,hU⟩:=hu
 obtain ⟨Ak,ck,rfl,hkl,hkm,hK⟩:=hkk
 have a1:=below_alloc1 w (.cells #[.int .i64 kd,.slice Aw ws.length cw,.slice Au nums.length cu,.slice Ak ks.length ck,.int .i64 ps] 37)
 have B1:Zh _ _ _ _:=Zh.start w #[.int .i64 kd,.slice Aw ws.length cw,.slice Au nums.length cu,.slice Ak ks.length ck,.int .i64 ps] 37
 have p1:=h.keep a1
 have he:Zcd ns f ⟨kd,ws,nums,ks,ps⟩=[38]++s:=by
  unfold Zcd word
  dsimp only
  rw [if_pos hk,hn]
  rfl
 rw [he] at hl ⊢
 simp only [List.length_append,List.length_cons,List.length_nil] at hl
 clear he
 subst hk
 obtain ⟨c0,c1,c2,c3,c4⟩:=Zg (x:=((.slice Aw ws.length cw,.slice Au nums.length cu,.slice Ak ks.length ck),⟨15,ws,nums,ks,ps⟩)) (B1)
 dsimp only at c0 c1 c2 c3 c4
 generalize hw1:w.alloc (.cells #[.int .i64 15,.slice Aw ws.length cw,.slice Au nums.length cu,.slice Ak ks.length ck,.int .i64 ps] 37)=w1 at *
 obtain ⟨au,rfl,u0⟩:=Zcl (k:=0) (x:=s) hW (p1.keep (Zj w1)).below (by rw [hn];rfl) (by rw [hn];exact Nat.succ_pos _)
 have u1:w1.drew.cell? au=some (txt s):=u0
 have u2:w1.cell? au=some (txt s):=u0
 have hl2:0<ws.length:=by rw [hn];exact Nat.succ_pos _
 obtain ⟨d0,d1,d2,d3,d4⟩:=Zg (x:=((.slice (some au) ws.length cw,.slice Au nums.length cu,.slice Ak ks.length ck),⟨15,ws,nums,ks,ps⟩)) (B1.keep (Zj w1))
 dsimp only at d0 d1 d2 d3 d4
 have AD:=zh (Zds w0 w1.drew bp dp t vn [38] s (p1.keep (Zj w1)) (by simp only [List.length_cons,List.length_nil];omega))
 have HX:=zh a1
 clear p1 B1 a1 hq hwl hwm hW hWl hul hum hU hkl hkm hK h hl u0 hn
 go_enter Tryz.func121,Tryz.ntmps121
 go_upto_region 2 with fail
 go_region_with (go_at_call 36;(refine AD.out.mono ?_);rintro e w3 ⟨rfl,hp,hf⟩;have H3:=zh (zi hp hf);clear hp hf)
 all_goals
  go_wp2_with fail
  refine bodyPost_ret (v:=.tuple #[]) (results_none (by kernel_rfl) _ _ _) rfl ⟨rfl,H3.out.1,((Fr.of_below bp (hw1▸HX.out)).trans (Fr.of_below bp (Zj w1))).trans H3.out.2⟩
theorem ZpV (w0 w:World) (bp dp f:Nat) (t:Txt) (vn:Value) (ns:List Nd) (x:NdV×Nd) (h:PrS w0 w bp t dp vn) (hN:Zs w0 vn ns) (hx:ZaW w0 x) (hE:Zbp w0 ns f) (hk:x.2.kind≠15) (hv:ZP ns f x.2) (hl:t.length+(Zcd ns f x.2).length+100<=140737488355328) :
  Calls Tryz.prog 121 #[.pointer (some ⟨bp,0,none⟩),ndX x] w fun e w'=>e=.returned (.tuple #[])/\PrS w0 w' bp (t++Zcd ns f x.2) dp vn/\Fr w w' bp:=by
 have hq:=hx
 obtain ⟨⟨vw,vu,vk⟩,kd,ws,nums,ks,ps⟩:=x
 obtain ⟨hw,hu,hkk⟩:=hx
 dsimp only at hk hv hw hu hkk hl ⊢
 obtain ⟨Aw,cw,rfl,hwl,hwm,hW,hWl⟩:=hw
 obtain ⟨Au,cu,rfl,hul,hum,hU⟩:=hu
 obtain ⟨Ak,ck,rfl,hkl,hkm,hK⟩:=hkk
 have a1:=below_alloc1 w (.cells #[.int .i64 kd,.slice Aw ws.length cw,.slice Au nums.length cu,.slice Ak ks.length ck,.int .i64 ps] 37)
 have B1:Zh _ _ _ _:=Zh.start w #[.int .i64 kd,.slice Aw ws.length cw,.slice Au nums.length cu,.slice Ak ks.length ck,.int .i64 ps] 37
 have p1:=h.keep a1
 have he:Zcd ns f ⟨kd,ws,nums,ks,ps⟩=Zx ns f ⟨kd,ws,nums,ks,ps⟩:=by
  unfold Zcd
  rw [if_neg hk]
 rw [he] at hl ⊢
 obtain ⟨c0,c1,c2,c3,c4⟩:=Zg (x:=((.slice Aw ws.length cw,.slice Au nums.length cu,.slice Ak ks.length ck),⟨kd,ws,nums,ks,ps⟩)) (B1)
 dsimp only at c0 c1 c2 c3 c4
 generalize hw1:w.alloc (.cells #[.int .i64 kd,.slice Aw ws.length cw,.slice Au nums.length cu,.slice Ak ks.length ck,.int .i64 ps] 37)=w1 at *
 have EX:=zh (hE w1 bp dp t vn _ p1 hN hq hv hl)
 have HX:=zh a1
 clear p1 B1 a1 hq hwl hwm hW hWl hul hum hU hkl hkm hK h hl he hv hN hE
 go_enter Tryz.func121,Tryz.ntmps121
 go_wp2_with (go_at_call 23;(refine EX.out.mono ?_);rintro e w3 ⟨rfl,hp,hf⟩;have H3:=zh (zi hp hf);clear hp hf)
 go_end0
 exact ⟨rfl,H3.out.1,(Fr.of_below bp (hw1▸HX.out)).trans H3.out.2⟩
end
section
open Go.RowKit
theorem ZkC (w0:World) (ns:List Nd) (dp f:Nat) (hE:Zbp w0 ns f):Zc1 121 w0 ns dp (ZfE ns f) (Zcd ns f):=by
 intro w bp t vn x h hN hx hok hl
 rcases hok with ⟨hk,s,r,hn⟩ | ⟨hk,hv⟩
 ·exact Zm9 w0 w bp dp f t vn ns x h hx s r hk hn (by omega)
 ·exact ZpV w0 w bp dp f t vn ns x h hN hx hE hk hv (by omega)
def ZeT (ns:List Nd) (f:Nat) (n:Nd):Txt:=[99,97,108,108,32]++(if n.words.length=2 then word n 1++[32,61,32] else [])++word n 0++[40]++Zal [44,32] (n.kids.map fun k=>Zcd ns f (Za ns k))++[41,59]
theorem Zoi (w0 w:World) (bp dp f:Nat) (t:Txt) (vn:Value) (ns:List Nd) (x:NdV×Nd) (h:PrS w0 w bp t dp vn) (hN:Zs w0 vn ns) (hx:ZaW w0 x) (hE:Zbp w0 ns f) (a:Txt) (hn:x.2.words=[a]) (hok:Zaa ns x.2.kids (ZfE ns f)) (hl:t.length+(ZeT ns f x.2).length+10000<=140737488355328) :
  Calls Tryz.prog 94 #[.pointer (some ⟨bp,0,none⟩),ndX x] w fun e w'=>e=.returned (.tuple #[])/\PrS w0 w' bp (t++ZeT ns f x.2) dp vn/\Fr w w' bp:=by
 have hq:=hx
 obtain ⟨⟨vw,vu,vk⟩,kd,ws,nums,ks,ps⟩:=x
 obtain ⟨hw,hu,hkk⟩:=hx
 dsimp only at hn hok hw hu hkk hl ⊢
 obtain ⟨Aw,cw,rfl,hwl,hwm,hW,hWl⟩:=hw
 obtain ⟨Au,cu,rfl,hul,hum,hU⟩:=hu
 obtain ⟨Ak,ck,rfl,hkl,hkm,hK⟩:=hkk
 have he:ZeT ns f ⟨kd,ws,nums,ks,ps⟩=[99,97,108,108,32]++[]++a++[40]++Zal [44,32] (ks.map fun k=>Zcd ns f (Za ns k))++[41,59]:=by
  unfold ZeT word
  dsimp only
  rw [hn]
  rfl
 rw [he] at hl ⊢
 clear he
 generalize hA:(ks.map fun k=>Zcd ns f (Za ns k))=L at hl ⊢
 simp only [List.length_append,List.length_cons,List.length_nil] at hl
 have t2:((ws.length:Int)==2)=false:=by rw [hn];rfl
 have N1:=Nw.start (w:=w) #[.int .i64 kd,.slice Aw ws.length cw,.slice Au nums.length cu,.slice Ak ks.length ck,.int .i64 ps] h
 generalize hw1:w.alloc (.cells #[.int .i64 kd,.slice Aw ws.length cw,.slice Au nums.length cu,.slice Ak ks.length ck,.int .i64 ps] 37)=w1 at *
 obtain ⟨aw,rfl,_⟩:=Zcl (k:=0) (x:=a) hW N1.p.below (by rw [hn];rfl) (by rw [hn];exact Nat.succ_pos _)
 have lw0:0<ws.length:=by rw [hn];exact Nat.succ_pos _
 have SW:=zh (zi hW hn)
 have H1:=zh N1
 have HN:=zh (zi hN (zi hq (zi hK (zi hkm hkl))))
 have HL:=zh hl
 have HO:=zh (zi hok (zi hE hA))
 clear N1 hq hwl hwm hW hWl hul hum hU hkl hkm hK h hN hl hok hE hn hA
 obtain ⟨c0,c1,c2,c3,c4⟩:=Zg (x:=((.slice (some aw) ws.length cw,.slice Au nums.length cu,.slice Ak ks.length ck),⟨kd,ws,nums,ks,ps⟩)) H1.out.k
 dsimp only at c0 c1 c2 c3 c4
 have cw0:=Zz (k:=0) (x:=a) SW.out.1 H1.out.p.below (by rw [SW.out.2];rfl) lw0
 have cv0:w1.cell? aw=some (txt a):=cw0
 have AD:=zh (Zaf w0 w1 bp dp t vn [99,97,108,108,32] H1.out.p (by have:=HL.out;simp only [List.length_cons,List.length_nil];omega))
 go_enter Tryz.func94,Tryz.ntmps94
 go_upto_region 2 with (go_at_call 36;(refine AD.out.mono ?_);rintro e w2 ⟨rfl,hp,hf⟩;have H2:=zh (H1.out.next hp hf);clear hp hf)
 clear c0 c1 c2 c3 c4 cw0 cv0
 obtain ⟨c0,c1,c2,c3,c4⟩:=Zg (x:=((.slice (some aw) ws.length cw,.slice Au nums.length cu,.slice Ak ks.length ck),⟨kd,ws,nums,ks,ps⟩)) H2.out.k
 dsimp only at c0 c1 c2 c3 c4
 have cw0:=Zz (k:=0) (x:=a) SW.out.1 H2.out.p.below (by rw [SW.out.2];rfl) lw0
 have cv0:w2.cell? aw=some (txt a):=cw0
 go_upto_region 4 with fail
 have D2:=zh H2.out.drew
 obtain ⟨d0,d1,d2,d3,d4⟩:=Zg (x:=((.slice (some aw) ws.length cw,.slice Au nums.length cu,.slice Ak ks.length ck),⟨kd,ws,nums,ks,ps⟩)) D2.out.k
 dsimp only at d0 d1 d2 d3 d4
 have dw0:=Zz (k:=0) (x:=a) SW.out.1 D2.out.p.below (by rw [SW.out.2];rfl) lw0
 have dv0:w2.drew.cell? aw=some (txt a):=dw0
 have AD:=zh (Zaf w0 w2.drew bp dp _ vn a D2.out.p (by have:=HL.out;simp only [List.length_append,List.length_cons,List.length_nil];omega))
 go_region_with (go_at_call 36;(refine AD.out.mono ?_);rintro e w3 ⟨rfl,hp,hf⟩;have H3:=zh (D2.out.next hp hf);clear hp hf)
 all_goals
  clear c0 c1 c2 c3 c4 cw0 cv0 d0 d1 d2 d3 d4 dw0 dv0
  obtain ⟨c0,c1,c2,c3,c4⟩:=Zg (x:=((.slice (some aw) ws.length cw,.slice Au nums.length cu,.slice Ak ks.length ck),⟨kd,ws,nums,ks,ps⟩)) H3.out.k
  dsimp only at c0 c1 c2 c3 c4
  have cw0:=Zz (k:=0) (x:=a) SW.out.1 H3.out.p.below (by rw [SW.out.2];rfl) lw0
  have cv0:w3.cell? aw=some (txt a):=cw0
  have EN:=zh (Zf3 _ ZiL w0 w3 bp dp _ vn ns Ak ck ks (ZfE ns f) (Zcd ns f) H3.out.p HN.out.1 HN.out.2.2.1 (by have:=HN.out.2.2.2;omega) HO.out.1 (ZkC w0 ns dp f HO.out.2.1) (by have:=HL.out;rw [HO.out.2.2];simp only [List.length_append,List.length_cons,List.length_nil];omega))
  go_upto_region 6 with (go_at_call 39;(refine EN.out.mono ?_);rintro e w4 ⟨rfl,hp,hf⟩;have H4:=zh (H3.out.next hp hf);clear hp hf)
  have AD:=zh (Zaf w0 w4 bp dp _ vn [59] H4.out.p (by have:=HL.out;rw [HO.out.2.2];simp only [List.length_append,List.length_cons,List.length_nil];omega))
  go_wp2_with (go_at_call 36;(refine AD.out.mono ?_);rintro e w5 ⟨rfl,hp,hf⟩;have H5:=zh (H4.out.next hp hf);clear hp hf)
  go_end0
  refine ⟨rfl,?_,H5.out.f⟩
  have:=H5.out.p
  rw [HO.out.2.2] at this
  simp only [List.append_assoc,List.cons_append,List.nil_append] at this ⊢
  exact this
theorem Zoj (w0 w:World) (bp dp f:Nat) (t:Txt) (vn:Value) (ns:List Nd) (x:NdV×Nd) (h:PrS w0 w bp t dp vn) (hN:Zs w0 vn ns) (hx:ZaW w0 x) (hE:Zbp w0 ns f) (a b:Txt) (hn:x.2.words=[a,b]) (hok:Zaa ns x.2.kids (ZfE ns f)) (hl:t.length+(ZeT ns f x.2).length+10000<=140737488355328) :
  Calls Tryz.prog 94 #[.pointer (some ⟨bp,0,none⟩),ndX x] w fun e w'=>e=.returned (.tuple #[])/\PrS w0 w' bp (t++ZeT ns f x.2) dp vn/\Fr w w' bp:=by
 have hq:=hx
 obtain ⟨⟨vw,vu,vk⟩,kd,ws,nums,ks,ps⟩:=x
 obtain ⟨hw,hu,hkk⟩:=hx
 dsimp only at hn hok hw hu hkk hl ⊢
 obtain ⟨Aw,cw,rfl,hwl,hwm,hW,hWl⟩:=hw
 obtain ⟨Au,cu,rfl,hul,hum,hU⟩:=hu
 obtain ⟨Ak,ck,rfl,hkl,hkm,hK⟩:=hkk
 have he:ZeT ns f ⟨kd,ws,nums,ks,ps⟩=[99,97,108,108,32]++(b++[32,61,32])++a++[40]++Zal [44,32] (ks.map fun k=>Zcd ns f (Za ns k))++[41,59]:=by
  unfold ZeT word
  dsimp only
  rw [hn]
  rfl
 rw [he] at hl ⊢
 clear he
 generalize hA:(ks.map fun k=>Zcd ns f (Za ns k))=L at hl ⊢
 simp only [List.length_append,List.length_cons,List.length_nil] at hl
 have t2:((ws.length:Int)==2)=true:=by rw [hn];rfl
 have N1:=Nw.start (w:=w) #[.int .i64 kd,.slice Aw ws.length cw,.slice Au nums.length cu,.slice Ak ks.length ck,.int .i64 ps] h
 generalize hw1:w.alloc (.cells #[.int .i64 kd,.slice Aw ws.length cw,.slice Au nums.length cu,.slice Ak ks.length ck,.int .i64 ps] 37)=w1 at *
 obtain ⟨aw,rfl,_⟩:=Zcl (k:=0) (x:=a) hW N1.p.below (by rw [hn];rfl) (by rw [hn];exact Nat.succ_pos _)
 have lw0:0<ws.length:=by rw [hn];exact Nat.succ_pos _
 have lw1:1<ws.length:=by rw [hn];simp only [List.length_cons];omega
 have SW:=zh (zi hW hn)
 have H1:=zh N1
 have HN:=zh (zi hN (zi hq (zi hK (zi hkm hkl))))
 have HL:=zh hl
 have HO:=zh (zi hok (zi hE hA))
 clear N1 hq hwl hwm hW hWl hul hum hU hkl hkm hK h hN hl hok hE hn hA
 obtain ⟨c0,c1,c2,c3,c4⟩:=Zg (x:=((.slice (some aw) ws.length cw,.slice Au nums.length cu,.slice Ak ks.length ck),⟨kd,ws,nums,ks,ps⟩)) H1.out.k
 dsimp only at c0 c1 c2 c3 c4
 have cw0:=Zz (k:=0) (x:=a) SW.out.1 H1.out.p.below (by rw [SW.out.2];rfl) lw0
 have cv0:w1.cell? aw=some (txt a):=cw0
 have cw1:=Zz (k:=1) (x:=b) SW.out.1 H1.out.p.below (by rw [SW.out.2];rfl) lw1
 have cv1:w1.cell? ⟨aw.block,aw.off+1,none⟩=some (txt b):=cw1
 have AD:=zh (Zaf w0 w1 bp dp t vn [99,97,108,108,32] H1.out.p (by have:=HL.out;simp only [List.length_cons,List.length_nil];omega))
 go_enter Tryz.func94,Tryz.ntmps94
 go_upto_region 2 with (go_at_call 36;(refine AD.out.mono ?_);rintro e w2 ⟨rfl,hp,hf⟩;have H2:=zh (H1.out.next hp hf);clear hp hf)
 clear c0 c1 c2 c3 c4 cw0 cw1 cv0 cv1
 obtain ⟨c0,c1,c2,c3,c4⟩:=Zg (x:=((.slice (some aw) ws.length cw,.slice Au nums.length cu,.slice Ak ks.length ck),⟨kd,ws,nums,ks,ps⟩)) H2.out.k
 dsimp only at c0 c1 c2 c3 c4
 have cw0:=Zz (k:=0) (x:=a) SW.out.1 H2.out.p.below (by rw [SW.out.2];rfl) lw0
 have cv0:w2.cell? aw=some (txt a):=cw0
 have cw1:=Zz (k:=1) (x:=b) SW.out.1 H2.out.p.below (by rw [SW.out.2];rfl) lw1
 have cv1:w2.cell? ⟨aw.block,aw.off+1,none⟩=some (txt b):=cw1
 go_upto_region 3 with fail
 have D2:=zh H2.out.drew
 obtain ⟨d0,d1,d2,d3,d4⟩:=Zg (x:=((.slice (some aw) ws.length cw,.slice Au nums.length cu,.slice Ak ks.length ck),⟨kd,ws,nums,ks,ps⟩)) D2.out.k
 dsimp only at d0 d1 d2 d3 d4
 have dw0:=Zz (k:=0) (x:=a) SW.out.1 D2.out.p.below (by rw [SW.out.2];rfl) lw0
 have dv0:w2.drew.cell? aw=some (txt a):=dw0
 have dw1:=Zz (k:=1) (x:=b) SW.out.1 D2.out.p.below (by rw [SW.out.2];rfl) lw1
 have dv1:w2.drew.cell? ⟨aw.block,aw.off+1,none⟩=some (txt b):=dw1
 have AD:=zh (Zds w0 w2.drew bp dp _ vn b [32,61,32] D2.out.p (by have:=HL.out;simp only [List.length_append,List.length_cons,List.length_nil];omega))
 go_region_with (go_at_call 36;(refine AD.out.mono ?_);rintro e w3 ⟨rfl,hp,hf⟩;have H3:=zh (D2.out.next hp hf);clear hp hf)
 all_goals
  clear c0 c1 c2 c3 c4 cw0 cw1 cv0 cv1 d0 d1 d2 d3 d4 dw0 dw1 dv0 dv1
  obtain ⟨c0,c1,c2,c3,c4⟩:=Zg (x:=((.slice (some aw) ws.length cw,.slice Au nums.length cu,.slice Ak ks.length ck),⟨kd,ws,nums,ks,ps⟩)) H3.out.k
  dsimp only at c0 c1 c2 c3 c4
  have cw0:=Zz (k:=0) (x:=a) SW.out.1 H3.out.p.below (by rw [SW.out.2];rfl) lw0
  have cv0:w3.cell? aw=some (txt a):=cw0
  have cw1:=Zz (k:=1) (x:=b) SW.out.1 H3.out.p.below (by rw [SW.out.2];rfl) lw1
  have cv1:w3.cell? ⟨aw.block,aw.off+1,none⟩=some (txt b):=cw1
  go_upto_region 4 with fail
  have D3:=zh H3.out.drew
  obtain ⟨d0,d1,d2,d3,d4⟩:=Zg (x:=((.slice (some aw) ws.length cw,.slice Au nums.length cu,.slice Ak ks.length ck),⟨kd,ws,nums,ks,ps⟩)) D3.out.k
  dsimp only at d0 d1 d2 d3 d4
  have dw0:=Zz (k:=0) (x:=a) SW.out.1 D3.out.p.below (by rw [SW.out.2];rfl) lw0
  have dv0:w3.drew.cell? aw=some (txt a):=dw0
  have dw1:=Zz (k:=1) (x:=b) SW.out.1 D3.out.p.below (by rw [SW.out.2];rfl) lw1
  have dv1:w3.drew.cell? ⟨aw.block,aw.off+1,none⟩=some (txt b):=dw1
  have AD:=zh (Zaf w0 w3.drew bp dp _ vn a D3.out.p (by have:=HL.out;simp only [List.length_append,List.length_cons,List.length_nil];omega))
  go_region_with (go_at_call 36;(refine AD.out.mono ?_);rintro e w4 ⟨rfl,hp,hf⟩;have H4:=zh (D3.out.next hp hf);clear hp hf)
  all_goals
   clear c0 c1 c2 c3 c4 cw0 cw1 cv0 cv1 d0 d1 d2 d3 d4 dw0 dw1 dv0 dv1
   obtain ⟨c0,c1,c2,c3,c4⟩:=Zg (x:=((.slice (some aw) ws.length cw,.slice Au nums.length cu,.slice Ak ks.length ck),⟨kd,ws,nums,ks,ps⟩)) H4.out.k
   dsimp only at c0 c1 c2 c3 c4
   have cw0:=Zz (k:=0) (x:=a) SW.out.1 H4.out.p.below (by rw [SW.out.2];rfl) lw0
   have cv0:w4.cell? aw=some (txt a):=cw0
   have cw1:=Zz (k:=1) (x:=b) SW.out.1 H4.out.p.below (by rw [SW.out.2];rfl) lw1
   have cv1:w4.cell? ⟨aw.block,aw.off+1,none⟩=some (txt b):=cw1
   have EN:=zh (Zf3 _ ZiL w0 w4 bp dp _ vn ns Ak ck ks (ZfE ns f) (Zcd ns f) H4.out.p HN.out.1 HN.out.2.2.1 (by have:=HN.out.2.2.2;omega) HO.out.1 (ZkC w0 ns dp f HO.out.2.1) (by have:=HL.out;rw [HO.out.2.2];simp only [List.length_append,List.length_cons,List.length_nil];omega))
   go_upto_region 6 with (go_at_call 39;(refine EN.out.mono ?_);rintro e w5 ⟨rfl,hp,hf⟩;have H5:=zh (H4.out.next hp hf);clear hp hf)
   have AD:=zh (Zaf w0 w5 bp dp _ vn [59] H5.out.p (by have:=HL.out;rw [HO.out.2.2];simp only [List.length_append,List.length_cons,List.length_nil];omega))
   go_wp2_with (go_at_call 36;(refine AD.out.mono ?_);rintro e w6 ⟨rfl,hp,hf⟩;have H6:=zh (H5.out.next hp hf);clear hp hf)
   go_end0
   refine ⟨rfl,?_,H6.out.f⟩
   have:=H6.out.p
   rw [HO.out.2.2] at this
   simp only [List.append_assoc,List.cons_append,List.nil_append] at this ⊢
   exact this
end
section
open Go.RowKit Go.WideShapes Go.ChangeShapes Go.ChangeAt Go.Joins
section
variable {H:Type} {enc:TypeId×Value->H} {P:Program}
theorem Zkq {f:Func} {s:ChangeSpec} {apart fresh handsOn again:Bool} {W W':World} {args:Array Value} {v:Value} {ds gs:List (DataW H)} {before pa pv:List MemPlace}
  (hW:DataW.Whole enc P f.params.toList s.vars apart W args.toList ds gs before)
  (hres:∀ (b:Nat) (sp:Nat->Bool) (hd:Bool),DataW.TrodAll enc P W' b sp hd f.resultTypes.toList (v.resultList f.resultTypes.size) (s.fn H (ds++gs)).results [])
  (hargs:∀ sp:Nat->Bool,(∀ p∈before,sp p.block=true)->DataW.TrodAll enc P W' 0 sp true f.params.toList args.toList (s.fn H (ds++gs)).args pa)
  (hvars:∀ sp:Nat->Bool,(∀ p∈before,sp p.block=true)->DataW.TrodVars enc P W' sp s.vars (s.fn H (ds++gs)).vars pv)
  (hps:before=pa++pv) (hb:Below W.heap.size W W')
  (hok:∀ (j:Nat) (t:TypeId) (r:Value),f.resultTypes[j]? = some t->(v.resultList f.resultTypes.size)[j]? = some r->Value.okWide P W' .any 0 t r) :
  s.post enc P f apart fresh handsOn again W args v W':=by
 have hlt:∀ p∈before,p.block<W.heap.size:=fun p hp=>hW.lt p hp
 have hold:∀ p∈before,(fun b=>decide (b<W.heap.size)) p.block=true:=fun p hp=>by simpa using hlt p hp
 refine ⟨ds,gs,before,[],pa,pv,hW,hres _ _ _,hargs _ hold,hvars _ hold,World.keptBut_mono (fun p hp=>⟨hp,?_⟩) (hb.frame (·∈before)),fun _=>?_⟩
 ·rw [hps,List.mem_append] at hp
  exact Or.inr hp
 ·obtain ⟨_,_,_,_,_,hz,hn⟩:=hW
  refine ⟨hok,_,_,([]++pa)++pv,⟨[]++pa,pv,trodAll_append (hargs _ (fun _ _=>rfl)) (hres _ _ _),hvars _ (fun _ _=>rfl),rfl,?_,?_⟩,?_⟩
  ·intro b off hp
   have hin:MemPlace.cell b off∈before:=by rw [hps];simpa using hp
   rw [hb.frozen (hlt _ hin)]
   exact hz b off hin
  ·intro ha
   have:=hn ha
   rw [hps] at this
   simpa using this
  ·intro p hp _
   rw [hps]
   simpa using hp
end
theorem Tryz.own:ownKnob Tryz.prog.godebug=none:=by kernel_rfl
end
end Go.Proofs.YtkongcicmajolaaGreatDoor
