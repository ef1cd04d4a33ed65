import Derived.RegionTactic
import Derived.Test.YtkongcicmajolaaGreatDoorQAC
import Derived.Test.YtkongcicmajolaaGreatDoorQAF
set_option maxRecDepth 100000
set_option maxHeartbeats 8000000
namespace Go.Proofs.YtkongcicmajolaaGreatDoor
section
open Go.RowKit
def ZP (ns:List Nd):Nat->Nd->Prop
 | 0,_=>False
 | f+1,n=>ZfF n/\((n.kind=20/\∃ v r,n.nums=v::r/\-9223372036854775808<=v/\v<=9223372036854775807)\/(n.kind=21/\∃ s r,n.words=s::r) ∨
   (n.kind=23/\∃ k:Nat,n.kids[0]? = some (k:Int)/\k<ns.length/\ZP ns f (Za ns k)) ∨
   (n.kind=22/\∃ j k:Nat,n.kids[0]? = some (j:Int)/\j<ns.length/\ZP ns f (Za ns j)/\n.kids[1]? = some (k:Int)/\k<ns.length/\ZP ns f (Za ns k)))
theorem ZP.bin {ns:List Nd} {f:Nat} {n:Nd} (h:ZP ns f n):ZfF n:=by
 cases f with
 | zero=>exact h.elim
 | succ f=>exact h.1
def opT (ns:List Nd) (f:Nat) (m:Nd) (least:Nat):Txt:=if least<=Zu m then Zx ns f m else [40]++Zx ns f m++[41]
theorem ZcV {w0 w:World} {bp dp b:Nat} {t:Txt} {vn:Value} {cs:Array Value} (h:PrS w0 w bp t dp vn) (k:Zh w b 37 cs):b≠bp:=by
 obtain ⟨v,h1,_⟩:=h.box
 intro e
 subst e
 exact absurd (ZhR k h1) (by decide)
def Zbp (w0:World) (ns:List Nd) (f:Nat):Prop:=
 ∀ (w:World) (bp dp:Nat) (t:Txt) (vn:Value) (x:NdV×Nd),PrS w0 w bp t dp vn->Zs w0 vn ns->ZaW w0 x->ZP ns f x.2->t.length+(Zx ns f x.2).length+100<=140737488355328 ->
  Calls Tryz.prog 23 #[.pointer (some ⟨bp,0,none⟩),ndX x] w fun e w'=>e=.returned (.tuple #[])/\PrS w0 w' bp (t++Zx ns f x.2) dp vn/\Fr w w' bp
abbrev ndC (x:NdV×Nd):Array Value:=#[.int .i64 x.2.kind,x.1.1,x.1.2.1,x.1.2.2,.int .i64 x.2.pos]
theorem Zg {w:World} {b:Nat} {x:NdV×Nd} (h:Zh w b 37 (ndC x)):w.cell? ⟨b,0,none⟩=some (.int .i64 x.2.kind)/\w.cell? ⟨b,1,none⟩=some x.1.1/\w.cell? ⟨b,2,none⟩=some x.1.2.1/\w.cell? ⟨b,3,none⟩=some x.1.2.2/\w.cell? ⟨b,4,none⟩=some (.int .i64 x.2.pos):=by
 have c0:=h.blk.cell 0
 have c1:=h.blk.cell 1
 have c2:=h.blk.cell 2
 have c3:=h.blk.cell 3
 have c4:=h.blk.cell 4
 simp only [List.getElem?_toArray,List.getElem?_cons_zero,List.getElem?_cons_succ] at c0 c1 c2 c3 c4
 exact ⟨c0,c1,c2,c3,c4⟩
theorem ZbV (w0 w:World) (bp dp f least:Nat) (t:Txt) (vn:Value) (ns:List Nd) (x:NdV×Nd) (hE:Zbp w0 ns f) (h:PrS w0 w bp t dp vn) (hN:Zs w0 vn ns) (hx:ZaW w0 x) (hv:ZP ns f x.2) (hl:t.length+(opT ns f x.2 least).length+100<=140737488355328) :
  Calls Tryz.prog 53 #[.pointer (some ⟨bp,0,none⟩),ndX x,.int .i64 (least:Nat)] w fun e w'=>e=.returned (.tuple #[])/\PrS w0 w' bp (t++opT ns f x.2 least) dp vn/\Fr w w' bp:=by
 have hq:=hx
 have hb:=hv.bin
 obtain ⟨⟨vw,vu,vk⟩,kd,ws,nums,ks,ps⟩:=x
 obtain ⟨hw,hu,hkk⟩:=hx
 dsimp only at hw hu hkk hv hl hb ⊢
 obtain ⟨Aw,cw,rfl,_⟩:=hw
 obtain ⟨Au,cu,rfl,_⟩:=hu
 obtain ⟨Ak,ck,rfl,_⟩:=hkk
 have a1:=below_alloc1 w (.cells #[.int .i64 kd,.slice Aw ws.length cw,.slice Au nums.length cu,.slice Ak ks.length ck,.int .i64 ps] 37)
 have B1:Zh _ _ _ _:=Zh.start w #[.int .i64 kd,.slice Aw ws.length cw,.slice Au nums.length cu,.slice Ak ks.length ck,.int .i64 ps] 37
 obtain ⟨c0,c1,c2,c3,c4⟩:=Zg (x:=((.slice Aw ws.length cw,.slice Au nums.length cu,.slice Ak ks.length ck),⟨kd,ws,nums,ks,ps⟩)) B1
 dsimp only at c0 c1 c2 c3 c4
 have p1:=h.keep a1
 have ST:=zh (Zde w0 _ _ hq p1.below hb)
 generalize hs:Zu ⟨kd,ws,nums,ks,ps⟩=s at ST
 have HX:=zh (zi p1 (zi B1 (zi a1 (zi hN (zi hq (zi hv hE))))))
 have HP:=zh h
 clear p1 B1 a1 hN hq hv hE h hb
 generalize hw1:w.alloc (.cells #[.int .i64 kd,.slice Aw ws.length cw,.slice Au nums.length cu,.slice Ak ks.length ck,.int .i64 ps] 37)=w1 at ST HX c0 c1 c2 c3 c4
 by_cases hle:least<=s
 ·have e1:opT ns f ⟨kd,ws,nums,ks,ps⟩ least=Zx ns f ⟨kd,ws,nums,ks,ps⟩:=by unfold opT;rw [hs,if_pos hle]
  rw [e1] at hl ⊢
  have j:(least:Int)<=(s:Int):=by omega
  have HL:=zh hl
  clear hl e1 hs hle
  go_enter Tryz.func53,Tryz.ntmps53
  go_upto_region 2 with (go_at_call 54;(refine ST.out.mono ?_);rintro e w2 ⟨rfl,hb⟩;have HB:=zh hb;clear hb)
  have K2:=HX.out.2.1.keep HB.out
  obtain ⟨d0,d1,d2,d3,d4⟩:=Zg (x:=((.slice Aw ws.length cw,.slice Au nums.length cu,.slice Ak ks.length ck),⟨kd,ws,nums,ks,ps⟩)) K2
  dsimp only at d0 d1 d2 d3 d4
  have EX:=zh (HX.out.2.2.2.2.2.2 w2 bp dp t vn _ (HX.out.1.keep HB.out) HX.out.2.2.2.1 HX.out.2.2.2.2.1 HX.out.2.2.2.2.2.1 HL.out)
  clear K2
  go_wp2_with (go_at_call 23;(refine EX.out.mono ?_);rintro e w3 ⟨rfl,hp,hf⟩;have H3:=zh (zi hp hf);clear hp hf)
  refine bodyPost_ret (v:=.tuple #[]) (results_none (by kernel_rfl) _ _ _) rfl ⟨rfl,H3.out.1,((Fr.of_below bp (hw1▸HX.out.2.2.1)).trans (Fr.of_below bp HB.out)).trans H3.out.2⟩
 ·have e1:opT ns f ⟨kd,ws,nums,ks,ps⟩ least=[40]++Zx ns f ⟨kd,ws,nums,ks,ps⟩++[41]:=by unfold opT;rw [hs,if_neg hle]
  rw [e1] at hl ⊢
  simp only [List.length_append,List.length_cons,List.length_nil] at hl
  have j:¬ ((least:Int)<=(s:Int)):=by omega
  have HL:=zh hl
  clear hl e1 hs hle
  go_enter Tryz.func53,Tryz.ntmps53
  go_upto_region 3 with (go_at_call 54;(refine ST.out.mono ?_);rintro e w2 ⟨rfl,hb⟩;have HB:=zh hb;clear hb)
  have A2:=zh (Zaf w0 w2 bp dp t vn [40] (HX.out.1.keep HB.out) (by have:=HL.out;simp only [List.length_cons,List.length_nil];omega))
  go_upto_region 4 with (go_at_call 36;(refine A2.out.mono ?_);rintro e w3 ⟨rfl,hp,hf⟩;have H3:=zh (zi hp hf);clear hp hf)
  have K2:=HX.out.2.1.keep HB.out
  have K3:=H3.out.2.at_ _ _ _ (ZcV (HX.out.1.keep HB.out) K2) (by decide) K2
  obtain ⟨d0,d1,d2,d3,d4⟩:=Zg (x:=((.slice Aw ws.length cw,.slice Au nums.length cu,.slice Ak ks.length ck),⟨kd,ws,nums,ks,ps⟩)) K3
  dsimp only at d0 d1 d2 d3 d4
  have EX:=zh (HX.out.2.2.2.2.2.2 w3 bp dp _ vn _ H3.out.1 HX.out.2.2.2.1 HX.out.2.2.2.2.1 HX.out.2.2.2.2.2.1 (by have:=HL.out;simp only [List.length_append,List.length_cons,List.length_nil];omega))
  clear K2 K3
  go_upto_region 5 with (go_at_call 23;(refine EX.out.mono ?_);rintro e w4 ⟨rfl,hp,hf⟩;have H4:=zh (zi hp hf);clear hp hf)
  have A4:=zh (Zaf w0 w4 bp dp _ vn [41] H4.out.1 (by have:=HL.out;simp only [List.length_append,List.length_cons,List.length_nil];omega))
  go_wp2_with (go_at_call 36;(refine A4.out.mono ?_);rintro e w5 ⟨rfl,hp,hf⟩;have H5:=zh (zi hp hf);clear hp hf)
  go_end0
  refine ⟨rfl,?_,((((Fr.of_below bp (hw1▸HX.out.2.2.1)).trans (Fr.of_below bp HB.out)).trans H3.out.2).trans H4.out.2).trans H5.out.2⟩
  have:=H5.out.1
  simp only [List.append_assoc] at this ⊢
  exact this
end
section
open Go.RowKit
theorem Zj (w:World):Below w.heap.size w w.drew:=(Below.refl _ _).drew
theorem Zp5 (w0 w:World) (bp dp f:Nat) (t:Txt) (vn:Value) (ns:List Nd) (x:NdV×Nd) (h:PrS w0 w bp t dp vn) (hx:ZaW w0 x) (ht:Zff w0 w0) (v:Int) (r:List Int) (hk:x.2.kind=20) (hn:x.2.nums=v::r) (hv:-9223372036854775808<=v/\v<=9223372036854775807) (hl:t.length+(Zx ns (f+1) x.2).length+100<=140737488355328) :
  Calls Tryz.prog 23 #[.pointer (some ⟨bp,0,none⟩),ndX x] w fun e w'=>e=.returned (.tuple #[])/\PrS w0 w' bp (t++Zx ns (f+1) x.2) dp vn/\Fr w w' bp:=by
 have hq:=hx
 obtain ⟨⟨vw,vu,vk⟩,kd,ws,nums,ks,ps⟩:=x
 obtain ⟨hw,hu,hkk⟩:=hx
 dsimp only at hk hn hw hu hkk hl ⊢
 obtain ⟨Aw,cw,rfl,hwl,hwm,hW,hWl⟩:=hw
 obtain ⟨Au,cu,rfl,hul,hum,hU⟩:=hu
 obtain ⟨Ak,ck,rfl,hkl,hkm,hK⟩:=hkk
 subst hk
 have a1:=below_alloc1 w (.cells #[.int .i64 20,.slice Aw ws.length cw,.slice Au nums.length cu,.slice Ak ks.length ck,.int .i64 ps] 37)
 have B1:Zh _ _ _ _:=Zh.start w #[.int .i64 20,.slice Aw ws.length cw,.slice Au nums.length cu,.slice Ak ks.length ck,.int .i64 ps] 37
 have p1:=h.keep a1
 have he:Zx ns (f+1) ⟨20,ws,nums,ks,ps⟩=ZbP v:=by simp only [Zx,num,hn];rfl
 rw [he] at hl ⊢
 obtain ⟨c0,c1,c2,c3,c4⟩:=Zg (x:=((.slice Aw ws.length cw,.slice Au nums.length cu,.slice Ak ks.length ck),⟨20,ws,nums,ks,ps⟩)) (B1)
 dsimp only at c0 c1 c2 c3 c4
 generalize hw1:w.alloc (.cells #[.int .i64 20,.slice Aw ws.length cw,.slice Au nums.length cu,.slice Ak ks.length ck,.int .i64 ps] 37)=w1 at *
 obtain ⟨au,rfl,u0⟩:=ints_at (k:=0) (x:=v) hU (p1.keep (Zj w1)).below (by rw [hn];rfl) (by rw [hn];exact Nat.succ_pos _)
 have u1:w1.drew.cell? au=some (.int .i64 v):=u0
 have u2:w1.cell? au=some (.int .i64 v):=u0
 have hl2:0<nums.length:=by rw [hn];exact Nat.succ_pos _
 obtain ⟨d0,d1,d2,d3,d4⟩:=Zg (x:=((.slice Aw ws.length cw,.slice (some au) nums.length cu,.slice Ak ks.length ck),⟨20,ws,nums,ks,ps⟩)) (B1.keep (Zj w1))
 dsimp only at d0 d1 d2 d3 d4
 have NU:=zh (Zg6 w0 w1.drew bp dp t vn v (p1.keep (Zj w1)) (ht.on (p1.keep (Zj w1)).below) hv.1 hv.2 (by omega))
 have HX:=zh a1
 clear p1 B1 a1 hq hwl hwm hW hWl hul hum hU hkl hkm hK h hv hl he ht u0 hn
 go_enter Tryz.func23,Tryz.ntmps23
 go_upto_region 3 with fail
 refine wp_region_still_tail 7 (by kernel_rfl) (by kernel_rfl) ?_
 simp only [List.take_succ_cons,List.take_zero,List.drop_succ_cons,List.drop_zero]
 iterate 7 still_step
 refine wpStill_nil ?_
 change wpList _ _ _ _ _ w1.drew
 go_wp2_with (go_at_call 52;(refine NU.out.mono ?_);rintro e w3 ⟨rfl,hp,hf⟩;have H3:=zh (zi hp hf);clear hp hf)
 go_end0
 exact ⟨rfl,H3.out.1,((Fr.of_below bp (hw1▸HX.out)).trans (Fr.of_below bp (Zj w1))).trans H3.out.2⟩
theorem Zp6 (w0 w:World) (bp dp f:Nat) (t:Txt) (vn:Value) (ns:List Nd) (x:NdV×Nd) (h:PrS w0 w bp t dp vn) (hx:ZaW w0 x) (s:Txt) (r:List Txt) (hk:x.2.kind=21) (hn:x.2.words=s::r) (hl:t.length+(Zx ns (f+1) x.2).length+100<=140737488355328) :
  Calls Tryz.prog 23 #[.pointer (some ⟨bp,0,none⟩),ndX x] w fun e w'=>e=.returned (.tuple #[])/\PrS w0 w' bp (t++Zx ns (f+1) x.2) dp vn/\Fr w w' bp:=by
 have hq:=hx
 obtain ⟨⟨vw,vu,vk⟩,kd,ws,nums,ks,ps⟩:=x
 obtain ⟨hw,hu,hkk⟩:=hx
 dsimp only at hk hn hw hu hkk hl ⊢
 obtain ⟨Aw,cw,rfl,hwl,hwm,hW,hWl⟩:=hw
 obtain ⟨Au,cu,rfl,hul,hum,hU⟩:=hu
 obtain ⟨Ak,ck,rfl,hkl,hkm,hK⟩:=hkk
 subst hk
 have a1:=below_alloc1 w (.cells #[.int .i64 21,.slice Aw ws.length cw,.slice Au nums.length cu,.slice Ak ks.length ck,.int .i64 ps] 37)
 have B1:Zh _ _ _ _:=Zh.start w #[.int .i64 21,.slice Aw ws.length cw,.slice Au nums.length cu,.slice Ak ks.length ck,.int .i64 ps] 37
 have p1:=h.keep a1
 have he:Zx ns (f+1) ⟨21,ws,nums,ks,ps⟩=s:=by simp only [Zx,word,hn];rfl
 rw [he] at hl ⊢
 obtain ⟨c0,c1,c2,c3,c4⟩:=Zg (x:=((.slice Aw ws.length cw,.slice Au nums.length cu,.slice Ak ks.length ck),⟨21,ws,nums,ks,ps⟩)) (B1)
 dsimp only at c0 c1 c2 c3 c4
 generalize hw1:w.alloc (.cells #[.int .i64 21,.slice Aw ws.length cw,.slice Au nums.length cu,.slice Ak ks.length ck,.int .i64 ps] 37)=w1 at *
 obtain ⟨au,rfl,u0⟩:=Zcl (k:=0) (x:=s) hW (p1.keep (Zj w1)).below (by rw [hn];rfl) (by rw [hn];exact Nat.succ_pos _)
 have u1:w1.drew.cell? au=some (txt s):=u0
 have u2:w1.cell? au=some (txt s):=u0
 have hl2:0<ws.length:=by rw [hn];exact Nat.succ_pos _
 obtain ⟨d0,d1,d2,d3,d4⟩:=Zg (x:=((.slice (some au) ws.length cw,.slice Au nums.length cu,.slice Ak ks.length ck),⟨21,ws,nums,ks,ps⟩)) (B1.keep (Zj w1))
 dsimp only at d0 d1 d2 d3 d4
 have AD:=zh (Zaf w0 w1.drew bp dp t vn s (p1.keep (Zj w1)) (by omega))
 have HX:=zh a1
 clear p1 B1 a1 hq hwl hwm hW hWl hul hum hU hkl hkm hK h hl he u0 hn
 go_enter Tryz.func23,Tryz.ntmps23
 go_upto_region 5 with fail
 go_region_with (go_at_call 36;(refine AD.out.mono ?_);rintro e w3 ⟨rfl,hp,hf⟩;have H3:=zh (zi hp hf);clear hp hf)
 all_goals
  go_wp2_with fail
  go_end0
  exact ⟨rfl,H3.out.1,((Fr.of_below bp (hw1▸HX.out)).trans (Fr.of_below bp (Zj w1))).trans H3.out.2⟩
theorem ZbC {ns:List Nd} {k:Nat} {y:Nd} (h:ns[k]? = some y):Za ns k=y:=by unfold Za;rw [Int.toNat_natCast,h];rfl
theorem ZbU {ns:List Nd} {n:Nd} {i k:Nat} {y:Nd} (hi:n.kids[i]? = some (k:Int)) (h:ns[k]? = some y):Zw ns n i=y:=by
 have:atI n.kids i=k:=by unfold atI;rw [Int.toNat_natCast,hi];rfl
 unfold Zw
 rw [this]
 exact ZbC h
theorem Zp4 (w0 w:World) (bp dp f:Nat) (t:Txt) (vn:Value) (ns:List Nd) (x:NdV×Nd) (h:PrS w0 w bp t dp vn) (hN:Zs w0 vn ns) (hx:ZaW w0 x) (hE:Zbp w0 ns f) (k:Nat) (hk:x.2.kind=23) (hi:x.2.kids[0]? = some (k:Int)) (hkn:k<ns.length) (hv:ZP ns f (Za ns k)) (hl:t.length+(Zx ns (f+1) x.2).length+100<=140737488355328) :
  Calls Tryz.prog 23 #[.pointer (some ⟨bp,0,none⟩),ndX x] w fun e w'=>e=.returned (.tuple #[])/\PrS w0 w' bp (t++Zx ns (f+1) x.2) dp vn/\Fr w w' bp:=by
 have hq:=hx
 obtain ⟨⟨vw,vu,vk⟩,kd,ws,nums,ks,ps⟩:=x
 obtain ⟨hw,hu,hkk⟩:=hx
 dsimp only at hk hi hw hu hkk hl ⊢
 obtain ⟨Aw,cw,rfl,hwl,hwm,hW,hWl⟩:=hw
 obtain ⟨Au,cu,rfl,hul,hum,hU⟩:=hu
 obtain ⟨Ak,ck,rfl,hkl,hkm,hK⟩:=hkk
 subst hk
 have a1:=below_alloc1 w (.cells #[.int .i64 23,.slice Aw ws.length cw,.slice Au nums.length cu,.slice Ak ks.length ck,.int .i64 ps] 37)
 have B1:Zh _ _ _ _:=Zh.start w #[.int .i64 23,.slice Aw ws.length cw,.slice Au nums.length cu,.slice Ak ks.length ck,.int .i64 ps] 37
 have p1:=h.keep a1
 obtain ⟨z,hz⟩:∃ z,ns[k]? = some z:=⟨_,List.getElem?_eq_getElem hkn⟩
 have he:Zx ns (f+1) ⟨23,ws,nums,ks,ps⟩=[45]++opT ns f z 3:=by
  rw [<- ZbU (n:=⟨23,ws,nums,ks,ps⟩) hi hz]
  simp only [Zx,opT]
  rfl
 rw [ZbC hz] at hv
 rw [he] at hl ⊢
 simp only [List.length_append,List.length_cons,List.length_nil] at hl
 obtain ⟨c0,c1,c2,c3,c4⟩:=Zg (x:=((.slice Aw ws.length cw,.slice Au nums.length cu,.slice Ak ks.length ck),⟨23,ws,nums,ks,ps⟩)) (B1)
 dsimp only at c0 c1 c2 c3 c4
 generalize hw1:w.alloc (.cells #[.int .i64 23,.slice Aw ws.length cw,.slice Au nums.length cu,.slice Ak ks.length ck,.int .i64 ps] 37)=w1 at *
 have AD:=zh (Zaf w0 w1 bp dp t vn [45] p1 (by simp only [List.length_cons,List.length_nil];omega))
 have HX:=zh (zi a1 (zi B1 (zi hq (zi hi (zi hkn (zi hz (zi hv (zi hE (zi hN (zi hl p1))))))))))
 clear p1 B1 a1 hq hwl hwm hW hWl hul hum hU hkl hkm hK h hl he hi hkn hz hv hE hN
 go_enter Tryz.func23,Tryz.ntmps23
 go_upto_region 8 with (go_at_call 36;(refine AD.out.mono ?_);rintro e w3 ⟨rfl,hp,hf⟩;have H3:=zh (zi hp hf);clear hp hf)
 have K3:=H3.out.2.at_ _ _ _ (ZcV HX.out.2.2.2.2.2.2.2.2.2.2 HX.out.2.1) (by decide) HX.out.2.1
 obtain ⟨d0,d1,d2,d3,d4⟩:=Zg (x:=((.slice Aw ws.length cw,.slice Au nums.length cu,.slice Ak ks.length ck),⟨23,ws,nums,ks,ps⟩)) (K3)
 dsimp only at d0 d1 d2 d3 d4
 have KI:=zh (ZbB w0 w3 bp dp _ vn ns _ 0 k ⟨H3.out.1,HX.out.2.2.2.2.2.2.2.2.1⟩ HX.out.2.2.1 HX.out.2.2.2.1 HX.out.2.2.2.2.1)
 clear K3
 go_wp2_with (first
  | (go_at_call 42;(refine KI.out.mono ?_);rintro e w4 ⟨y,rfl,hy,hy2,hb⟩;have ey:y.2=z:=Option.some.inj (hy.symm.trans HX.out.2.2.2.2.2.1);have H4:=zh (zi hy2 (zi hb ey));clear hy hy2 hb ey;have OP:=zh (ZbV w0 w4 bp dp f 3 _ vn ns y HX.out.2.2.2.2.2.2.2.1 (H3.out.1.keep H4.out.2.1) HX.out.2.2.2.2.2.2.2.2.1 H4.out.1 (H4.out.2.2▸HX.out.2.2.2.2.2.2.1) (by rw [H4.out.2.2];have:=HX.out.2.2.2.2.2.2.2.2.2.1;simp only [List.length_append,List.length_cons,List.length_nil];omega)))
  | (go_at_call 53;(refine OP.out.mono ?_);rintro e w5 ⟨rfl,hp,hf⟩;have H5:=zh (zi hp hf);clear hp hf))
 go_end0
 refine ⟨rfl,?_,(((Fr.of_below bp (hw1▸HX.out.1)).trans H3.out.2).trans (Fr.of_below bp H4.out.2.1)).trans H5.out.2⟩
 have:=H5.out.1
 rw [H4.out.2.2] at this
 simp only [List.append_assoc] at this ⊢
 exact this
def Zd7:List Txt:=[Zbi 0,Zbi 1,Zbi 2,Zbi 3,Zbi 4,Zbi 5]
theorem ZeN {w0 W:World} (h:Zay w0 0 Zd7) (hb:Below w0.heap.size w0 W) (k:Nat) (hk:k<6):W.cell? ⟨0,k,none⟩=some (txt (Zbi k)):=by
 obtain ⟨t,fr,e⟩:=h.below hb
 have:k=0\/k=1\/k=2\/k=3\/k=4\/k=5:=by omega
 rcases this with rfl | rfl | rfl | rfl | rfl | rfl<;>simp [World.cell?,e,Zd7]
theorem Zou (w0 w:World) (bp dp f:Nat) (t:Txt) (vn:Value) (ns:List Nd) (x:NdV×Nd) (h:PrS w0 w bp t dp vn) (hN:Zs w0 vn ns) (hx:ZaW w0 x) (ht:Zay w0 0 Zd7) (hE:Zbp w0 ns f) (r:List Int) (j k:Nat) (hk:x.2.kind=22) (hn:x.2.nums=0::r) (hi:x.2.kids[0]? = some (j:Int)) (hjn:j<ns.length) (hv:ZP ns f (Za ns j)) (hi2:x.2.kids[1]? = some (k:Int)) (hkn:k<ns.length) (hv2:ZP ns f (Za ns k)) (hl:t.length+(Zx ns (f+1) x.2).length+100<=140737488355328) :
  Calls Tryz.prog 23 #[.pointer (some ⟨bp,0,none⟩),ndX x] w fun e w'=>e=.returned (.tuple #[])/\PrS w0 w' bp (t++Zx ns (f+1) x.2) dp vn/\Fr w w' bp:=by
 have hq:=hx
 obtain ⟨⟨vw,vu,vk⟩,kd,ws,nums,ks,ps⟩:=x
 obtain ⟨hw,hu,hkk⟩:=hx
 dsimp only at hk hn hi hi2 hw hu hkk hl ⊢
 obtain ⟨Aw,cw,rfl,hwl,hwm,hW,hWl⟩:=hw
 obtain ⟨Au,cu,rfl,hul,hum,hU⟩:=hu
 obtain ⟨Ak,ck,rfl,hkl,hkm,hK⟩:=hkk
 subst hk
 have a1:=below_alloc1 w (.cells #[.int .i64 22,.slice Aw ws.length cw,.slice Au nums.length cu,.slice Ak ks.length ck,.int .i64 ps] 37)
 have B1:Zh _ _ _ _:=Zh.start w #[.int .i64 22,.slice Aw ws.length cw,.slice Au nums.length cu,.slice Ak ks.length ck,.int .i64 ps] 37
 have p1:=h.keep a1
 obtain ⟨z,hz⟩:∃ z,ns[j]? = some z:=⟨_,List.getElem?_eq_getElem hjn⟩
 obtain ⟨y,hy⟩:∃ y,ns[k]? = some y:=⟨_,List.getElem?_eq_getElem hkn⟩
 have hs:Zu ⟨22,ws,nums,ks,ps⟩=0:=by unfold Zu num;rw [if_pos rfl];dsimp only;rw [hn];rfl
 have hg:num ⟨22,ws,nums,ks,ps⟩ 0=0:=by unfold num;dsimp only;rw [hn];rfl
 have he:Zx ns (f+1) ⟨22,ws,nums,ks,ps⟩=opT ns f z 1++Zbi 0++opT ns f y 1:=by
  rw [<- ZbU (n:=⟨22,ws,nums,ks,ps⟩) hi hz,<- ZbU (n:=⟨22,ws,nums,ks,ps⟩) hi2 hy]
  simp only [Zx,opT,hs,hg]
  rfl
 rw [ZbC hz] at hv
 rw [ZbC hy] at hv2
 rw [he] at hl ⊢
 simp only [List.length_append] at hl
 have hsl:(Zbi 0).length=3:=rfl
 have hbo:ZfF ⟨22,ws,nums,ks,ps⟩:=fun _=>⟨0,r,hn,by omega,by omega⟩
 obtain ⟨c0,c1,c2,c3,c4⟩:=Zg (x:=((.slice Aw ws.length cw,.slice Au nums.length cu,.slice Ak ks.length ck),⟨22,ws,nums,ks,ps⟩)) (B1)
 dsimp only at c0 c1 c2 c3 c4
 generalize hw1:w.alloc (.cells #[.int .i64 22,.slice Aw ws.length cw,.slice Au nums.length cu,.slice Ak ks.length ck,.int .i64 ps] 37)=w1 at *
 have ST:=zh (Zde w0 w1 _ hq p1.below hbo)
 rw [hs] at ST
 have HX:=zh (zi a1 (zi B1 (zi hq (zi hN (zi hE (zi hl (zi hsl p1)))))))
 have HI:=zh (zi hi (zi hjn (zi hz hv)))
 have HJ:=zh (zi hi2 (zi hkn (zi hy hv2)))
 have HU:=zh (zi hU (zi hn ht))
 clear p1 B1 a1 hq hwl hwm hW hWl hul hum hU hkl hkm hK h hl hsl he hi hjn hz hv hi2 hkn hy hv2 hE hN hs hg hbo hn ht
 go_enter Tryz.func23,Tryz.ntmps23
 go_upto_region 11 with (go_at_call 54;(refine ST.out.mono ?_);rintro e w2 ⟨rfl,hb⟩;have HB:=zh hb;clear hb)
 have K2:=HX.out.2.1.keep HB.out
 have P2:=zh (HX.out.2.2.2.2.2.2.2.keep HB.out)
 obtain ⟨d0,d1,d2,d3,d4⟩:=Zg (x:=((.slice Aw ws.length cw,.slice Au nums.length cu,.slice Ak ks.length ck),⟨22,ws,nums,ks,ps⟩)) (K2)
 dsimp only at d0 d1 d2 d3 d4
 have KI:=zh (ZbB w0 w2 bp dp _ vn ns _ 0 j ⟨P2.out,HX.out.2.2.2.1⟩ HX.out.2.2.1 HI.out.1 HI.out.2.1)
 have K2w:=K2
 clear K2
 go_upto_region 12 with (first
  | (go_at_call 42;(refine KI.out.mono ?_);rintro e w3 ⟨q,rfl,hy,hy2,hb⟩;have ey:q.2=z:=Option.some.inj (hy.symm.trans HI.out.2.2.1);have H3:=zh (zi hy2 (zi hb ey));clear hy hy2 hb ey;have OP:=zh (ZbV w0 w3 bp dp f 1 _ vn ns q HX.out.2.2.2.2.1 (P2.out.keep H3.out.2.1) HX.out.2.2.2.1 H3.out.1 (H3.out.2.2▸HI.out.2.2.2) (by rw [H3.out.2.2];have:=HX.out.2.2.2.2.2.1;omega)))
  | (go_at_call 53;(refine OP.out.mono ?_);rintro e w4 ⟨rfl,hp,hf⟩;have H4:=zh (zi (show PrS w0 w4 bp (t++opT ns f z 1) dp vn from H3.out.2.2▸hp) hf);clear hp hf))
 have K3:=K2w.keep H3.out.2.1
 have K4:=(H4.out.2.at_ _ _ _ (ZcV (P2.out.keep H3.out.2.1) K3) (by decide) K3).keep (Zj w4)
 obtain ⟨a0,a1,a2,a3,a4⟩:=Zg (x:=((.slice Aw ws.length cw,.slice Au nums.length cu,.slice Ak ks.length ck),⟨22,ws,nums,ks,ps⟩)) (K4)
 dsimp only at a0 a1 a2 a3 a4
 have P4:=zh (H4.out.1.keep (Zj w4))
 obtain ⟨au,rfl,u0⟩:=ints_at (k:=0) (x:=0) HU.out.1 P4.out.below (by rw [HU.out.2.1];rfl) (by rw [HU.out.2.1];exact Nat.succ_pos _)
 have u1:w4.drew.cell? au=some (.int .i64 0):=u0
 have u2:w4.cell? au=some (.int .i64 0):=u0
 have v1:=ZeN HU.out.2.2 P4.out.below 0 (by decide)
 have v2:w4.cell? ⟨0,0,none⟩=some (txt (Zbi 0)):=v1
 have hl2:0<nums.length:=by rw [HU.out.2.1];exact Nat.succ_pos _
 have KS:=zh K4
 have AD:=zh (Zaf w0 w4.drew bp dp _ vn (Zbi 0) P4.out (by have:=HX.out.2.2.2.2.2.1;simp only [List.length_append];omega))
 clear u0 K3 K4 K2w
 go_region_with (go_at_call 36;(refine AD.out.mono ?_);rintro e w5 ⟨rfl,hp,hf⟩;have H5:=zh (zi hp hf);clear hp hf)
 have K5:=H5.out.2.at_ _ _ _ (ZcV P4.out KS.out) (by decide) KS.out
 obtain ⟨b0,b1,b2,b3,b4⟩:=Zg (x:=((.slice Aw ws.length cw,.slice (some au) nums.length cu,.slice Ak ks.length ck),⟨22,ws,nums,ks,ps⟩)) (K5)
 dsimp only at b0 b1 b2 b3 b4
 have KJ:=zh (ZbB w0 w5 bp dp _ vn ns _ 1 k ⟨H5.out.1,HX.out.2.2.2.1⟩ HX.out.2.2.1 HJ.out.1 HJ.out.2.1)
 have wk:IntKind.i64.wrap (0+1)=1:=by decide
 clear K5
 go_wp2_with (first
  | (go_at_call 42;(refine KJ.out.mono ?_);rintro e w6 ⟨q2,rfl,hy,hy2,hb⟩;have ey:q2.2=y:=Option.some.inj (hy.symm.trans HJ.out.2.2.1);have H6:=zh (zi hy2 (zi hb ey));clear hy hy2 hb ey;have OQ:=zh (ZbV w0 w6 bp dp f 1 _ vn ns q2 HX.out.2.2.2.2.1 (H5.out.1.keep H6.out.2.1) HX.out.2.2.2.1 H6.out.1 (H6.out.2.2▸HJ.out.2.2.2) (by rw [H6.out.2.2];have:=HX.out.2.2.2.2.2.1;simp only [List.length_append];omega)))
  | (go_at_call 53;(refine OQ.out.mono ?_);rintro e w7 ⟨rfl,hp,hf⟩;have H7:=zh (zi hp hf);clear hp hf))
 go_end0
 refine ⟨rfl,?_,(((((((Fr.of_below bp (hw1▸HX.out.1)).trans (Fr.of_below bp HB.out)).trans (Fr.of_below bp H3.out.2.1)).trans H4.out.2).trans (Fr.of_below bp (Zj w4))).trans H5.out.2).trans (Fr.of_below bp H6.out.2.1)).trans H7.out.2⟩
 have:=H7.out.1
 rw [H6.out.2.2] at this
 simp only [List.append_assoc] at this ⊢
 exact this
theorem Zov (w0 w:World) (bp dp f:Nat) (t:Txt) (vn:Value) (ns:List Nd) (x:NdV×Nd) (h:PrS w0 w bp t dp vn) (hN:Zs w0 vn ns) (hx:ZaW w0 x) (ht:Zay w0 0 Zd7) (hE:Zbp w0 ns f) (r:List Int) (j k:Nat) (hk:x.2.kind=22) (hn:x.2.nums=1::r) (hi:x.2.kids[0]? = some (j:Int)) (hjn:j<ns.length) (hv:ZP ns f (Za ns j)) (hi2:x.2.kids[1]? = some (k:Int)) (hkn:k<ns.length) (hv2:ZP ns f (Za ns k)) (hl:t.length+(Zx ns (f+1) x.2).length+100<=140737488355328) :
  Calls Tryz.prog 23 #[.pointer (some ⟨bp,0,none⟩),ndX x] w fun e w'=>e=.returned (.tuple #[])/\PrS w0 w' bp (t++Zx ns (f+1) x.2) dp vn/\Fr w w' bp:=by
 have hq:=hx
 obtain ⟨⟨vw,vu,vk⟩,kd,ws,nums,ks,ps⟩:=x
 obtain ⟨hw,hu,hkk⟩:=hx
 dsimp only at hk hn hi hi2 hw hu hkk hl ⊢
 obtain ⟨Aw,cw,rfl,hwl,hwm,hW,hWl⟩:=hw
 obtain ⟨Au,cu,rfl,hul,hum,hU⟩:=hu
 obtain ⟨Ak,ck,rfl,hkl,hkm,hK⟩:=hkk
 subst hk
 have a1:=below_alloc1 w (.cells #[.int .i64 22,.slice Aw ws.length cw,.slice Au nums.length cu,.slice Ak ks.length ck,.int .i64 ps] 37)
 have B1:Zh _ _ _ _:=Zh.start w #[.int .i64 22,.slice Aw ws.length cw,.slice Au nums.length cu,.slice Ak ks.length ck,.int .i64 ps] 37
 have p1:=h.keep a1
 obtain ⟨z,hz⟩:∃ z,ns[j]? = some z:=⟨_,List.getElem?_eq_getElem hjn⟩
 obtain ⟨y,hy⟩:∃ y,ns[k]? = some y:=⟨_,List.getElem?_eq_getElem hkn⟩
 have hs:Zu ⟨22,ws,nums,ks,ps⟩=0:=by unfold Zu num;rw [if_pos rfl];dsimp only;rw [hn];rfl
 have hg:num ⟨22,ws,nums,ks,ps⟩ 0=1:=by unfold num;dsimp only;rw [hn];rfl
 have he:Zx ns (f+1) ⟨22,ws,nums,ks,ps⟩=opT ns f z 1++Zbi 1++opT ns f y 1:=by
  rw [<- ZbU (n:=⟨22,ws,nums,ks,ps⟩) hi hz,<- ZbU (n:=⟨22,ws,nums,ks,ps⟩) hi2 hy]
  simp only [Zx,opT,hs,hg]
  rfl
 rw [ZbC hz] at hv
 rw [ZbC hy] at hv2
 rw [he] at hl ⊢
 simp only [List.length_append] at hl
 have hsl:(Zbi 1).length=4:=rfl
 have hbo:ZfF ⟨22,ws,nums,ks,ps⟩:=fun _=>⟨1,r,hn,by omega,by omega⟩
 obtain ⟨c0,c1,c2,c3,c4⟩:=Zg (x:=((.slice Aw ws.length cw,.slice Au nums.length cu,.slice Ak ks.length ck),⟨22,ws,nums,ks,ps⟩)) (B1)
 dsimp only at c0 c1 c2 c3 c4
 generalize hw1:w.alloc (.cells #[.int .i64 22,.slice Aw ws.length cw,.slice Au nums.length cu,.slice Ak ks.length ck,.int .i64 ps] 37)=w1 at *
 have ST:=zh (Zde w0 w1 _ hq p1.below hbo)
 rw [hs] at ST
 have HX:=zh (zi a1 (zi B1 (zi hq (zi hN (zi hE (zi hl (zi hsl p1)))))))
 have HI:=zh (zi hi (zi hjn (zi hz hv)))
 have HJ:=zh (zi hi2 (zi hkn (zi hy hv2)))
 have HU:=zh (zi hU (zi hn ht))
 clear p1 B1 a1 hq hwl hwm hW hWl hul hum hU hkl hkm hK h hl hsl he hi hjn hz hv hi2 hkn hy hv2 hE hN hs hg hbo hn ht
 go_enter Tryz.func23,Tryz.ntmps23
 go_upto_region 11 with (go_at_call 54;(refine ST.out.mono ?_);rintro e w2 ⟨rfl,hb⟩;have HB:=zh hb;clear hb)
 have K2:=HX.out.2.1.keep HB.out
 have P2:=zh (HX.out.2.2.2.2.2.2.2.keep HB.out)
 obtain ⟨d0,d1,d2,d3,d4⟩:=Zg (x:=((.slice Aw ws.length cw,.slice Au nums.length cu,.slice Ak ks.length ck),⟨22,ws,nums,ks,ps⟩)) (K2)
 dsimp only at d0 d1 d2 d3 d4
 have KI:=zh (ZbB w0 w2 bp dp _ vn ns _ 0 j ⟨P2.out,HX.out.2.2.2.1⟩ HX.out.2.2.1 HI.out.1 HI.out.2.1)
 have K2w:=K2
 clear K2
 go_upto_region 12 with (first
  | (go_at_call 42;(refine KI.out.mono ?_);rintro e w3 ⟨q,rfl,hy,hy2,hb⟩;have ey:q.2=z:=Option.some.inj (hy.symm.trans HI.out.2.2.1);have H3:=zh (zi hy2 (zi hb ey));clear hy hy2 hb ey;have OP:=zh (ZbV w0 w3 bp dp f 1 _ vn ns q HX.out.2.2.2.2.1 (P2.out.keep H3.out.2.1) HX.out.2.2.2.1 H3.out.1 (H3.out.2.2▸HI.out.2.2.2) (by rw [H3.out.2.2];have:=HX.out.2.2.2.2.2.1;omega)))
  | (go_at_call 53;(refine OP.out.mono ?_);rintro e w4 ⟨rfl,hp,hf⟩;have H4:=zh (zi (show PrS w0 w4 bp (t++opT ns f z 1) dp vn from H3.out.2.2▸hp) hf);clear hp hf))
 have K3:=K2w.keep H3.out.2.1
 have K4:=(H4.out.2.at_ _ _ _ (ZcV (P2.out.keep H3.out.2.1) K3) (by decide) K3).keep (Zj w4)
 obtain ⟨a0,a1,a2,a3,a4⟩:=Zg (x:=((.slice Aw ws.length cw,.slice Au nums.length cu,.slice Ak ks.length ck),⟨22,ws,nums,ks,ps⟩)) (K4)
 dsimp only at a0 a1 a2 a3 a4
 have P4:=zh (H4.out.1.keep (Zj w4))
 obtain ⟨au,rfl,u0⟩:=ints_at (k:=0) (x:=1) HU.out.1 P4.out.below (by rw [HU.out.2.1];rfl) (by rw [HU.out.2.1];exact Nat.succ_pos _)
 have u1:w4.drew.cell? au=some (.int .i64 1):=u0
 have u2:w4.cell? au=some (.int .i64 1):=u0
 have v1:=ZeN HU.out.2.2 P4.out.below 1 (by decide)
 have v2:w4.cell? ⟨0,1,none⟩=some (txt (Zbi 1)):=v1
 have hl2:0<nums.length:=by rw [HU.out.2.1];exact Nat.succ_pos _
 have KS:=zh K4
 have AD:=zh (Zaf w0 w4.drew bp dp _ vn (Zbi 1) P4.out (by have:=HX.out.2.2.2.2.2.1;simp only [List.length_append];omega))
 clear u0 K3 K4 K2w
 go_region_with (go_at_call 36;(refine AD.out.mono ?_);rintro e w5 ⟨rfl,hp,hf⟩;have H5:=zh (zi hp hf);clear hp hf)
 have K5:=H5.out.2.at_ _ _ _ (ZcV P4.out KS.out) (by decide) KS.out
 obtain ⟨b0,b1,b2,b3,b4⟩:=Zg (x:=((.slice Aw ws.length cw,.slice (some au) nums.length cu,.slice Ak ks.length ck),⟨22,ws,nums,ks,ps⟩)) (K5)
 dsimp only at b0 b1 b2 b3 b4
 have KJ:=zh (ZbB w0 w5 bp dp _ vn ns _ 1 k ⟨H5.out.1,HX.out.2.2.2.1⟩ HX.out.2.2.1 HJ.out.1 HJ.out.2.1)
 have wk:IntKind.i64.wrap (0+1)=1:=by decide
 clear K5
 go_wp2_with (first
  | (go_at_call 42;(refine KJ.out.mono ?_);rintro e w6 ⟨q2,rfl,hy,hy2,hb⟩;have ey:q2.2=y:=Option.some.inj (hy.symm.trans HJ.out.2.2.1);have H6:=zh (zi hy2 (zi hb ey));clear hy hy2 hb ey;have OQ:=zh (ZbV w0 w6 bp dp f 1 _ vn ns q2 HX.out.2.2.2.2.1 (H5.out.1.keep H6.out.2.1) HX.out.2.2.2.1 H6.out.1 (H6.out.2.2▸HJ.out.2.2.2) (by rw [H6.out.2.2];have:=HX.out.2.2.2.2.2.1;simp only [List.length_append];omega)))
  | (go_at_call 53;(refine OQ.out.mono ?_);rintro e w7 ⟨rfl,hp,hf⟩;have H7:=zh (zi hp hf);clear hp hf))
 go_end0
 refine ⟨rfl,?_,(((((((Fr.of_below bp (hw1▸HX.out.1)).trans (Fr.of_below bp HB.out)).trans (Fr.of_below bp H3.out.2.1)).trans H4.out.2).trans (Fr.of_below bp (Zj w4))).trans H5.out.2).trans (Fr.of_below bp H6.out.2.1)).trans H7.out.2⟩
 have:=H7.out.1
 rw [H6.out.2.2] at this
 simp only [List.append_assoc] at this ⊢
 exact this
theorem Zow (w0 w:World) (bp dp f:Nat) (t:Txt) (vn:Value) (ns:List Nd) (x:NdV×Nd) (h:PrS w0 w bp t dp vn) (hN:Zs w0 vn ns) (hx:ZaW w0 x) (ht:Zay w0 0 Zd7) (hE:Zbp w0 ns f) (r:List Int) (j k:Nat) (hk:x.2.kind=22) (hn:x.2.nums=2::r) (hi:x.2.kids[0]? = some (j:Int)) (hjn:j<ns.length) (hv:ZP ns f (Za ns j)) (hi2:x.2.kids[1]? = some (k:Int)) (hkn:k<ns.length) (hv2:ZP ns f (Za ns k)) (hl:t.length+(Zx ns (f+1) x.2).length+100<=140737488355328) :
  Calls Tryz.prog 23 #[.pointer (some ⟨bp,0,none⟩),ndX x] w fun e w'=>e=.returned (.tuple #[])/\PrS w0 w' bp (t++Zx ns (f+1) x.2) dp vn/\Fr w w' bp:=by
 have hq:=hx
 obtain ⟨⟨vw,vu,vk⟩,kd,ws,nums,ks,ps⟩:=x
 obtain ⟨hw,hu,hkk⟩:=hx
 dsimp only at hk hn hi hi2 hw hu hkk hl ⊢
 obtain ⟨Aw,cw,rfl,hwl,hwm,hW,hWl⟩:=hw
 obtain ⟨Au,cu,rfl,hul,hum,hU⟩:=hu
 obtain ⟨Ak,ck,rfl,hkl,hkm,hK⟩:=hkk
 subst hk
 have a1:=below_alloc1 w (.cells #[.int .i64 22,.slice Aw ws.length cw,.slice Au nums.length cu,.slice Ak ks.length ck,.int .i64 ps] 37)
 have B1:Zh _ _ _ _:=Zh.start w #[.int .i64 22,.slice Aw ws.length cw,.slice Au nums.length cu,.slice Ak ks.length ck,.int .i64 ps] 37
 have p1:=h.keep a1
 obtain ⟨z,hz⟩:∃ z,ns[j]? = some z:=⟨_,List.getElem?_eq_getElem hjn⟩
 obtain ⟨y,hy⟩:∃ y,ns[k]? = some y:=⟨_,List.getElem?_eq_getElem hkn⟩
 have hs:Zu ⟨22,ws,nums,ks,ps⟩=1:=by unfold Zu num;rw [if_pos rfl];dsimp only;rw [hn];rfl
 have hg:num ⟨22,ws,nums,ks,ps⟩ 0=2:=by unfold num;dsimp only;rw [hn];rfl
 have he:Zx ns (f+1) ⟨22,ws,nums,ks,ps⟩=opT ns f z 1++Zbi 2++opT ns f y 2:=by
  rw [<- ZbU (n:=⟨22,ws,nums,ks,ps⟩) hi hz,<- ZbU (n:=⟨22,ws,nums,ks,ps⟩) hi2 hy]
  simp only [Zx,opT,hs,hg]
  rfl
 rw [ZbC hz] at hv
 rw [ZbC hy] at hv2
 rw [he] at hl ⊢
 simp only [List.length_append] at hl
 have hsl:(Zbi 2).length=3:=rfl
 have hbo:ZfF ⟨22,ws,nums,ks,ps⟩:=fun _=>⟨2,r,hn,by omega,by omega⟩
 obtain ⟨c0,c1,c2,c3,c4⟩:=Zg (x:=((.slice Aw ws.length cw,.slice Au nums.length cu,.slice Ak ks.length ck),⟨22,ws,nums,ks,ps⟩)) (B1)
 dsimp only at c0 c1 c2 c3 c4
 generalize hw1:w.alloc (.cells #[.int .i64 22,.slice Aw ws.length cw,.slice Au nums.length cu,.slice Ak ks.length ck,.int .i64 ps] 37)=w1 at *
 have ST:=zh (Zde w0 w1 _ hq p1.below hbo)
 rw [hs] at ST
 have HX:=zh (zi a1 (zi B1 (zi hq (zi hN (zi hE (zi hl (zi hsl p1)))))))
 have HI:=zh (zi hi (zi hjn (zi hz hv)))
 have HJ:=zh (zi hi2 (zi hkn (zi hy hv2)))
 have HU:=zh (zi hU (zi hn ht))
 clear p1 B1 a1 hq hwl hwm hW hWl hul hum hU hkl hkm hK h hl hsl he hi hjn hz hv hi2 hkn hy hv2 hE hN hs hg hbo hn ht
 go_enter Tryz.func23,Tryz.ntmps23
 go_upto_region 11 with (go_at_call 54;(refine ST.out.mono ?_);rintro e w2 ⟨rfl,hb⟩;have HB:=zh hb;clear hb)
 have K2:=HX.out.2.1.keep HB.out
 have P2:=zh (HX.out.2.2.2.2.2.2.2.keep HB.out)
 obtain ⟨d0,d1,d2,d3,d4⟩:=Zg (x:=((.slice Aw ws.length cw,.slice Au nums.length cu,.slice Ak ks.length ck),⟨22,ws,nums,ks,ps⟩)) (K2)
 dsimp only at d0 d1 d2 d3 d4
 have KI:=zh (ZbB w0 w2 bp dp _ vn ns _ 0 j ⟨P2.out,HX.out.2.2.2.1⟩ HX.out.2.2.1 HI.out.1 HI.out.2.1)
 have K2w:=K2
 clear K2
 go_upto_region 12 with (first
  | (go_at_call 42;(refine KI.out.mono ?_);rintro e w3 ⟨q,rfl,hy,hy2,hb⟩;have ey:q.2=z:=Option.some.inj (hy.symm.trans HI.out.2.2.1);have H3:=zh (zi hy2 (zi hb ey));clear hy hy2 hb ey;have OP:=zh (ZbV w0 w3 bp dp f 1 _ vn ns q HX.out.2.2.2.2.1 (P2.out.keep H3.out.2.1) HX.out.2.2.2.1 H3.out.1 (H3.out.2.2▸HI.out.2.2.2) (by rw [H3.out.2.2];have:=HX.out.2.2.2.2.2.1;omega)))
  | (go_at_call 53;(refine OP.out.mono ?_);rintro e w4 ⟨rfl,hp,hf⟩;have H4:=zh (zi (show PrS w0 w4 bp (t++opT ns f z 1) dp vn from H3.out.2.2▸hp) hf);clear hp hf))
 have K3:=K2w.keep H3.out.2.1
 have K4:=(H4.out.2.at_ _ _ _ (ZcV (P2.out.keep H3.out.2.1) K3) (by decide) K3).keep (Zj w4)
 obtain ⟨a0,a1,a2,a3,a4⟩:=Zg (x:=((.slice Aw ws.length cw,.slice Au nums.length cu,.slice Ak ks.length ck),⟨22,ws,nums,ks,ps⟩)) (K4)
 dsimp only at a0 a1 a2 a3 a4
 have P4:=zh (H4.out.1.keep (Zj w4))
 obtain ⟨au,rfl,u0⟩:=ints_at (k:=0) (x:=2) HU.out.1 P4.out.below (by rw [HU.out.2.1];rfl) (by rw [HU.out.2.1];exact Nat.succ_pos _)
 have u1:w4.drew.cell? au=some (.int .i64 2):=u0
 have u2:w4.cell? au=some (.int .i64 2):=u0
 have v1:=ZeN HU.out.2.2 P4.out.below 2 (by decide)
 have v2:w4.cell? ⟨0,2,none⟩=some (txt (Zbi 2)):=v1
 have hl2:0<nums.length:=by rw [HU.out.2.1];exact Nat.succ_pos _
 have KS:=zh K4
 have AD:=zh (Zaf w0 w4.drew bp dp _ vn (Zbi 2) P4.out (by have:=HX.out.2.2.2.2.2.1;simp only [List.length_append];omega))
 clear u0 K3 K4 K2w
 go_region_with (go_at_call 36;(refine AD.out.mono ?_);rintro e w5 ⟨rfl,hp,hf⟩;have H5:=zh (zi hp hf);clear hp hf)
 have K5:=H5.out.2.at_ _ _ _ (ZcV P4.out KS.out) (by decide) KS.out
 obtain ⟨b0,b1,b2,b3,b4⟩:=Zg (x:=((.slice Aw ws.length cw,.slice (some au) nums.length cu,.slice Ak ks.length ck),⟨22,ws,nums,ks,ps⟩)) (K5)
 dsimp only at b0 b1 b2 b3 b4
 have KJ:=zh (ZbB w0 w5 bp dp _ vn ns _ 1 k ⟨H5.out.1,HX.out.2.2.2.1⟩ HX.out.2.2.1 HJ.out.1 HJ.out.2.1)
 have wk:IntKind.i64.wrap (1+1)=2:=by decide
 clear K5
 go_wp2_with (first
  | (go_at_call 42;(refine KJ.out.mono ?_);rintro e w6 ⟨q2,rfl,hy,hy2,hb⟩;have ey:q2.2=y:=Option.some.inj (hy.symm.trans HJ.out.2.2.1);have H6:=zh (zi hy2 (zi hb ey));clear hy hy2 hb ey;have OQ:=zh (ZbV w0 w6 bp dp f 2 _ vn ns q2 HX.out.2.2.2.2.1 (H5.out.1.keep H6.out.2.1) HX.out.2.2.2.1 H6.out.1 (H6.out.2.2▸HJ.out.2.2.2) (by rw [H6.out.2.2];have:=HX.out.2.2.2.2.2.1;simp only [List.length_append];omega)))
  | (go_at_call 53;(refine OQ.out.mono ?_);rintro e w7 ⟨rfl,hp,hf⟩;have H7:=zh (zi hp hf);clear hp hf))
 go_end0
 refine ⟨rfl,?_,(((((((Fr.of_below bp (hw1▸HX.out.1)).trans (Fr.of_below bp HB.out)).trans (Fr.of_below bp H3.out.2.1)).trans H4.out.2).trans (Fr.of_below bp (Zj w4))).trans H5.out.2).trans (Fr.of_below bp H6.out.2.1)).trans H7.out.2⟩
 have:=H7.out.1
 rw [H6.out.2.2] at this
 simp only [List.append_assoc] at this ⊢
 exact this
theorem Zox (w0 w:World) (bp dp f:Nat) (t:Txt) (vn:Value) (ns:List Nd) (x:NdV×Nd) (h:PrS w0 w bp t dp vn) (hN:Zs w0 vn ns) (hx:ZaW w0 x) (ht:Zay w0 0 Zd7) (hE:Zbp w0 ns f) (r:List Int) (j k:Nat) (hk:x.2.kind=22) (hn:x.2.nums=3::r) (hi:x.2.kids[0]? = some (j:Int)) (hjn:j<ns.length) (hv:ZP ns f (Za ns j)) (hi2:x.2.kids[1]? = some (k:Int)) (hkn:k<ns.length) (hv2:ZP ns f (Za ns k)) (hl:t.length+(Zx ns (f+1) x.2).length+100<=140737488355328) :
  Calls Tryz.prog 23 #[.pointer (some ⟨bp,0,none⟩),ndX x] w fun e w'=>e=.returned (.tuple #[])/\PrS w0 w' bp (t++Zx ns (f+1) x.2) dp vn/\Fr w w' bp:=by
 have hq:=hx
 obtain ⟨⟨vw,vu,vk⟩,kd,ws,nums,ks,ps⟩:=x
 obtain ⟨hw,hu,hkk⟩:=hx
 dsimp only at hk hn hi hi2 hw hu hkk hl ⊢
 obtain ⟨Aw,cw,rfl,hwl,hwm,hW,hWl⟩:=hw
 obtain ⟨Au,cu,rfl,hul,hum,hU⟩:=hu
 obtain ⟨Ak,ck,rfl,hkl,hkm,hK⟩:=hkk
 subst hk
 have a1:=below_alloc1 w (.cells #[.int .i64 22,.slice Aw ws.length cw,.slice Au nums.length cu,.slice Ak ks.length ck,.int .i64 ps] 37)
 have B1:Zh _ _ _ _:=Zh.start w #[.int .i64 22,.slice Aw ws.length cw,.slice Au nums.length cu,.slice Ak ks.length ck,.int .i64 ps] 37
 have p1:=h.keep a1
 obtain ⟨z,hz⟩:∃ z,ns[j]? = some z:=⟨_,List.getElem?_eq_getElem hjn⟩
 obtain ⟨y,hy⟩:∃ y,ns[k]? = some y:=⟨_,List.getElem?_eq_getElem hkn⟩
 have hs:Zu ⟨22,ws,nums,ks,ps⟩=1:=by unfold Zu num;rw [if_pos rfl];dsimp only;rw [hn];rfl
 have hg:num ⟨22,ws,nums,ks,ps⟩ 0=3:=by unfold num;dsimp only;rw [hn];rfl
 have he:Zx ns (f+1) ⟨22,ws,nums,ks,ps⟩=opT ns f z 1++Zbi 3++opT ns f y 2:=by
  rw [<- ZbU (n:=⟨22,ws,nums,ks,ps⟩) hi hz,<- ZbU (n:=⟨22,ws,nums,ks,ps⟩) hi2 hy]
  simp only [Zx,opT,hs,hg]
  rfl
 rw [ZbC hz] at hv
 rw [ZbC hy] at hv2
 rw [he] at hl ⊢
 simp only [List.length_append] at hl
 have hsl:(Zbi 3).length=3:=rfl
 have hbo:ZfF ⟨22,ws,nums,ks,ps⟩:=fun _=>⟨3,r,hn,by omega,by omega⟩
 obtain ⟨c0,c1,c2,c3,c4⟩:=Zg (x:=((.slice Aw ws.length cw,.slice Au nums.length cu,.slice Ak ks.length ck),⟨22,ws,nums,ks,ps⟩)) (B1)
 dsimp only at c0 c1 c2 c3 c4
 generalize hw1:w.alloc (.cells #[.int .i64 22,.slice Aw ws.length cw,.slice Au nums.length cu,.slice Ak ks.length ck,.int .i64 ps] 37)=w1 at *
 have ST:=zh (Zde w0 w1 _ hq p1.below hbo)
 rw [hs] at ST
 have HX:=zh (zi a1 (zi B1 (zi hq (zi hN (zi hE (zi hl (zi hsl p1)))))))
 have HI:=zh (zi hi (zi hjn (zi hz hv)))
 have HJ:=zh (zi hi2 (zi hkn (zi hy hv2)))
 have HU:=zh (zi hU (zi hn ht))
 clear p1 B1 a1 hq hwl hwm hW hWl hul hum hU hkl hkm hK h hl hsl he hi hjn hz hv hi2 hkn hy hv2 hE hN hs hg hbo hn ht
 go_enter Tryz.func23,Tryz.ntmps23
 go_upto_region 11 with (go_at_call 54;(refine ST.out.mono ?_);rintro e w2 ⟨rfl,hb⟩;have HB:=zh hb;clear hb)
 have K2:=HX.out.2.1.keep HB.out
 have P2:=zh (HX.out.2.2.2.2.2.2.2.keep HB.out)
 obtain ⟨d0,d1,d2,d3,d4⟩:=Zg (x:=((.slice Aw ws.length cw,.slice Au nums.length cu,.slice Ak ks.length ck),⟨22,ws,nums,ks,ps⟩)) (K2)
 dsimp only at d0 d1 d2 d3 d4
 have KI:=zh (ZbB w0 w2 bp dp _ vn ns _ 0 j ⟨P2.out,HX.out.2.2.2.1⟩ HX.out.2.2.1 HI.out.1 HI.out.2.1)
 have K2w:=K2
 clear K2
 go_upto_region 12 with (first
  | (go_at_call 42;(refine KI.out.mono ?_);rintro e w3 ⟨q,rfl,hy,hy2,hb⟩;have ey:q.2=z:=Option.some.inj (hy.symm.trans HI.out.2.2.1);have H3:=zh (zi hy2 (zi hb ey));clear hy hy2 hb ey;have OP:=zh (ZbV w0 w3 bp dp f 1 _ vn ns q HX.out.2.2.2.2.1 (P2.out.keep H3.out.2.1) HX.out.2.2.2.1 H3.out.1 (H3.out.2.2▸HI.out.2.2.2) (by rw [H3.out.2.2];have:=HX.out.2.2.2.2.2.1;omega)))
  | (go_at_call 53;(refine OP.out.mono ?_);rintro e w4 ⟨rfl,hp,hf⟩;have H4:=zh (zi (show PrS w0 w4 bp (t++opT ns f z 1) dp vn from H3.out.2.2▸hp) hf);clear hp hf))
 have K3:=K2w.keep H3.out.2.1
 have K4:=(H4.out.2.at_ _ _ _ (ZcV (P2.out.keep H3.out.2.1) K3) (by decide) K3).keep (Zj w4)
 obtain ⟨a0,a1,a2,a3,a4⟩:=Zg (x:=((.slice Aw ws.length cw,.slice Au nums.length cu,.slice Ak ks.length ck),⟨22,ws,nums,ks,ps⟩)) (K4)
 dsimp only at a0 a1 a2 a3 a4
 have P4:=zh (H4.out.1.keep (Zj w4))
 obtain ⟨au,rfl,u0⟩:=ints_at (k:=0) (x:=3) HU.out.1 P4.out.below (by rw [HU.out.2.1];rfl) (by rw [HU.out.2.1];exact Nat.succ_pos _)
 have u1:w4.drew.cell? au=some (.int .i64 3):=u0
 have u2:w4.cell? au=some (.int .i64 3):=u0
 have v1:=ZeN HU.out.2.2 P4.out.below 3 (by decide)
 have v2:w4.cell? ⟨0,3,none⟩=some (txt (Zbi 3)):=v1
 have hl2:0<nums.length:=by rw [HU.out.2.1];exact Nat.succ_pos _
 have KS:=zh K4
 have AD:=zh (Zaf w0 w4.drew bp dp _ vn (Zbi 3) P4.out (by have:=HX.out.2.2.2.2.2.1;simp only [List.length_append];omega))
 clear u0 K3 K4 K2w
 go_region_with (go_at_call 36;(refine AD.out.mono ?_);rintro e w5 ⟨rfl,hp,hf⟩;have H5:=zh (zi hp hf);clear hp hf)
 have K5:=H5.out.2.at_ _ _ _ (ZcV P4.out KS.out) (by decide) KS.out
 obtain ⟨b0,b1,b2,b3,b4⟩:=Zg (x:=((.slice Aw ws.length cw,.slice (some au) nums.length cu,.slice Ak ks.length ck),⟨22,ws,nums,ks,ps⟩)) (K5)
 dsimp only at b0 b1 b2 b3 b4
 have KJ:=zh (ZbB w0 w5 bp dp _ vn ns _ 1 k ⟨H5.out.1,HX.out.2.2.2.1⟩ HX.out.2.2.1 HJ.out.1 HJ.out.2.1)
 have wk:IntKind.i64.wrap (1+1)=2:=by decide
 clear K5
 go_wp2_with (first
  | (go_at_call 42;(refine KJ.out.mono ?_);rintro e w6 ⟨q2,rfl,hy,hy2,hb⟩;have ey:q2.2=y:=Option.some.inj (hy.symm.trans HJ.out.2.2.1);have H6:=zh (zi hy2 (zi hb ey));clear hy hy2 hb ey;have OQ:=zh (ZbV w0 w6 bp dp f 2 _ vn ns q2 HX.out.2.2.2.2.1 (H5.out.1.keep H6.out.2.1) HX.out.2.2.2.1 H6.out.1 (H6.out.2.2▸HJ.out.2.2.2) (by rw [H6.out.2.2];have:=HX.out.2.2.2.2.2.1;simp only [List.length_append];omega)))
  | (go_at_call 53;(refine OQ.out.mono ?_);rintro e w7 ⟨rfl,hp,hf⟩;have H7:=zh (zi hp hf);clear hp hf))
 go_end0
 refine ⟨rfl,?_,(((((((Fr.of_below bp (hw1▸HX.out.1)).trans (Fr.of_below bp HB.out)).trans (Fr.of_below bp H3.out.2.1)).trans H4.out.2).trans (Fr.of_below bp (Zj w4))).trans H5.out.2).trans (Fr.of_below bp H6.out.2.1)).trans H7.out.2⟩
 have:=H7.out.1
 rw [H6.out.2.2] at this
 simp only [List.append_assoc] at this ⊢
 exact this
theorem Zoy (w0 w:World) (bp dp f:Nat) (t:Txt) (vn:Value) (ns:List Nd) (x:NdV×Nd) (h:PrS w0 w bp t dp vn) (hN:Zs w0 vn ns) (hx:ZaW w0 x) (ht:Zay w0 0 Zd7) (hE:Zbp w0 ns f) (r:List Int) (j k:Nat) (hk:x.2.kind=22) (hn:x.2.nums=4::r) (hi:x.2.kids[0]? = some (j:Int)) (hjn:j<ns.length) (hv:ZP ns f (Za ns j)) (hi2:x.2.kids[1]? = some (k:Int)) (hkn:k<ns.length) (hv2:ZP ns f (Za ns k)) (hl:t.length+(Zx ns (f+1) x.2).length+100<=140737488355328) :
  Calls Tryz.prog 23 #[.pointer (some ⟨bp,0,none⟩),ndX x] w fun e w'=>e=.returned (.tuple #[])/\PrS w0 w' bp (t++Zx ns (f+1) x.2) dp vn/\Fr w w' bp:=by
 have hq:=hx
 obtain ⟨⟨vw,vu,vk⟩,kd,ws,nums,ks,ps⟩:=x
 obtain ⟨hw,hu,hkk⟩:=hx
 dsimp only at hk hn hi hi2 hw hu hkk hl ⊢
 obtain ⟨Aw,cw,rfl,hwl,hwm,hW,hWl⟩:=hw
 obtain ⟨Au,cu,rfl,hul,hum,hU⟩:=hu
 obtain ⟨Ak,ck,rfl,hkl,hkm,hK⟩:=hkk
 subst hk
 have a1:=below_alloc1 w (.cells #[.int .i64 22,.slice Aw ws.length cw,.slice Au nums.length cu,.slice Ak ks.length ck,.int .i64 ps] 37)
 have B1:Zh _ _ _ _:=Zh.start w #[.int .i64 22,.slice Aw ws.length cw,.slice Au nums.length cu,.slice Ak ks.length ck,.int .i64 ps] 37
 have p1:=h.keep a1
 obtain ⟨z,hz⟩:∃ z,ns[j]? = some z:=⟨_,List.getElem?_eq_getElem hjn⟩
 obtain ⟨y,hy⟩:∃ y,ns[k]? = some y:=⟨_,List.getElem?_eq_getElem hkn⟩
 have hs:Zu ⟨22,ws,nums,ks,ps⟩=2:=by unfold Zu num;rw [if_pos rfl];dsimp only;rw [hn];rfl
 have hg:num ⟨22,ws,nums,ks,ps⟩ 0=4:=by unfold num;dsimp only;rw [hn];rfl
 have he:Zx ns (f+1) ⟨22,ws,nums,ks,ps⟩=opT ns f z 2++Zbi 4++opT ns f y 3:=by
  rw [<- ZbU (n:=⟨22,ws,nums,ks,ps⟩) hi hz,<- ZbU (n:=⟨22,ws,nums,ks,ps⟩) hi2 hy]
  simp only [Zx,opT,hs,hg]
  rfl
 rw [ZbC hz] at hv
 rw [ZbC hy] at hv2
 rw [he] at hl ⊢
 simp only [List.length_append] at hl
 have hsl:(Zbi 4).length=3:=rfl
 have hbo:ZfF ⟨22,ws,nums,ks,ps⟩:=fun _=>⟨4,r,hn,by omega,by omega⟩
 obtain ⟨c0,c1,c2,c3,c4⟩:=Zg (x:=((.slice Aw ws.length cw,.slice Au nums.length cu,.slice Ak ks.length ck),⟨22,ws,nums,ks,ps⟩)) (B1)
 dsimp only at c0 c1 c2 c3 c4
 generalize hw1:w.alloc (.cells #[.int .i64 22,.slice Aw ws.length cw,.slice Au nums.length cu,.slice Ak ks.length ck,.int .i64 ps] 37)=w1 at *
 have ST:=zh (Zde w0 w1 _ hq p1.below hbo)
 rw [hs] at ST
 have HX:=zh (zi a1 (zi B1 (zi hq (zi hN (zi hE (zi hl (zi hsl p1)))))))
 have HI:=zh (zi hi (zi hjn (zi hz hv)))
 have HJ:=zh (zi hi2 (zi hkn (zi hy hv2)))
 have HU:=zh (zi hU (zi hn ht))
 clear p1 B1 a1 hq hwl hwm hW hWl hul hum hU hkl hkm hK h hl hsl he hi hjn hz hv hi2 hkn hy hv2 hE hN hs hg hbo hn ht
 go_enter Tryz.func23,Tryz.ntmps23
 go_upto_region 11 with (go_at_call 54;(refine ST.out.mono ?_);rintro e w2 ⟨rfl,hb⟩;have HB:=zh hb;clear hb)
 have K2:=HX.out.2.1.keep HB.out
 have P2:=zh (HX.out.2.2.2.2.2.2.2.keep HB.out)
 obtain ⟨d0,d1,d2,d3,d4⟩:=Zg (x:=((.slice Aw ws.length cw,.slice Au nums.length cu,.slice Ak ks.length ck),⟨22,ws,nums,ks,ps⟩)) (K2)
 dsimp only at d0 d1 d2 d3 d4
 have KI:=zh (ZbB w0 w2 bp dp _ vn ns _ 0 j ⟨P2.out,HX.out.2.2.2.1⟩ HX.out.2.2.1 HI.out.1 HI.out.2.1)
 have K2w:=K2
 clear K2
 go_upto_region 12 with (first
  | (go_at_call 42;(refine KI.out.mono ?_);rintro e w3 ⟨q,rfl,hy,hy2,hb⟩;have ey:q.2=z:=Option.some.inj (hy.symm.trans HI.out.2.2.1);have H3:=zh (zi hy2 (zi hb ey));clear hy hy2 hb ey;have OP:=zh (ZbV w0 w3 bp dp f 2 _ vn ns q HX.out.2.2.2.2.1 (P2.out.keep H3.out.2.1) HX.out.2.2.2.1 H3.out.1 (H3.out.2.2▸HI.out.2.2.2) (by rw [H3.out.2.2];have:=HX.out.2.2.2.2.2.1;omega)))
  | (go_at_call 53;(refine OP.out.mono ?_);rintro e w4 ⟨rfl,hp,hf⟩;have H4:=zh (zi (show PrS w0 w4 bp (t++opT ns f z 2) dp vn from H3.out.2.2▸hp) hf);clear hp hf))
 have K3:=K2w.keep H3.out.2.1
 have K4:=(H4.out.2.at_ _ _ _ (ZcV (P2.out.keep H3.out.2.1) K3) (by decide) K3).keep (Zj w4)
 obtain ⟨a0,a1,a2,a3,a4⟩:=Zg (x:=((.slice Aw ws.length cw,.slice Au nums.length cu,.slice Ak ks.length ck),⟨22,ws,nums,ks,ps⟩)) (K4)
 dsimp only at a0 a1 a2 a3 a4
 have P4:=zh (H4.out.1.keep (Zj w4))
 obtain ⟨au,rfl,u0⟩:=ints_at (k:=0) (x:=4) HU.out.1 P4.out.below (by rw [HU.out.2.1];rfl) (by rw [HU.out.2.1];exact Nat.succ_pos _)
 have u1:w4.drew.cell? au=some (.int .i64 4):=u0
 have u2:w4.cell? au=some (.int .i64 4):=u0
 have v1:=ZeN HU.out.2.2 P4.out.below 4 (by decide)
 have v2:w4.cell? ⟨0,4,none⟩=some (txt (Zbi 4)):=v1
 have hl2:0<nums.length:=by rw [HU.out.2.1];exact Nat.succ_pos _
 have KS:=zh K4
 have AD:=zh (Zaf w0 w4.drew bp dp _ vn (Zbi 4) P4.out (by have:=HX.out.2.2.2.2.2.1;simp only [List.length_append];omega))
 clear u0 K3 K4 K2w
 go_region_with (go_at_call 36;(refine AD.out.mono ?_);rintro e w5 ⟨rfl,hp,hf⟩;have H5:=zh (zi hp hf);clear hp hf)
 have K5:=H5.out.2.at_ _ _ _ (ZcV P4.out KS.out) (by decide) KS.out
 obtain ⟨b0,b1,b2,b3,b4⟩:=Zg (x:=((.slice Aw ws.length cw,.slice (some au) nums.length cu,.slice Ak ks.length ck),⟨22,ws,nums,ks,ps⟩)) (K5)
 dsimp only at b0 b1 b2 b3 b4
 have KJ:=zh (ZbB w0 w5 bp dp _ vn ns _ 1 k ⟨H5.out.1,HX.out.2.2.2.1⟩ HX.out.2.2.1 HJ.out.1 HJ.out.2.1)
 have wk:IntKind.i64.wrap (2+1)=3:=by decide
 clear K5
 go_wp2_with (first
  | (go_at_call 42;(refine KJ.out.mono ?_);rintro e w6 ⟨q2,rfl,hy,hy2,hb⟩;have ey:q2.2=y:=Option.some.inj (hy.symm.trans HJ.out.2.2.1);have H6:=zh (zi hy2 (zi hb ey));clear hy hy2 hb ey;have OQ:=zh (ZbV w0 w6 bp dp f 3 _ vn ns q2 HX.out.2.2.2.2.1 (H5.out.1.keep H6.out.2.1) HX.out.2.2.2.1 H6.out.1 (H6.out.2.2▸HJ.out.2.2.2) (by rw [H6.out.2.2];have:=HX.out.2.2.2.2.2.1;simp only [List.length_append];omega)))
  | (go_at_call 53;(refine OQ.out.mono ?_);rintro e w7 ⟨rfl,hp,hf⟩;have H7:=zh (zi hp hf);clear hp hf))
 go_end0
 refine ⟨rfl,?_,(((((((Fr.of_below bp (hw1▸HX.out.1)).trans (Fr.of_below bp HB.out)).trans (Fr.of_below bp H3.out.2.1)).trans H4.out.2).trans (Fr.of_below bp (Zj w4))).trans H5.out.2).trans (Fr.of_below bp H6.out.2.1)).trans H7.out.2⟩
 have:=H7.out.1
 rw [H6.out.2.2] at this
 simp only [List.append_assoc] at this ⊢
 exact this
theorem Zoz (w0 w:World) (bp dp f:Nat) (t:Txt) (vn:Value) (ns:List Nd) (x:NdV×Nd) (h:PrS w0 w bp t dp vn) (hN:Zs w0 vn ns) (hx:ZaW w0 x) (ht:Zay w0 0 Zd7) (hE:Zbp w0 ns f) (r:List Int) (j k:Nat) (hk:x.2.kind=22) (hn:x.2.nums=5::r) (hi:x.2.kids[0]? = some (j:Int)) (hjn:j<ns.length) (hv:ZP ns f (Za ns j)) (hi2:x.2.kids[1]? = some (k:Int)) (hkn:k<ns.length) (hv2:ZP ns f (Za ns k)) (hl:t.length+(Zx ns (f+1) x.2).length+100<=140737488355328) :
  Calls Tryz.prog 23 #[.pointer (some ⟨bp,0,none⟩),ndX x] w fun e w'=>e=.returned (.tuple #[])/\PrS w0 w' bp (t++Zx ns (f+1) x.2) dp vn/\Fr w w' bp:=by
 have hq:=hx
 obtain ⟨⟨vw,vu,vk⟩,kd,ws,nums,ks,ps⟩:=x
 obtain ⟨hw,hu,hkk⟩:=hx
 dsimp only at hk hn hi hi2 hw hu hkk hl ⊢
 obtain ⟨Aw,cw,rfl,hwl,hwm,hW,hWl⟩:=hw
 obtain ⟨Au,cu,rfl,hul,hum,hU⟩:=hu
 obtain ⟨Ak,ck,rfl,hkl,hkm,hK⟩:=hkk
 subst hk
 have a1:=below_alloc1 w (.cells #[.int .i64 22,.slice Aw ws.length cw,.slice Au nums.length cu,.slice Ak ks.length ck,.int .i64 ps] 37)
 have B1:Zh _ _ _ _:=Zh.start w #[.int .i64 22,.slice Aw ws.length cw,.slice Au nums.length cu,.slice Ak ks.length ck,.int .i64 ps] 37
 have p1:=h.keep a1
 obtain ⟨z,hz⟩:∃ z,ns[j]? = some z:=⟨_,List.getElem?_eq_getElem hjn⟩
 obtain ⟨y,hy⟩:∃ y,ns[k]? = some y:=⟨_,List.getElem?_eq_getElem hkn⟩
 have hs:Zu ⟨22,ws,nums,ks,ps⟩=2:=by unfold Zu num;rw [if_pos rfl];dsimp only;rw [hn];rfl
 have hg:num ⟨22,ws,nums,ks,ps⟩ 0=5:=by unfold num;dsimp only;rw [hn];rfl
 have he:Zx ns (f+1) ⟨22,ws,nums,ks,ps⟩=opT ns f z 2++Zbi 5++opT ns f y 3:=by
  rw [<- ZbU (n:=⟨22,ws,nums,ks,ps⟩) hi hz,<- ZbU (n:=⟨22,ws,nums,ks,ps⟩) hi2 hy]
  simp only [Zx,opT,hs,hg]
  rfl
 rw [ZbC hz] at hv
 rw [ZbC hy] at hv2
 rw [he] at hl ⊢
 simp only [List.length_append] at hl
 have hsl:(Zbi 5).length=3:=rfl
 have hbo:ZfF ⟨22,ws,nums,ks,ps⟩:=fun _=>⟨5,r,hn,by omega,by omega⟩
 obtain ⟨c0,c1,c2,c3,c4⟩:=Zg (x:=((.slice Aw ws.length cw,.slice Au nums.length cu,.slice Ak ks.length ck),⟨22,ws,nums,ks,ps⟩)) (B1)
 dsimp only at c0 c1 c2 c3 c4
 generalize hw1:w.alloc (.cells #[.int .i64 22,.slice Aw ws.length cw,.slice Au nums.length cu,.slice Ak ks.length ck,.int .i64 ps] 37)=w1 at *
 have ST:=zh (Zde w0 w1 _ hq p1.below hbo)
 rw [hs] at ST
 have HX:=zh (zi a1 (zi B1 (zi hq (zi hN (zi hE (zi hl (zi hsl p1)))))))
 have HI:=zh (zi hi (zi hjn (zi hz hv)))
 have HJ:=zh (zi hi2 (zi hkn (zi hy hv2)))
 have HU:=zh (zi hU (zi hn ht))
 clear p1 B1 a1 hq hwl hwm hW hWl hul hum hU hkl hkm hK h hl hsl he hi hjn hz hv hi2 hkn hy hv2 hE hN hs hg hbo hn ht
 go_enter Tryz.func23,Tryz.ntmps23
 go_upto_region 11 with (go_at_call 54;(refine ST.out.mono ?_);rintro e w2 ⟨rfl,hb⟩;have HB:=zh hb;clear hb)
 have K2:=HX.out.2.1.keep HB.out
 have P2:=zh (HX.out.2.2.2.2.2.2.2.keep HB.out)
 obtain ⟨d0,d1,d2,d3,d4⟩:=Zg (x:=((.slice Aw ws.length cw,.slice Au nums.length cu,.slice Ak ks.length ck),⟨22,ws,nums,ks,ps⟩)) (K2)
 dsimp only at d0 d1 d2 d3 d4
 have KI:=zh (ZbB w0 w2 bp dp _ vn ns _ 0 j ⟨P2.out,HX.out.2.2.2.1⟩ HX.out.2.2.1 HI.out.1 HI.out.2.1)
 have K2w:=K2
 clear K2
 go_upto_region 12 with (first
  | (go_at_call 42;(refine KI.out.mono ?_);rintro e w3 ⟨q,rfl,hy,hy2,hb⟩;have ey:q.2=z:=Option.some.inj (hy.symm.trans HI.out.2.2.1);have H3:=zh (zi hy2 (zi hb ey));clear hy hy2 hb ey;have OP:=zh (ZbV w0 w3 bp dp f 2 _ vn ns q HX.out.2.2.2.2.1 (P2.out.keep H3.out.2.1) HX.out.2.2.2.1 H3.out.1 (H3.out.2.2▸HI.out.2.2.2) (by rw [H3.out.2.2];have:=HX.out.2.2.2.2.2.1;omega)))
  | (go_at_call 53;(refine OP.out.mono ?_);rintro e w4 ⟨rfl,hp,hf⟩;have H4:=zh (zi (show PrS w0 w4 bp (t++opT ns f z 2) dp vn from H3.out.2.2▸hp) hf);clear hp hf))
 have K3:=K2w.keep H3.out.2.1
 have K4:=(H4.out.2.at_ _ _ _ (ZcV (P2.out.keep H3.out.2.1) K3) (by decide) K3).keep (Zj w4)
 obtain ⟨a0,a1,a2,a3,a4⟩:=Zg (x:=((.slice Aw ws.length cw,.slice Au nums.length cu,.slice Ak ks.length ck),⟨22,ws,nums,ks,ps⟩)) (K4)
 dsimp only at a0 a1 a2 a3 a4
 have P4:=zh (H4.out.1.keep (Zj w4))
 obtain ⟨au,rfl,u0⟩:=ints_at (k:=0) (x:=5) HU.out.1 P4.out.below (by rw [HU.out.2.1];rfl) (by rw [HU.out.2.1];exact Nat.succ_pos _)
 have u1:w4.drew.cell? au=some (.int .i64 5):=u0
 have u2:w4.cell? au=some (.int .i64 5):=u0
 have v1:=ZeN HU.out.2.2 P4.out.below 5 (by decide)
 have v2:w4.cell? ⟨0,5,none⟩=some (txt (Zbi 5)):=v1
 have hl2:0<nums.length:=by rw [HU.out.2.1];exact Nat.succ_pos _
 have KS:=zh K4
 have AD:=zh (Zaf w0 w4.drew bp dp _ vn (Zbi 5) P4.out (by have:=HX.out.2.2.2.2.2.1;simp only [List.length_append];omega))
 clear u0 K3 K4 K2w
 go_region_with (go_at_call 36;(refine AD.out.mono ?_);rintro e w5 ⟨rfl,hp,hf⟩;have H5:=zh (zi hp hf);clear hp hf)
 have K5:=H5.out.2.at_ _ _ _ (ZcV P4.out KS.out) (by decide) KS.out
 obtain ⟨b0,b1,b2,b3,b4⟩:=Zg (x:=((.slice Aw ws.length cw,.slice (some au) nums.length cu,.slice Ak ks.length ck),⟨22,ws,nums,ks,ps⟩)) (K5)
 dsimp only at b0 b1 b2 b3 b4
 have KJ:=zh (ZbB w0 w5 bp dp _ vn ns _ 1 k ⟨H5.out.1,HX.out.2.2.2.1⟩ HX.out.2.2.1 HJ.out.1 HJ.out.2.1)
 have wk:IntKind.i64.wrap (2+1)=3:=by decide
 clear K5
 go_wp2_with (first
  | (go_at_call 42;(refine KJ.out.mono ?_);rintro e w6 ⟨q2,rfl,hy,hy2,hb⟩;have ey:q2.2=y:=Option.some.inj (hy.symm.trans HJ.out.2.2.1);have H6:=zh (zi hy2 (zi hb ey));clear hy hy2 hb ey;have OQ:=zh (ZbV w0 w6 bp dp f 3 _ vn ns q2 HX.out.2.2.2.2.1 (H5.out.1.keep H6.out.2.1) HX.out.2.2.2.1 H6.out.1 (H6.out.2.2▸HJ.out.2.2.2) (by rw [H6.out.2.2];have:=HX.out.2.2.2.2.2.1;simp only [List.length_append];omega)))
  | (go_at_call 53;(refine OQ.out.mono ?_);rintro e w7 ⟨rfl,hp,hf⟩;have H7:=zh (zi hp hf);clear hp hf))
 go_end0
 refine ⟨rfl,?_,(((((((Fr.of_below bp (hw1▸HX.out.1)).trans (Fr.of_below bp HB.out)).trans (Fr.of_below bp H3.out.2.1)).trans H4.out.2).trans (Fr.of_below bp (Zj w4))).trans H5.out.2).trans (Fr.of_below bp H6.out.2.1)).trans H7.out.2⟩
 have:=H7.out.1
 rw [H6.out.2.2] at this
 simp only [List.append_assoc] at this ⊢
 exact this
theorem Zp3 (w0:World) (ns:List Nd) (ht:Zff w0 w0) (hs:Zay w0 0 Zd7):∀ f,Zbp w0 ns f:=by
 intro f
 induction f with
 | zero=>intro w bp dp t vn x h hN hx hv _;exact hv.elim
 | succ f ih=>
  intro w bp dp t vn x h hN hx hv hl
  obtain ⟨hb,hv⟩:=hv
  rcases hv with ⟨hk,v,r,hn,hv⟩ | ⟨hk,s,r,hn⟩ | ⟨hk,k,hi,hkn,hv⟩ | ⟨hk,j,k,hi,hjn,hv,hi2,hkn,hv2⟩
  ·exact Zp5 w0 w bp dp f t vn ns x h hx ht v r hk hn hv hl
  ·exact Zp6 w0 w bp dp f t vn ns x h hx s r hk hn hl
  ·exact Zp4 w0 w bp dp f t vn ns x h hN hx ih k hk hi hkn hv hl
  ·obtain ⟨g,r,hn,h0,h5⟩:=hb hk
   have:g=0\/g=1\/g=2\/g=3\/g=4\/g=5:=by omega
   rcases this with rfl | rfl | rfl | rfl | rfl | rfl
   ·exact Zou w0 w bp dp f t vn ns x h hN hx hs ih r j k hk hn hi hjn hv hi2 hkn hv2 hl
   ·exact Zov w0 w bp dp f t vn ns x h hN hx hs ih r j k hk hn hi hjn hv hi2 hkn hv2 hl
   ·exact Zow w0 w bp dp f t vn ns x h hN hx hs ih r j k hk hn hi hjn hv hi2 hkn hv2 hl
   ·exact Zox w0 w bp dp f t vn ns x h hN hx hs ih r j k hk hn hi hjn hv hi2 hkn hv2 hl
   ·exact Zoy w0 w bp dp f t vn ns x h hN hx hs ih r j k hk hn hi hjn hv hi2 hkn hv2 hl
   ·exact Zoz w0 w bp dp f t vn ns x h hN hx hs ih r j k hk hn hi hjn hv hi2 hkn hv2 hl
end
end Go.Proofs.YtkongcicmajolaaGreatDoor
