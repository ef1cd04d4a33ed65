import Derived.Test.YtenbomphkihmlaaGreatDoorQBI
set_option maxRecDepth 100000
set_option maxHeartbeats 8000000
namespace Go.Proofs.YtenbomphkihmlaaGreatDoor
section
open Go.RowKit
theorem ZgI (w0 w:World) (bp dp f:Nat) (t:Txt) (vn:Value) (ns:List Nd) (x:NdV×Nd) (h:PrS w0 w bp t dp vn) (hN:Zf w0 vn ns) (hx:Zv w0 x) (hE:Zaj w0 ns f) (s:Txt) (r:List Txt) (k:Nat) (hn:x.2.words=s::r) (hi:x.2.kids[0]? = some (k:Int)) (hkn:k<ns.length) (hv:ZX ns f (Ze ns k)) (hl:t.length+(Zcf ns f x.2).length+100<=140737488355328) :
  Calls Tryz.prog 64 #[.pointer (some ⟨bp,0,none⟩),ndX x] w fun e w'=>e=.returned (.tuple #[])/\PrS w0 w' bp (t++Zcf ns f x.2) dp vn/\Fr w w' bp:=by
 have hq:=hx
 obtain ⟨⟨vw,vu,vk⟩,kd,ws,nums,ks,ps⟩:=x
 obtain ⟨hw,hu,hkk⟩:=hx
 dsimp only at hn hi hw hu hkk hl ⊢
 obtain ⟨Aw,cw,rfl,hwl,hwm,hW,hWl⟩:=hw
 obtain ⟨Au,cu,rfl,hul,hum,hU⟩:=hu
 obtain ⟨Ak,ck,rfl,hkl,hkm,hK⟩:=hkk
 have a1:=Zb w (.cells #[.int .i64 kd,.slice Aw ws.length cw,.slice Au nums.length cu,.slice Ak ks.length ck,.int .i64 ps] 29)
 have B1:Zm _ _ _ _:=Zm.start w #[.int .i64 kd,.slice Aw ws.length cw,.slice Au nums.length cu,.slice Ak ks.length ck,.int .i64 ps] 29
 have p1:=h.keep a1
 obtain ⟨z,hz⟩:∃ z,ns[k]? = some z:=⟨_,List.getElem?_eq_getElem hkn⟩
 have he:Zcf ns f ⟨kd,ws,nums,ks,ps⟩=s++[32,61,32]++Zu ns f z++[59]:=by
  unfold Zcf ZD
  rw [ZaA (n:=⟨kd,ws,nums,ks,ps⟩) hi hz]
  dsimp only
  rw [hn]
  rfl
 rw [Zat hz] at hv
 rw [he] at hl ⊢
 simp only [List.length_append,List.length_cons,List.length_nil] at hl
 obtain ⟨c0,c1,c2,c3,c4⟩:=Zg (x:=((.slice Aw ws.length cw,.slice Au nums.length cu,.slice Ak ks.length ck),⟨kd,ws,nums,ks,ps⟩)) (B1)
 dsimp only at c0 c1 c2 c3 c4
 generalize hw1:w.alloc (.cells #[.int .i64 kd,.slice Aw ws.length cw,.slice Au nums.length cu,.slice Ak ks.length ck,.int .i64 ps] 29)=w1 at *
 obtain ⟨au,rfl,u0⟩:=ZaH (k:=0) (x:=s) hW (p1.keep (Zh w1)).below (by rw [hn];rfl) (by rw [hn];exact Nat.succ_pos _)
 have u1:w1.drew.cell? au=some (txt s):=u0
 have u2:w1.cell? au=some (txt s):=u0
 have hl2:0<ws.length:=by rw [hn];exact Nat.succ_pos _
 obtain ⟨d0,d1,d2,d3,d4⟩:=Zg (x:=((.slice (some au) ws.length cw,.slice Au nums.length cu,.slice Ak ks.length ck),⟨kd,ws,nums,ks,ps⟩)) (B1.keep (Zh w1))
 dsimp only at d0 d1 d2 d3 d4
 have AD:=Lib.hid (Zbl w0 w1.drew bp dp t vn s [32,61,32] (p1.keep (Zh w1)) (by simp only [List.length_cons,List.length_nil];omega))
 have HX:=Lib.hid (And.intro a1 (And.intro (B1.keep (Zh w1)) (And.intro hq (And.intro hN (And.intro hE (And.intro hl (p1.keep (Zh w1))))))))
 have HI:=Lib.hid (And.intro hi (And.intro hkn (And.intro hz hv)))
 clear p1 B1 a1 hq hwl hwm hW hWl hul hum hU hkl hkm hK h hl he u0 hn hi hkn hz hv hE hN
 go_enter Tryz.func64,Tryz.ntmps64
 go_upto_region 1 with fail
 go_region_with (go_at_call 26;(refine AD.out.mono ?_);rintro e w3 ⟨rfl,hp,hf⟩;have H3:=Lib.hid (And.intro hp hf);clear hp hf)
 have K3:=H3.out.2.at_ _ _ _ (Za3 HX.out.2.2.2.2.2.2 HX.out.2.1) (by decide) HX.out.2.1
 obtain ⟨b0,b1,b2,b3,b4⟩:=Zg (x:=((.slice (some au) ws.length cw,.slice Au nums.length cu,.slice Ak ks.length ck),⟨kd,ws,nums,ks,ps⟩)) (K3)
 dsimp only at b0 b1 b2 b3 b4
 have KI:=Lib.hid (Zas w0 w3 bp dp _ vn ns _ 0 k ⟨H3.out.1,HX.out.2.2.2.1⟩ HX.out.2.2.1 HI.out.1 HI.out.2.1)
 clear K3
 go_upto_region 3 with (first
  | (go_at_call 32;(refine KI.out.mono ?_);rintro e w4 ⟨y,rfl,hy,hy2,hb⟩;have ey:y.2=z:=Option.some.inj (hy.symm.trans HI.out.2.2.1);have H4:=Lib.hid (And.intro hy2 (And.intro hb ey));clear hy hy2 hb ey;have EX:=Lib.hid (HX.out.2.2.2.2.1 w4 bp dp _ vn y (H3.out.1.keep H4.out.2.1) HX.out.2.2.2.1 H4.out.1 (H4.out.2.2▸HI.out.2.2.2) (by rw [H4.out.2.2];have:=HX.out.2.2.2.2.2.1;simp only [List.length_append,List.length_cons,List.length_nil];omega)))
  | (go_at_call 69;(refine EX.out.mono ?_);rintro e w5 ⟨rfl,hp,hf⟩;have H5:=Lib.hid (And.intro (show PrS w0 w5 bp (t++(s++[32,61,32])++Zu ns f z) dp vn from H4.out.2.2▸hp) hf);clear hp hf))
 have AE:=Lib.hid (ZH w0 w5 bp dp _ vn [59] H5.out.1 (by have:=HX.out.2.2.2.2.2.1;simp only [List.length_append,List.length_cons,List.length_nil];omega))
 go_wp2_with (go_at_call 26;(refine AE.out.mono ?_);rintro e w6 ⟨rfl,hp,hf⟩;have H6:=Lib.hid (And.intro hp hf);clear hp hf)
 go_end0
 refine ⟨rfl,?_,(((((Fr.of_below bp (hw1▸HX.out.1)).trans (Fr.of_below bp (Zh w1))).trans H3.out.2).trans (Fr.of_below bp H4.out.2.1)).trans H5.out.2).trans H6.out.2⟩
 have:=H6.out.1
 simp only [List.append_assoc] at this ⊢
 exact this
theorem ZbQ (s x:Txt) (r:List Txt):ZS s (x::r)=x++Lib.joinTail s r:=by
 induction r generalizing x with
 | nil=>simp [ZS,Lib.joinTail]
 | cons y r ih=>rw [ZS,ih y];simp [Lib.joinTail,List.append_assoc]
theorem Ze2 (s:Txt) (l:List Txt):ZS s l=Lib.join l s:=by
 cases l with
 | nil=>rfl
 | cons x r=>rw [ZbQ,Lib.join_cons]
theorem ZdZ (s:Txt) (hs:0<s.length) (l:List Txt):l.length<=(ZS s l).length+1:=by
 cases l with
 | nil=>simp
 | cons x r=>
  rw [ZbQ,List.length_append,List.length_cons]
  have:r.length<=(Lib.joinTail s r).length:=by
   unfold Lib.joinTail
   induction r with
   | nil=>simp
   | cons y r ih=>simp only [List.map_cons,List.flatten_cons,List.length_append,List.length_cons];omega
  omega
theorem Zey {w:World} {A:Option Addr} {n:Nat} {l:List Int} {x:Int} (h4:ZB w w.heap.size 1 A n (l.map (Value.int .i64))) (hx:l[0]? = some x) (hn:0<n):∃ ad,A=some ad/\∀ W:World,Below w.heap.size w W->W.cell? ad=some (.int .i64 x):=by
 obtain ⟨ad,e,hbk,hc⟩:=h4.2 hn
 exact ⟨ad,e,fun W hb=>(hb.cell (p:=ad) hbk).trans (hc 0 _ (by rw [List.getElem?_map,hx];rfl))⟩
theorem ZbM {w0 W:World} {g k:Nat} {l:List Txt} {s:Txt} (h:ZV w0 g l) (hb:Below w0.heap.size w0 W) (hk:l[k]? = some s):W.cell? ⟨g,k,none⟩=some (txt s):=by
 obtain ⟨t,fr,e⟩:=h.below hb
 simp [World.cell?,e,hk]
theorem Zhu {w:World} {A:Option Addr} {l:List Txt} (h:ZB w w.heap.size 1 A l.length (l.map txt)) (hl:0<l.length):∃ b o,A=some ⟨b,o,none⟩/\b<w.heap.size/\∀ j s,l[j]? = some s->w.cell? ⟨b,o+j,none⟩=some (txt s):=by
 obtain ⟨⟨b,o,sp⟩,e,hb,hc⟩:=h.2 hl
 have h0:=hc 0 (txt l[0]) (by rw [List.getElem?_map,List.getElem?_eq_getElem hl];rfl)
 have hsp:sp=none:=by
  cases sp with
  | none=>rfl
  | some v=>
   exfalso
   unfold World.cell? Addr.add at h0
   simp at h0
   split at h0<;>simp at h0
 subst hsp
 refine ⟨b,o,e,hb,fun j s hj=>?_⟩
 have:=hc j (txt s) (by rw [List.getElem?_map,hj];rfl)
 unfold Addr.add at this
 by_cases hz:j=0
 ·subst hz;simpa using this
 ·rw [if_neg hz] at this;exact this
theorem ZdT (w0 W:World) (A:Option Addr) (c:Nat) (l:List Txt) (h:ZB w0 w0.heap.size 1 A l.length (l.map txt)) (hl:0<l.length) (hlm:l.length<=140737488355328) (hc:l.length<=c) (hb:Below w0.heap.size w0 W) (hm:(ZS [124] l).length<=140737488355328) :
  Calls Tryz.prog 63 #[.slice A l.length c,.string ⟨#[124]⟩] W fun e w'=>e=.returned (txt (ZS [124] l))/\Below W.heap.size W w':=by
 obtain ⟨b,o,rfl,hlt,hcs⟩:=Zhu h hl
 have hm2:(l.map fun s=>(⟨s.toArray⟩:ByteArray)).map (·.data.toList)=l:=by rw [List.map_map];exact List.map_id'' (fun _=>rfl) l
 have k:=Tryz.strings_Join b o c (l.map fun s=>(⟨s.toArray⟩:ByteArray)) ⟨#[124]⟩ W (fun j x hj=>by
  rw [List.getElem?_map] at hj
  cases e:l[j]? with
  | none=>rw [e] at hj;cases hj
  | some s=>
   rw [e] at hj
   obtain rfl:=Option.some.inj hj
   exact (hb.cell (p:=⟨b,o+j,none⟩) hlt).trans (hcs j s e)) (Nat.lt_of_lt_of_le hlt hb.size) (by rw [List.length_map];exact hlm) (by rw [List.length_map];exact hc) (by rw [hm2];rw [Ze2] at hm;exact hm)
 rw [List.length_map] at k
 refine k.mono fun e w' he=>⟨?_,he.2⟩
 rw [he.1,hm2,Ze2]
def ZaN:List Txt:=[Zbd 0,Zbd 1,Zbd 2]
end
section
open Go.RowKit
theorem ZgN (w0 w:World) (bp dp f:Nat) (t:Txt) (vn:Value) (ns:List Nd) (x:NdV×Nd) (h:PrS w0 w bp t dp vn) (hx:Zv w0 x) (s:Txt) (r:List Txt) (hk:x.2.kind=15) (hn:x.2.words=s::r) (hl:t.length+(ZaU ns f x.2).length+100<=140737488355328) :
  Calls Tryz.prog 90 #[.pointer (some ⟨bp,0,none⟩),ndX x] w fun e w'=>e=.returned (.tuple #[])/\PrS w0 w' bp (t++ZaU ns f x.2) dp vn/\Fr w w' bp:=by
 have hq:=hx
 obtain ⟨⟨vw,vu,vk⟩,kd,ws,nums,ks,ps⟩:=x
 obtain ⟨hw,hu,hkk⟩:=hx
 dsimp only at hk hn hw hu hkk hl ⊢
 obtain ⟨Aw,cw,rfl,hwl,hwm,hW,hWl⟩:=hw
 obtain ⟨Au,cu,rfl,hul,hum,hU⟩:=hu
 obtain ⟨Ak,ck,rfl,hkl,hkm,hK⟩:=hkk
 have a1:=Zb w (.cells #[.int .i64 kd,.slice Aw ws.length cw,.slice Au nums.length cu,.slice Ak ks.length ck,.int .i64 ps] 29)
 have B1:Zm _ _ _ _:=Zm.start w #[.int .i64 kd,.slice Aw ws.length cw,.slice Au nums.length cu,.slice Ak ks.length ck,.int .i64 ps] 29
 have p1:=h.keep a1
 have he:ZaU ns f ⟨kd,ws,nums,ks,ps⟩=[38]++s:=by
  unfold ZaU ZD
  dsimp only
  rw [if_pos hk,hn]
  rfl
 rw [he] at hl ⊢
 simp only [List.length_append,List.length_cons,List.length_nil] at hl
 clear he
 subst hk
 obtain ⟨c0,c1,c2,c3,c4⟩:=Zg (x:=((.slice Aw ws.length cw,.slice Au nums.length cu,.slice Ak ks.length ck),⟨15,ws,nums,ks,ps⟩)) (B1)
 dsimp only at c0 c1 c2 c3 c4
 generalize hw1:w.alloc (.cells #[.int .i64 15,.slice Aw ws.length cw,.slice Au nums.length cu,.slice Ak ks.length ck,.int .i64 ps] 29)=w1 at *
 obtain ⟨au,rfl,u0⟩:=ZaH (k:=0) (x:=s) hW (p1.keep (Zh w1)).below (by rw [hn];rfl) (by rw [hn];exact Nat.succ_pos _)
 have u1:w1.drew.cell? au=some (txt s):=u0
 have u2:w1.cell? au=some (txt s):=u0
 have hl2:0<ws.length:=by rw [hn];exact Nat.succ_pos _
 obtain ⟨d0,d1,d2,d3,d4⟩:=Zg (x:=((.slice (some au) ws.length cw,.slice Au nums.length cu,.slice Ak ks.length ck),⟨15,ws,nums,ks,ps⟩)) (B1.keep (Zh w1))
 dsimp only at d0 d1 d2 d3 d4
 have AD:=Lib.hid (Zbl w0 w1.drew bp dp t vn [38] s (p1.keep (Zh w1)) (by simp only [List.length_cons,List.length_nil];omega))
 have HX:=Lib.hid a1
 clear p1 B1 a1 hq hwl hwm hW hWl hul hum hU hkl hkm hK h hl u0 hn
 go_enter Tryz.func90,Tryz.ntmps90
 go_upto_region 2 with fail
 go_region_with (go_at_call 26;(refine AD.out.mono ?_);rintro e w3 ⟨rfl,hp,hf⟩;have H3:=Lib.hid (And.intro hp hf);clear hp hf)
 all_goals
  go_wp2_with fail
  refine bodyPost_ret (v:=.tuple #[]) (results_none (by kernel_rfl) _ _ _) rfl ⟨rfl,H3.out.1,((Fr.of_below bp (hw1▸HX.out)).trans (Fr.of_below bp (Zh w1))).trans H3.out.2⟩
theorem ZiO (w0 w:World) (bp dp f:Nat) (t:Txt) (vn:Value) (ns:List Nd) (x:NdV×Nd) (h:PrS w0 w bp t dp vn) (hN:Zf w0 vn ns) (hx:Zv w0 x) (hE:Zaj w0 ns f) (hk:x.2.kind≠15) (hv:ZX ns f x.2) (hl:t.length+(ZaU ns f x.2).length+100<=140737488355328) :
  Calls Tryz.prog 90 #[.pointer (some ⟨bp,0,none⟩),ndX x] w fun e w'=>e=.returned (.tuple #[])/\PrS w0 w' bp (t++ZaU ns f x.2) dp vn/\Fr w w' bp:=by
 have hq:=hx
 obtain ⟨⟨vw,vu,vk⟩,kd,ws,nums,ks,ps⟩:=x
 obtain ⟨hw,hu,hkk⟩:=hx
 dsimp only at hk hv hw hu hkk hl ⊢
 obtain ⟨Aw,cw,rfl,hwl,hwm,hW,hWl⟩:=hw
 obtain ⟨Au,cu,rfl,hul,hum,hU⟩:=hu
 obtain ⟨Ak,ck,rfl,hkl,hkm,hK⟩:=hkk
 have a1:=Zb w (.cells #[.int .i64 kd,.slice Aw ws.length cw,.slice Au nums.length cu,.slice Ak ks.length ck,.int .i64 ps] 29)
 have B1:Zm _ _ _ _:=Zm.start w #[.int .i64 kd,.slice Aw ws.length cw,.slice Au nums.length cu,.slice Ak ks.length ck,.int .i64 ps] 29
 have p1:=h.keep a1
 have he:ZaU ns f ⟨kd,ws,nums,ks,ps⟩=Zu ns f ⟨kd,ws,nums,ks,ps⟩:=by
  unfold ZaU
  rw [if_neg hk]
 rw [he] at hl ⊢
 obtain ⟨c0,c1,c2,c3,c4⟩:=Zg (x:=((.slice Aw ws.length cw,.slice Au nums.length cu,.slice Ak ks.length ck),⟨kd,ws,nums,ks,ps⟩)) (B1)
 dsimp only at c0 c1 c2 c3 c4
 generalize hw1:w.alloc (.cells #[.int .i64 kd,.slice Aw ws.length cw,.slice Au nums.length cu,.slice Ak ks.length ck,.int .i64 ps] 29)=w1 at *
 have EX:=Lib.hid (hE w1 bp dp t vn _ p1 hN hq hv hl)
 have HX:=Lib.hid a1
 clear p1 B1 a1 hq hwl hwm hW hWl hul hum hU hkl hkm hK h hl he hv hN hE
 go_enter Tryz.func90,Tryz.ntmps90
 go_wp2_with (go_at_call 69;(refine EX.out.mono ?_);rintro e w3 ⟨rfl,hp,hf⟩;have H3:=Lib.hid (And.intro hp hf);clear hp hf)
 go_end0
 exact ⟨rfl,H3.out.1,(Fr.of_below bp (hw1▸HX.out)).trans H3.out.2⟩
end
end Go.Proofs.YtenbomphkihmlaaGreatDoor
