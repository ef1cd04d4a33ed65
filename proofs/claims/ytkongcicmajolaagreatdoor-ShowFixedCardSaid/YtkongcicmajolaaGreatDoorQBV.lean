import Derived.Test.YtkongcicmajolaaGreatDoorQAP
import Derived.Test.YtkongcicmajolaaGreatDoorQBU
set_option maxRecDepth 100000
set_option maxHeartbeats 8000000
namespace Go.Proofs.YtkongcicmajolaaGreatDoor
section
open Go.RowKit
theorem Zj0:∀ (r:List Txt) (k:Nat) (x:Txt),(Za9 r)[k]? = some x->∃ u v,r[2*k]? = some u/\r[2*k+1]? = some v/\x=u++[32]++v
 | [],k,x,h=>by simp [Za9] at h
 | [a],k,x,h=>by simp [Za9] at h
 | a::b::r,0,x,h=>by
  simp [Za9] at h
  exact ⟨a,b,rfl,rfl,by simp [h]⟩
 | a::b::r,k+1,x,h=>by
  rw [Za9,List.getElem?_cons_succ] at h
  obtain ⟨u,v,h1,h2,h3⟩:=Zj0 r k x h
  exact ⟨u,v,by rw [show 2*(k+1)=2*k+1+1 by omega];exact h1,by rw [show 2*(k+1)+1=2*k+1+1+1 by omega];exact h2,h3⟩
theorem Ze2:∀ (r:List Txt),(Za9 r).length=r.length / 2
 | []=>by simp [Za9]
 | [_]=>by simp [Za9]
 | a::b::r=>by
  rw [Za9,List.length_cons,Ze2 r]
  simp only [List.length_cons]
  omega
theorem Zi5 {w0:World} {a:Addr} {n b:Nat} {l:List Value} (h:ZM w0 b 1 (some a) n l) (k:Nat) (hk:k<n):ZM w0 b 1 (some (a.add k)) (n-k) (l.drop k):=by
 obtain ⟨h1,h2⟩:=h
 obtain ⟨ad,e,hb,hc⟩:=h2 (by omega)
 injection e with e
 subst e
 refine ⟨by rw [List.length_drop,h1];omega,fun _=>⟨a.add k,rfl,by rw [ZbO];exact hb,fun i v hv=>?_⟩⟩
 rw [List.getElem?_drop] at hv
 rw [ZgM]
 exact hc _ _ hv
theorem Zhw {w0 W:World} {b2 b4 bp c m m1:Nat} {A:Addr} {r:List Txt} {u v:Txt} (h2:Zh W b2 42 #[ZaE bp]) (h4:Zh W b4 33 #[.slice (some A) r.length c]) (hb:Below w0.heap.size w0 W) (hR:ZM w0 w0.heap.size 1 (some A) r.length (r.map txt)) (hu:r[m]? = some u) (hv:r[m1]? = some v) :
  (W.cell? ⟨b2,0,none⟩=some (ZaE bp)/\W.cell? ⟨b4,0,none⟩=some (.slice (some A) r.length c)/\W.cell? (A.add m)=some (txt u)/\W.cell? (A.add m1)=some (txt v))/\Zh W b2 42 #[ZaE bp]/\Zh W b4 33 #[.slice (some A) r.length c]/\Below w0.heap.size w0 W:=
 ⟨⟨one_cell h2,one_cell h4,Zz hR hb hu (List.getElem?_eq_some_iff.1 hu).1,Zz hR hb hv (List.getElem?_eq_some_iff.1 hv).1⟩,h2,h4,hb⟩
theorem Zo7 (w0 w:World) (bp dp b2 b4:Nat) (t:Txt) (vn:Value) (A:Addr) (c:Nat) (r:List Txt) (k:Nat) (u v:Txt) (h:PrS w0 w bp t dp vn)
  (hB2:Zh w b2 42 #[ZaE bp]) (hB4:Zh w b4 33 #[.slice (some A) r.length c])
  (hR:ZM w0 w0.heap.size 1 (some A) r.length (r.map txt)) (hm:r.length<=maxLen) (hu:r[2*k]? = some u) (hv:r[2*k+1]? = some v) (hl:t.length+(u++[32]++v).length+10000<=140737488355328) :
  Calls Tryz.prog 65 #[.int .i64 (k:Int),ZaE b2,ZaE b4] w fun e w'=>e=.returned (.tuple #[])/\PrS w0 w' bp (t++(u++[32]++v)) dp vn/\Fr w w' bp:=by
 obtain ⟨m,em⟩:∃ m,m=2*k:=⟨_,rfl⟩
 obtain ⟨m1,em1⟩:∃ m1,m1=m+1:=⟨_,rfl⟩
 rw [<- em] at hu
 rw [<- em,<- em1] at hv
 have lm:=(List.getElem?_eq_some_iff.1 hv).1
 have e9:maxLen=9223372036854775807:=rfl
 have w1:IntKind.i64.wrap (2*(k:Int))=(m:Int):=(IntWalk.i64_in _ (by omega)).trans (by omega)
 have w2:IntKind.i64.wrap ((m:Int)+1)=(m1:Int):=(IntWalk.i64_in _ (by omega)).trans (by omega)
 have i0:(0:Int)<=(m:Int):=by omega
 have i1:(m:Int)<(r.length:Int):=by omega
 have i2:(0:Int)<=(m1:Int):=by omega
 have i3:(m1:Int)<(r.length:Int):=by omega
 simp only [List.length_append,List.length_cons,List.length_nil] at hl
 have P1:=h.keep (Zj w)
 have AD:=zh (ZpN w0 w.drew bp dp t vn u [32] v P1 (by simp only [List.length_cons,List.length_nil];omega))
 have HX:=zh (zi h (zi hB2 (zi hB4 (zi hR (zi hu hv)))))
 have hb0:=h.below
 have HS:=Zhw (hB2.keep (Zj w)) (hB4.keep (Zj w)) P1.below hR hu hv
 clear em em1 lm e9 hl P1 h hB2 hB4 hR hm hu hv hb0
 go_enter Tryz.func65,Tryz.ntmps65
 go_upto_region 0 with fail
 refine wp_region_noPanic ?_
 refine wp_region_held_drew (S:=fun W:World=>(W.cell? ⟨b2,0,none⟩=some (ZaE bp)/\W.cell? ⟨b4,0,none⟩=some (.slice (some A) r.length c)/\W.cell? (A.add m)=some (txt u)/\W.cell? (A.add m1)=some (txt v))/\Zh W b2 42 #[ZaE bp]/\Zh W b4 33 #[.slice (some A) r.length c]/\Below w0.heap.size w0 W) (by kernel_rfl) HS (fun hHeld=>?_)
 clear HS
 refine tk 0 rfl ?_
 refine tk 1 rfl ?_
 refine tk 2 rfl ?_
 refine tk 3 rfl ?_
 refine tk 4 rfl ?_
 refine tk 5 rfl ?_
 refine tk 6 rfl ?_
 refine tk 7 rfl ?_
 refine tk 8 rfl ?_
 refine tk 9 rfl ?_
 refine tk 10 rfl ?_
 refine tk 11 rfl ?_
 refine tk 12 rfl ?_
 refine tk 13 rfl ?_
 (try simp only [cl,Act.put])
 refine rd 14 rfl fun K hK=>?_
 go_simp
 refine hK.out _ _ ?_ (fun hH2=>?_)
 ·exact Zhw (hHeld.2.1.keep (below_alloc1 _ _)) (hHeld.2.2.1.keep (below_alloc1 _ _)) (hHeld.2.2.2.trans ((below_alloc1 _ _).mono hHeld.2.2.2.size)) HX.out.2.2.2.1 HX.out.2.2.2.2.1 HX.out.2.2.2.2.2
 clear hK K hHeld;have hHeld:=hH2;clear hH2
 (try simp only [cl,Act.put])
 refine rd 15 rfl fun K hK=>?_
 go_simp
 go_at_call 36
 refine AD.out.mono ?_
 rintro e w9 ⟨rfl,hp,hf⟩
 have H9:=zh (zi hp ((Fr.of_below bp (Zj w)).trans hf))
 have hb:=hp.below
 clear hp hf
 go_wp2_with fail
 refine hK.out _ _ (Zhw (H9.out.2.at_ _ _ _ (Zbv HX.out.1 HX.out.2.1 (by decide)) (by decide) HX.out.2.1) (H9.out.2.at_ _ _ _ (Zbv HX.out.1 HX.out.2.2.1 (by decide)) (by decide) HX.out.2.2.1) (H9.out.1.below) HX.out.2.2.2.1 HX.out.2.2.2.2.1 HX.out.2.2.2.2.2) (fun hH2=>?_)
 clear hK K hHeld hb;have hHeld:=hH2;clear hH2
 (try simp only [cl,Act.put])
 refine wpAnyH_done (by kernel_rfl) ?_ _
 refine NoPanic.normal ?_
 clear hHeld
 go_wp2_with fail
 go_end0
 exact ⟨rfl,H9.out⟩
end
section
open Go.RowKit
theorem ZrX (w0 w:World) (bp dp:Nat) (t:Txt) (vn:Value) (ns:List Nd) (f:Nat) (x:NdV×Nd) (h:PrS w0 w bp t dp vn) (hN:Zs w0 vn ns) (hx:ZaW w0 x) (hE:Zbp w0 ns f) (hk:x.2.kind=18) (k:Nat) (hi:x.2.kids[0]? = some (k:Int)) (hkn:k<ns.length) (hv:ZP ns f (Za ns k)) (hl:t.length+(Zl ns (f+1) dp x.2).length+10000<=140737488355328) :
  Calls Tryz.prog 69 #[.pointer (some ⟨bp,0,none⟩),ndX x] w fun e w'=>e=.returned (.tuple #[])/\PrS w0 w' bp (t++Zl ns (f+1) dp x.2) dp vn/\Fr w w' bp:=by
 have hq:=hx
 obtain ⟨⟨vw,vu,vk⟩,kd,ws,nums,ks,ps⟩:=x
 obtain ⟨hw,hu,hkk⟩:=hx
 dsimp only at hk hi hw hu hkk hl ⊢
 obtain ⟨Aw,cw,rfl,hwl,hwm,hW,hWl⟩:=hw
 obtain ⟨Au,cu,rfl,hul,hum,hU⟩:=hu
 obtain ⟨Ak,ck,rfl,hkl,hkm,hK⟩:=hkk
 subst hk
 obtain ⟨z,hz⟩:∃ z,ns[k]? = some z:=⟨_,List.getElem?_eq_getElem hkn⟩
 have he:Zl ns (f+1) dp ⟨18,ws,nums,ks,ps⟩=[114,101,116,117,114,110,32]++Zx ns f z++[59]:=by
  have:=ZbU (n:=⟨18,ws,nums,ks,ps⟩) hi hz
  simp [Zl,this]
 rw [he] at hl ⊢
 clear he
 rw [ZbC hz] at hv
 simp only [List.length_append,List.length_cons,List.length_nil] at hl
 have N1:=Nw.start (w:=w) #[.int .i64 18,.slice Aw ws.length cw,.slice Au nums.length cu,.slice Ak ks.length ck,.int .i64 ps] h
 generalize hw1:w.alloc (.cells #[.int .i64 18,.slice Aw ws.length cw,.slice Au nums.length cu,.slice Ak ks.length ck,.int .i64 ps] 37)=w1 at *
 have H1:=zh N1
 have HN:=zh (zi hN (zi hq (zi hK (zi hkm hkl))))
 have HL:=zh hl
 have HI:=zh (zi hi (zi hkn (zi hz (zi hv hE))))
 clear N1 hq hwl hwm hW hWl hul hum hU hkl hkm hK h hN hl hi hkn hz hv hE
 obtain ⟨c0,c1,c2,c3,c4⟩:=Zg (x:=((.slice Aw ws.length cw,.slice Au nums.length cu,.slice Ak ks.length ck),⟨18,ws,nums,ks,ps⟩)) H1.out.k
 dsimp only at c0 c1 c2 c3 c4
 have AD:=zh (Zaf w0 w1 bp dp t vn [114,101,116,117,114,110,32] H1.out.p (by have:=HL.out;simp only [List.length_cons,List.length_nil];omega))
 go_enter Tryz.func69,Tryz.ntmps69
 go_upto_region 26 with (go_at_call 36;(refine AD.out.mono ?_);rintro e w2 ⟨rfl,hp,hf⟩;have H2:=zh (H1.out.next hp hf);clear hp hf)
 clear c0 c1 c2 c3 c4
 obtain ⟨c0,c1,c2,c3,c4⟩:=Zg (x:=((.slice Aw ws.length cw,.slice Au nums.length cu,.slice Ak ks.length ck),⟨18,ws,nums,ks,ps⟩)) H2.out.k
 dsimp only at c0 c1 c2 c3 c4
 have KI:=zh (ZbB w0 w2 bp dp _ vn ns _ 0 k ⟨H2.out.p,HN.out.1⟩ HN.out.2.1 HI.out.1 HI.out.2.1)
 go_upto_region 27 with (first
  | (go_at_call 42;(refine KI.out.mono ?_);rintro e w3 ⟨y,rfl,hy,hy2,hb⟩;have ey:y.2=z:=Option.some.inj (hy.symm.trans HI.out.2.2.1);have H3:=zh (zi hy2 (zi (H2.out.below hb) ey));clear hy hy2 hb ey;have EX:=zh (HI.out.2.2.2.2 w3 bp dp _ vn y H3.out.2.1.p HN.out.1 H3.out.1 (H3.out.2.2▸HI.out.2.2.2.1) (by rw [H3.out.2.2];have:=HL.out;simp only [List.length_append,List.length_cons,List.length_nil];omega)))
  | (go_at_call 23;(refine EX.out.mono ?_);rintro e w4 ⟨rfl,hp,hf⟩;have H4:=zh (H3.out.2.1.next hp hf);clear hp hf))
 rw [H3.out.2.2] at H4
 have AD:=zh (Zaf w0 w4 bp dp _ vn [59] H4.out.p (by have:=HL.out;simp only [List.length_append,List.length_cons,List.length_nil];omega))
 go_wp2_with (go_at_call 36;(refine AD.out.mono ?_);rintro e w5 ⟨rfl,hp,hf⟩;have H5:=zh (H4.out.next hp hf);clear hp hf)
 go_end0
 refine ⟨rfl,?_,H5.out.f⟩
 have:=H5.out.p
 simp only [List.append_assoc,List.cons_append,List.nil_append] at this ⊢
 exact this
theorem ZrW (w0 w:World) (bp dp:Nat) (t:Txt) (vn:Value) (ns:List Nd) (f:Nat) (x:NdV×Nd) (h:PrS w0 w bp t dp vn) (hN:Zs w0 vn ns) (hx:ZaW w0 x) (hE:Zbp w0 ns f) (S:Nd->Prop) (hB:Zc1 41 w0 ns dp S (Zc3 ns f dp)) (hk:x.2.kind=17) (j k:Nat) (hks:x.2.kids=[(j:Int),(k:Int)]) (hjn:j<ns.length) (hv:ZP ns f (Za ns j)) (hkn:k<ns.length) (hok:S (Za ns k)) (hl:t.length+(Zl ns (f+1) dp x.2).length+10000<=140737488355328) :
  Calls Tryz.prog 69 #[.pointer (some ⟨bp,0,none⟩),ndX x] w fun e w'=>e=.returned (.tuple #[])/\PrS w0 w' bp (t++Zl ns (f+1) dp x.2) dp vn/\Fr w w' bp:=by
 have hq:=hx
 obtain ⟨⟨vw,vu,vk⟩,kd,ws,nums,ks,ps⟩:=x
 obtain ⟨hw,hu,hkk⟩:=hx
 dsimp only at hk hks hw hu hkk hl ⊢
 obtain ⟨Aw,cw,rfl,hwl,hwm,hW,hWl⟩:=hw
 obtain ⟨Au,cu,rfl,hul,hum,hU⟩:=hu
 obtain ⟨Ak,ck,rfl,hkl,hkm,hK⟩:=hkk
 subst hk
 obtain ⟨y1,hy1⟩:∃ z,ns[j]? = some z:=⟨_,List.getElem?_eq_getElem hjn⟩
 obtain ⟨z,hz⟩:∃ z,ns[k]? = some z:=⟨_,List.getElem?_eq_getElem hkn⟩
 have hi0:ks[0]? = some (j:Int):=by rw [hks];rfl
 have hi1:ks[1]? = some (k:Int):=by rw [hks];rfl
 have he:Zl ns (f+1) dp ⟨17,ws,nums,ks,ps⟩=[119,104,105,108,101,32]++Zx ns f y1++Zc3 ns f dp z:=by
  have e1:=ZbU (n:=⟨17,ws,nums,ks,ps⟩) hi0 hy1
  have e2:=ZbU (n:=⟨17,ws,nums,ks,ps⟩) hi1 hz
  simp [Zl,e1,e2]
 rw [he] at hl ⊢
 clear he
 rw [ZbC hy1] at hv
 rw [ZbC hz] at hok
 simp only [List.length_append,List.length_cons,List.length_nil] at hl
 have N1:=Nw.start (w:=w) #[.int .i64 17,.slice Aw ws.length cw,.slice Au nums.length cu,.slice Ak ks.length ck,.int .i64 ps] h
 generalize hw1:w.alloc (.cells #[.int .i64 17,.slice Aw ws.length cw,.slice Au nums.length cu,.slice Ak ks.length ck,.int .i64 ps] 37)=w1 at *
 have H1:=zh N1
 have HN:=zh (zi hN (zi hq (zi hK (zi hkm hkl))))
 have HL:=zh hl
 have HI:=zh (zi hi0 (zi hjn (zi hy1 (zi hv hE))))
 have HJ:=zh (zi hi1 (zi hkn (zi hz (zi hok hB))))
 clear N1 hq hwl hwm hW hWl hul hum hU hkl hkm hK h hN hl hi0 hi1 hks hjn hkn hy1 hz hv hok hB hE
 obtain ⟨c0,c1,c2,c3,c4⟩:=Zg (x:=((.slice Aw ws.length cw,.slice Au nums.length cu,.slice Ak ks.length ck),⟨17,ws,nums,ks,ps⟩)) H1.out.k
 dsimp only at c0 c1 c2 c3 c4
 have AD:=zh (Zaf w0 w1 bp dp t vn [119,104,105,108,101,32] H1.out.p (by have:=HL.out;simp only [List.length_cons,List.length_nil];omega))
 go_enter Tryz.func69,Tryz.ntmps69
 go_upto_region 22 with (go_at_call 36;(refine AD.out.mono ?_);rintro e w2 ⟨rfl,hp,hf⟩;have H2:=zh (H1.out.next hp hf);clear hp hf)
 clear c0 c1 c2 c3 c4
 obtain ⟨c0,c1,c2,c3,c4⟩:=Zg (x:=((.slice Aw ws.length cw,.slice Au nums.length cu,.slice Ak ks.length ck),⟨17,ws,nums,ks,ps⟩)) H2.out.k
 dsimp only at c0 c1 c2 c3 c4
 have KI:=zh (ZbB w0 w2 bp dp _ vn ns _ 0 j ⟨H2.out.p,HN.out.1⟩ HN.out.2.1 HI.out.1 HI.out.2.1)
 go_upto_region 23 with (first
  | (go_at_call 42;(refine KI.out.mono ?_);rintro e w3 ⟨y,rfl,hy,hy2,hb⟩;have ey:y.2=y1:=Option.some.inj (hy.symm.trans HI.out.2.2.1);have H3:=zh (zi hy2 (zi (H2.out.below hb) ey));clear hy hy2 hb ey;have EX:=zh (HI.out.2.2.2.2 w3 bp dp _ vn y H3.out.2.1.p HN.out.1 H3.out.1 (H3.out.2.2▸HI.out.2.2.2.1) (by rw [H3.out.2.2];have:=HL.out;simp only [List.length_append,List.length_cons,List.length_nil];omega)))
  | (go_at_call 23;(refine EX.out.mono ?_);rintro e w4 ⟨rfl,hp,hf⟩;have H4:=zh (H3.out.2.1.next hp hf);clear hp hf))
 rw [H3.out.2.2] at H4
 clear KI EX c0 c1 c2 c3 c4
 obtain ⟨c0,c1,c2,c3,c4⟩:=Zg (x:=((.slice Aw ws.length cw,.slice Au nums.length cu,.slice Ak ks.length ck),⟨17,ws,nums,ks,ps⟩)) H4.out.k
 dsimp only at c0 c1 c2 c3 c4
 have KI:=zh (ZbB w0 w4 bp dp _ vn ns _ 1 k ⟨H4.out.p,HN.out.1⟩ HN.out.2.1 HJ.out.1 HJ.out.2.1)
 go_wp2_with (first
  | (go_at_call 42;(refine KI.out.mono ?_);rintro e w5 ⟨y,rfl,hy,hy2,hb⟩;have ey:y.2=z:=Option.some.inj (hy.symm.trans HJ.out.2.2.1);have H5:=zh (zi hy2 (zi (H4.out.below hb) ey));clear hy hy2 hb ey;have EX:=zh (HJ.out.2.2.2.2 w5 bp _ vn y H5.out.2.1.p HN.out.1 H5.out.1 (H5.out.2.2▸HJ.out.2.2.2.1) (by rw [H5.out.2.2];have:=HL.out;simp only [List.length_append,List.length_cons,List.length_nil];omega)))
  | (go_at_call 41;(refine EX.out.mono ?_);rintro e w6 ⟨rfl,hp,hf⟩;have H6:=zh (H5.out.2.1.next hp hf);clear hp hf))
 rw [H5.out.2.2] at H6
 go_end0
 refine ⟨rfl,?_,H6.out.f⟩
 have:=H6.out.p
 simp only [List.append_assoc,List.cons_append,List.nil_append] at this ⊢
 exact this
theorem ZrV (w0 w:World) (bp dp:Nat) (t:Txt) (vn:Value) (ns:List Nd) (f:Nat) (x:NdV×Nd) (h:PrS w0 w bp t dp vn) (hN:Zs w0 vn ns) (hx:ZaW w0 x) (hE:Zbp w0 ns f) (S:Nd->Prop) (hB:Zc1 41 w0 ns dp S (Zc3 ns f dp)) (hk:x.2.kind=16) (j:Nat) (r:List Int) (hks:x.2.kids=(j:Int)::r) (hr:r≠[]) (hjn:j<ns.length) (hv:ZP ns f (Za ns j)) (hok:Zaa ns r S) (hl:t.length+(Zl ns (f+1) dp x.2).length+10000<=140737488355328) :
  Calls Tryz.prog 69 #[.pointer (some ⟨bp,0,none⟩),ndX x] w fun e w'=>e=.returned (.tuple #[])/\PrS w0 w' bp (t++Zl ns (f+1) dp x.2) dp vn/\Fr w w' bp:=by
 have hq:=hx
 obtain ⟨⟨vw,vu,vk⟩,kd,ws,nums,ks,ps⟩:=x
 obtain ⟨hw,hu,hkk⟩:=hx
 dsimp only at hk hks hw hu hkk hl ⊢
 obtain ⟨Aw,cw,rfl,hwl,hwm,hW,hWl⟩:=hw
 obtain ⟨Au,cu,rfl,hul,hum,hU⟩:=hu
 obtain ⟨Ak,ck,rfl,hkl,hkm,hK⟩:=hkk
 subst hk
 obtain ⟨y1,hy1⟩:∃ z,ns[j]? = some z:=⟨_,List.getElem?_eq_getElem hjn⟩
 have hi0:ks[0]? = some (j:Int):=by rw [hks];rfl
 have hrl:1<=r.length:=by cases r with
  | nil=>exact absurd rfl hr
  | cons a b=>simp
 have hkl2:ks.length=r.length+1:=by rw [hks];simp
 have he:Zl ns (f+1) dp ⟨16,ws,nums,ks,ps⟩=[105,102,32]++Zx ns f y1++Zal [32,101,108,115,101] (r.map fun k=>Zc3 ns f dp (Za ns k)):=by
  have e1:=ZbU (n:=⟨16,ws,nums,ks,ps⟩) hi0 hy1
  have e2:ks.drop 1=r:=by rw [hks];rfl
  have e3:Zl ns (f+1) dp ⟨16,ws,nums,ks,ps⟩=[105,102,32]++Zx ns f (Zw ns ⟨16,ws,nums,ks,ps⟩ 0)++Zal [32,101,108,115,101] ((ks.drop 1).map fun k=>Zc3 ns f dp (Za ns k)):=by simp [Zl]
  rw [e3,e1,e2]
 rw [he] at hl ⊢
 clear he
 rw [ZbC hy1] at hv
 simp only [List.length_append,List.length_cons,List.length_nil] at hl
 obtain ⟨ak,rfl,_⟩:=ints_at hK h.below hi0 (by omega)
 have RT:=Zi5 hK 1 (by omega)
 rw [<- List.map_drop,show ks.drop 1=r by rw [hks];rfl,show ks.length-1=r.length by omega] at RT
 have lw2:(if ck=1 then some ak else some (⟨ak.block,ak.off+1,none⟩:Addr))=some ⟨ak.block,ak.off+1,none⟩:=by rw [if_neg (by omega)]
 have lz:ks.length-1=r.length:=by omega
 have jw2:(1:Int)<=(ks.length:Int):=by omega
 have N1:=Nw.start (w:=w) #[.int .i64 16,.slice Aw ws.length cw,.slice Au nums.length cu,.slice (some ak) ks.length ck,.int .i64 ps] h
 generalize hw1:w.alloc (.cells #[.int .i64 16,.slice Aw ws.length cw,.slice Au nums.length cu,.slice (some ak) ks.length ck,.int .i64 ps] 37)=w1 at *
 have H1:=zh N1
 have HN:=zh (zi hN (zi hq (zi hK (zi hkm hkl))))
 have HL:=zh hl
 have HI:=zh (zi hi0 (zi hjn (zi hy1 (zi hv hE))))
 have HJ:=zh (zi hok (zi hB (zi hkl2 RT)))
 clear N1 hq hwl hwm hW hWl hul hum hU hkl hkm hK h hN hl hi0 hks hr hrl hkl2 hjn hy1 hv hok hB hE RT
 obtain ⟨c0,c1,c2,c3,c4⟩:=Zg (x:=((.slice Aw ws.length cw,.slice Au nums.length cu,.slice (some ak) ks.length ck),⟨16,ws,nums,ks,ps⟩)) H1.out.k
 dsimp only at c0 c1 c2 c3 c4
 have AD:=zh (Zaf w0 w1 bp dp t vn [105,102,32] H1.out.p (by have:=HL.out;simp only [List.length_cons,List.length_nil];omega))
 go_enter Tryz.func69,Tryz.ntmps69
 go_upto_region 18 with (go_at_call 36;(refine AD.out.mono ?_);rintro e w2 ⟨rfl,hp,hf⟩;have H2:=zh (H1.out.next hp hf);clear hp hf)
 clear c0 c1 c2 c3 c4
 obtain ⟨c0,c1,c2,c3,c4⟩:=Zg (x:=((.slice Aw ws.length cw,.slice Au nums.length cu,.slice (some ak) ks.length ck),⟨16,ws,nums,ks,ps⟩)) H2.out.k
 dsimp only at c0 c1 c2 c3 c4
 have KI:=zh (ZbB w0 w2 bp dp _ vn ns _ 0 j ⟨H2.out.p,HN.out.1⟩ HN.out.2.1 HI.out.1 HI.out.2.1)
 go_upto_region 19 with (first
  | (go_at_call 42;(refine KI.out.mono ?_);rintro e w3 ⟨y,rfl,hy,hy2,hb⟩;have ey:y.2=y1:=Option.some.inj (hy.symm.trans HI.out.2.2.1);have H3:=zh (zi hy2 (zi (H2.out.below hb) ey));clear hy hy2 hb ey;have EX:=zh (HI.out.2.2.2.2 w3 bp dp _ vn y H3.out.2.1.p HN.out.1 H3.out.1 (H3.out.2.2▸HI.out.2.2.2.1) (by rw [H3.out.2.2];have:=HL.out;simp only [List.length_append,List.length_cons,List.length_nil];omega)))
  | (go_at_call 23;(refine EX.out.mono ?_);rintro e w4 ⟨rfl,hp,hf⟩;have H4:=zh (H3.out.2.1.next hp hf);clear hp hf))
 rw [H3.out.2.2] at H4
 clear KI EX c0 c1 c2 c3 c4
 obtain ⟨c0,c1,c2,c3,c4⟩:=Zg (x:=((.slice Aw ws.length cw,.slice Au nums.length cu,.slice (some ak) ks.length ck),⟨16,ws,nums,ks,ps⟩)) H4.out.k
 dsimp only at c0 c1 c2 c3 c4
 have BR:=zh (show Calls Tryz.prog 91 #[ZaE bp,.slice (some ⟨ak.block,ak.off+1,none⟩) r.length (ck-1)] w4 (fun e w'=>e=.returned (.tuple #[])/\PrS w0 w' bp (_++Zal [32,101,108,115,101] (r.map fun k=>Zc3 ns f dp (Za ns k))) dp vn/\Fr w4 w' bp) from Zhp w0 w4 bp dp _ vn ns (some (ak.add 1)) (ck-1) r S (Zc3 ns f dp) H4.out.p HN.out.1 HJ.out.2.2.2 (by have:=HN.out.2.2.2;have:=HJ.out.2.2.1;omega) HJ.out.1 HJ.out.2.1 (by have:=HL.out;simp only [List.length_append,List.length_cons,List.length_nil];omega))
 go_wp2_with (go_at_call 91;(refine BR.out.mono ?_);rintro e w5 ⟨rfl,hp,hf⟩;have H5:=zh (H4.out.next hp hf);clear hp hf)
 go_end0
 refine ⟨rfl,?_,H5.out.f⟩
 have:=H5.out.p
 simp only [List.append_assoc,List.cons_append,List.nil_append] at this ⊢
 exact this
theorem ZrY (w0 w:World) (bp dp:Nat) (t:Txt) (vn:Value) (ns:List Nd) (f:Nat) (x:NdV×Nd) (h:PrS w0 w bp t dp vn) (hN:Zs w0 vn ns) (hx:ZaW w0 x) (hk:x.2.kind=19) (hl:t.length+(Zl ns (f+1) dp x.2).length+10000<=140737488355328) :
  Calls Tryz.prog 69 #[.pointer (some ⟨bp,0,none⟩),ndX x] w fun e w'=>e=.returned (.tuple #[])/\PrS w0 w' bp (t++Zl ns (f+1) dp x.2) dp vn/\Fr w w' bp:=by
 have hq:=hx
 obtain ⟨⟨vw,vu,vk⟩,kd,ws,nums,ks,ps⟩:=x
 obtain ⟨hw,hu,hkk⟩:=hx
 dsimp only at hk hw hu hkk hl ⊢
 obtain ⟨Aw,cw,rfl,hwl,hwm,hW,hWl⟩:=hw
 obtain ⟨Au,cu,rfl,hul,hum,hU⟩:=hu
 obtain ⟨Ak,ck,rfl,hkl,hkm,hK⟩:=hkk
 subst hk
 have he:Zl ns (f+1) dp ⟨19,ws,nums,ks,ps⟩=[101,120,105,116,59]:=by simp [Zl]
 rw [he] at hl ⊢
 clear he
 simp only [List.length_cons,List.length_nil] at hl
 have N1:=Nw.start (w:=w) #[.int .i64 19,.slice Aw ws.length cw,.slice Au nums.length cu,.slice Ak ks.length ck,.int .i64 ps] h
 generalize hw1:w.alloc (.cells #[.int .i64 19,.slice Aw ws.length cw,.slice Au nums.length cu,.slice Ak ks.length ck,.int .i64 ps] 37)=w1 at *
 have H1:=zh N1
 have HN:=zh (zi hN (zi hq (zi hK (zi hkm hkl))))
 have HL:=zh hl
 clear N1 hq hwl hwm hW hWl hul hum hU hkl hkm hK h hN hl
 obtain ⟨c0,c1,c2,c3,c4⟩:=Zg (x:=((.slice Aw ws.length cw,.slice Au nums.length cu,.slice Ak ks.length ck),⟨19,ws,nums,ks,ps⟩)) H1.out.k
 dsimp only at c0 c1 c2 c3 c4
 have AD:=zh (Zaf w0 w1 bp dp t vn [101,120,105,116,59] H1.out.p (by have:=HL.out;simp only [List.length_cons,List.length_nil];omega))
 go_enter Tryz.func69,Tryz.ntmps69
 go_wp2_with (go_at_call 36;(refine AD.out.mono ?_);rintro e w2 ⟨rfl,hp,hf⟩;have H2:=zh (H1.out.next hp hf);clear hp hf)
 go_end0
 exact ⟨rfl,H2.out.p,H2.out.f⟩
structure PTabs (w0:World):Prop where
 kinds:Zay w0 1 ZeX
 names:Zay w0 2 Zcm
 signs:Zay w0 0 Zd7
 ten:Zff w0 w0
theorem Zew {ns:List Nd} {k:Int} {P:Nd->Prop} (h:Zaa ns [k] P):∃ m:Nat,k=m/\m<ns.length/\P (Za ns (m:Int)):=by
 obtain ⟨h0,h1,h2⟩:=h k (by simp)
 obtain ⟨m,rfl⟩:=Int.eq_ofNat_of_zero_le h0
 exact ⟨m,rfl,by omega,h2⟩
theorem ZhQ (w0:World) (ns:List Nd) (T:PTabs w0):∀ (f dp:Nat),dp+2*f<3999->Zc1 69 w0 ns dp (fun n=>Zbk ns f n) (fun n=>Zl ns f dp n)
 | 0,dp,_=>fun w bp t vn x h hN hx hok hl=>hok.elim
 | f+1,dp,hd=>by
  intro w bp t vn x h hN hx hok hl
  have hE:=Zp3 w0 ns T.ten T.signs f
  have hB:=ZgP w0 ns dp (fun n=>Zbk ns f n) (fun n=>Zl ns f (dp+1) n) (by omega) (ZhQ w0 ns T f (dp+1) (by omega))
  dsimp only at hok hl ⊢
  rw [Zbk] at hok
  rcases hok with ⟨hk,⟨s,hn⟩,k,hks,hv⟩ | ⟨hk,⟨a,b,hn⟩,_,hok⟩ | ⟨hk,hn,hok⟩ | ⟨hk,⟨a,b,hn⟩,⟨p,q,r,hm,h0,h4,hq,hr⟩,l,k,hks,hol,hok⟩ | ⟨hk,hn,hok⟩ | ⟨hk,k,r,hks,hr,hv,hok⟩ | ⟨hk,j,k,hks,hv,hok⟩ | ⟨hk,k,hks,hv⟩ | hk
  ·obtain ⟨m,rfl,hm,hv⟩:=Zew hv
   rcases hk with hk | hk
   ·exact Zsh w0 w bp dp t vn ns f x h hN hx hE hk s [] m hn (by rw [hks];rfl) hm hv hl
   ·exact Zsi w0 w bp dp t vn ns f x h hN hx hE hk s [] m hn (by rw [hks];rfl) hm hv hl
  ·exact ZrR w0 w bp dp t vn ns f x h hN hx _ hB hk a b hn hok hl
  ·exact ZrS w0 w bp dp t vn ns f x h hN hx (by omega) _ (ZgP w0 ns (dp+1) (fun n=>Zbk ns f n) (fun n=>Zl ns f (dp+1+1) n) (by omega) (ZhQ w0 ns T f (dp+1+1) (by omega))) hk hn hok hl
  ·obtain ⟨m,rfl,hm2,hok⟩:=Zew hok
   obtain ⟨p,rfl⟩:=Int.eq_ofNat_of_zero_le h0
   exact ZrT w0 w bp dp t vn ns f x h hN hx T.kinds T.names T.ten _ hB hk a b hn p q r hm (by omega) hq hr l m hks hol hm2 hok hl
  ·exact ZrU w0 w bp dp t vn ns f x h hN hx hE hk hn hok hl
  ·obtain ⟨m,rfl,hm,hv⟩:=Zew hv
   exact ZrV w0 w bp dp t vn ns f x h hN hx hE _ hB hk m r hks hr hm hv hok hl
  ·obtain ⟨m,rfl,hm,hv⟩:=Zew hv
   obtain ⟨m2,rfl,hm2,hok⟩:=Zew hok
   exact ZrW w0 w bp dp t vn ns f x h hN hx hE _ hB hk m m2 hks hm hv hm2 hok hl
  ·obtain ⟨m,rfl,hm,hv⟩:=Zew hv
   exact ZrX w0 w bp dp t vn ns f x h hN hx hE hk m (by rw [hks];rfl) hm hv hl
  ·exact ZrY w0 w bp dp t vn ns f x h hN hx hk hl
end
end Go.Proofs.YtkongcicmajolaaGreatDoor
