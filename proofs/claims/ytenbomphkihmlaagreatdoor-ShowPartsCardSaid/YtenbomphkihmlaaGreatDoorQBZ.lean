import Derived.Lib.BufferRead
import Derived.Lib.LaidTab
import Derived.Test.YtenbomphkihmlaaGreatDoorQAS
import Derived.Test.YtenbomphkihmlaaGreatDoorQBF
import Derived.Test.YtenbomphkihmlaaGreatDoorQBG
import Derived.Test.YtenbomphkihmlaaGreatDoorQBN
import Derived.Test.YtenbomphkihmlaaGreatDoorQBR
import Derived.Test.YtenbomphkihmlaaGreatDoorQBU
import Derived.Test.YtenbomphkihmlaaGreatDoorQBY
set_option maxRecDepth 100000
set_option maxHeartbeats 8000000
namespace Go.Proofs.YtenbomphkihmlaaGreatDoor
section
open Go.RowKit
theorem ZjZ (w0 w:World) (bp dp:Nat) (t:Txt) (vn:Value) (ns:List Nd) (f:Nat) (x:NdV×Nd) (h:PrS w0 w bp t dp vn) (hN:Zf w0 vn ns) (hx:Zv w0 x) (hE:Zaj w0 ns f) (hk:x.2.kind=18) (k:Nat) (hi:x.2.kids[0]? = some (k:Int)) (hkn:k<ns.length) (hv:ZX ns f (Ze ns k)) (hl:t.length+(Zi ns (f+1) dp x.2).length+10000<=140737488355328) :
  Calls Tryz.prog 47 #[.pointer (some ⟨bp,0,none⟩),ndX x] w fun e w'=>e=.returned (.tuple #[])/\PrS w0 w' bp (t++Zi ns (f+1) dp x.2) dp vn/\Fr w w' bp:=by
 have hq:=hx
 obtain ⟨⟨vw,vu,vk⟩,kd,ws,nums,ks,ps⟩:=x
 obtain ⟨hw,hu,hkk⟩:=hx
 dsimp only at hk hi hw hu hkk hl ⊢
 obtain ⟨Aw,cw,rfl,hwl,hwm,hW,hWl⟩:=hw
 obtain ⟨Au,cu,rfl,hul,hum,hU⟩:=hu
 obtain ⟨Ak,ck,rfl,hkl,hkm,hK⟩:=hkk
 subst hk
 obtain ⟨z,hz⟩:∃ z,ns[k]? = some z:=⟨_,List.getElem?_eq_getElem hkn⟩
 have he:Zi ns (f+1) dp ⟨18,ws,nums,ks,ps⟩=[114,101,116,117,114,110,32]++Zu ns f z++[59]:=by
  have:=ZaA (n:=⟨18,ws,nums,ks,ps⟩) hi hz
  simp [Zi,this]
 rw [he] at hl ⊢
 clear he
 rw [Zat hz] at hv
 simp only [List.length_append,List.length_cons,List.length_nil] at hl
 have N1:=Nw.start (w:=w) #[.int .i64 18,.slice Aw ws.length cw,.slice Au nums.length cu,.slice Ak ks.length ck,.int .i64 ps] h
 generalize hw1:w.alloc (.cells #[.int .i64 18,.slice Aw ws.length cw,.slice Au nums.length cu,.slice Ak ks.length ck,.int .i64 ps] 29)=w1 at *
 have H1:=Lib.hid N1
 have HN:=Lib.hid (And.intro hN (And.intro hq (And.intro hK (And.intro hkm hkl))))
 have HL:=Lib.hid hl
 have HI:=Lib.hid (And.intro hi (And.intro hkn (And.intro hz (And.intro hv hE))))
 clear N1 hq hwl hwm hW hWl hul hum hU hkl hkm hK h hN hl hi hkn hz hv hE
 obtain ⟨c0,c1,c2,c3,c4⟩:=Zg (x:=((.slice Aw ws.length cw,.slice Au nums.length cu,.slice Ak ks.length ck),⟨18,ws,nums,ks,ps⟩)) H1.out.k
 dsimp only at c0 c1 c2 c3 c4
 have AD:=Lib.hid (ZH w0 w1 bp dp t vn [114,101,116,117,114,110,32] H1.out.p (by have:=HL.out;simp only [List.length_cons,List.length_nil];omega))
 go_enter Tryz.func47,Tryz.ntmps47
 go_upto_region 26 with (go_at_call 26;(refine AD.out.mono ?_);rintro e w2 ⟨rfl,hp,hf⟩;have H2:=Lib.hid (H1.out.next hp hf);clear hp hf)
 clear c0 c1 c2 c3 c4
 obtain ⟨c0,c1,c2,c3,c4⟩:=Zg (x:=((.slice Aw ws.length cw,.slice Au nums.length cu,.slice Ak ks.length ck),⟨18,ws,nums,ks,ps⟩)) H2.out.k
 dsimp only at c0 c1 c2 c3 c4
 have KI:=Lib.hid (Zas w0 w2 bp dp _ vn ns _ 0 k ⟨H2.out.p,HN.out.1⟩ HN.out.2.1 HI.out.1 HI.out.2.1)
 go_upto_region 27 with (first
  | (go_at_call 32;(refine KI.out.mono ?_);rintro e w3 ⟨y,rfl,hy,hy2,hb⟩;have ey:y.2=z:=Option.some.inj (hy.symm.trans HI.out.2.2.1);have H3:=Lib.hid (And.intro hy2 (And.intro (H2.out.below hb) ey));clear hy hy2 hb ey;have EX:=Lib.hid (HI.out.2.2.2.2 w3 bp dp _ vn y H3.out.2.1.p HN.out.1 H3.out.1 (H3.out.2.2▸HI.out.2.2.2.1) (by rw [H3.out.2.2];have:=HL.out;simp only [List.length_append,List.length_cons,List.length_nil];omega)))
  | (go_at_call 69;(refine EX.out.mono ?_);rintro e w4 ⟨rfl,hp,hf⟩;have H4:=Lib.hid (H3.out.2.1.next hp hf);clear hp hf))
 rw [H3.out.2.2] at H4
 have AD:=Lib.hid (ZH w0 w4 bp dp _ vn [59] H4.out.p (by have:=HL.out;simp only [List.length_append,List.length_cons,List.length_nil];omega))
 go_wp2_with (go_at_call 26;(refine AD.out.mono ?_);rintro e w5 ⟨rfl,hp,hf⟩;have H5:=Lib.hid (H4.out.next hp hf);clear hp hf)
 go_end0
 refine ⟨rfl,?_,H5.out.f⟩
 have:=H5.out.p
 simp only [List.append_assoc,List.cons_append,List.nil_append] at this ⊢
 exact this
theorem ZjY (w0 w:World) (bp dp:Nat) (t:Txt) (vn:Value) (ns:List Nd) (f:Nat) (x:NdV×Nd) (h:PrS w0 w bp t dp vn) (hN:Zf w0 vn ns) (hx:Zv w0 x) (hE:Zaj w0 ns f) (S:Nd->Prop) (hB:Za4 31 w0 ns dp S (Za5 ns f dp)) (hk:x.2.kind=17) (j k:Nat) (hks:x.2.kids=[(j:Int),(k:Int)]) (hjn:j<ns.length) (hv:ZX ns f (Ze ns j)) (hkn:k<ns.length) (hok:S (Ze ns k)) (hl:t.length+(Zi ns (f+1) dp x.2).length+10000<=140737488355328) :
  Calls Tryz.prog 47 #[.pointer (some ⟨bp,0,none⟩),ndX x] w fun e w'=>e=.returned (.tuple #[])/\PrS w0 w' bp (t++Zi ns (f+1) dp x.2) dp vn/\Fr w w' bp:=by
 have hq:=hx
 obtain ⟨⟨vw,vu,vk⟩,kd,ws,nums,ks,ps⟩:=x
 obtain ⟨hw,hu,hkk⟩:=hx
 dsimp only at hk hks hw hu hkk hl ⊢
 obtain ⟨Aw,cw,rfl,hwl,hwm,hW,hWl⟩:=hw
 obtain ⟨Au,cu,rfl,hul,hum,hU⟩:=hu
 obtain ⟨Ak,ck,rfl,hkl,hkm,hK⟩:=hkk
 subst hk
 obtain ⟨y1,hy1⟩:∃ z,ns[j]? = some z:=⟨_,List.getElem?_eq_getElem hjn⟩
 obtain ⟨z,hz⟩:∃ z,ns[k]? = some z:=⟨_,List.getElem?_eq_getElem hkn⟩
 have hi0:ks[0]? = some (j:Int):=by rw [hks];rfl
 have hi1:ks[1]? = some (k:Int):=by rw [hks];rfl
 have he:Zi ns (f+1) dp ⟨17,ws,nums,ks,ps⟩=[119,104,105,108,101,32]++Zu ns f y1++Za5 ns f dp z:=by
  have e1:=ZaA (n:=⟨17,ws,nums,ks,ps⟩) hi0 hy1
  have e2:=ZaA (n:=⟨17,ws,nums,ks,ps⟩) hi1 hz
  simp [Zi,e1,e2]
 rw [he] at hl ⊢
 clear he
 rw [Zat hy1] at hv
 rw [Zat hz] at hok
 simp only [List.length_append,List.length_cons,List.length_nil] at hl
 have N1:=Nw.start (w:=w) #[.int .i64 17,.slice Aw ws.length cw,.slice Au nums.length cu,.slice Ak ks.length ck,.int .i64 ps] h
 generalize hw1:w.alloc (.cells #[.int .i64 17,.slice Aw ws.length cw,.slice Au nums.length cu,.slice Ak ks.length ck,.int .i64 ps] 29)=w1 at *
 have H1:=Lib.hid N1
 have HN:=Lib.hid (And.intro hN (And.intro hq (And.intro hK (And.intro hkm hkl))))
 have HL:=Lib.hid hl
 have HI:=Lib.hid (And.intro hi0 (And.intro hjn (And.intro hy1 (And.intro hv hE))))
 have HJ:=Lib.hid (And.intro hi1 (And.intro hkn (And.intro hz (And.intro hok hB))))
 clear N1 hq hwl hwm hW hWl hul hum hU hkl hkm hK h hN hl hi0 hi1 hks hjn hkn hy1 hz hv hok hB hE
 obtain ⟨c0,c1,c2,c3,c4⟩:=Zg (x:=((.slice Aw ws.length cw,.slice Au nums.length cu,.slice Ak ks.length ck),⟨17,ws,nums,ks,ps⟩)) H1.out.k
 dsimp only at c0 c1 c2 c3 c4
 have AD:=Lib.hid (ZH w0 w1 bp dp t vn [119,104,105,108,101,32] H1.out.p (by have:=HL.out;simp only [List.length_cons,List.length_nil];omega))
 go_enter Tryz.func47,Tryz.ntmps47
 go_upto_region 22 with (go_at_call 26;(refine AD.out.mono ?_);rintro e w2 ⟨rfl,hp,hf⟩;have H2:=Lib.hid (H1.out.next hp hf);clear hp hf)
 clear c0 c1 c2 c3 c4
 obtain ⟨c0,c1,c2,c3,c4⟩:=Zg (x:=((.slice Aw ws.length cw,.slice Au nums.length cu,.slice Ak ks.length ck),⟨17,ws,nums,ks,ps⟩)) H2.out.k
 dsimp only at c0 c1 c2 c3 c4
 have KI:=Lib.hid (Zas w0 w2 bp dp _ vn ns _ 0 j ⟨H2.out.p,HN.out.1⟩ HN.out.2.1 HI.out.1 HI.out.2.1)
 go_upto_region 23 with (first
  | (go_at_call 32;(refine KI.out.mono ?_);rintro e w3 ⟨y,rfl,hy,hy2,hb⟩;have ey:y.2=y1:=Option.some.inj (hy.symm.trans HI.out.2.2.1);have H3:=Lib.hid (And.intro hy2 (And.intro (H2.out.below hb) ey));clear hy hy2 hb ey;have EX:=Lib.hid (HI.out.2.2.2.2 w3 bp dp _ vn y H3.out.2.1.p HN.out.1 H3.out.1 (H3.out.2.2▸HI.out.2.2.2.1) (by rw [H3.out.2.2];have:=HL.out;simp only [List.length_append,List.length_cons,List.length_nil];omega)))
  | (go_at_call 69;(refine EX.out.mono ?_);rintro e w4 ⟨rfl,hp,hf⟩;have H4:=Lib.hid (H3.out.2.1.next hp hf);clear hp hf))
 rw [H3.out.2.2] at H4
 clear KI EX c0 c1 c2 c3 c4
 obtain ⟨c0,c1,c2,c3,c4⟩:=Zg (x:=((.slice Aw ws.length cw,.slice Au nums.length cu,.slice Ak ks.length ck),⟨17,ws,nums,ks,ps⟩)) H4.out.k
 dsimp only at c0 c1 c2 c3 c4
 have KI:=Lib.hid (Zas w0 w4 bp dp _ vn ns _ 1 k ⟨H4.out.p,HN.out.1⟩ HN.out.2.1 HJ.out.1 HJ.out.2.1)
 go_wp2_with (first
  | (go_at_call 32;(refine KI.out.mono ?_);rintro e w5 ⟨y,rfl,hy,hy2,hb⟩;have ey:y.2=z:=Option.some.inj (hy.symm.trans HJ.out.2.2.1);have H5:=Lib.hid (And.intro hy2 (And.intro (H4.out.below hb) ey));clear hy hy2 hb ey;have EX:=Lib.hid (HJ.out.2.2.2.2 w5 bp _ vn y H5.out.2.1.p HN.out.1 H5.out.1 (H5.out.2.2▸HJ.out.2.2.2.1) (by rw [H5.out.2.2];have:=HL.out;simp only [List.length_append,List.length_cons,List.length_nil];omega)))
  | (go_at_call 31;(refine EX.out.mono ?_);rintro e w6 ⟨rfl,hp,hf⟩;have H6:=Lib.hid (H5.out.2.1.next hp hf);clear hp hf))
 rw [H5.out.2.2] at H6
 go_end0
 refine ⟨rfl,?_,H6.out.f⟩
 have:=H6.out.p
 simp only [List.append_assoc,List.cons_append,List.nil_append] at this ⊢
 exact this
theorem ZjX (w0 w:World) (bp dp:Nat) (t:Txt) (vn:Value) (ns:List Nd) (f:Nat) (x:NdV×Nd) (h:PrS w0 w bp t dp vn) (hN:Zf w0 vn ns) (hx:Zv w0 x) (hE:Zaj w0 ns f) (S:Nd->Prop) (hB:Za4 31 w0 ns dp S (Za5 ns f dp)) (hk:x.2.kind=16) (j:Nat) (r:List Int) (hks:x.2.kids=(j:Int)::r) (hr:r≠[]) (hjn:j<ns.length) (hv:ZX ns f (Ze ns j)) (hok:ZM ns r S) (hl:t.length+(Zi ns (f+1) dp x.2).length+10000<=140737488355328) :
  Calls Tryz.prog 47 #[.pointer (some ⟨bp,0,none⟩),ndX x] w fun e w'=>e=.returned (.tuple #[])/\PrS w0 w' bp (t++Zi ns (f+1) dp x.2) dp vn/\Fr w w' bp:=by
 have hq:=hx
 obtain ⟨⟨vw,vu,vk⟩,kd,ws,nums,ks,ps⟩:=x
 obtain ⟨hw,hu,hkk⟩:=hx
 dsimp only at hk hks hw hu hkk hl ⊢
 obtain ⟨Aw,cw,rfl,hwl,hwm,hW,hWl⟩:=hw
 obtain ⟨Au,cu,rfl,hul,hum,hU⟩:=hu
 obtain ⟨Ak,ck,rfl,hkl,hkm,hK⟩:=hkk
 subst hk
 obtain ⟨y1,hy1⟩:∃ z,ns[j]? = some z:=⟨_,List.getElem?_eq_getElem hjn⟩
 have hi0:ks[0]? = some (j:Int):=by rw [hks];rfl
 have hrl:1<=r.length:=by cases r with
  | nil=>exact absurd rfl hr
  | cons a b=>simp
 have hkl2:ks.length=r.length+1:=by rw [hks];simp
 have he:Zi ns (f+1) dp ⟨16,ws,nums,ks,ps⟩=[105,102,32]++Zu ns f y1++ZS [32,101,108,115,101] (r.map fun k=>Za5 ns f dp (Ze ns k)):=by
  have e1:=ZaA (n:=⟨16,ws,nums,ks,ps⟩) hi0 hy1
  have e2:ks.drop 1=r:=by rw [hks];rfl
  have e3:Zi ns (f+1) dp ⟨16,ws,nums,ks,ps⟩=[105,102,32]++Zu ns f (ZP ns ⟨16,ws,nums,ks,ps⟩ 0)++ZS [32,101,108,115,101] ((ks.drop 1).map fun k=>Za5 ns f dp (Ze ns k)):=by simp [Zi]
  rw [e3,e1,e2]
 rw [he] at hl ⊢
 clear he
 rw [Zat hy1] at hv
 simp only [List.length_append,List.length_cons,List.length_nil] at hl
 obtain ⟨ak,rfl,_⟩:=Zp hK h.below hi0 (by omega)
 have RT:=Zei hK 1 (by omega)
 rw [<- List.map_drop,show ks.drop 1=r by rw [hks];rfl,show ks.length-1=r.length by omega] at RT
 have lw2:(if ck=1 then some ak else some (⟨ak.block,ak.off+1,none⟩:Addr))=some ⟨ak.block,ak.off+1,none⟩:=by rw [if_neg (by omega)]
 have lz:ks.length-1=r.length:=by omega
 have jw2:(1:Int)<=(ks.length:Int):=by omega
 have N1:=Nw.start (w:=w) #[.int .i64 16,.slice Aw ws.length cw,.slice Au nums.length cu,.slice (some ak) ks.length ck,.int .i64 ps] h
 generalize hw1:w.alloc (.cells #[.int .i64 16,.slice Aw ws.length cw,.slice Au nums.length cu,.slice (some ak) ks.length ck,.int .i64 ps] 29)=w1 at *
 have H1:=Lib.hid N1
 have HN:=Lib.hid (And.intro hN (And.intro hq (And.intro hK (And.intro hkm hkl))))
 have HL:=Lib.hid hl
 have HI:=Lib.hid (And.intro hi0 (And.intro hjn (And.intro hy1 (And.intro hv hE))))
 have HJ:=Lib.hid (And.intro hok (And.intro hB (And.intro hkl2 RT)))
 clear N1 hq hwl hwm hW hWl hul hum hU hkl hkm hK h hN hl hi0 hks hr hrl hkl2 hjn hy1 hv hok hB hE RT
 obtain ⟨c0,c1,c2,c3,c4⟩:=Zg (x:=((.slice Aw ws.length cw,.slice Au nums.length cu,.slice (some ak) ks.length ck),⟨16,ws,nums,ks,ps⟩)) H1.out.k
 dsimp only at c0 c1 c2 c3 c4
 have AD:=Lib.hid (ZH w0 w1 bp dp t vn [105,102,32] H1.out.p (by have:=HL.out;simp only [List.length_cons,List.length_nil];omega))
 go_enter Tryz.func47,Tryz.ntmps47
 go_upto_region 18 with (go_at_call 26;(refine AD.out.mono ?_);rintro e w2 ⟨rfl,hp,hf⟩;have H2:=Lib.hid (H1.out.next hp hf);clear hp hf)
 clear c0 c1 c2 c3 c4
 obtain ⟨c0,c1,c2,c3,c4⟩:=Zg (x:=((.slice Aw ws.length cw,.slice Au nums.length cu,.slice (some ak) ks.length ck),⟨16,ws,nums,ks,ps⟩)) H2.out.k
 dsimp only at c0 c1 c2 c3 c4
 have KI:=Lib.hid (Zas w0 w2 bp dp _ vn ns _ 0 j ⟨H2.out.p,HN.out.1⟩ HN.out.2.1 HI.out.1 HI.out.2.1)
 go_upto_region 19 with (first
  | (go_at_call 32;(refine KI.out.mono ?_);rintro e w3 ⟨y,rfl,hy,hy2,hb⟩;have ey:y.2=y1:=Option.some.inj (hy.symm.trans HI.out.2.2.1);have H3:=Lib.hid (And.intro hy2 (And.intro (H2.out.below hb) ey));clear hy hy2 hb ey;have EX:=Lib.hid (HI.out.2.2.2.2 w3 bp dp _ vn y H3.out.2.1.p HN.out.1 H3.out.1 (H3.out.2.2▸HI.out.2.2.2.1) (by rw [H3.out.2.2];have:=HL.out;simp only [List.length_append,List.length_cons,List.length_nil];omega)))
  | (go_at_call 69;(refine EX.out.mono ?_);rintro e w4 ⟨rfl,hp,hf⟩;have H4:=Lib.hid (H3.out.2.1.next hp hf);clear hp hf))
 rw [H3.out.2.2] at H4
 clear KI EX c0 c1 c2 c3 c4
 obtain ⟨c0,c1,c2,c3,c4⟩:=Zg (x:=((.slice Aw ws.length cw,.slice Au nums.length cu,.slice (some ak) ks.length ck),⟨16,ws,nums,ks,ps⟩)) H4.out.k
 dsimp only at c0 c1 c2 c3 c4
 have BR:=Lib.hid (show Calls Tryz.prog 65 #[ZW bp,.slice (some ⟨ak.block,ak.off+1,none⟩) r.length (ck-1)] w4 (fun e w'=>e=.returned (.tuple #[])/\PrS w0 w' bp (_++ZS [32,101,108,115,101] (r.map fun k=>Za5 ns f dp (Ze ns k))) dp vn/\Fr w4 w' bp) from Zdf w0 w4 bp dp _ vn ns (some (ak.add 1)) (ck-1) r S (Za5 ns f dp) H4.out.p HN.out.1 HJ.out.2.2.2 (by have:=HN.out.2.2.2;have:=HJ.out.2.2.1;omega) HJ.out.1 HJ.out.2.1 (by have:=HL.out;simp only [List.length_append,List.length_cons,List.length_nil];omega))
 go_wp2_with (go_at_call 65;(refine BR.out.mono ?_);rintro e w5 ⟨rfl,hp,hf⟩;have H5:=Lib.hid (H4.out.next hp hf);clear hp hf)
 go_end0
 refine ⟨rfl,?_,H5.out.f⟩
 have:=H5.out.p
 simp only [List.append_assoc,List.cons_append,List.nil_append] at this ⊢
 exact this
theorem Zj0 (w0 w:World) (bp dp:Nat) (t:Txt) (vn:Value) (ns:List Nd) (f:Nat) (x:NdV×Nd) (h:PrS w0 w bp t dp vn) (hN:Zf w0 vn ns) (hx:Zv w0 x) (hk:x.2.kind=19) (hl:t.length+(Zi ns (f+1) dp x.2).length+10000<=140737488355328) :
  Calls Tryz.prog 47 #[.pointer (some ⟨bp,0,none⟩),ndX x] w fun e w'=>e=.returned (.tuple #[])/\PrS w0 w' bp (t++Zi ns (f+1) dp x.2) dp vn/\Fr w w' bp:=by
 have hq:=hx
 obtain ⟨⟨vw,vu,vk⟩,kd,ws,nums,ks,ps⟩:=x
 obtain ⟨hw,hu,hkk⟩:=hx
 dsimp only at hk hw hu hkk hl ⊢
 obtain ⟨Aw,cw,rfl,hwl,hwm,hW,hWl⟩:=hw
 obtain ⟨Au,cu,rfl,hul,hum,hU⟩:=hu
 obtain ⟨Ak,ck,rfl,hkl,hkm,hK⟩:=hkk
 subst hk
 have he:Zi ns (f+1) dp ⟨19,ws,nums,ks,ps⟩=[101,120,105,116,59]:=by simp [Zi]
 rw [he] at hl ⊢
 clear he
 simp only [List.length_cons,List.length_nil] at hl
 have N1:=Nw.start (w:=w) #[.int .i64 19,.slice Aw ws.length cw,.slice Au nums.length cu,.slice Ak ks.length ck,.int .i64 ps] h
 generalize hw1:w.alloc (.cells #[.int .i64 19,.slice Aw ws.length cw,.slice Au nums.length cu,.slice Ak ks.length ck,.int .i64 ps] 29)=w1 at *
 have H1:=Lib.hid N1
 have HN:=Lib.hid (And.intro hN (And.intro hq (And.intro hK (And.intro hkm hkl))))
 have HL:=Lib.hid hl
 clear N1 hq hwl hwm hW hWl hul hum hU hkl hkm hK h hN hl
 obtain ⟨c0,c1,c2,c3,c4⟩:=Zg (x:=((.slice Aw ws.length cw,.slice Au nums.length cu,.slice Ak ks.length ck),⟨19,ws,nums,ks,ps⟩)) H1.out.k
 dsimp only at c0 c1 c2 c3 c4
 have AD:=Lib.hid (ZH w0 w1 bp dp t vn [101,120,105,116,59] H1.out.p (by have:=HL.out;simp only [List.length_cons,List.length_nil];omega))
 go_enter Tryz.func47,Tryz.ntmps47
 go_wp2_with (go_at_call 26;(refine AD.out.mono ?_);rintro e w2 ⟨rfl,hp,hf⟩;have H2:=Lib.hid (H1.out.next hp hf);clear hp hf)
 go_end0
 exact ⟨rfl,H2.out.p,H2.out.f⟩
structure PTabs (w0:World):Prop where
 kinds:ZV w0 0 ZbU
 names:ZV w0 1 ZaN
 signs:ZV w0 2 ZbD
 ten:Zb7 w0 w0
theorem ZbJ {ns:List Nd} {k:Int} {P:Nd->Prop} (h:ZM ns [k] P):∃ m:Nat,k=m/\m<ns.length/\P (Ze ns (m:Int)):=by
 obtain ⟨h0,h1,h2⟩:=h k (by simp)
 obtain ⟨m,rfl⟩:=Int.eq_ofNat_of_zero_le h0
 exact ⟨m,rfl,by omega,h2⟩
theorem Zdv (w0:World) (ns:List Nd) (T:PTabs w0):∀ (f dp:Nat),dp+2*f<3999->Za4 47 w0 ns dp (fun n=>ZaM ns f n) (fun n=>Zi ns f dp n)
 | 0,dp,_=>fun w bp t vn x h hN hx hok hl=>hok.elim
 | f+1,dp,hd=>by
  intro w bp t vn x h hN hx hok hl
  have hE:=ZiU w0 ns T.ten T.signs f
  have hB:=ZcS w0 ns dp (fun n=>ZaM ns f n) (fun n=>Zi ns f (dp+1) n) (by omega) (Zdv w0 ns T f (dp+1) (by omega))
  dsimp only at hok hl ⊢
  rw [ZaM] at hok
  rcases hok with ⟨hk,⟨s,hn⟩,k,hks,hv⟩ | ⟨hk,⟨a,b,hn⟩,_,hok⟩ | ⟨hk,hn,hok⟩ | ⟨hk,⟨a,b,hn⟩,⟨p,q,r,hm,h0,h4,hq,hr⟩,l,k,hks,hol,hok⟩ | ⟨hk,hn,hok⟩ | ⟨hk,k,r,hks,hr,hv,hok⟩ | ⟨hk,j,k,hks,hv,hok⟩ | ⟨hk,k,hks,hv⟩ | hk
  ·obtain ⟨m,rfl,hm,hv⟩:=ZbJ hv
   rcases hk with hk | hk
   ·exact Zko w0 w bp dp t vn ns f x h hN hx hE hk s [] m hn (by rw [hks];rfl) hm hv hl
   ·exact Zkp w0 w bp dp t vn ns f x h hN hx hE hk s [] m hn (by rw [hks];rfl) hm hv hl
  ·exact ZjT w0 w bp dp t vn ns f x h hN hx _ hB hk a b hn hok hl
  ·exact ZjU w0 w bp dp t vn ns f x h hN hx (by omega) _ (ZcS w0 ns (dp+1) (fun n=>ZaM ns f n) (fun n=>Zi ns f (dp+1+1) n) (by omega) (Zdv w0 ns T f (dp+1+1) (by omega))) hk hn hok hl
  ·obtain ⟨m,rfl,hm2,hok⟩:=ZbJ hok
   obtain ⟨p,rfl⟩:=Int.eq_ofNat_of_zero_le h0
   exact ZjV w0 w bp dp t vn ns f x h hN hx T.kinds T.names T.ten _ hB hk a b hn p q r hm (by omega) hq hr l m hks hol hm2 hok hl
  ·exact ZjW w0 w bp dp t vn ns f x h hN hx hE hk hn hok hl
  ·obtain ⟨m,rfl,hm,hv⟩:=ZbJ hv
   exact ZjX w0 w bp dp t vn ns f x h hN hx hE _ hB hk m r hks hr hm hv hok hl
  ·obtain ⟨m,rfl,hm,hv⟩:=ZbJ hv
   obtain ⟨m2,rfl,hm2,hok⟩:=ZbJ hok
   exact ZjY w0 w bp dp t vn ns f x h hN hx hE _ hB hk m m2 hks hm hv hm2 hok hl
  ·obtain ⟨m,rfl,hm,hv⟩:=ZbJ hv
   exact ZjZ w0 w bp dp t vn ns f x h hN hx hE hk m (by rw [hks];rfl) hm hv hl
  ·exact Zj0 w0 w bp dp t vn ns f x h hN hx hk hl
end
section
open Go.RowKit
theorem Zh0 (w0:World) (ns:List Nd) (T:PTabs w0) (f:Nat) (hf:f<=1500):Za4 13 w0 ns 0 (Zd2 ns f) (ZaE ns f):=by
 intro w bp t vn x h hN hx hok hl
 rcases hok with ⟨hk,⟨s,hn⟩,hok⟩ | ⟨hk,⟨s,hn⟩,l,k,hks,hol,hok⟩
 ·exact ZgT w0 w bp t vn ns f x h hN hx hk s hn hok hl
 ·obtain ⟨m,rfl,hm,hok⟩:=ZbJ hok
  exact ZjK w0 w bp t vn ns f x h hN hx T.kinds T.names T.ten _ (Zdv w0 ns T f 1 (by omega)) hk s hn l m hks hol hm hok hl
theorem ZhJ {w:World} {base:Nat} {t:Txt} {v:Value} (h:w.ownsRow base 5 1 v t.length (u8s t)):(convert 35 9 v).run Tryz.prog w=.ok (txt t) w:=by
 obtain ⟨_,⟨rfl,hn⟩ | ⟨g,cap,cur,rfl,_,hg,_,_,_,htk⟩⟩:=h
 ·obtain rfl:t=[]:=List.length_eq_zero_iff.mp hn
  exact Lib.run_convert_nil_bytes w _ _ 5 0 Tryz.underlying35 Tryz.underlying5 Tryz.underlying9
 ·refine run_convert_bytes_back w _ _ 5 ⟨g,0,none⟩ cap t Tryz.underlying35 Tryz.underlying5 Tryz.underlying9 (Lib.bytes_of_row hg ?_)
  rw [<- ZcR]
  simpa using htk
theorem Zd0 (w:World) (v:Value) (ns:List Nd) (hN:Zf w v ns) (hk:ZV w 3 Zx) (T:PTabs w) (hl:(ZaT ns).length+10000<=140737488355328) :
  Calls Tryz.prog 7 #[v] w fun e w'=>e=.returned (txt (ZaT ns))/\Below w.heap.size w w':=by
 have RG:=Lib.hid (Zjf ZiH w v ns hN hk)
 obtain ⟨An,cn,rs,rfl,hR0⟩:=id hN
 have hR1:=Lib.hid hR0
 clear hR0
 cases hr:ZaI ns
 ·rw [hr] at RG
  have e0:ZaT ns=[]:=by unfold ZaT;rw [hr];rfl
  rw [e0]
  clear hl T hk hN hr e0
  go_enter Tryz.func7,Tryz.ntmps7
  go_wp2_with (go_at_call 11;(with_reducible refine RG.out.mono ?_);rintro e w1 ⟨rfl,hb⟩;have HB:=Lib.hid hb;clear hb)
  go_ret
  exact ⟨rfl,HB.out⟩
 ·rw [hr] at RG
  have R:=ZbL hr
  have e0:ZaT ns=Zav 0 ((Ze ns 0).kids.map fun k=>ZaE ns ns.length (Ze ns k)):=by unfold ZaT;rw [hr];rfl
  rw [e0] at hl ⊢
  have OK:=Lib.hid (Zc0 R)
  have hnl:=R.some_
  have h1500:=R.len
  obtain ⟨d,hd⟩:∃ d,ns[0]? = some d:=⟨_,List.getElem?_eq_getElem hnl⟩
  have ed:Ze ns 0=d:=Zat (k:=0) hd
  rw [ed] at hl OK ⊢
  obtain ⟨r,hr0⟩:∃ r,rs[0]? = some r:=⟨_,List.getElem?_eq_getElem (by have:=congrArg List.length hR1.out.2.2.1;rw [List.length_map] at this;omega)⟩
  obtain rfl:r.2=d:=by
   have:ns[0]? = some r.2:=by rw [<- hR1.out.2.2.1,List.getElem?_map,hr0];rfl
   exact Option.some.inj (this.symm.trans hd)
  obtain ⟨⟨vw,vu,vk⟩,kd,ws,nums,ks,ps⟩:=r
  obtain ⟨hw,hu,hkk⟩:=hR1.out.2.2.2.2 _ (List.mem_of_getElem? hr0)
  dsimp only at hw hu hkk hl OK ⊢
  obtain ⟨Aw,cw,rfl,_⟩:=hw
  obtain ⟨Au,cu,rfl,_⟩:=hu
  obtain ⟨Ak,ck,rfl,hkl,hkm,hK⟩:=hkk
  have i1:(0:Int)<(ns.length:Int):=by omega
  have HN:=Lib.hid (And.intro hN (And.intro hr0 (And.intro hK (And.intro hkm hkl))))
  have HT:=Lib.hid (And.intro T (And.intro hl (And.intro hnl h1500)))
  clear hr R e0 hl T hk hN hd ed hr0 hkl hkm hK hnl h1500
  go_enter Tryz.func7,Tryz.ntmps7
  go_upto_region 3 with (go_at_call 11;(with_reducible refine RG.out.mono ?_);rintro e w1 ⟨rfl,hb⟩;have HB:=Lib.hid hb;clear hb)
  go_upto_region 4 with fail
  have a2:=Zb w1 (.cells #[.slice none 0 0,.int .i64 0,.slice An ns.length cn] 39)
  have B2:Zm _ _ _ _:=Zm.start w1 #[.slice none 0 0,.int .i64 0,.slice An ns.length cn] 39
  generalize hw2:w1.alloc (.cells #[.slice none 0 0,.int .i64 0,.slice An ns.length cn] 39)=w2 at *
  have P2:=Lib.hid (show PrS w w2 w1.heap.size [] 0 (.slice An ns.length cn) from ⟨⟨_,B2,⟨rfl,.inl ⟨rfl,rfl⟩⟩⟩,HB.out.trans (a2.mono HB.out.size),HB.out.size⟩)
  clear a2 B2
  obtain ⟨an,rfl,n0,n1,n2,n3,n4⟩:=ZK hR1.out.2.2.2.1 P2.out.below HN.out.2.1 (by omega)
  have ea:an.add (0*5)=an:=by unfold Addr.add;simp
  rw [ea] at n0 n1 n2 n3 n4
  dsimp only at n0 n1 n2 n3 n4
  have LI:=Lib.hid (ZeO _ Zf3 w w2 w1.heap.size 0 [] _ ns Ak ck ks _ _ P2.out HN.out.1 (by omega) HN.out.2.2.1 (by have:=HN.out.2.2.2;omega) OK.out (Zh0 w ns HT.out.1 ns.length HT.out.2.2.2) (by have:=HT.out.2.1;simpa using this))
  go_upto_region 5 with (go_at_call 12;(refine LI.out.mono ?_);rintro e w3 ⟨rfl,hp,hf⟩;have H3:=Lib.hid hp;clear hp hf)
  obtain ⟨v3,hv3,ho3⟩:=H3.out.box
  have c3:=hv3.blk.cell 0
  simp only [List.getElem?_toArray,List.getElem?_cons_zero] at c3
  have cv:=ZhJ ho3
  obtain ⟨A3,c3',rfl⟩:=ZaY ho3
  rw [List.nil_append] at cv c3
  clear hv3 ho3 n0 n1 n2 n3 n4
  go_wp2_with fail
  go_ret
  exact ⟨rfl,H3.out.below⟩
end
section
open Go.RowKit
structure ShoTabs (W:World):Prop where
 keys:ZV W 3 Zx
 p:PTabs W
theorem PTabs.below {w w':World} (h:PTabs w) (hb:Below w.heap.size w w'):PTabs w':=⟨h.kinds.below hb,h.names.below hb,h.signs.below hb,fun w2 h2=>h.ten w2 (hb.trans (h2.mono hb.size))⟩
theorem ShoTabs.below {w w':World} (h:ShoTabs w) (hb:Below w.heap.size w w'):ShoTabs w':=⟨h.keys.below hb,h.p.below hb⟩
theorem Tryz.gKinds:Tryz.prog.globalNamed "ballcock/show.kinds"=some 0:=by kernel_rfl
theorem Tryz.gKindsType:(Tryz.prog.globals[0]?).map (·.type)=some 60:=by kernel_rfl
theorem Tryz.gNamesW:Tryz.prog.globalNamed "ballcock/show.namesWords"=some 1:=by kernel_rfl
theorem Tryz.gNamesWType:(Tryz.prog.globals[1]?).map (·.type)=some 70:=by kernel_rfl
theorem Tryz.gShoSigns:Tryz.prog.globalNamed "ballcock/show.signs"=some 2:=by kernel_rfl
theorem Tryz.gShoSignsType:(Tryz.prog.globals[2]?).map (·.type)=some 97:=by kernel_rfl
theorem Tryz.gTen:Tryz.prog.globalNamed "internal/strconv.uint64pow10"=some 5:=by kernel_rfl
theorem Tryz.gTenType:(Tryz.prog.globals[5]?).map (·.type)=some 114:=by kernel_rfl
theorem Zjk {W:World} (h:laidMetH Tryz.prog [("math/bits.deBruijn32tab",Rows.laid_math_bits_deBruijn32tab),("math/bits.deBruijn64tab",Rows.laid_math_bits_deBruijn64tab),("internal/strconv.uint64pow10",Rows.laid_internal_strconv_uint64pow10),("ballcock/lex.keywords",Rows.laid_ballcock_lex_keywords),("ballcock/show.signs",Rows.laid_ballcock_show_signs),("ballcock/show.kinds",Rows.laid_ballcock_show_kinds),("ballcock/show.namesWords",Rows.laid_ballcock_show_namesWords)] W):ShoTabs W:=by
 rw [MakeChecks.laidMetH_plain _ _ _ (by kernel_rfl)] at h
 have h2:=laidMet.tail (laidMet.tail h)
 have h3:=laidMet.tail h2
 have h4:=laidMet.tail h3
 have h5:=laidMet.tail h4
 have h6:=laidMet.tail h5
 exact ⟨ZbX (zs:=Zx) Tryz.gKeys Tryz.gKeysType Tryz.underlying98 Tryz.underlying9 Tryz.cellsS (by kernel_rfl) h3,
  ZbX (zs:=ZbU) Tryz.gKinds Tryz.gKindsType Tryz.underlying60 Tryz.underlying9 Tryz.cellsS (by kernel_rfl) h5,
  ZbX (zs:=ZaN) (rest:=[]) Tryz.gNamesW Tryz.gNamesWType Tryz.underlying70 Tryz.underlying9 Tryz.cellsS (by kernel_rfl) h6,
  ZbX (zs:=ZbD) Tryz.gShoSigns Tryz.gShoSignsType Tryz.underlying97 Tryz.underlying9 Tryz.cellsS (by kernel_rfl) h4,
  Lib.tabBelow_of_tabIs (Lib.tabIs_of_head (zs:=Lib.pow10Tab) Tryz.gTen Tryz.gTenType Tryz.underlying114 Tryz.underlying77 (by kernel_rfl) (by kernel_rfl) h2)⟩
def ns8:List Nd:=[⟨0,[],[],[1],0⟩,⟨4,[[109,97,105,110]],[],[2],0⟩,⟨7,[],[],[3],0⟩,⟨19,[],[],[],0⟩]
def ZkA:Txt:=[102,110,32,109,97,105,110,40,41,32,123,10,32,32,101,120,105,116,59,10,125,10]
theorem Zjv:ZaT ns8=ZkA:=by decide +kernel
theorem ZfV:ZaT []=[]:=by decide +kernel
theorem Zjj (w:World) (l:List Txt) (ty:TypeId) (h:l.length<=maxLen) (hs:∀ s∈l,s.length<=maxLen):Zbf (w.alloc (.cells (l.map txt).toArray ty)) (.slice (some ⟨w.heap.size,0,none⟩) l.length l.length) l:=
 ⟨_,_,rfl,Nat.le_refl _,h,by simpa using Zca w (l.map txt) ty,hs⟩
theorem ZgO (w:World) (ht:ShoTabs w):Calls Tryz.prog 4 #[] w fun e w'=>e=.returned (.bool true)/\Below w.heap.size w w':=by
 have a1:=Zb w (.cells #[.int .i64 1] 3)
 have K1:Zad (w.alloc (.cells #[.int .i64 1] 3)) (.slice (some ⟨w.heap.size,0,none⟩) 1 1) [1]:=Zb3 w [1] 3 (by simp [maxLen])
 generalize hw1:w.alloc (.cells #[.int .i64 1] 3)=w1 at *
 have a2:=Zb w1 (.cells #[txt [109,97,105,110]] 9)
 have K2:Zbf (w1.alloc (.cells #[txt [109,97,105,110]] 9)) (.slice (some ⟨w1.heap.size,0,none⟩) 1 1) [[109,97,105,110]]:=Zjj w1 [[109,97,105,110]] 9 (by simp [maxLen]) (by simp [maxLen])
 generalize hw2:w1.alloc (.cells #[txt [109,97,105,110]] 9)=w2 at *
 have a3:=Zb w2 (.cells #[.int .i64 2] 3)
 have K3:Zad (w2.alloc (.cells #[.int .i64 2] 3)) (.slice (some ⟨w2.heap.size,0,none⟩) 1 1) [2]:=Zb3 w2 [2] 3 (by simp [maxLen])
 generalize hw3:w2.alloc (.cells #[.int .i64 2] 3)=w3 at *
 have a4:=Zb w3 (.cells #[.int .i64 3] 3)
 have K4:Zad (w3.alloc (.cells #[.int .i64 3] 3)) (.slice (some ⟨w3.heap.size,0,none⟩) 1 1) [3]:=Zb3 w3 [3] 3 (by simp [maxLen])
 generalize hw4:w3.alloc (.cells #[.int .i64 3] 3)=w4 at *
 have a5:=Zb w4 (.cells #[.int .i64 0,.slice none 0 0,.slice none 0 0,.slice (some ⟨w.heap.size,0,none⟩) 1 1,.int .i64 0,.int .i64 4,.slice (some ⟨w1.heap.size,0,none⟩) 1 1,.slice none 0 0,.slice (some ⟨w2.heap.size,0,none⟩) 1 1,.int .i64 0,.int .i64 7,.slice none 0 0,.slice none 0 0,.slice (some ⟨w3.heap.size,0,none⟩) 1 1,.int .i64 0,.int .i64 19,.slice none 0 0,.slice none 0 0,.slice none 0 0,.int .i64 0] 29)
 have N5:Zf (w4.alloc (.cells #[.int .i64 0,.slice none 0 0,.slice none 0 0,.slice (some ⟨w.heap.size,0,none⟩) 1 1,.int .i64 0,.int .i64 4,.slice (some ⟨w1.heap.size,0,none⟩) 1 1,.slice none 0 0,.slice (some ⟨w2.heap.size,0,none⟩) 1 1,.int .i64 0,.int .i64 7,.slice none 0 0,.slice none 0 0,.slice (some ⟨w3.heap.size,0,none⟩) 1 1,.int .i64 0,.int .i64 19,.slice none 0 0,.slice none 0 0,.slice none 0 0,.int .i64 0] 29)) (.slice (some ⟨w4.heap.size,0,none⟩) 4 4) ns8:=
  Zic w4 [((.slice none 0 0,.slice none 0 0,.slice (some ⟨w.heap.size,0,none⟩) 1 1),⟨0,[],[],[1],0⟩),((.slice (some ⟨w1.heap.size,0,none⟩) 1 1,.slice none 0 0,.slice (some ⟨w2.heap.size,0,none⟩) 1 1),⟨4,[[109,97,105,110]],[],[2],0⟩),((.slice none 0 0,.slice none 0 0,.slice (some ⟨w3.heap.size,0,none⟩) 1 1),⟨7,[],[],[3],0⟩),((.slice none 0 0,.slice none 0 0,.slice none 0 0),⟨19,[],[],[],0⟩)] 29 (by simp [maxLen]) (fun x hx=>by
   simp only [List.mem_cons,List.not_mem_nil,or_false] at hx
   rcases hx with rfl | rfl | rfl | rfl
   ·exact ⟨Zbf.nil _,Zad.nil _,(((K1.below a2).below a3).below a4).below a5⟩
   ·exact ⟨((K2.below a3).below a4).below a5,Zad.nil _,(K3.below a4).below a5⟩
   ·exact ⟨Zbf.nil _,Zad.nil _,K4.below a5⟩
   ·exact ⟨Zbf.nil _,Zad.nil _,Zad.nil _⟩)
 generalize hw5:w4.alloc (.cells #[.int .i64 0,.slice none 0 0,.slice none 0 0,.slice (some ⟨w.heap.size,0,none⟩) 1 1,.int .i64 0,.int .i64 4,.slice (some ⟨w1.heap.size,0,none⟩) 1 1,.slice none 0 0,.slice (some ⟨w2.heap.size,0,none⟩) 1 1,.int .i64 0,.int .i64 7,.slice none 0 0,.slice none 0 0,.slice (some ⟨w3.heap.size,0,none⟩) 1 1,.int .i64 0,.int .i64 19,.slice none 0 0,.slice none 0 0,.slice none 0 0,.int .i64 0] 29)=w5 at *
 have b5:Below w.heap.size w w5:=a1.trans ((a2.mono a1.size).trans ((a3.mono (Nat.le_trans a1.size a2.size)).trans ((a4.mono (Nat.le_trans a1.size (Nat.le_trans a2.size a3.size))).trans (a5.mono (Nat.le_trans a1.size (Nat.le_trans a2.size (Nat.le_trans a3.size a4.size)))))))
 have t5:=ht.below b5
 have S1:=Lib.hid (Zd0 w5 _ _ N5 t5.keys t5.p (by rw [Zjv];decide))
 rw [Zjv] at S1
 have S2:=Lib.hid (fun w' (hb:Below w5.heap.size w5 w')=>Zd0 w' _ _ (Zf.nil w') (t5.below hb).keys (t5.below hb).p (by rw [ZfV];decide))
 rw [ZfV] at S2
 have HB:=Lib.hid b5
 clear ht K1 K2 K3 K4 N5 a1 a2 a3 a4 a5 b5 t5
 go_enter Tryz.func4,Tryz.ntmps4
 go_wp2_with (first
  | (go_at_call 7;(with_reducible refine S1.out.mono ?_);rintro e2 w6 ⟨rfl,hb⟩;have B6:=Lib.hid hb;clear hb)
  | (go_at_call 7;(with_reducible refine (S2.out _ B6.out).mono ?_);rintro e3 w7 ⟨rfl,hb⟩;have B7:=Lib.hid (B6.out.trans (hb.mono B6.out.size));clear hb))
 go_ret
 exact ⟨rfl,HB.out.trans (B7.out.mono HB.out.size)⟩
end
section
open Go.RowKit
theorem st8 {ns:List Nd} {f e:Nat} {n:Nd} (hk:n.kind=8):Zi ns (f+1) e n=[108,101,116,32]++(ZD n 0++[32,61,32]++Zu ns f (ZP ns n 0)++[59]):=by simp [Zi,hk,Zcf]
theorem st9 {ns:List Nd} {f e:Nat} {n:Nd} (hk:n.kind=9):Zi ns (f+1) e n=ZD n 0++[32,61,32]++Zu ns f (ZP ns n 0)++[59]:=by simp [Zi,hk,Zcf]
theorem Zkg {ns:List Nd} {f e:Nat} {n:Nd} (hk:n.kind=10):Zi ns (f+1) e n=[111,112,101,110,32]++ZD n 0++[32]++ZD n 1++ZS [32,101,108,115,101] (n.kids.map fun k=>ZA e ((Ze ns k).kids.map fun k=>Zi ns f (e+1) (Ze ns k))):=by simp [Zi,hk]
theorem Zkh {ns:List Nd} {f e:Nat} {n:Nd} (hk:n.kind=11):Zi ns (f+1) e n=[100,111,32]++ZD n 0++[46]++ZD n 1++(if n.kids=[] then [59] else ZA e (n.kids.map fun k=>ZD (Ze ns k) 0++ZA (e+1) ((ZP ns (Ze ns k) 0).kids.map fun k=>Zi ns f (e+1+1) (Ze ns k)))):=by simp [Zi,hk]
theorem Zki {ns:List Nd} {f e:Nat} {n:Nd} (hk:n.kind=13):Zi ns (f+1) e n=[115,112,108,105,116,32]++ZD n 0++[32,61,32]++ZD n 1++[32]++Zaz (num n 0)++[32]++Zbo (num n 1) (num n 2)++((n.kids.take (n.kids.length-1)).map fun k=>Zai (Ze ns k)).flatten++ZA e ((ZP ns n (n.kids.length-1)).kids.map fun k=>Zi ns f (e+1) (Ze ns k)):=by simp [Zi,hk]
theorem Zkj {ns:List Nd} {f e:Nat} {n:Nd} (hk:n.kind=14):Zi ns (f+1) e n=[99,97,108,108,32]++(if n.words.length=2 then ZD n 1++[32,61,32] else [])++ZD n 0++[40]++ZS [44,32] (n.kids.map fun k=>ZaU ns f (Ze ns k))++[41,59]:=by simp [Zi,hk]
theorem Zkk {ns:List Nd} {f e:Nat} {n:Nd} (hk:n.kind=16):Zi ns (f+1) e n=[105,102,32]++Zu ns f (ZP ns n 0)++ZS [32,101,108,115,101] ((n.kids.drop 1).map fun k=>ZA e ((Ze ns k).kids.map fun k=>Zi ns f (e+1) (Ze ns k))):=by simp [Zi,hk]
theorem Zkl {ns:List Nd} {f e:Nat} {n:Nd} (hk:n.kind=17):Zi ns (f+1) e n=[119,104,105,108,101,32]++Zu ns f (ZP ns n 0)++ZA e ((ZP ns n 1).kids.map fun k=>Zi ns f (e+1) (Ze ns k)):=by simp [Zi,hk]
theorem Zkm {ns:List Nd} {f e:Nat} {n:Nd} (hk:n.kind=18):Zi ns (f+1) e n=[114,101,116,117,114,110,32]++Zu ns f (ZP ns n 0)++[59]:=by simp [Zi,hk]
theorem Zkn {ns:List Nd} {f e:Nat} {n:Nd} (hk:n.kind=19):Zi ns (f+1) e n=[101,120,105,116,59]:=by simp [Zi,hk]
section
variable {ns B:List Nd} {s:Int} (E:Emb ns B s) (R:RightP ns)
include E R
theorem Zgx {i:Nat} {d:Nd} (hd:ns[i]? = some d) {k:Int} (hk:k∈d.kids):Ze B (k+s)=shD s (Ze ns k)/\∃ j:Nat,ns[j]? = some (Ze ns k):=by
 obtain ⟨m,e,rfl,h1,h2,h3,h4,_⟩:=Zfx R hd hk
 exact ⟨E _ (by omega) (by omega),m,by rw [h4];exact h3⟩
theorem Zby {α:Type} {i:Nat} {d:Nd} (hd:ns[i]? = some d) (ks:List Int) (hs:∀ k∈ks,k∈d.kids) (F G:Nd->α) (h:∀ k∈ks,∀ j:Nat,ns[j]? = some (Ze ns k)->F (shD s (Ze ns k))=G (Ze ns k)):(ks.map (·+s)).map (fun k=>F (Ze B k))=ks.map fun k=>G (Ze ns k):=by
 rw [List.map_map]
 refine List.map_congr_left fun k hk=>?_
 obtain ⟨e,j,hj⟩:=Zgx E R hd (hs k hk)
 show F (Ze B (k+s))=_
 rw [e]
 exact h k hk j hj
theorem Zb1 {i:Nat} {d:Nd} (hd:ns[i]? = some d) {m:Nat} {k:Int} (hk:d.kids[m]? = some k):ZP B (shD s d) m=shD s (ZP ns d m)/\ZP ns d m=Ze ns k/\∃ j:Nat,ns[j]? = some (Ze ns k):=by
 obtain ⟨e,j,hj⟩:=Zgx E R hd (List.mem_of_getElem? hk)
 have e1:ZP ns d m=Ze ns k:=by
  unfold ZP atI
  rw [Int.toNat_natCast,hk]
  rfl
 have e2:ZP B (shD s d) m=Ze B (k+s):=by
  unfold ZP atI
  show Ze B (((d.kids.map (·+s))[((m:Nat):Int).toNat]?).getD (-1))=_
  rw [Int.toNat_natCast,List.getElem?_map,hk]
  rfl
 exact ⟨by rw [e1,e2,e],e1,j,hj⟩
theorem ZdO:∀ (f g i:Nat) (d:Nd),ns[i]? = some d->ZX ns f d->f<=g->Zu B g (shD s d)=Zu ns f d
 | 0,_,_,_,_,h,_=>h.elim
 | f+1,g,i,d,hd,h,hg=>by
  obtain ⟨g,rfl⟩:∃ g',g=g'+1:=⟨g-1,by omega⟩
  have sg:ZO (shD s d)=ZO d:=rfl
  have op:∀ (m:Nat) (k:Int) (l:Nat),d.kids[m]? = some k->ZX ns f (Ze ns k)->(if l<=ZO (ZP B (shD s d) m) then Zu B g (ZP B (shD s d) m) else [40]++Zu B g (ZP B (shD s d) m)++[41])=(if l<=ZO (ZP ns d m) then Zu ns f (ZP ns d m) else [40]++Zu ns f (ZP ns d m)++[41]):=fun m k l hk hv=>by
   obtain ⟨e1,e2,j,hj⟩:=Zb1 E R hd hk
   rw [e1,e2,ZdO f g j _ hj hv (by omega)]
   rfl
  have k0:(shD s d).kind=d.kind:=rfl
  obtain ⟨_,⟨hk,_⟩ | ⟨hk,_⟩ | ⟨hk,k,hi,hkn,hv⟩ | ⟨hk,j,k,hi,hjn,hv,hi2,hkn,hv2⟩⟩:=h
  ·simp only [Zu,k0,hk,if_true]
   rfl
  ·simp [Zu,k0,hk]
   rfl
  ·have:=op 0 k 3 hi hv
   simp only [Zu,k0,hk]
   simpa using this
  ·have h1:=op 0 j (max (ZO d) 1) hi hv
   have h2:=op 1 k (ZO d+1) hi2 hv2
   have e:num (shD s d) 0=num d 0:=rfl
   simp only [Zu,k0,hk,sg,e]
   rw [h1,h2]
   rfl
theorem ZjG (f g i:Nat) (d:Nd) (hd:ns[i]? = some d) (h:Zch ns f d) (hg:f<=g):ZaU B g (shD s d)=ZaU ns f d:=by
 have k0:(shD s d).kind=d.kind:=rfl
 unfold ZaU
 rw [k0]
 rcases h with ⟨hk,_⟩ | ⟨hk,hv⟩
 ·rw [if_pos hk,if_pos hk];rfl
 ·rw [if_neg hk,if_neg hk]
  exact ZdO E R f g i d hd hv hg
theorem Zft:∀ (f g i e:Nat) (d:Nd),ns[i]? = some d->ZaM ns f d->f<=g->Zi B g e (shD s d)=Zi ns f e d
 | 0,_,_,_,_,_,h,_=>h.elim
 | f+1,g,i,e,d,hd,h,hg=>by
  obtain ⟨g,rfl⟩:∃ g',g=g'+1:=⟨g-1,by omega⟩
  have k0:(shD s d).kind=d.kind:=rfl
  have w:∀ m,ZD (shD s d) m=ZD d m:=fun m=>rfl
  have u:∀ m,num (shD s d) m=num d m:=fun m=>rfl
  have blk:∀ (e2 j:Nat) (m:Nd),ns[j]? = some m->Za8 ns (fun x=>ZaM ns f x) m->ZA e2 ((shD s m).kids.map fun k=>Zi B g (e2+1) (Ze B k))=ZA e2 (m.kids.map fun k=>Zi ns f (e2+1) (Ze ns k)):=fun e2 j m hj hm=>by
   have:=Zby E R hj m.kids (fun k hk=>hk) (fun n=>Zi B g (e2+1) n) (fun n=>Zi ns f (e2+1) n) fun k hk j2 hj2=>Zft f g j2 (e2+1) _ hj2 (hm k hk).2.2 (by omega)
   rw [<- this]
   rfl
  have blks:∀ (ks:List Int),(∀ k∈ks,k∈d.kids)->ZM ns ks (Za8 ns fun x=>ZaM ns f x)->(ks.map (·+s)).map (fun k=>ZA e ((Ze B k).kids.map fun k=>Zi B g (e+1) (Ze B k)))=ks.map fun k=>ZA e ((Ze ns k).kids.map fun k=>Zi ns f (e+1) (Ze ns k)):=fun ks hs hok=>
   Zby E R hd ks hs (fun m=>ZA e (m.kids.map fun k=>Zi B g (e+1) (Ze B k))) (fun m=>ZA e (m.kids.map fun k=>Zi ns f (e+1) (Ze ns k))) fun k hk j hj=>blk e j _ hj (hok k hk).2.2
  have ex:∀ (m:Nat) (k:Int),d.kids[m]? = some k->ZM ns [k] (ZX ns f)->Zu B g (ZP B (shD s d) m)=Zu ns f (ZP ns d m):=fun m k hk hv=>by
   obtain ⟨e1,e2,j,hj⟩:=Zb1 E R hd hk
   rw [e1,e2]
   exact ZdO E R f g j _ hj (hv k (by simp)).2.2 (by omega)
  have kk:(shD s d).kids=d.kids.map (·+s):=rfl
  have ww:(shD s d).words=d.words:=rfl
  rw [ZaM] at h
  rcases h with ⟨hk,_,k,hks,hv⟩ | ⟨hk,_,⟨j,k,hks⟩,hok⟩ | ⟨hk,_,hok⟩ | ⟨hk,_,_,l,k,hks,hol,hok⟩ | ⟨hk,_,hok⟩ | ⟨hk,k,r,hks,hr,hv,hok⟩ | ⟨hk,j,k,hks,hv,hok⟩ | ⟨hk,k,hks,hv⟩ | hk
  ·have e0:=ex 0 k (by rw [hks];rfl) hv
   rcases hk with hk | hk
   ·rw [st8 (k0.trans hk),st8 hk,e0];rfl
   ·rw [st9 (k0.trans hk),st9 hk,e0];rfl
  ·have e0:=blks d.kids (fun k hk=>hk) hok
   rw [Zkg (k0.trans hk),Zkg hk,kk,e0]
   rfl
  ·have e0:=Zby E R hd d.kids (fun k hk=>hk) (fun n=>ZD n 0++ZA (e+1) ((ZP B n 0).kids.map fun k=>Zi B g (e+1+1) (Ze B k))) (fun n=>ZD n 0++ZA (e+1) ((ZP ns n 0).kids.map fun k=>Zi ns f (e+1+1) (Ze ns k))) fun k hk j hj=>by
    obtain ⟨_,k',hk',hb⟩:=(hok k hk).2.2
    obtain ⟨e1,e2,j2,hj2⟩:=Zb1 E R hj (m:=0) (k:=k') (by rw [hk'];rfl)
    rw [e1,e2]
    congr 1
    exact blk (e+1) j2 _ hj2 (hb k' (by simp)).2.2
   have n0:((shD s d).kids=[])=(d.kids=[]):=by rw [kk];simp
   rw [Zkh (k0.trans hk),Zkh hk]
   simp only [n0]
   rw [kk,e0]
   rfl
  ·have lk:d.kids[l.length]? = some k:=by rw [hks];simp
   obtain ⟨e1,e2,j,hj⟩:=Zb1 E R hd lk
   have e0:=Zby E R hd l (fun k hk=>by rw [hks];simp [hk]) Zai Zai fun k hk j hj=>rfl
   have e3:=blk e j _ hj (hok k (by simp)).2.2
   have t1:(d.kids.map (·+s)).take ((d.kids.map (·+s)).length-1)=l.map (·+s):=by rw [hks];simp
   have t2:d.kids.take (d.kids.length-1)=l:=by rw [hks];simp
   have t3:(d.kids.map (·+s)).length-1=l.length:=by rw [hks];simp
   have t4:d.kids.length-1=l.length:=by rw [hks];simp
   rw [Zki (k0.trans hk),Zki hk,kk,t1,t2,t3,t4,e1,e2,e0,e3]
   rfl
  ·have e0:=Zby E R hd d.kids (fun k hk=>hk) (fun n=>ZaU B g n) (fun n=>ZaU ns f n) fun k hk j hj=>ZjG E R f g j _ hj (hok k hk).2.2 (by omega)
   rw [Zkj (k0.trans hk),Zkj hk,kk,e0]
   rfl
  ·have e0:=ex 0 k (by rw [hks];rfl) hv
   have e1:=blks r (fun k hk=>by rw [hks];simp [hk]) hok
   have t1:(d.kids.map (·+s)).drop 1=r.map (·+s):=by rw [hks];rfl
   have t2:d.kids.drop 1=r:=by rw [hks];rfl
   rw [Zkk (k0.trans hk),Zkk hk,kk,t1,t2,e0,e1]
  ·have e0:=ex 0 j (by rw [hks];rfl) hv
   obtain ⟨e1,e2,j2,hj2⟩:=Zb1 E R hd (m:=1) (k:=k) (by rw [hks];rfl)
   have e3:=blk e j2 _ hj2 (hok k (by simp)).2.2
   rw [Zkl (k0.trans hk),Zkl hk,e0,e1,e2,e3]
  ·have e0:=ex 0 k (by rw [hks];rfl) hv
   rw [Zkm (k0.trans hk),Zkm hk,e0]
  ·rw [Zkn (k0.trans hk),Zkn hk]
theorem ZiT (f g i:Nat) (d:Nd) (hd:ns[i]? = some d) (h:Zd2 ns f d) (hg:f<=g):ZaE B g (shD s d)=ZaE ns f d:=by
 have k0:(shD s d).kind=d.kind:=rfl
 have w:∀ m,ZD (shD s d) m=ZD d m:=fun m=>rfl
 have kk:(shD s d).kids=d.kids.map (·+s):=rfl
 rcases h with ⟨hk,_,hok⟩ | ⟨hk,_,l,k,hks,hol,hok⟩
 ·have e0:=Zby E R hd d.kids (fun k hk=>hk) ZaX ZaX fun k hk j hj=>rfl
  simp only [ZaE,k0,hk,w,if_true]
  rw [kk,e0]
 ·have lk:d.kids[l.length]? = some k:=by rw [hks];simp
  obtain ⟨e1,e2,j,hj⟩:=Zb1 E R hd lk
  have e0:=Zby E R hd l (fun k hk=>by rw [hks];simp [hk]) (fun n=>ZaS B n) (fun n=>ZaS ns n) fun k hk j hj=>by
   have:=Zby E R hj (Ze ns k).kids (fun k hk=>hk) Zai Zai fun k hk j hj=>rfl
   unfold ZaS
   rw [show (shD s (Ze ns k)).kids=(Ze ns k).kids.map (·+s) from rfl,this]
   rfl
  have e3:=Zby E R hj (Ze ns k).kids (fun k hk=>hk) (fun n=>Zi B g 1 n) (fun n=>Zi ns f 1 n) fun k2 hk2 j2 hj2=>Zft E R f g j2 1 _ hj2 ((hok k (by simp)).2.2 k2 hk2).2.2 hg
  have t1:(d.kids.map (·+s)).take ((d.kids.map (·+s)).length-1)=l.map (·+s):=by rw [hks];simp
  have t2:d.kids.take (d.kids.length-1)=l:=by rw [hks];simp
  have t3:(d.kids.map (·+s)).length-1=l.length:=by rw [hks];simp
  have t4:d.kids.length-1=l.length:=by rw [hks];simp
  have t5:(shD s (Ze ns k)).kids=(Ze ns k).kids.map (·+s):=rfl
  have n1:¬ d.kind=1:=by rw [hk];decide
  simp only [ZaE,k0,if_neg n1,w]
  rw [kk,t1,t2,t3,t4,e1,e2,e0,t5,e3]
theorem ZeJ (g:Nat) (hg:ns.length<=g):((Ze ns 0).kids.map (·+s)).map (fun k=>ZaE B g (Ze B k))=(Ze ns 0).kids.map fun k=>ZaE ns ns.length (Ze ns k):=by
 have hd:ns[0]? = some (Ze ns 0):=by
  have h0:ns[0]? = some (ns[0]'R.some_):=List.getElem?_eq_getElem R.some_
  rw [h0,<- Zah (k:=0) h0]
  rfl
 exact Zby E R hd (Ze ns 0).kids (fun k hk=>hk) (fun n=>ZaE B g n) (fun n=>ZaE ns ns.length n) fun k hk j hj=>ZiT E R _ _ j _ hj (Zc0 R k hk).2.2 hg
end
theorem ZgW {a b:List Nd} (ha:ZaI a=true) (hb:ZaI b=true) (hl:a.length+b.length<=1501):ZaT (ZaF a b)=ZaT a++ZaT b:=by
 have R1:=ZbL ha
 have R2:=ZbL hb
 cases a with
 | nil=>exact absurd R1.some_ (by simp)
 | cons x r=>
  cases b with
  | nil=>exact absurd R2.some_ (by simp)
  | cons y q=>
   simp only [List.length_cons] at hl
   have hr:=Zd9 ha hb (by omega)
   have jl:=ZdU (x:=x) (y:=y) (r:=r) (q:=q)
   have i1:=ZeJ (ZcV (x:=x) (r:=r) (y:=y) (q:=q)) R1 (ZaF (x::r) (y::q)).length (by rw [jl];simp only [List.length_cons];omega)
   have i2:=ZeJ (Zcz (x:=x) (r:=r) (y:=y) (q:=q)) R2 (ZaF (x::r) (y::q)).length (by rw [jl];simp only [List.length_cons];omega)
   have n0:Ze (ZaF (x::r) (y::q)) 0=⟨x.kind,x.words,x.nums,x.kids++y.kids.map (·+(r.length:Int)),x.pos⟩:=Zah (k:=0) ZbC
   have n1:Ze (x::r) 0=x:=Zah (ns:=x::r) (k:=0) rfl
   have n2:Ze (y::q) 0=y:=Zah (ns:=y::q) (k:=0) rfl
   rw [n1] at i1
   rw [n2] at i2
   have z:x.kids.map (·+(0:Int))=x.kids:=by simp
   rw [z] at i1
   have e:∀ ns:List Nd,ZaI ns=true->ZaT ns=Zav 0 ((Ze ns 0).kids.map fun k=>ZaE ns ns.length (Ze ns k)):=fun ns h=>by unfold ZaT;rw [h];rfl
   rw [e _ hr,e _ ha,e _ hb,n0,n1,n2]
   show Zav 0 ((x.kids++y.kids.map (·+(r.length:Int))).map _)=_
   rw [List.map_append,i1,i2]
   unfold Zav
   rw [List.map_append,List.flatten_append]
end
section
open Go.RowKit
theorem ZdW {w:World} {b b' n size:Nat} {e:TypeId} {v:Value} {xs:List Value} (h:w.ownsRow b e size v n xs) (hb:b'<=b):w.ownsRow b' e size v n xs:=by
 obtain ⟨h1,h2⟩:=h
 refine ⟨h1,h2.imp id ?_⟩
 rintro ⟨g,cap,cur,hv,hg,rest⟩
 exact ⟨g,cap,cur,hv,Nat.le_trans hb hg,rest⟩
theorem Zhl (w:World) (u0 u1 u2 u3 u4:Value) (ty:TypeId):ZB (w.alloc (.cells #[u0,u1,u2,u3,u4] ty)) (w.alloc (.cells #[u0,u1,u2,u3,u4] ty)).heap.size 5 (some ⟨w.heap.size,0,none⟩) 1 [u0,u1,u2,u3,u4]:=
 ⟨rfl,fun _=>⟨_,rfl,(Blk.start w _ ty).lt,fun j u hj=>ZdM w _ ty j u (by simpa using hj)⟩⟩
theorem Zjn (a b:Txt):(⟨(a++b).toArray⟩:ByteArray)=⟨a.toArray⟩++⟨b.toArray⟩:=by
 apply ByteArray.ext
 apply Array.ext'
 simp [ByteArray.data_append]
theorem Zie {w:World} {base n size:Nat} {e:TypeId} {v:Value} {xs:List Value} (h:w.ownsRow base e size v n xs) (hn:0<n):∃ g c,v=.slice (some ⟨g,0,none⟩) n c:=by
 rcases h.2 with ⟨_,rfl⟩ | ⟨g,cap,cur,rfl,_⟩
 ·omega
 ·exact ⟨g,cap,rfl⟩
theorem Zc3 {ns:List Nd} (hr:ZaI ns=true) {i:Nat} {d:Nd} (hd:ns[i]? = some d):d.kids.length<=ns.length:=by
 obtain ⟨p,hp,_⟩:=Zc9 hr
 have L:=ZbE hp
 obtain ⟨h1,h2⟩:=L.of i d (List.getElem?_eq_some_iff.1 hd).1 hd
 have:=List.Nodup.length_le_of_subset (l₂:=(List.range ns.length).map (fun i:Nat=>(i:Int))) h1 (fun x hx=>by
  have:=h2 x hx
  exact List.mem_map.mpr ⟨x.toNat,List.mem_range.mpr (by omega),by omega⟩)
 simpa using this
theorem Zi5 {x y:Nd} {r q:List Nd} (h1:∀ d∈x::r,d.words.length<=1000) (h2:∀ d∈y::q,d.words.length<=1000):∀ d∈ZaF (x::r) (y::q),d.words.length<=1000:=fun d hd=>by
 unfold ZaF at hd
 rcases List.mem_cons.1 hd with rfl | hd
 ·exact h1 x (by simp)
 ·rcases List.mem_append.1 hd with hd | hd
  ·exact h1 d (by simp [hd])
  ·obtain ⟨e,he,rfl⟩:=List.mem_map.1 hd
   exact h2 e (by simp [he])
def ZcD (x y:Nd) (r q:List Nd) (j:Nat):List Nd:=⟨x.kind,x.words,x.nums,x.kids++y.kids.map (·+(r.length:Int)),x.pos⟩::(r++(q.take (j-1)).map (shD r.length))
theorem Zij (x y:Nd) (r q:List Nd):ZcD x y r q (q.length+1)=ZaF (x::r) (y::q):=by
 unfold ZcD ZaF
 rw [Nat.add_sub_cancel,List.take_length]
theorem Zhj {x y d:Nd} {r q:List Nd} {j:Nat} (hj:1<=j) (h:(y::q)[j]? = some d):ZcD x y r q (j+1)=ZcD x y r q j++[shD r.length d]:=by
 obtain ⟨j,rfl⟩:∃ k,j=k+1:=⟨j-1,by omega⟩
 rw [List.getElem?_cons_succ] at h
 unfold ZcD
 rw [Nat.add_sub_cancel,Nat.add_sub_cancel,List.take_add_one,h]
 simp
theorem Zff (w:World) (ht:ShoTabs w) (va:Value) (a:List Nd) (hA:Zf w va a) (sA:Zbw a) (vb:Value) (b:List Nd) (hB:Zf w vb b) (sB:Zbw b) :
  Calls Tryz.prog 3 #[va,vb] w fun e w'=>e=.returned (.bool true)/\Below w.heap.size w w':=by
 have AW:=Lib.hid (fun (w':World) (hb:Below w.heap.size w w')=>ZgO w' (ht.below hb))
 have SA:=Lib.hid (fun (w':World) (hb:Below w.heap.size w w')=>ZdH w' va a (hA.below hb) sA)
 have SB:=Lib.hid (fun (w':World) (hb:Below w.heap.size w w')=>ZdH w' vb b (hB.below hb) sB)
 have RA:=Lib.hid (fun (w':World) (hb:Below w.heap.size w w')=>Zel w' va a (hA.below hb) sA)
 have RB:=Lib.hid (fun (w':World) (hb:Below w.heap.size w w')=>Zel w' vb b (hB.below hb) sB)
 have SH:=Lib.hid (fun (w':World) (hb:Below w.heap.size w w') (v:Value) (ns:List Nd) (hN:Zf w' v ns) (hf:∀ d∈ns,d.words.length<=1000)=>Zd0 w' v ns hN (ht.below hb).keys (ht.below hb).p (by have:=Zd1 hf;omega))
 have HB:=Lib.hid (show Below w.heap.size w w from Below.refl _ _)
 obtain ⟨Aa,ca,rsa,rfl,a2,a3,a4,a5,a6⟩:=id hA
 obtain ⟨Ab,cb,rsb,rfl,b2,b3,b4,b5,b6⟩:=id hB
 have HA:=Lib.hid (And.intro hA (And.intro a4 (And.intro a5 (And.intro a6 (And.intro a2 a3)))))
 have HBb:=Lib.hid (And.intro hB (And.intro b4 (And.intro b5 (And.intro b6 (And.intro b2 b3)))))
 clear ht hA hB sA sB a2 a3 a4 a5 a6 b2 b3 b4 b5 b6
 by_cases good:a.length+b.length<=1400
 ·have wl:IntKind.i64.wrap ((a.length:Int)+(b.length:Int))=(a.length:Int)+(b.length:Int):=IntWalk.i64_in _ (by omega)
  have tl:¬ (1400:Int)<(a.length:Int)+(b.length:Int):=by omega
  have HG:=Lib.hid good
  clear good
  go_enter Tryz.func3,Tryz.ntmps3
  go_upto_region 3 with (first
  | (go_at_call 4;(refine (AW.out _ HB.out).mono ?_);rintro e1 wn ⟨rfl,hb⟩;replace HB:=Lib.hid (HB.out.trans (hb.mono HB.out.size));clear hb)
  | (go_at_call 5;(with_reducible refine (SA.out _ HB.out).mono ?_);rintro e2 wn ⟨⟨bb,rfl,hq⟩,hb⟩;replace HB:=Lib.hid (HB.out.trans (hb.mono HB.out.size));have QA:=Lib.hid hq;clear hb hq;cases bb)
  | (go_at_call 5;(with_reducible refine (SB.out _ HB.out).mono ?_);rintro e2 wn ⟨⟨bb,rfl,hq⟩,hb⟩;replace HB:=Lib.hid (HB.out.trans (hb.mono HB.out.size));have QB:=Lib.hid hq;clear hb hq;cases bb)
  | (go_at_call 6;(with_reducible refine (RA.out _ HB.out).mono ?_);rintro e2 wn ⟨⟨bb,rfl,hq⟩,hb⟩;replace HB:=Lib.hid (HB.out.trans (hb.mono HB.out.size));have GA:=Lib.hid hq;clear hb hq;cases bb)
  | (go_at_call 6;(with_reducible refine (RB.out _ HB.out).mono ?_);rintro e2 wn ⟨⟨bb,rfl,hq⟩,hb⟩;replace HB:=Lib.hid (HB.out.trans (hb.mono HB.out.size));have GB:=Lib.hid hq;clear hb hq;cases bb))
  all_goals first | (go_ret;exact ⟨rfl,HB.out⟩) | skip
  clear wl tl AW SA SB RA RB
  have R1:=ZbL (GA.out trivial)
  have R2:=ZbL (GB.out trivial)
  obtain ⟨x,r,hax⟩:∃ x r,a=x::r:=by
   cases h:a with
   | nil=>rw [h] at R1;exact absurd R1.some_ (by simp)
   | cons x r=>exact ⟨x,r,rfl⟩
  obtain ⟨y,q,hby⟩:∃ y q,b=y::q:=by
   cases h:b with
   | nil=>rw [h] at R2;exact absurd R2.some_ (by simp)
   | cons x r=>exact ⟨x,r,rfl⟩
  have al:a.length=r.length+1:=by rw [hax];rfl
  have bl:b.length=q.length+1:=by rw [hby];rfl
  obtain ⟨xa,hxa⟩:∃ z,rsa[0]? = some z:=⟨_,List.getElem?_eq_getElem (by have:=congrArg List.length HA.out.2.1;rw [List.length_map] at this;omega)⟩
  obtain ⟨xb,hxb⟩:∃ z,rsb[0]? = some z:=⟨_,List.getElem?_eq_getElem (by have:=congrArg List.length HBb.out.2.1;rw [List.length_map] at this;omega)⟩
  have exa:xa.2=x:=by
   have h1:a[0]? = some xa.2:=by rw [<- HA.out.2.1,List.getElem?_map,hxa];rfl
   rw [hax] at h1
   exact (Option.some.inj h1).symm
  have exb:xb.2=y:=by
   have h1:b[0]? = some xb.2:=by rw [<- HBb.out.2.1,List.getElem?_map,hxb];rfl
   rw [hby] at h1
   exact (Option.some.inj h1).symm
  obtain ⟨Ka,cka,eka,ka1,ka2,hKa⟩:=(HA.out.2.2.2.1 xa (List.mem_of_getElem? hxa)).2.2
  obtain ⟨Kb,ckb,ekb,kb1,kb2,hKb⟩:=(HBb.out.2.2.2.1 xb (List.mem_of_getElem? hxb)).2.2
  rw [exa] at eka ka1 hKa
  rw [exb] at ekb kb1 hKb
  obtain ⟨an,rfl,_⟩:=ZK HA.out.2.2.1 (Below.refl _ _) hxa (by omega)
  obtain ⟨bn,rfl,_⟩:=ZK HBb.out.2.2.1 (Below.refl _ _) hxb (by omega)
  have D0a:=Lib.hid (fun (wr:World) (hb:Below w.heap.size w wr)=>show wr.cell? ⟨an.block,an.off+3,none⟩=some (.slice Ka x.kids.length cka) from by
   obtain ⟨ad,e,_,_,_,n3,_⟩:=ZK HA.out.2.2.1 hb hxa (by omega)
   injection e with e
   subst e
   rw [show an.add (0*5)=an by unfold Addr.add;simp,eka] at n3
   exact n3)
  have D0b:=Lib.hid (fun (wr:World) (hb:Below w.heap.size w wr)=>show wr.cell? ⟨bn.block,bn.off+3,none⟩=some (.slice Kb y.kids.length ckb) from by
   obtain ⟨ad,e,_,_,_,n3,_⟩:=ZK HBb.out.2.2.1 hb hxb (by omega)
   injection e with e
   subst e
   rw [show bn.add (0*5)=bn by unfold Addr.add;simp,ekb] at n3
   exact n3)
  have ne0:∀ z∈rsa,NdJ w w z:=fun z hz=>by
   obtain ⟨z1,z2,z3⟩:=HA.out.2.2.2.1 z hz
   exact ⟨z1,z2,.inl z3⟩
  have E0:=Lib.hid (And.intro hax (And.intro hby (And.intro al (And.intro bl (And.intro exa exb)))))
  have X0:=Lib.hid (And.intro hxa (And.intro hxb (And.intro hKa (And.intro hKb (And.intro ka1 (And.intro kb1 (And.intro ka2 kb2)))))))
  have K0:=Lib.hid (And.intro (show ∀ z∈x.kids,(0:Int)<z/\z<a.length from fun z hz=>by
    have:=R1.kids 0 x (by rw [hax];rfl) z hz
    omega) (show ∀ z∈y.kids,(0:Int)<z/\z<b.length from fun z hz=>by
    have:=R2.kids 0 y (by rw [hby];rfl) z hz
    omega))
  have NE:=Lib.hid ne0
  obtain ⟨rt,hrt⟩:∃ rt,rsa=xa::rt:=by
   cases h:rsa with
   | nil=>rw [h] at hxa;simp at hxa
   | cons z t=>rw [h] at hxa;simp at hxa;exact ⟨t,by rw [hxa]⟩
  have RT:=Lib.hid (And.intro hrt (show rt.map (·.2)=r from by
   have:=HA.out.2.1
   rw [hrt,hax,List.map_cons] at this
   injection this))
  have LK:=Lib.hid (show x.kids.length<=1400/\y.kids.length<=1400 from ⟨by have:=Zc3 (GA.out trivial) (i:=0) (d:=x) (by rw [hax];rfl);have:=HG.out;omega,by have:=Zc3 (GB.out trivial) (i:=0) (d:=y) (by rw [hby];rfl);have:=HG.out;omega⟩)
  clear hrt
  have na0:(0:Int)<(a.length:Int):=by omega
  have nb0:(0:Int)<(b.length:Int):=by omega
  obtain ⟨iN,hiN,zN0,zN1,zN2⟩:=ZcY Zky
  obtain ⟨iI,hiI,zI0,zI1,zI2⟩:=ZcY Zkx
  clear R1 R2 hax hby al bl hxa hxb exa exb eka ekb ka1 ka2 kb1 kb2 hKa hKb ne0
  go_wp2_with (at_builtin;refine Za6 _ rfl _ _ 22 rfl wn.heap.size 29 iN (.agg #[.int .i64 0,.slice none 0 0,.slice none 0 0,.slice none 0 0,.int .i64 0]) 5 88 Tryz.underlying22 hiN zN0 zN1 zN2 rfl (by decide) _ 0 [] rfl (ZeL wn _ 5) w.heap.size (some an) _ ca (ZL rsa) rfl (HA.out.2.2.1.below (HB.out.trans ((Zb wn _).mono HB.out.size))) ?c1 ?c2 ?c3 ?c4 ?_)
  case c1=>exact Zdg rsa fun z hz=>⟨w,w,NE.out z hz⟩
  case c2=>have:=HG.out;have e9:maxLen=9223372036854775807:=rfl;omega
  case c3=>have:=HG.out;omega
  case c4=>rw [World.size_alloc];omega
  intro v5 w5 hown5 hgrow5 _
  have rl:rsa.length=a.length:=by have:=congrArg List.length HA.out.2.1;rwa [List.length_map] at this
  have b5:Below wn.heap.size wn w5:=(Zb wn _).grown hgrow5 (by rw [World.size_alloc];omega) (fun k hk=>by
   have e:wn.heap.size=k:=by simpa [Value.ownBlock] using hk
   omega)
  have C5:=Lib.hid (show RowJ w w5 v5 (xa::rt) from RT.out.1▸⟨ZdW (by rw [rl];simpa using hown5) HB.out.size,fun z hz=>(NE.out z hz).keep (HB.out.trans (b5.mono HB.out.size)),HB.out.trans (b5.mono HB.out.size)⟩)
  clear hown5 hgrow5 b5 rl
  obtain ⟨g5,c5,rfl⟩:=Zie C5.out.own (by simp)
  have d5:=D0a.out (w5.alloc (.cells #[] 3)) (C5.out.below.trans ((Zb w5 _).mono C5.out.below.size))
  go_wp2_with (at_builtin;refine Za6 _ rfl _ _ 25 rfl w5.heap.size 3 iI (.int .i64 0) 1 8 Tryz.underlying25 hiI zI0 zI1 zI2 rfl (by decide) _ 0 [] rfl (ZeL w5 _ 1) w.heap.size Ka _ cka (x.kids.map (Value.int .i64)) rfl (X0.out.2.2.1.below (C5.out.below.trans ((Zb w5 _).mono C5.out.below.size))) ?c1 ?c2 ?c3 ?c4 ?_)
  case c1=>intro u hu;obtain ⟨z,_,rfl⟩:=List.mem_map.1 hu;rfl
  case c2=>have:=LK.out;have e9:maxLen=9223372036854775807:=rfl;omega
  case c3=>have:=LK.out;omega
  case c4=>rw [World.size_alloc];omega
  intro v6 w6 hown6 hgrow6 _
  have b6:Below w5.heap.size w5 w6:=(Zb w5 _).grown hgrow6 (by rw [World.size_alloc];omega) (fun k hk=>by
   have e:w5.heap.size=k:=by simpa [Value.ownBlock] using hk
   omega)
  have O6:=Lib.hid (show w6.ownsRow w5.heap.size 3 1 v6 x.kids.length (x.kids.map (Value.int .i64)) from by simpa using hown6)
  have B6:=Lib.hid b6
  obtain ⟨A6,c6,rfl⟩:=ZaY O6.out
  clear hown6 hgrow6 b6 d5
  go_wp2_with fail
  go_loopg [6,7] y.kids.length (fun g v6 v7 wr=>∃ i:Nat,v7=.int .i64 i/\i<=y.kids.length/\g=y.kids.length-i/\wr.ownsRow w5.heap.size 3 1 v6 (x.kids.length+i) ((x.kids++(y.kids.take i).map (·+(r.length:Int))).map (Value.int .i64))/\Below w5.heap.size w5 wr)
  case atStart=>exact ⟨0,rfl,Nat.zero_le _,rfl,by simpa using O6.out,B6.out⟩
  case round=>
   obtain ⟨i,rfl,hi,hg,hO,hW⟩:=hrel
   obtain ⟨A7,c7,rfl⟩:=ZaY hO
   have d6:=D0b.out wr (C5.out.below.trans (hW.mono C5.out.below.size))
   by_cases hin:i<y.kids.length
   ·obtain ⟨z,hz⟩:∃ z,y.kids[i]? = some z:=⟨_,List.getElem?_eq_getElem hin⟩
    have hzr:=K0.out.2 z (List.mem_of_getElem? hz)
    obtain ⟨kb,ekb,q0⟩:=Zp X0.out.2.2.2.1 (C5.out.below.trans (hW.mono C5.out.below.size)) hz (by omega)
    rw [ekb] at d6
    have q1:(y.kids.take (i+1)).map (·+(r.length:Int))=(y.kids.take i).map (·+(r.length:Int))++[z+(r.length:Int)]:=by rw [List.take_add_one,hz,List.map_append];rfl
    have j1:(i:Int)<(y.kids.length:Int):=by omega
    have j0:(0:Int)<=(i:Int):=by omega
    have wi:IntKind.i64.wrap ((i:Int)+1)=(i:Int)+1:=IntWalk.i64_in _ (by have:=LK.out;omega)
    have wz1:IntKind.i64.wrap (z+(a.length:Int))=z+(a.length:Int):=IntWalk.i64_in _ (by have:=HG.out;omega)
    have wz2:IntKind.i64.wrap (z+(a.length:Int)-1)=z+(r.length:Int):=(IntWalk.i64_in _ (by have:=HG.out;omega)).trans (by have:=E0.out.2.2.1;omega)
    have wz3:wrap64 (z+(a.length:Int)-1)=z+(r.length:Int):=(IntWalk.wrap64_in _ (by have:=HG.out;omega)).trans (by have:=E0.out.2.2.1;omega)
    have HI:=Lib.hid (And.intro hin (And.intro hg (And.intro q1 (And.intro hO hW))))
    clear hin hi hg hz q1 hO hW hzr ekb
    go_wp2_with (at_builtin;refine Za6 _ rfl _ _ 25 rfl w5.heap.size 3 iI (.int .i64 0) 1 8 Tryz.underlying25 hiI zI0 zI1 zI2 rfl (by decide) _ (x.kids.length+i) _ rfl (Zbu HI.out.2.2.2.1 (Zb wr _)) _ (some ⟨wr.heap.size,0,none⟩) 1 1 [.int .i64 (z+(r.length:Int))] rfl (Zca wr [.int .i64 (z+(r.length:Int))] 3) ?c1 ?c2 ?c3 ?c4 ?_)
    case c1=>first | rfl | (intro u hu;rw [List.mem_singleton.1 hu];rfl)
    case c2=>have:=LK.out;have:=HI.out.1;have e9:maxLen=9223372036854775807:=rfl;omega
    case c3=>have:=LK.out;have:=HI.out.1;omega
    case c4=>have:=HI.out.2.2.2.2.size;first | omega | (rw [World.size_alloc];omega)
    intro v8 w8 hown8 hgrow8 _
    have b8:Below w5.heap.size w5 w8:=(HI.out.2.2.2.2.trans ((Zb wr _).mono HI.out.2.2.2.2.size)).grown hgrow8 (by have:=HI.out.2.2.2.2.size;rw [World.size_alloc];omega) (fun k hk=>(HI.out.2.2.2.1.lt k hk).1)
    have H8:=Lib.hid (And.intro hown8 b8)
    clear hown8 hgrow8 b8
    go_wp2_with fail
    go_roundg (y.kids.length-(i+1))
    case measure=>have:=HI.out.1;have:=HI.out.2.1;omega
    case rel=>
     refine ⟨i+1,by push_cast;rfl,HI.out.1,rfl,?_,H8.out.2⟩
     rw [HI.out.2.2.1]
     have:=H8.out.1
     simpa [List.map_append,List.map_take,Nat.add_assoc,List.append_assoc] using this
   ·have j2:¬ ((i:Int)<(y.kids.length:Int)):=by omega
    have hiq:i=y.kids.length:=by omega
    have FO:=Lib.hid (show wr.ownsRow w.heap.size 3 1 (.slice A7 (x.kids.length+i) c7) (x.kids++y.kids.map (·+(r.length:Int))).length ((x.kids++y.kids.map (·+(r.length:Int))).map (Value.int .i64)) from by
     have:=ZdW hO C5.out.below.size
     rw [hiq,List.take_length] at this
     rw [List.length_append,List.length_map,hiq]
     exact this)
    have CW:=Lib.hid (C5.out.keep hW)
    clear hO hW hi hg hin hiq
    obtain ⟨CR,cur,hcur,hcz⟩:=CW.out.root FO.out
    have CR:=Lib.hid CR
    have f3:=hcur.blk.free 3
    obtain ⟨u3,hu3⟩:∃ u,cur[3]? = some u:=⟨_,Array.getElem?_eq_getElem hcz⟩
    have s3:=(hcur.blk.cell 3).trans hu3
    clear hcur hcz hu3
    generalize wr=w7 at *
    go_wp2_with fail
    go_loopg [5,8] (b.length-1) (fun g v5 v8 wr=>∃ (j:Nat) (rc:List (NdV×Nd)),v8=.int .i64 j/\1<=j/\j<=b.length/\g=b.length-j/\RowJ w wr v5 rc/\rc.map (·.2)=ZcD x y r q j)
    case atStart=>exact ⟨1,_,rfl,Nat.le_refl _,by omega,rfl,CR.out,by have:=RT.out.2;rw [E0.out.2.2.2.2.1];simp [ZcD,this]⟩
    case round=>
     clear f3 s3
     obtain ⟨j,rc,rfl,hj1,hj,hg,hR,hP⟩:=hrel
     by_cases hin:j<b.length
     ·obtain ⟨xj,hxj⟩:∃ z,rsb[j]? = some z:=⟨_,List.getElem?_eq_getElem (by have:=congrArg List.length HBb.out.2.1;rw [List.length_map] at this;omega)⟩
      have hdj:b[j]? = some xj.2:=by rw [<- HBb.out.2.1,List.getElem?_map,hxj];rfl
      have pn:=Zhj (x:=x) (y:=y) (d:=xj.2) (r:=r) (q:=q) hj1 (by rw [<- E0.out.2.1];exact hdj)
      have lkj:xj.2.kids.length<=1400:=by have:=Zc3 (GB.out trivial) hdj;have:=HG.out;omega
      have kin:∀ z∈xj.2.kids,(0:Int)<z/\z<b.length:=fun z hz=>by
       have:=(ZbL (GB.out trivial)).kids j _ hdj z hz
       omega
      obtain ⟨ad,e,n0,n1,n2,n3,n4⟩:=ZK HBb.out.2.2.1 hR.below hxj (by omega)
      injection e with e
      subst e
      have hnd:=HBb.out.2.2.2.1 _ (List.mem_of_getElem? hxj)
      obtain ⟨⟨yw,yu,yk⟩,kd,ws,nums,ks,ps⟩:=xj
      have hndH:=Lib.hid hnd
      obtain ⟨h61,h62,h63⟩:=hnd
      dsimp only at h61 h62 h63 n0 n1 n2 n3 n4 pn lkj kin
      obtain ⟨Bw,dw,rfl,_⟩:=h61
      obtain ⟨Bu,du,rfl,_⟩:=h62
      obtain ⟨Bk,dk,rfl,h631,h632,h633⟩:=h63
      have hrc:rc.length<=3000:=by
       have:=congrArg List.length hP
       simp only [ZcD,List.length_map,List.length_cons,List.length_append,List.length_take] at this
       have:=E0.out.2.2
       have:=HG.out
       omega
      have j1i:(j:Int)<(b.length:Int):=by omega
      have j0i:(0:Int)<=(j:Int):=by omega
      have wj:IntKind.i64.wrap ((j:Int)+1)=(j:Int)+1:=IntWalk.i64_in _ (by have:=HG.out;omega)
      have a1:=Zb wr (.cells #[.int .i64 kd,.slice Bw ws.length dw,.slice Bu nums.length du,.slice Bk ks.length dk,.int .i64 ps] 29)
      have TB:Zm _ _ _ _:=Zm.start wr #[.int .i64 kd,.slice Bw ws.length dw,.slice Bu nums.length du,.slice Bk ks.length dk,.int .i64 ps] 29
      generalize hwi:wr.alloc (.cells #[.int .i64 kd,.slice Bw ws.length dw,.slice Bu nums.length du,.slice Bk ks.length dk,.int .i64 ps] 29)=wi at *
      have HJ:=Lib.hid (And.intro hin (And.intro hg (And.intro hP (And.intro pn (And.intro hR (And.intro a1 (And.intro TB (And.intro hj1 (And.intro lkj (And.intro kin (And.intro hrc h633)))))))))))
      clear hin hg hP pn hR a1 TB hj1 hj lkj kin hrc h631 h632 h633 hdj hxj
      generalize wr=wo at *
      go_wp2_with fail
      clear n0 n1 n2 n3 n4
      go_loopg [10,11] ks.length (fun g v10 v11 wr=>∃ k:Nat,v11=.int .i64 k/\k<=ks.length/\g=ks.length-k/\wr.ownsRow wi.heap.size 3 1 v10 k (((ks.take k).map (·+(r.length:Int))).map (Value.int .i64))/\Below wi.heap.size wi wr)
      case atStart=>exact ⟨0,rfl,Nat.zero_le _,rfl,⟨rfl,.inl ⟨rfl,rfl⟩⟩,Below.refl _ _⟩
      case round=>
       obtain ⟨k,rfl,hk,hgk,hO,hW⟩:=hrel
       obtain ⟨A8,c8,rfl⟩:=ZaY hO
       have TB2:=HJ.out.2.2.2.2.2.2.1.keep hW
       have d3:=TB2.blk.cell 3
       simp only [List.getElem?_toArray,List.getElem?_cons_zero,List.getElem?_cons_succ] at d3
       have bw:=HJ.out.2.2.2.2.1.below.trans ((HJ.out.2.2.2.2.2.1.trans (hW.mono HJ.out.2.2.2.2.2.1.size)).mono HJ.out.2.2.2.2.1.below.size)
       by_cases hkn:k<ks.length
       ·obtain ⟨z,hz⟩:∃ z,ks[k]? = some z:=⟨_,List.getElem?_eq_getElem hkn⟩
        have hzr:=HJ.out.2.2.2.2.2.2.2.2.2.1 z (List.mem_of_getElem? hz)
        obtain ⟨kb,ekb,q0⟩:=Zp HJ.out.2.2.2.2.2.2.2.2.2.2.2 bw hz (by omega)
        rw [ekb] at d3
        have q1:(ks.take (k+1)).map (·+(r.length:Int))=(ks.take k).map (·+(r.length:Int))++[z+(r.length:Int)]:=by rw [List.take_add_one,hz,List.map_append];rfl
        have m1:(k:Int)<(ks.length:Int):=by omega
        have m0:(0:Int)<=(k:Int):=by omega
        have wk:IntKind.i64.wrap ((k:Int)+1)=(k:Int)+1:=IntWalk.i64_in _ (by have:=HJ.out.2.2.2.2.2.2.2.2.1;omega)
        have wz1:IntKind.i64.wrap (z+(a.length:Int))=z+(a.length:Int):=IntWalk.i64_in _ (by have:=HG.out;omega)
        have wz2:IntKind.i64.wrap (z+(a.length:Int)-1)=z+(r.length:Int):=(IntWalk.i64_in _ (by have:=HG.out;omega)).trans (by have:=E0.out.2.2.1;omega)
        have wz3:wrap64 (z+(a.length:Int)-1)=z+(r.length:Int):=(IntWalk.wrap64_in _ (by have:=HG.out;omega)).trans (by have:=E0.out.2.2.1;omega)
        have HI:=Lib.hid (And.intro hkn (And.intro hgk (And.intro q1 (And.intro hO hW))))
        clear hkn hk hgk hz q1 hO hW hzr bw TB2 ekb
        go_wp2_with (at_builtin;refine Za6 _ rfl _ _ 25 rfl wi.heap.size 3 iI (.int .i64 0) 1 8 Tryz.underlying25 hiI zI0 zI1 zI2 rfl (by decide) _ k _ rfl (Zbu HI.out.2.2.2.1 (Zb wr _)) _ (some ⟨wr.heap.size,0,none⟩) 1 1 [.int .i64 (z+(r.length:Int))] rfl (Zca wr [.int .i64 (z+(r.length:Int))] 3) ?c1 ?c2 ?c3 ?c4 ?_)
        case c1=>first | rfl | (intro u hu;rw [List.mem_singleton.1 hu];rfl)
        case c2=>have:=HJ.out.2.2.2.2.2.2.2.2.1;have:=HI.out.1;have e9:maxLen=9223372036854775807:=rfl;omega
        case c3=>have:=HJ.out.2.2.2.2.2.2.2.2.1;have:=HI.out.1;omega
        case c4=>have:=HI.out.2.2.2.2.size;first | omega | (rw [World.size_alloc];omega)
        intro v8 w8 hown8 hgrow8 _
        have b8:Below wi.heap.size wi w8:=(HI.out.2.2.2.2.trans ((Zb wr _).mono HI.out.2.2.2.2.size)).grown hgrow8 (by have:=HI.out.2.2.2.2.size;rw [World.size_alloc];omega) (fun k hk=>(HI.out.2.2.2.1.lt k hk).1)
        have H8:=Lib.hid (And.intro hown8 b8)
        clear hown8 hgrow8 b8
        go_wp2_with fail
        go_roundg (ks.length-(k+1))
        case measure=>have:=HI.out.1;have:=HI.out.2.1;omega
        case rel=>
         refine ⟨k+1,by push_cast;rfl,HI.out.1,rfl,?_,H8.out.2⟩
         rw [HI.out.2.2.1]
         have:=H8.out.1
         simpa [List.map_append,List.map_take,Nat.add_assoc,List.append_assoc] using this
       ·have m2:¬ ((k:Int)<(ks.length:Int)):=by omega
        have hkq:k=ks.length:=by omega
        have FO:=Lib.hid (show wr.ownsRow wi.heap.size 3 1 (.slice A8 k c8) (ks.map (·+(r.length:Int))).length ((ks.map (·+(r.length:Int))).map (Value.int .i64)) from by
         have:=hO
         rw [hkq,List.take_length] at this
         rw [List.length_map,hkq]
         exact this)
        have f3:=TB2.blk.free 3
        have bo:Below wo.heap.size wo wr:=HJ.out.2.2.2.2.2.1.trans (hW.mono HJ.out.2.2.2.2.2.1.size)
        have TB3:=Lib.hid (TB2.set 3 (.slice A8 k c8))
        have FS:=Lib.hid (Zb4 (j:=3) (u:=.slice A8 k c8) FO.out (TB2.off FO.out (by decide)))
        have RS:=Lib.hid (HJ.out.2.2.2.2.1.keep (bo.setCell (p:=⟨wo.heap.size,3,none⟩) (Nat.le_refl _) (.slice A8 k c8)))
        clear hO hW hk hgk hkq TB2 bo bw
        go_upto_region 20 with fail
        generalize hwS:wr.setCell ⟨wo.heap.size,3,none⟩ (.slice A8 k c8)=wS at *
        have s0:=TB3.out.blk.cell 0
        have s1:=TB3.out.blk.cell 1
        have s2:=TB3.out.blk.cell 2
        have s3:=TB3.out.blk.cell 3
        have s4:=TB3.out.blk.cell 4
        simp only [List.setIfInBounds_toArray,List.set_cons_zero,List.set_cons_succ,List.getElem?_toArray,List.getElem?_cons_zero,List.getElem?_cons_succ] at s0 s1 s2 s3 s4
        clear d3 f3
        obtain ⟨A9,c9,rfl⟩:=ZaY RS.out.own
        have XJ:=Lib.hid (show NdJ w wS ((.slice Bw ws.length dw,.slice Bu nums.length du,.slice A8 k c8),shD r.length ⟨kd,ws,nums,ks,ps⟩) from ⟨hndH.out.1,hndH.out.2.1,.inr (ZdW FS.out (Nat.le_trans HJ.out.2.2.2.2.1.below.size HJ.out.2.2.2.2.2.1.size))⟩)
        go_wp2_with (at_builtin;refine Za6 _ rfl _ _ 22 rfl w.heap.size 29 iN (.agg #[.int .i64 0,.slice none 0 0,.slice none 0 0,.slice none 0 0,.int .i64 0]) 5 88 Tryz.underlying22 hiN zN0 zN1 zN2 rfl (by decide) _ rc.length _ rfl (Zbu RS.out.own (Zb wS _)) _ (some ⟨wS.heap.size,0,none⟩) 1 1 (ZL [((.slice Bw ws.length dw,.slice Bu nums.length du,.slice A8 k c8),shD r.length ⟨kd,ws,nums,ks,ps⟩)]) rfl (Zhl wS _ _ _ _ _ 29) ?c1 ?c2 ?c3 ?c4 ?_)
        case c1=>exact Zdg _ fun z hz=>by rw [List.mem_singleton.1 hz];exact ⟨w,wS,XJ.out⟩
        case c2=>have:=HJ.out.2.2.2.2.2.2.2.2.2.2.1;have e9:maxLen=9223372036854775807:=rfl;omega
        case c3=>have:=HJ.out.2.2.2.2.2.2.2.2.2.2.1;omega
        case c4=>have:=RS.out.below.size;first | omega | (rw [World.size_alloc];omega)
        intro v9 w9 hown9 hgrow9 _
        have P9:=Lib.hid (RowJ.push (RS.out.keep (Zb wS _)) (XJ.out.keep (Zb wS _)) hown9 hgrow9)
        clear hown9 hgrow9
        go_wp2_with fail
        go_roundg (b.length-(j+1))
        case measure=>have:=HJ.out.1;have:=HJ.out.2.1;omega
        case rel=>
         refine ⟨j+1,_,by push_cast;rfl,by omega,HJ.out.1,rfl,P9.out,?_⟩
         rw [List.map_append,HJ.out.2.2.1,HJ.out.2.2.2.1]
         rfl
     ·have m2:¬ ((j:Int)<(b.length:Int)):=by omega
      have hjq:j=q.length+1:=by have:=E0.out.2.2.2.1;omega
      rw [hjq,Zij] at hP
      obtain ⟨sa,hsa⟩:∃ s:ByteArray,s=⟨(ZaT a).toArray⟩:=⟨_,rfl⟩
      obtain ⟨sb,hsb⟩:∃ s:ByteArray,s=⟨(ZaT b).toArray⟩:=⟨_,rfl⟩
      have la:=Zd1 (ns:=a) (QA.out trivial).2
      have lb:=Zd1 (ns:=b) (QB.out trivial).2
      have za:sa.size<=75000000:=by rw [hsa];show (ZaT a).toArray.size<=_;rw [List.size_toArray];exact la
      have zb:sb.size<=75000000:=by rw [hsb];show (ZaT b).toArray.size<=_;rw [List.size_toArray];exact lb
      have js:txt (ZaT (rc.map (·.2)))=.string (sa++sb):=by
       rw [hP,hsa,hsb,<- E0.out.1,<- E0.out.2.1,ZgW (GA.out trivial) (GB.out trivial) (by have:=HG.out;omega),<- Zjn]
      have fw:∀ d∈rc.map (·.2),d.words.length<=1000:=by
       rw [hP]
       exact Zi5 (by rw [<- E0.out.1];exact (QA.out trivial).2) (by rw [<- E0.out.2.1];exact (QB.out trivial).2)
      have S1:=Lib.hid (SH.out wr hR.below _ _ hR.nodes fw)
      rw [js] at S1
      have S2:=Lib.hid (fun (w':World) (hb:Below w.heap.size w w')=>SH.out w' hb _ a (HA.out.1.below hb) (QA.out trivial).2)
      have S3:=Lib.hid (fun (w':World) (hb:Below w.heap.size w w')=>SH.out w' hb _ b (HBb.out.1.below hb) (QB.out trivial).2)
      rw [show txt (ZaT a)=.string sa by rw [hsa]] at S2
      rw [show txt (ZaT b)=.string sb by rw [hsb]] at S3
      have n1:¬ 9223372036854775807<(sa.size:Int)+(sb.size:Int):=by omega
      have n2:(sa.size:Int)+(sb.size:Int)<=9223372036854775807:=by omega
      have HR:=Lib.hid hR.below
      clear hR hP hjq hsa hsb la lb za zb js fw hin hj hj1 hg
      go_wp2_with (first
       | (go_at_call 7;(with_reducible refine S1.out.mono ?_);rintro e1 wx ⟨rfl,hb⟩;have B1:=Lib.hid (HR.out.trans (hb.mono HR.out.size));clear hb)
       | (go_at_call 7;(with_reducible refine (S2.out _ B1.out).mono ?_);rintro e2 wy ⟨rfl,hb⟩;have B2:=Lib.hid (B1.out.trans (hb.mono B1.out.size));clear hb)
       | (go_at_call 7;(with_reducible refine (S3.out _ B2.out).mono ?_);rintro e3 wz ⟨rfl,hb⟩;have B3:=Lib.hid (B2.out.trans (hb.mono B2.out.size));clear hb))
      go_ret
      exact ⟨by simp,B3.out⟩
 ·have BAD:=Lib.hid good
  clear good
  by_cases h4:a.length+b.length<=4000
  ·have wl:IntKind.i64.wrap ((a.length:Int)+(b.length:Int))=(a.length:Int)+(b.length:Int):=IntWalk.i64_in _ (by omega)
   have tl:(1400:Int)<(a.length:Int)+(b.length:Int):=by have:=BAD.out;omega
   clear h4
   go_enter Tryz.func3,Tryz.ntmps3
   go_upto_region 3 with (first
  | (go_at_call 4;(refine (AW.out _ HB.out).mono ?_);rintro e1 wn ⟨rfl,hb⟩;replace HB:=Lib.hid (HB.out.trans (hb.mono HB.out.size));clear hb)
  | (go_at_call 5;(with_reducible refine (SA.out _ HB.out).mono ?_);rintro e2 wn ⟨⟨bb,rfl,hq⟩,hb⟩;replace HB:=Lib.hid (HB.out.trans (hb.mono HB.out.size));have QA:=Lib.hid hq;clear hb hq;cases bb)
  | (go_at_call 5;(with_reducible refine (SB.out _ HB.out).mono ?_);rintro e2 wn ⟨⟨bb,rfl,hq⟩,hb⟩;replace HB:=Lib.hid (HB.out.trans (hb.mono HB.out.size));have QB:=Lib.hid hq;clear hb hq;cases bb)
  | (go_at_call 6;(with_reducible refine (RA.out _ HB.out).mono ?_);rintro e2 wn ⟨⟨bb,rfl,hq⟩,hb⟩;replace HB:=Lib.hid (HB.out.trans (hb.mono HB.out.size));have GA:=Lib.hid hq;clear hb hq;cases bb)
  | (go_at_call 6;(with_reducible refine (RB.out _ HB.out).mono ?_);rintro e2 wn ⟨⟨bb,rfl,hq⟩,hb⟩;replace HB:=Lib.hid (HB.out.trans (hb.mono HB.out.size));have GB:=Lib.hid hq;clear hb hq;cases bb))
   all_goals (go_ret;exact ⟨rfl,HB.out⟩)
  ·have H4:=Lib.hid h4
   clear h4
   go_enter Tryz.func3,Tryz.ntmps3
   go_upto_region 3 with (first
  | (go_at_call 4;(refine (AW.out _ HB.out).mono ?_);rintro e1 wn ⟨rfl,hb⟩;replace HB:=Lib.hid (HB.out.trans (hb.mono HB.out.size));clear hb)
  | (go_at_call 5;(with_reducible refine (SA.out _ HB.out).mono ?_);rintro e2 wn ⟨⟨bb,rfl,hq⟩,hb⟩;replace HB:=Lib.hid (HB.out.trans (hb.mono HB.out.size));have QA:=Lib.hid hq;clear hb hq;cases bb)
  | (go_at_call 5;(with_reducible refine (SB.out _ HB.out).mono ?_);rintro e2 wn ⟨⟨bb,rfl,hq⟩,hb⟩;replace HB:=Lib.hid (HB.out.trans (hb.mono HB.out.size));have QB:=Lib.hid hq;clear hb hq;cases bb)
  | (go_at_call 6;(with_reducible refine (RA.out _ HB.out).mono ?_);rintro e2 wn ⟨⟨bb,rfl,hq⟩,hb⟩;replace HB:=Lib.hid (HB.out.trans (hb.mono HB.out.size));have GA:=Lib.hid hq;clear hb hq;cases bb)
  | (go_at_call 6;(with_reducible refine (RB.out _ HB.out).mono ?_);rintro e2 wn ⟨⟨bb,rfl,hq⟩,hb⟩;replace HB:=Lib.hid (HB.out.trans (hb.mono HB.out.size));have GB:=Lib.hid hq;clear hb hq;cases bb))
   all_goals first | (exfalso;exact H4.out (by have:=(QA.out trivial).1;have:=(QB.out trivial).1;omega)) | (go_ret;exact ⟨rfl,HB.out⟩)
end
end Go.Proofs.YtenbomphkihmlaaGreatDoor
