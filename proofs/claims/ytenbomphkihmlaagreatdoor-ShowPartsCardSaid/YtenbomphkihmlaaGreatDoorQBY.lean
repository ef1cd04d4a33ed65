import Derived.Test.YtenbomphkihmlaaGreatDoorQBV
import Derived.Test.YtenbomphkihmlaaGreatDoorQBW
import Derived.Test.YtenbomphkihmlaaGreatDoorQBX
set_option maxRecDepth 100000
set_option maxHeartbeats 8000000
namespace Go.Proofs.YtenbomphkihmlaaGreatDoor
section
open Go.RowKit
abbrev Za5 (ns:List Nd) (f d:Nat) (m:Nd):Txt:=ZA d (m.kids.map fun k=>Zi ns f (d+1) (Ze ns k))
theorem Zko (w0 w:World) (bp dp:Nat) (t:Txt) (vn:Value) (ns:List Nd) (f:Nat) (x:NdV×Nd) (h:PrS w0 w bp t dp vn) (hN:Zf w0 vn ns) (hx:Zv w0 x) (hE:Zaj w0 ns f) (hk:x.2.kind=8) (s:Txt) (r:List Txt) (k:Nat) (hn:x.2.words=s::r) (hi:x.2.kids[0]? = some (k:Int)) (hkn:k<ns.length) (hv:ZX ns f (Ze ns k)) (hl:t.length+(Zi ns (f+1) dp x.2).length+10000<=140737488355328) :
  Calls Tryz.prog 47 #[.pointer (some ⟨bp,0,none⟩),ndX x] w fun e w'=>e=.returned (.tuple #[])/\PrS w0 w' bp (t++Zi ns (f+1) dp x.2) dp vn/\Fr w w' bp:=by
 have hq:=hx
 obtain ⟨⟨vw,vu,vk⟩,kd,ws,nums,ks,ps⟩:=x
 obtain ⟨hw,hu,hkk⟩:=hx
 dsimp only at hk hn hi hw hu hkk hl ⊢
 obtain ⟨Aw,cw,rfl,hwl,hwm,hW,hWl⟩:=hw
 obtain ⟨Au,cu,rfl,hul,hum,hU⟩:=hu
 obtain ⟨Ak,ck,rfl,hkl,hkm,hK⟩:=hkk
 subst hk
 have he:Zi ns (f+1) dp ⟨8,ws,nums,ks,ps⟩=[108,101,116,32]++Zcf ns f ⟨8,ws,nums,ks,ps⟩:=by simp [Zi]
 rw [he] at hl ⊢
 clear he
 simp only [List.length_append,List.length_cons,List.length_nil] at hl
 have N1:=Nw.start (w:=w) #[.int .i64 8,.slice Aw ws.length cw,.slice Au nums.length cu,.slice Ak ks.length ck,.int .i64 ps] h
 generalize hw1:w.alloc (.cells #[.int .i64 8,.slice Aw ws.length cw,.slice Au nums.length cu,.slice Ak ks.length ck,.int .i64 ps] 29)=w1 at *
 have H1:=Lib.hid N1
 have HN:=Lib.hid (And.intro hN (And.intro hq (And.intro hK (And.intro hkm hkl))))
 have HL:=Lib.hid hl
 have HI:=Lib.hid (And.intro hn (And.intro hi (And.intro hkn (And.intro hv hE))))
 clear N1 hq hwl hwm hW hWl hul hum hU hkl hkm hK h hN hl hn hi hkn hv hE
 obtain ⟨c0,c1,c2,c3,c4⟩:=Zg (x:=((.slice Aw ws.length cw,.slice Au nums.length cu,.slice Ak ks.length ck),⟨8,ws,nums,ks,ps⟩)) H1.out.k
 dsimp only at c0 c1 c2 c3 c4
 have AD:=Lib.hid (ZH w0 w1 bp dp t vn [108,101,116,32] H1.out.p (by have:=HL.out;simp only [List.length_cons,List.length_nil];omega))
 go_enter Tryz.func47,Tryz.ntmps47
 go_upto_region 4 with (go_at_call 26;(refine AD.out.mono ?_);rintro e w2 ⟨rfl,hp,hf⟩;have H2:=Lib.hid (H1.out.next hp hf);clear hp hf)
 clear c0 c1 c2 c3 c4
 obtain ⟨c0,c1,c2,c3,c4⟩:=Zg (x:=((.slice Aw ws.length cw,.slice Au nums.length cu,.slice Ak ks.length ck),⟨8,ws,nums,ks,ps⟩)) H2.out.k
 dsimp only at c0 c1 c2 c3 c4
 have SE:=Lib.hid (ZgI w0 w2 bp dp f _ vn ns _ H2.out.p HN.out.1 HN.out.2.1 HI.out.2.2.2.2 s r k HI.out.1 HI.out.2.1 HI.out.2.2.1 HI.out.2.2.2.1 (by have:=HL.out;simp only [List.length_append,List.length_cons,List.length_nil];omega))
 go_wp2_with (go_at_call 64;(refine SE.out.mono ?_);rintro e w3 ⟨rfl,hp,hf⟩;have H3:=Lib.hid (H2.out.next hp hf);clear hp hf)
 go_end0
 refine ⟨rfl,?_,H3.out.f⟩
 have:=H3.out.p
 simp only [List.append_assoc,List.cons_append,List.nil_append] at this ⊢
 exact this
theorem Zkp (w0 w:World) (bp dp:Nat) (t:Txt) (vn:Value) (ns:List Nd) (f:Nat) (x:NdV×Nd) (h:PrS w0 w bp t dp vn) (hN:Zf w0 vn ns) (hx:Zv w0 x) (hE:Zaj w0 ns f) (hk:x.2.kind=9) (s:Txt) (r:List Txt) (k:Nat) (hn:x.2.words=s::r) (hi:x.2.kids[0]? = some (k:Int)) (hkn:k<ns.length) (hv:ZX ns f (Ze ns k)) (hl:t.length+(Zi ns (f+1) dp x.2).length+10000<=140737488355328) :
  Calls Tryz.prog 47 #[.pointer (some ⟨bp,0,none⟩),ndX x] w fun e w'=>e=.returned (.tuple #[])/\PrS w0 w' bp (t++Zi ns (f+1) dp x.2) dp vn/\Fr w w' bp:=by
 have hq:=hx
 obtain ⟨⟨vw,vu,vk⟩,kd,ws,nums,ks,ps⟩:=x
 obtain ⟨hw,hu,hkk⟩:=hx
 dsimp only at hk hn hi hw hu hkk hl ⊢
 obtain ⟨Aw,cw,rfl,hwl,hwm,hW,hWl⟩:=hw
 obtain ⟨Au,cu,rfl,hul,hum,hU⟩:=hu
 obtain ⟨Ak,ck,rfl,hkl,hkm,hK⟩:=hkk
 subst hk
 have he:Zi ns (f+1) dp ⟨9,ws,nums,ks,ps⟩=Zcf ns f ⟨9,ws,nums,ks,ps⟩:=by simp [Zi]
 rw [he] at hl ⊢
 clear he
 have N1:=Nw.start (w:=w) #[.int .i64 9,.slice Aw ws.length cw,.slice Au nums.length cu,.slice Ak ks.length ck,.int .i64 ps] h
 generalize hw1:w.alloc (.cells #[.int .i64 9,.slice Aw ws.length cw,.slice Au nums.length cu,.slice Ak ks.length ck,.int .i64 ps] 29)=w1 at *
 have H1:=Lib.hid N1
 have HN:=Lib.hid (And.intro hN (And.intro hq (And.intro hK (And.intro hkm hkl))))
 have HL:=Lib.hid hl
 have HI:=Lib.hid (And.intro hn (And.intro hi (And.intro hkn (And.intro hv hE))))
 clear N1 hq hwl hwm hW hWl hul hum hU hkl hkm hK h hN hl hn hi hkn hv hE
 obtain ⟨c0,c1,c2,c3,c4⟩:=Zg (x:=((.slice Aw ws.length cw,.slice Au nums.length cu,.slice Ak ks.length ck),⟨9,ws,nums,ks,ps⟩)) H1.out.k
 dsimp only at c0 c1 c2 c3 c4
 go_enter Tryz.func47,Tryz.ntmps47
 have SE:=Lib.hid (ZgI w0 w1 bp dp f _ vn ns _ H1.out.p HN.out.1 HN.out.2.1 HI.out.2.2.2.2 s r k HI.out.1 HI.out.2.1 HI.out.2.2.1 HI.out.2.2.2.1 (by have:=HL.out;dsimp only;omega))
 go_wp2_with (go_at_call 64;(refine SE.out.mono ?_);rintro e w2 ⟨rfl,hp,hf⟩;have H2:=Lib.hid (H1.out.next hp hf);clear hp hf)
 go_end0
 exact ⟨rfl,H2.out.p,H2.out.f⟩
theorem ZjT (w0 w:World) (bp dp:Nat) (t:Txt) (vn:Value) (ns:List Nd) (f:Nat) (x:NdV×Nd) (h:PrS w0 w bp t dp vn) (hN:Zf w0 vn ns) (hx:Zv w0 x) (S:Nd->Prop) (hB:Za4 31 w0 ns dp S (Za5 ns f dp)) (hk:x.2.kind=10) (a b:Txt) (hn:x.2.words=[a,b]) (hok:ZM ns x.2.kids S) (hl:t.length+(Zi ns (f+1) dp x.2).length+10000<=140737488355328) :
  Calls Tryz.prog 47 #[.pointer (some ⟨bp,0,none⟩),ndX x] w fun e w'=>e=.returned (.tuple #[])/\PrS w0 w' bp (t++Zi ns (f+1) dp x.2) dp vn/\Fr w w' bp:=by
 have hq:=hx
 obtain ⟨⟨vw,vu,vk⟩,kd,ws,nums,ks,ps⟩:=x
 obtain ⟨hw,hu,hkk⟩:=hx
 dsimp only at hk hn hok hw hu hkk hl ⊢
 obtain ⟨Aw,cw,rfl,hwl,hwm,hW,hWl⟩:=hw
 obtain ⟨Au,cu,rfl,hul,hum,hU⟩:=hu
 obtain ⟨Ak,ck,rfl,hkl,hkm,hK⟩:=hkk
 subst hk
 have he:Zi ns (f+1) dp ⟨10,ws,nums,ks,ps⟩=[111,112,101,110,32]++a++[32]++b++ZS [32,101,108,115,101] (ks.map fun k=>Za5 ns f dp (Ze ns k)):=by
  simp [Zi,ZD,hn]
 rw [he] at hl ⊢
 clear he
 simp only [List.length_append,List.length_cons,List.length_nil] at hl
 have N1:=Nw.start (w:=w) #[.int .i64 10,.slice Aw ws.length cw,.slice Au nums.length cu,.slice Ak ks.length ck,.int .i64 ps] h
 generalize hw1:w.alloc (.cells #[.int .i64 10,.slice Aw ws.length cw,.slice Au nums.length cu,.slice Ak ks.length ck,.int .i64 ps] 29)=w1 at *
 obtain ⟨aw,rfl,_⟩:=ZaH (k:=0) (x:=a) hW N1.p.below (by rw [hn];rfl) (by rw [hn];exact Nat.succ_pos _)
 have lw0:0<ws.length:=by rw [hn];exact Nat.succ_pos _
 have lw1:1<ws.length:=by rw [hn];simp only [List.length_cons];omega
 have SW:=Lib.hid (And.intro hW hn)
 have H1:=Lib.hid N1
 have HN:=Lib.hid (And.intro hN (And.intro hq (And.intro hK (And.intro hkm hkl))))
 have HL:=Lib.hid hl
 have HO:=Lib.hid (And.intro hok hB)
 clear N1 hq hwl hwm hW hWl hul hum hU hkl hkm hK h hN hl hn hok hB
 have D1:=Lib.hid H1.out.drew
 obtain ⟨c0,c1,c2,c3,c4⟩:=Zg (x:=((.slice (some aw) ws.length cw,.slice Au nums.length cu,.slice Ak ks.length ck),⟨10,ws,nums,ks,ps⟩)) H1.out.k
 dsimp only at c0 c1 c2 c3 c4
 have cw0:=Zs (k:=0) (x:=a) SW.out.1 H1.out.p.below (by rw [SW.out.2];rfl) lw0
 have cv0:w1.cell? aw=some (txt a):=cw0
 have cw1:=Zs (k:=1) (x:=b) SW.out.1 H1.out.p.below (by rw [SW.out.2];rfl) lw1
 have cv1:w1.cell? ⟨aw.block,aw.off+1,none⟩=some (txt b):=cw1
 obtain ⟨d0,d1,d2,d3,d4⟩:=Zg (x:=((.slice (some aw) ws.length cw,.slice Au nums.length cu,.slice Ak ks.length ck),⟨10,ws,nums,ks,ps⟩)) D1.out.k
 dsimp only at d0 d1 d2 d3 d4
 have dw0:=Zs (k:=0) (x:=a) SW.out.1 D1.out.p.below (by rw [SW.out.2];rfl) lw0
 have dv0:w1.drew.cell? aw=some (txt a):=dw0
 have dw1:=Zs (k:=1) (x:=b) SW.out.1 D1.out.p.below (by rw [SW.out.2];rfl) lw1
 have dv1:w1.drew.cell? ⟨aw.block,aw.off+1,none⟩=some (txt b):=dw1
 have AD:=Lib.hid (ZdJ w0 w1.drew bp dp t vn [111,112,101,110,32] a [32] b D1.out.p (by have:=HL.out;simp only [List.length_cons,List.length_nil];omega))
 go_enter Tryz.func47,Tryz.ntmps47
 go_upto_region 8 with fail
 go_region_with (go_at_call 26;(refine AD.out.mono ?_);rintro e w2 ⟨rfl,hp,hf⟩;have H2:=Lib.hid (D1.out.next hp hf);clear hp hf)
 all_goals
  clear c0 c1 c2 c3 c4 cw0 cw1 cv0 cv1 d0 d1 d2 d3 d4 dw0 dw1 dv0 dv1
  obtain ⟨c0,c1,c2,c3,c4⟩:=Zg (x:=((.slice (some aw) ws.length cw,.slice Au nums.length cu,.slice Ak ks.length ck),⟨10,ws,nums,ks,ps⟩)) H2.out.k
  dsimp only at c0 c1 c2 c3 c4
  have cw0:=Zs (k:=0) (x:=a) SW.out.1 H2.out.p.below (by rw [SW.out.2];rfl) lw0
  have cv0:w2.cell? aw=some (txt a):=cw0
  have cw1:=Zs (k:=1) (x:=b) SW.out.1 H2.out.p.below (by rw [SW.out.2];rfl) lw1
  have cv1:w2.cell? ⟨aw.block,aw.off+1,none⟩=some (txt b):=cw1
  have BR:=Lib.hid (Zdf w0 w2 bp dp _ vn ns Ak ck ks S (Za5 ns f dp) H2.out.p HN.out.1 HN.out.2.2.1 (by have:=HN.out.2.2.2;omega) HO.out.1 HO.out.2 (by have:=HL.out;simp only [List.length_append,List.length_cons,List.length_nil];omega))
  go_wp2_with (go_at_call 65;(refine BR.out.mono ?_);rintro e w3 ⟨rfl,hp,hf⟩;have H3:=Lib.hid (H2.out.next hp hf);clear hp hf)
  go_end0
  refine ⟨rfl,?_,H3.out.f⟩
  have:=H3.out.p
  simp only [List.append_assoc,List.cons_append,List.nil_append] at this ⊢
  exact this
theorem ZjU (w0 w:World) (bp dp:Nat) (t:Txt) (vn:Value) (ns:List Nd) (f:Nat) (x:NdV×Nd) (h:PrS w0 w bp t dp vn) (hN:Zf w0 vn ns) (hx:Zv w0 x) (hd:dp<3999) (S:Nd->Prop) (hB:Za4 31 w0 ns (dp+1) S (Za5 ns f (dp+1))) (hk:x.2.kind=11) (hn:∃ a b,x.2.words=[a,b]) (hok:ZM ns x.2.kids (fun n=>(∃ s r,n.words=s::r)/\∃ k,n.kids=[k]/\ZM ns [k] S)) (hl:t.length+(Zi ns (f+1) dp x.2).length+10000<=140737488355328) :
  Calls Tryz.prog 47 #[.pointer (some ⟨bp,0,none⟩),ndX x] w fun e w'=>e=.returned (.tuple #[])/\PrS w0 w' bp (t++Zi ns (f+1) dp x.2) dp vn/\Fr w w' bp:=by
 have hq:=hx
 obtain ⟨⟨vw,vu,vk⟩,kd,ws,nums,ks,ps⟩:=x
 obtain ⟨hw,hu,hkk⟩:=hx
 dsimp only at hk hn hok hw hu hkk hl ⊢
 obtain ⟨Aw,cw,rfl,hwl,hwm,hW,hWl⟩:=hw
 obtain ⟨Au,cu,rfl,hul,hum,hU⟩:=hu
 obtain ⟨Ak,ck,rfl,hkl,hkm,hK⟩:=hkk
 subst hk
 have he:Zi ns (f+1) dp ⟨11,ws,nums,ks,ps⟩=[100,111,32]++ZD ⟨11,ws,nums,ks,ps⟩ 0++[46]++ZD ⟨11,ws,nums,ks,ps⟩ 1++(if ks=[] then [59] else ZA dp (ks.map fun k=>ZD (Ze ns k) 0++Za5 ns f (dp+1) (ZP ns (Ze ns k) 0))):=by
  simp [Zi]
 generalize Zi ns (f+1) dp ⟨11,ws,nums,ks,ps⟩=Z at he hl ⊢
 have HE:=Lib.hid he
 clear he
 have N1:=Nw.start (w:=w) #[.int .i64 11,.slice Aw ws.length cw,.slice Au nums.length cu,.slice Ak ks.length ck,.int .i64 ps] h
 generalize hw1:w.alloc (.cells #[.int .i64 11,.slice Aw ws.length cw,.slice Au nums.length cu,.slice Ak ks.length ck,.int .i64 ps] 29)=w1 at *
 have H1:=Lib.hid N1
 have HN:=Lib.hid (And.intro hN (And.intro hq (And.intro hK (And.intro hkm hkl))))
 have HL:=Lib.hid hl
 have HO:=Lib.hid (And.intro hn (And.intro hok (And.intro hB hd)))
 clear N1 hq hwl hwm hW hWl hul hum hU hkl hkm hK h hN hl hn hok hB hd
 obtain ⟨c0,c1,c2,c3,c4⟩:=Zg (x:=((.slice Aw ws.length cw,.slice Au nums.length cu,.slice Ak ks.length ck),⟨11,ws,nums,ks,ps⟩)) H1.out.k
 dsimp only at c0 c1 c2 c3 c4
 have DO:=Lib.hid (ZjF w0 ns dp _ _ (by have:=HO.out.2.2.2;omega) (ZfH w0 ns (dp+1) S _ HO.out.2.2.1) w1 bp t vn _ H1.out.p HN.out.1 HN.out.2.1 ⟨HO.out.1,HO.out.2.1⟩ (by have:=HL.out;rw [HE.out] at this;exact this))
 go_enter Tryz.func47,Tryz.ntmps47
 go_wp2_with (go_at_call 66;(refine DO.out.mono ?_);rintro e w2 ⟨rfl,hp,hf⟩;have H2:=Lib.hid (H1.out.next hp hf);clear hp hf)
 go_end0
 exact ⟨rfl,HE.out.symm▸H2.out.p,H2.out.f⟩
theorem ZjV (w0 w:World) (bp dp:Nat) (t:Txt) (vn:Value) (ns:List Nd) (f:Nat) (x:NdV×Nd) (h:PrS w0 w bp t dp vn) (hN:Zf w0 vn ns) (hx:Zv w0 x) (htk:ZV w0 0 ZbU) (htn:ZV w0 1 ZaN) (ht:Zb7 w0 w0) (S:Nd->Prop) (hB:Za4 31 w0 ns dp S (Za5 ns f dp)) (hk:x.2.kind=13) (a b:Txt) (hn:x.2.words=[a,b]) (p:Nat) (q r:Int) (hm:x.2.nums=[(p:Int),q,r]) (hp4:p<=4) (hq0:Za0 q) (hr0:Za0 r) (l:List Int) (k:Nat) (hks:x.2.kids=l++[(k:Int)]) (hol:ZM ns l ZbZ) (hkn:k<ns.length) (hok:S (Ze ns k)) (hl:t.length+(Zi ns (f+1) dp x.2).length+10000<=140737488355328) :
  Calls Tryz.prog 47 #[.pointer (some ⟨bp,0,none⟩),ndX x] w fun e w'=>e=.returned (.tuple #[])/\PrS w0 w' bp (t++Zi ns (f+1) dp x.2) dp vn/\Fr w w' bp:=by
 have hq:=hx
 obtain ⟨⟨vw,vu,vk⟩,kd,ws,nums,ks,ps⟩:=x
 obtain ⟨hw,hu,hkk⟩:=hx
 dsimp only at hk hn hm hks hw hu hkk hl ⊢
 obtain ⟨Aw,cw,rfl,hwl,hwm,hW,hWl⟩:=hw
 obtain ⟨Au,cu,rfl,hul,hum,hU⟩:=hu
 obtain ⟨Ak,ck,rfl,hkl,hkm,hK⟩:=hkk
 subst hk
 have hkl2:ks.length=l.length+1:=by rw [hks];simp
 have hlast:ks[l.length]? = some (k:Int):=by rw [hks];simp
 obtain ⟨z,hz⟩:∃ z,ns[k]? = some z:=⟨_,List.getElem?_eq_getElem hkn⟩
 have hkid:ZP ns ⟨13,ws,nums,ks,ps⟩ (ks.length-1)=Ze ns k:=by rw [show ks.length-1=l.length by omega,ZaA (n:=⟨13,ws,nums,ks,ps⟩) hlast hz,Zat hz]
 have he:Zi ns (f+1) dp ⟨13,ws,nums,ks,ps⟩=[115,112,108,105,116,32]++a++[32,61,32]++b++[32]++Zaz p++[32]++Zbo q r++ZaC ns l++Za5 ns f dp (Ze ns k):=by
  have e2:ks.take (ks.length-1)=l:=by rw [hks];simp
  have e3:Zi ns (f+1) dp ⟨13,ws,nums,ks,ps⟩=[115,112,108,105,116,32]++ZD ⟨13,ws,nums,ks,ps⟩ 0++[32,61,32]++ZD ⟨13,ws,nums,ks,ps⟩ 1++[32]++Zaz (num ⟨13,ws,nums,ks,ps⟩ 0)++[32]++Zbo (num ⟨13,ws,nums,ks,ps⟩ 1) (num ⟨13,ws,nums,ks,ps⟩ 2)++ZaC ns (ks.take (ks.length-1))++Za5 ns f dp (ZP ns ⟨13,ws,nums,ks,ps⟩ (ks.length-1)):=by simp [Zi,ZaC]
  rw [e3,hkid,e2]
  simp [ZD,num,hn,hm]
 rw [he] at hl ⊢
 clear he hkid hz hlast hkl2
 have N1:=Nw.start (w:=w) #[.int .i64 13,.slice Aw ws.length cw,.slice Au nums.length cu,.slice Ak ks.length ck,.int .i64 ps] h
 generalize hw1:w.alloc (.cells #[.int .i64 13,.slice Aw ws.length cw,.slice Au nums.length cu,.slice Ak ks.length ck,.int .i64 ps] 29)=w1 at *
 have H1:=Lib.hid N1
 have HN:=Lib.hid (And.intro hN (And.intro hq (And.intro hK (And.intro hkm hkl))))
 have HL:=Lib.hid hl
 have HO:=Lib.hid (And.intro hn (And.intro hm (And.intro hp4 (And.intro hq0 (And.intro hr0 (And.intro hks (And.intro hol (And.intro hkn (And.intro hok (And.intro hB (And.intro htk (And.intro htn ht))))))))))))
 clear N1 hq hwl hwm hW hWl hul hum hU hkl hkm hK h hN hl hn hm hp4 hq0 hr0 hks hol hkn hok hB htk htn ht
 obtain ⟨c0,c1,c2,c3,c4⟩:=Zg (x:=((.slice Aw ws.length cw,.slice Au nums.length cu,.slice Ak ks.length ck),⟨13,ws,nums,ks,ps⟩)) H1.out.k
 dsimp only at c0 c1 c2 c3 c4
 have SP:=Lib.hid (ZiB w0 w1 bp dp t vn ns S (Za5 ns f dp) _ H1.out.p HN.out.1 HN.out.2.1 HO.out.2.2.2.2.2.2.2.2.2.2.1 HO.out.2.2.2.2.2.2.2.2.2.2.2.1 HO.out.2.2.2.2.2.2.2.2.2.2.2.2 HO.out.2.2.2.2.2.2.2.2.2.1 a b HO.out.1 p q r HO.out.2.1 HO.out.2.2.1 HO.out.2.2.2.1 HO.out.2.2.2.2.1 l k HO.out.2.2.2.2.2.1 HO.out.2.2.2.2.2.2.1 HO.out.2.2.2.2.2.2.2.1 HO.out.2.2.2.2.2.2.2.2.1 HL.out)
 go_enter Tryz.func47,Tryz.ntmps47
 go_wp2_with (go_at_call 67;(refine SP.out.mono ?_);rintro e w2 ⟨rfl,hp,hf⟩;have H2:=Lib.hid (H1.out.next hp hf);clear hp hf)
 go_end0
 exact ⟨rfl,H2.out.p,H2.out.f⟩
theorem ZjW (w0 w:World) (bp dp:Nat) (t:Txt) (vn:Value) (ns:List Nd) (f:Nat) (x:NdV×Nd) (h:PrS w0 w bp t dp vn) (hN:Zf w0 vn ns) (hx:Zv w0 x) (hE:Zaj w0 ns f) (hk:x.2.kind=14) (hn:(∃ a,x.2.words=[a])\/∃ a b,x.2.words=[a,b]) (hok:ZM ns x.2.kids (Zch ns f)) (hl:t.length+(Zi ns (f+1) dp x.2).length+10000<=140737488355328) :
  Calls Tryz.prog 47 #[.pointer (some ⟨bp,0,none⟩),ndX x] w fun e w'=>e=.returned (.tuple #[])/\PrS w0 w' bp (t++Zi ns (f+1) dp x.2) dp vn/\Fr w w' bp:=by
 have hq:=hx
 obtain ⟨⟨vw,vu,vk⟩,kd,ws,nums,ks,ps⟩:=x
 obtain ⟨hw,hu,hkk⟩:=hx
 dsimp only at hk hn hok hw hu hkk hl ⊢
 obtain ⟨Aw,cw,rfl,hwl,hwm,hW,hWl⟩:=hw
 obtain ⟨Au,cu,rfl,hul,hum,hU⟩:=hu
 obtain ⟨Ak,ck,rfl,hkl,hkm,hK⟩:=hkk
 subst hk
 have he:Zi ns (f+1) dp ⟨14,ws,nums,ks,ps⟩=ZbS ns f ⟨14,ws,nums,ks,ps⟩:=by simp [Zi,ZbS]
 rw [he] at hl ⊢
 clear he
 have N1:=Nw.start (w:=w) #[.int .i64 14,.slice Aw ws.length cw,.slice Au nums.length cu,.slice Ak ks.length ck,.int .i64 ps] h
 generalize hw1:w.alloc (.cells #[.int .i64 14,.slice Aw ws.length cw,.slice Au nums.length cu,.slice Ak ks.length ck,.int .i64 ps] 29)=w1 at *
 have H1:=Lib.hid N1
 have HN:=Lib.hid (And.intro hN (And.intro hq (And.intro hK (And.intro hkm hkl))))
 have HL:=Lib.hid hl
 have HO:=Lib.hid (And.intro hn (And.intro hok hE))
 clear N1 hq hwl hwm hW hWl hul hum hU hkl hkm hK h hN hl hn hok hE
 obtain ⟨c0,c1,c2,c3,c4⟩:=Zg (x:=((.slice Aw ws.length cw,.slice Au nums.length cu,.slice Ak ks.length ck),⟨14,ws,nums,ks,ps⟩)) H1.out.k
 dsimp only at c0 c1 c2 c3 c4
 have CA:=Lib.hid (show Calls Tryz.prog 68 #[.pointer (some ⟨bp,0,none⟩),ndX ((.slice Aw ws.length cw,.slice Au nums.length cu,.slice Ak ks.length ck),⟨14,ws,nums,ks,ps⟩)] w1 (fun e w'=>e=.returned (.tuple #[])/\PrS w0 w' bp (t++ZbS ns f ⟨14,ws,nums,ks,ps⟩) dp vn/\Fr w1 w' bp) from by
  rcases HO.out.1 with ⟨a,hn⟩ | ⟨a,b,hn⟩
  ·exact ZhH w0 w1 bp dp f t vn ns _ H1.out.p HN.out.1 HN.out.2.1 HO.out.2.2 a hn HO.out.2.1 HL.out
  ·exact ZhI w0 w1 bp dp f t vn ns _ H1.out.p HN.out.1 HN.out.2.1 HO.out.2.2 a b hn HO.out.2.1 HL.out)
 go_enter Tryz.func47,Tryz.ntmps47
 go_wp2_with (go_at_call 68;(refine CA.out.mono ?_);rintro e w2 ⟨rfl,hp,hf⟩;have H2:=Lib.hid (H1.out.next hp hf);clear hp hf)
 go_end0
 exact ⟨rfl,H2.out.p,H2.out.f⟩
end
end Go.Proofs.YtenbomphkihmlaaGreatDoor
