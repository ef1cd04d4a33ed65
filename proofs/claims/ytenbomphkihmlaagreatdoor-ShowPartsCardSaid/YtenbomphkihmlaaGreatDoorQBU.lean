import Derived.Test.YtenbomphkihmlaaGreatDoorQBS
import Derived.Test.YtenbomphkihmlaaGreatDoorQBT
set_option maxRecDepth 100000
set_option maxHeartbeats 8000000
namespace Go.Proofs.YtenbomphkihmlaaGreatDoor
section
open Go.RowKit
theorem Zhm {w0:World} {A:Option Addr} {n b:Nat} {l:List Value} (h:ZB w0 b 1 A n l) (k:Nat) (hk:k<=n):ZB w0 b 1 A k (l.take k):=by
 obtain ⟨h1,h2⟩:=h
 refine ⟨by rw [List.length_take,h1];omega,fun h0=>?_⟩
 obtain ⟨ad,e,hb,hc⟩:=h2 (by omega)
 refine ⟨ad,e,hb,fun i v hv=>hc i v ?_⟩
 rw [List.getElem?_take] at hv
 split at hv
 ·exact hv
 ·cases hv
theorem ZgT (w0 w:World) (bp:Nat) (t:Txt) (vn:Value) (ns:List Nd) (f:Nat) (x:NdV×Nd) (h:PrS w0 w bp t 0 vn) (hN:Zf w0 vn ns) (hx:Zv w0 x) (hk:x.2.kind=1) (a:Txt) (hn:x.2.words=[a]) (hok:ZM ns x.2.kids Zd3) (hl:t.length+(ZaE ns f x.2).length+10000<=140737488355328) :
  Calls Tryz.prog 13 #[.pointer (some ⟨bp,0,none⟩),ndX x] w fun e w'=>e=.returned (.tuple #[])/\PrS w0 w' bp (t++ZaE ns f x.2) 0 vn/\Fr w w' bp:=by
 have hq:=hx
 obtain ⟨⟨vw,vu,vk⟩,kd,ws,nums,ks,ps⟩:=x
 obtain ⟨hw,hu,hkk⟩:=hx
 dsimp only at hk hn hok hw hu hkk hl ⊢
 obtain ⟨Aw,cw,rfl,hwl,hwm,hW,hWl⟩:=hw
 obtain ⟨Au,cu,rfl,hul,hum,hU⟩:=hu
 obtain ⟨Ak,ck,rfl,hkl,hkm,hK⟩:=hkk
 subst hk
 have he:ZaE ns f ⟨1,ws,nums,ks,ps⟩=[112,114,111,116,111,32]++a++ZA 0 (ks.map fun k=>ZaX (Ze ns k)):=by
  unfold ZaE ZD
  dsimp only
  rw [if_pos rfl,hn]
  rfl
 rw [he] at hl ⊢
 clear he
 simp only [List.length_append,List.length_cons,List.length_nil] at hl
 have N1:=Nw.start (w:=w) #[.int .i64 1,.slice Aw ws.length cw,.slice Au nums.length cu,.slice Ak ks.length ck,.int .i64 ps] h
 generalize hw1:w.alloc (.cells #[.int .i64 1,.slice Aw ws.length cw,.slice Au nums.length cu,.slice Ak ks.length ck,.int .i64 ps] 29)=w1 at *
 obtain ⟨aw,rfl,_⟩:=ZaH (k:=0) (x:=a) hW N1.p.below (by rw [hn];rfl) (by rw [hn];exact Nat.succ_pos _)
 have lw0:0<ws.length:=by rw [hn];exact Nat.succ_pos _
 have SW:=Lib.hid (And.intro hW hn)
 have H1:=Lib.hid N1
 have HN:=Lib.hid (And.intro hN (And.intro hq (And.intro hK (And.intro hkm hkl))))
 have HL:=Lib.hid hl
 have HO:=Lib.hid hok
 clear N1 hq hwl hwm hW hWl hul hum hU hkl hkm hK h hN hl hn hok
 have D1:=Lib.hid H1.out.drew
 obtain ⟨c0,c1,c2,c3,c4⟩:=Zg (x:=((.slice (some aw) ws.length cw,.slice Au nums.length cu,.slice Ak ks.length ck),⟨1,ws,nums,ks,ps⟩)) H1.out.k
 dsimp only at c0 c1 c2 c3 c4
 have cw0:=Zs (k:=0) (x:=a) SW.out.1 H1.out.p.below (by rw [SW.out.2];rfl) lw0
 have cv0:w1.cell? aw=some (txt a):=cw0
 obtain ⟨d0,d1,d2,d3,d4⟩:=Zg (x:=((.slice (some aw) ws.length cw,.slice Au nums.length cu,.slice Ak ks.length ck),⟨1,ws,nums,ks,ps⟩)) D1.out.k
 dsimp only at d0 d1 d2 d3 d4
 have dw0:=Zs (k:=0) (x:=a) SW.out.1 D1.out.p.below (by rw [SW.out.2];rfl) lw0
 have dv0:w1.drew.cell? aw=some (txt a):=dw0
 have AD:=Lib.hid (Zbl w0 w1.drew bp 0 t vn [112,114,111,116,111,32] a D1.out.p (by have:=HL.out;simp only [List.length_cons,List.length_nil];omega))
 go_enter Tryz.func13,Tryz.ntmps13
 go_upto_region 2 with fail
 go_region_with (go_at_call 26;(refine AD.out.mono ?_);rintro e w2 ⟨rfl,hp,hf⟩;have H2:=Lib.hid (D1.out.next hp hf);clear hp hf)
 all_goals
  clear c0 c1 c2 c3 c4 cw0 cv0 d0 d1 d2 d3 d4 dw0 dv0
  obtain ⟨c0,c1,c2,c3,c4⟩:=Zg (x:=((.slice (some aw) ws.length cw,.slice Au nums.length cu,.slice Ak ks.length ck),⟨1,ws,nums,ks,ps⟩)) H2.out.k
  dsimp only at c0 c1 c2 c3 c4
  have cw0:=Zs (k:=0) (x:=a) SW.out.1 H2.out.p.below (by rw [SW.out.2];rfl) lw0
  have cv0:w2.cell? aw=some (txt a):=cw0
  have BR:=Lib.hid (ZcT _ Zf4 w0 w2 bp 0 _ vn ns Ak ck ks Zd3 ZaX H2.out.p HN.out.1 (by omega) HN.out.2.2.1 (by have:=HN.out.2.2.2;omega) HO.out (Zik w0 ns 1) (by have:=HL.out;simp only [List.length_append,List.length_cons,List.length_nil];omega))
  go_wp2_with (go_at_call 27;(refine BR.out.mono ?_);rintro e w3 ⟨rfl,hp,hf⟩;have H3:=Lib.hid (H2.out.next hp hf);clear hp hf)
  refine bodyPost_ret (v:=.tuple #[]) (results_none (by kernel_rfl) _ _ _) rfl ⟨rfl,?_,H3.out.f⟩
  have:=H3.out.p
  simp only [List.append_assoc,List.cons_append,List.nil_append] at this ⊢
  exact this
theorem ZjK (w0 w:World) (bp:Nat) (t:Txt) (vn:Value) (ns:List Nd) (f:Nat) (x:NdV×Nd) (h:PrS w0 w bp t 0 vn) (hN:Zf w0 vn ns) (hx:Zv w0 x) (htk:ZV w0 0 ZbU) (htn:ZV w0 1 ZaN) (ht:Zb7 w0 w0) (S:Nd->Prop)
  (hS:Za4 47 w0 ns 1 S (Zi ns f 1)) (hk:x.2.kind=4) (a:Txt) (hn:x.2.words=[a]) (l:List Int) (k:Nat) (hks:x.2.kids=l++[(k:Int)]) (hol:ZM ns l (Zdx ns)) (hkn:k<ns.length) (hok:Za8 ns S (Ze ns k)) (hl:t.length+(ZaE ns f x.2).length+10000<=140737488355328) :
  Calls Tryz.prog 13 #[.pointer (some ⟨bp,0,none⟩),ndX x] w fun e w'=>e=.returned (.tuple #[])/\PrS w0 w' bp (t++ZaE ns f x.2) 0 vn/\Fr w w' bp:=by
 have hq:=hx
 obtain ⟨⟨vw,vu,vk⟩,kd,ws,nums,ks,ps⟩:=x
 obtain ⟨hw,hu,hkk⟩:=hx
 dsimp only at hk hn hks hw hu hkk hl ⊢
 obtain ⟨Aw,cw,rfl,hwl,hwm,hW,hWl⟩:=hw
 obtain ⟨Au,cu,rfl,hul,hum,hU⟩:=hu
 obtain ⟨Ak,ck,rfl,hkl,hkm,hK⟩:=hkk
 subst hk
 obtain ⟨z,hz⟩:∃ z,ns[k]? = some z:=⟨_,List.getElem?_eq_getElem hkn⟩
 have hkl2:ks.length=l.length+1:=by rw [hks];simp
 have hlast:ks[l.length]? = some (k:Int):=by rw [hks];simp
 have he:ZaE ns f ⟨4,ws,nums,ks,ps⟩=[102,110,32]++a++([40]++ZS [44,32] (l.map fun k=>ZaS ns (Ze ns k))++[41])++ZA 0 (z.kids.map fun k=>Zi ns f 1 (Ze ns k)):=by
  unfold ZaE ZD
  dsimp only
  rw [if_neg (by decide),show ks.length-1=l.length by omega,ZaA (n:=⟨4,ws,nums,ks,ps⟩) hlast hz,show ks.take l.length=l by rw [hks];simp,hn]
  simp only [List.append_assoc]
  rfl
 rw [he] at hl ⊢
 clear he
 rw [Zat hz] at hok
 simp only [List.length_append,List.length_cons,List.length_nil] at hl
 obtain ⟨ak,rfl,_⟩:=Zp hK h.below hlast (by omega)
 have wl:IntKind.i64.wrap ((ks.length:Int)-1)=(l.length:Int):=by rw [hkl2];exact (IntWalk.i64_in _ (by have e:maxLen=9223372036854775807:=rfl;omega)).trans (by push_cast;omega)
 have jl:(l.length:Int)<=(ks.length:Int):=by omega
 have jc:(l.length:Int)<=(ck:Int):=by omega
 have RT:=Zhm hK l.length (by omega)
 rw [<- List.map_take,show ks.take l.length=l by rw [hks];simp] at RT
 have N1:=Nw.start (w:=w) #[.int .i64 4,.slice Aw ws.length cw,.slice Au nums.length cu,.slice (some ak) ks.length ck,.int .i64 ps] h
 generalize hw1:w.alloc (.cells #[.int .i64 4,.slice Aw ws.length cw,.slice Au nums.length cu,.slice (some ak) ks.length ck,.int .i64 ps] 29)=w1 at *
 obtain ⟨aw,rfl,_⟩:=ZaH (k:=0) (x:=a) hW N1.p.below (by rw [hn];rfl) (by rw [hn];exact Nat.succ_pos _)
 have lw0:0<ws.length:=by rw [hn];exact Nat.succ_pos _
 have SW:=Lib.hid (And.intro hW hn)
 have H1:=Lib.hid N1
 have HN:=Lib.hid (And.intro hN (And.intro hq (And.intro hK (And.intro hkm hkl))))
 have HL:=Lib.hid hl
 have HK:=Lib.hid (And.intro hlast (And.intro hkn (And.intro hz (And.intro hok hkl2))))
 have HO:=Lib.hid (And.intro hol (And.intro hS RT))
 have HT:=Lib.hid (And.intro htk (And.intro htn ht))
 clear N1 hq hwl hwm hW hWl hul hum hU hkl hkm hK h hN hl hn hks hlast hkn hz hok hol hS RT htk htn ht hkl2
 have D1:=Lib.hid H1.out.drew
 obtain ⟨c0,c1,c2,c3,c4⟩:=Zg (x:=((.slice (some aw) ws.length cw,.slice Au nums.length cu,.slice (some ak) ks.length ck),⟨4,ws,nums,ks,ps⟩)) H1.out.k
 dsimp only at c0 c1 c2 c3 c4
 have cw0:=Zs (k:=0) (x:=a) SW.out.1 H1.out.p.below (by rw [SW.out.2];rfl) lw0
 have cv0:w1.cell? aw=some (txt a):=cw0
 obtain ⟨d0,d1,d2,d3,d4⟩:=Zg (x:=((.slice (some aw) ws.length cw,.slice Au nums.length cu,.slice (some ak) ks.length ck),⟨4,ws,nums,ks,ps⟩)) D1.out.k
 dsimp only at d0 d1 d2 d3 d4
 have dw0:=Zs (k:=0) (x:=a) SW.out.1 D1.out.p.below (by rw [SW.out.2];rfl) lw0
 have dv0:w1.drew.cell? aw=some (txt a):=dw0
 have AD:=Lib.hid (Zbl w0 w1.drew bp 0 t vn [102,110,32] a D1.out.p (by have:=HL.out;simp only [List.length_cons,List.length_nil];omega))
 go_enter Tryz.func13,Tryz.ntmps13
 go_upto_region 5 with fail
 go_region_with (go_at_call 26;(refine AD.out.mono ?_);rintro e w2 ⟨rfl,hp,hf⟩;have H2:=Lib.hid (D1.out.next hp hf);clear hp hf)
 all_goals
  clear c0 c1 c2 c3 c4 cw0 cv0 d0 d1 d2 d3 d4 dw0 dv0
  obtain ⟨c0,c1,c2,c3,c4⟩:=Zg (x:=((.slice (some aw) ws.length cw,.slice Au nums.length cu,.slice (some ak) ks.length ck),⟨4,ws,nums,ks,ps⟩)) H2.out.k
  dsimp only at c0 c1 c2 c3 c4
  have cw0:=Zs (k:=0) (x:=a) SW.out.1 H2.out.p.below (by rw [SW.out.2];rfl) lw0
  have cv0:w2.cell? aw=some (txt a):=cw0
  have EN:=Lib.hid (Zcu _ Zfu w0 w2 bp 0 _ vn ns (some ak) ck l (Zdx ns) (ZaS ns) H2.out.p HN.out.1 HO.out.2.2 (by have:=HN.out.2.2.2;have:=HK.out.2.2.2.2;omega) HO.out.1 (Zhi w0 ns 0 HT.out.1 HT.out.2.1 HT.out.2.2) (by have:=HL.out;simp only [List.length_append,List.length_cons,List.length_nil];omega))
  go_upto_region 7 with (go_at_call 29;(refine EN.out.mono ?_);rintro e w3 ⟨rfl,hp,hf⟩;have H3:=Lib.hid (H2.out.next hp hf);clear hp hf)
  clear c0 c1 c2 c3 c4 cw0 cv0
  obtain ⟨c0,c1,c2,c3,c4⟩:=Zg (x:=((.slice (some aw) ws.length cw,.slice Au nums.length cu,.slice (some ak) ks.length ck),⟨4,ws,nums,ks,ps⟩)) H3.out.k
  dsimp only at c0 c1 c2 c3 c4
  have cw0:=Zs (k:=0) (x:=a) SW.out.1 H3.out.p.below (by rw [SW.out.2];rfl) lw0
  have cv0:w3.cell? aw=some (txt a):=cw0
  have KI:=Lib.hid (Zas w0 w3 bp 0 _ vn ns _ l.length k ⟨H3.out.p,HN.out.1⟩ HN.out.2.1 HK.out.1 HK.out.2.1)
  have HB:=Lib.hid (ZcS w0 ns 0 S (Zi ns f 1) (by omega) HO.out.2.1)
  go_wp2_with (first
   | (go_at_call 32;(refine KI.out.mono ?_);rintro e w4 ⟨y,rfl,hy,hy2,hb⟩;have ey:y.2=z:=Option.some.inj (hy.symm.trans HK.out.2.2.1);have H4:=Lib.hid (And.intro hy2 (And.intro (H3.out.below hb) ey));clear hy hy2 hb ey;have EX:=Lib.hid (HB.out w4 bp _ vn y H4.out.2.1.p HN.out.1 H4.out.1 (H4.out.2.2▸HK.out.2.2.2.1) (by rw [H4.out.2.2];have:=HL.out;simp only [List.length_append,List.length_cons,List.length_nil];omega)))
   | (go_at_call 31;(refine EX.out.mono ?_);rintro e w5 ⟨rfl,hp,hf⟩;have H5:=Lib.hid (H4.out.2.1.next hp hf);clear hp hf))
  go_end0
  refine ⟨rfl,?_,H5.out.f⟩
  have:=H5.out.p
  rw [H4.out.2.2] at this
  simp only [List.append_assoc,List.cons_append,List.nil_append] at this ⊢
  exact this
end
end Go.Proofs.YtenbomphkihmlaaGreatDoor
