import Derived.Test.YtkgkmdhpnhmcpaaGreatDoorQBB
set_option maxRecDepth 100000
set_option maxHeartbeats 8000000
namespace Go.Proofs.YtkgkmdhpnhmcpaaGreatDoor
section
open Go.RowKit Go.Maps
theorem Zg6:LenP ZL:=⟨by decide,by decide,by decide⟩
theorem Zfm:LenP Zw:=⟨by decide,by decide,by decide⟩
theorem Zg7:LenP ZO:=⟨by decide,by decide,by decide⟩
theorem Zim:SzP ZL:=⟨by decide,by decide,by decide,by decide,by decide,by decide⟩
theorem ZgD:SzP Zw:=⟨by decide,by decide,by decide,by decide,by decide,by decide⟩
theorem Zin:SzP ZO:=⟨by decide,by decide,by decide,by decide,by decide,by decide⟩
theorem Zfz:(Zy ZL).1=0:=by decide +kernel
theorem Zeg:(Zy Zw).1=0:=by decide +kernel
theorem ZfA:(Zy ZO).1=0:=by decide +kernel
section
variable {w w':World} {B bk bm:Nat} {ps:List Pro} {al:List Nat}
theorem BookS.apart {b:Nat} {ty:TypeId} {cs:Array Value} (h:BookS B w bk bm ps al) (k:Zd w b ty cs) (hne:ty≠63):b≠bk/\b≠bm:=by
 obtain ⟨vn,h1,_⟩:=h.box
 exact ⟨ZaV k h1 hne,fun e=>h.map.not_blk k e.symm⟩
theorem FrA.tblk {b:Nat} {ty:TypeId} {cs:Array Value} (h:FrA w w' bk bm) (k:Zd w b ty cs) (h1:b≠bk) (h2:b≠bm) (h3:ty≠9):Zd w' b ty cs:=
 (h.2 b k.lt h1 h2 (fun _ q=>h3 (ZaW k rfl q))).trans k
theorem FrA.keepA (h:FrA w w' bk bm) (hS:BookS B w bk bm ps al):ZY w w':=fun b ty cs k hk=>by
 have ne:ty≠63:=by rintro rfl;revert hk;decide
 have ns:ty≠9:=by rintro rfl;revert hk;decide
 exact h.tblk k (hS.apart k ne).1 (hS.apart k ne).2 ns
theorem ZN.keepA {vs vm:Value} {p:Pro} (h:ZN w B vs vm p) (k:ZY w w'):ZN w' B vs vm p:=by
 obtain ⟨rs,h2,h3,h4,h5⟩:=h
 exact ⟨rs,h2,k.own h3 (.inr (.inl rfl)),k.own h4 (.inr (.inr (.inl rfl))),fun x hx=>k.own (h5 x hx) (.inr (.inr (.inr rfl)))⟩
theorem Three.keepA {v0 m0 v1 m1 v2 m2:Value} (h:Three w B v0 m0 v1 m1 v2 m2) (k:ZY w w'):Three w' B v0 m0 v1 m1 v2 m2:=⟨h.f.keepA k,h.s.keepA k,h.i.keepA k⟩
end
theorem ZdM (w:World):Calls Tryz.prog 19 #[] w fun e w'=>∃ bk bm al,e=.returned (.pointer (some ⟨bk,0,none⟩))/\BookS w.heap.size w' bk bm [ZL,Zw,ZO] al/\Below w.heap.size w w':=by
 have hmm:=@run_makeMap Tryz.prog
 have a1:=below_alloc1 w (.map #[] 0)
 have a2:=below_alloc1 (w.alloc (.map #[] 0)) (.cells #[.slice none 0 0,.map (some w.heap.size)] 63)
 have b:=Zd.start (w.alloc (.map #[] 0)) #[.slice none 0 0,.map (some w.heap.size)] 63
 rw [World.size_alloc] at b
 have m0:Zbc (w.alloc (.map #[] 0)) w.heap.size [] []:=⟨.map [],World.ownsMap_made _ _ _ _,isMap_empty,fun i p a h=>by simp at h,fun s _=>rfl⟩
 have HF:=zh (show BookS w.heap.size _ (w.heap.size+1) w.heap.size [] [] from ⟨⟨_,b,World.ownsRow_nil _ _ _ _⟩,m0.keepE (a2.block _ m0.lt),rfl,(fun i p a h=>by simp at h),Nat.le_succ _,Nat.le_refl _⟩)
 have HB:=zh (a1.trans (a2.mono a1.size))
 clear a1 a2 b m0
 go_enter Tryz.func19,Tryz.ntmps19
 go_upto_region 2 with fail
 generalize hW:(w.alloc (.map #[] 0)).alloc (.cells #[.slice none 0 0,.map (some w.heap.size)] 63)=W at *
 clear hW
 go_wp2_with (go_at_call 41;(refine (Zeh _).mono ?_);rintro e w1 ⟨g,v0,m0,v1,m1,v2,m2,rfl,hG,hge,hT,hb1⟩;have H1:=zh (zi hG (zi hT hb1));clear hG hge hT hb1)
 go_loopg [9] 3 (fun gm v9 wr=>∃ k:Nat,v9=.int .i64 k/\k<=3/\gm=3-k/\∃ al,BookS w.heap.size wr (w.heap.size+1) w.heap.size ([ZL,Zw,ZO].take k) al/\Zd wr g 122 (nine v0 m0 v1 m1 v2 m2)/\Three wr W.heap.size v0 m0 v1 m1 v2 m2/\Below w.heap.size w wr)
 case atStart=>exact ⟨0,rfl,Nat.zero_le _,rfl,[],HF.out.keep H1.out.2.2,H1.out.1,H1.out.2.1,HB.out.trans (H1.out.2.2.mono HB.out.size)⟩
 case round=>
  obtain ⟨k,rfl,hk,hg,al,hS,hG,hT,hb⟩:=hrel
  have kk:k=0\/k=1\/k=2\/k=3:=by omega
  clear hk
  rcases kk with rfl | rfl | rfl | rfl
  ·(try dsimp only [List.take] at hS)
   obtain ⟨⟨As,cs,rfl⟩,⟨Am,cm,rfl⟩⟩:=hT.f.shape
   have d0:=hG.blk.cell 0
   have d1:=hG.blk.cell 1
   have d2:=hG.blk.cell 2
   simp only [List.getElem?_toArray,List.getElem?_cons_zero,List.getElem?_cons_succ] at d0 d1 d2
   have a5:=below_alloc1 wr (.cells #[txt ZL.name,.slice As ZL.states.length cs,.slice Am ZL.moves.length cm] 51)
   have B5:=Blk.start wr #[txt ZL.name,.slice As ZL.states.length cs,.slice Am ZL.moves.length cm] 51
   have hp5:=(hT.f.below a5).pro Zg6
   have AD:=zh (Zb8 _ w.heap.size (w.heap.size+1) w.heap.size [] al _ _ ZL (hS.keep a5) hp5 Zim Zfz (by decide) (by decide) (Nat.le_trans hb.size a5.size))
   have HK:=zh (zi hg (zi (hb.trans (a5.mono hb.size)) (zi (hS.keep a5) (zi (hG.keep a5) (hT.below a5)))))
   clear hg hb hS hG hT a5 hp5
   go_upto_region 5 with fail
   generalize wr.alloc (.cells #[txt ZL.name,.slice As ZL.states.length cs,.slice Am ZL.moves.length cm] 51)=W5 at *
   have c0:=B5.cell 0
   have c1:=B5.cell 1
   have c2:=B5.cell 2
   simp only [List.getElem?_toArray,List.getElem?_cons_zero,List.getElem?_cons_succ] at c0 c1 c2
   clear B5
   go_wp2_with (go_at_call 25;(refine AD.out.mono ?_);rintro e w6 ⟨rfl,⟨a6,hs6⟩,hf6,hb6⟩;have H6:=zh (zi hs6 (zi hf6 hb6));clear hs6 hf6 hb6)
   go_roundg 2
   case measure=>have:=HK.out.1;omega
   case rel=>
    have KA:=H6.out.2.1.keepA HK.out.2.2.1
    exact ⟨1,rfl,by omega,rfl,al++[a6],H6.out.1,H6.out.2.1.tblk HK.out.2.2.2.1 (HK.out.2.2.1.apart HK.out.2.2.2.1 (by decide)).1 (HK.out.2.2.1.apart HK.out.2.2.2.1 (by decide)).2 (by decide),HK.out.2.2.2.2.keepA KA,HK.out.2.1.trans H6.out.2.2⟩
  ·(try dsimp only [List.take] at hS)
   obtain ⟨⟨As,cs,rfl⟩,⟨Am,cm,rfl⟩⟩:=hT.s.shape
   have d0:=hG.blk.cell 3
   have d1:=hG.blk.cell 4
   have d2:=hG.blk.cell 5
   simp only [List.getElem?_toArray,List.getElem?_cons_zero,List.getElem?_cons_succ] at d0 d1 d2
   have a5:=below_alloc1 wr (.cells #[txt Zw.name,.slice As Zw.states.length cs,.slice Am Zw.moves.length cm] 51)
   have B5:=Blk.start wr #[txt Zw.name,.slice As Zw.states.length cs,.slice Am Zw.moves.length cm] 51
   have hp5:=(hT.s.below a5).pro Zfm
   have AD:=zh (Zb8 _ w.heap.size (w.heap.size+1) w.heap.size [ZL] al _ _ Zw (hS.keep a5) hp5 ZgD Zeg (by decide) (by decide) (Nat.le_trans hb.size a5.size))
   have HK:=zh (zi hg (zi (hb.trans (a5.mono hb.size)) (zi (hS.keep a5) (zi (hG.keep a5) (hT.below a5)))))
   clear hg hb hS hG hT a5 hp5
   go_upto_region 5 with fail
   generalize wr.alloc (.cells #[txt Zw.name,.slice As Zw.states.length cs,.slice Am Zw.moves.length cm] 51)=W5 at *
   have c0:=B5.cell 0
   have c1:=B5.cell 1
   have c2:=B5.cell 2
   simp only [List.getElem?_toArray,List.getElem?_cons_zero,List.getElem?_cons_succ] at c0 c1 c2
   clear B5
   go_wp2_with (go_at_call 25;(refine AD.out.mono ?_);rintro e w6 ⟨rfl,⟨a6,hs6⟩,hf6,hb6⟩;have H6:=zh (zi hs6 (zi hf6 hb6));clear hs6 hf6 hb6)
   go_roundg 1
   case measure=>have:=HK.out.1;omega
   case rel=>
    have KA:=H6.out.2.1.keepA HK.out.2.2.1
    exact ⟨2,rfl,by omega,rfl,al++[a6],H6.out.1,H6.out.2.1.tblk HK.out.2.2.2.1 (HK.out.2.2.1.apart HK.out.2.2.2.1 (by decide)).1 (HK.out.2.2.1.apart HK.out.2.2.2.1 (by decide)).2 (by decide),HK.out.2.2.2.2.keepA KA,HK.out.2.1.trans H6.out.2.2⟩
  ·(try dsimp only [List.take] at hS)
   obtain ⟨⟨As,cs,rfl⟩,⟨Am,cm,rfl⟩⟩:=hT.i.shape
   have d0:=hG.blk.cell 6
   have d1:=hG.blk.cell 7
   have d2:=hG.blk.cell 8
   simp only [List.getElem?_toArray,List.getElem?_cons_zero,List.getElem?_cons_succ] at d0 d1 d2
   have a5:=below_alloc1 wr (.cells #[txt ZO.name,.slice As ZO.states.length cs,.slice Am ZO.moves.length cm] 51)
   have B5:=Blk.start wr #[txt ZO.name,.slice As ZO.states.length cs,.slice Am ZO.moves.length cm] 51
   have hp5:=(hT.i.below a5).pro Zg7
   have AD:=zh (Zb8 _ w.heap.size (w.heap.size+1) w.heap.size [ZL,Zw] al _ _ ZO (hS.keep a5) hp5 Zin ZfA (by decide) (by decide) (Nat.le_trans hb.size a5.size))
   have HK:=zh (zi hg (zi (hb.trans (a5.mono hb.size)) (zi (hS.keep a5) (zi (hG.keep a5) (hT.below a5)))))
   clear hg hb hS hG hT a5 hp5
   go_upto_region 5 with fail
   generalize wr.alloc (.cells #[txt ZO.name,.slice As ZO.states.length cs,.slice Am ZO.moves.length cm] 51)=W5 at *
   have c0:=B5.cell 0
   have c1:=B5.cell 1
   have c2:=B5.cell 2
   simp only [List.getElem?_toArray,List.getElem?_cons_zero,List.getElem?_cons_succ] at c0 c1 c2
   clear B5
   go_wp2_with (go_at_call 25;(refine AD.out.mono ?_);rintro e w6 ⟨rfl,⟨a6,hs6⟩,hf6,hb6⟩;have H6:=zh (zi hs6 (zi hf6 hb6));clear hs6 hf6 hb6)
   go_roundg 0
   case measure=>have:=HK.out.1;omega
   case rel=>
    have KA:=H6.out.2.1.keepA HK.out.2.2.1
    exact ⟨3,rfl,by omega,rfl,al++[a6],H6.out.1,H6.out.2.1.tblk HK.out.2.2.2.1 (HK.out.2.2.1.apart HK.out.2.2.2.1 (by decide)).1 (HK.out.2.2.1.apart HK.out.2.2.2.1 (by decide)).2 (by decide),HK.out.2.2.2.2.keepA KA,HK.out.2.1.trans H6.out.2.2⟩
  ·have FIN:=zh (zi hS hb)
   clear hg hS hG hT hb
   go_wp2_with fail
   go_ret
   exact ⟨_,_,al,rfl,FIN.out.1,FIN.out.2⟩
theorem ZiA (w:World):(zeroValue 36).run Tryz.prog w=.ok (.pointer none) w:=by kernel_rfl
theorem ZfR {v:Value} {k:Int} {pl:List MemPlace} (h:ZaS v=some (.lit (.int .i64 k),pl)):(∃ a:Nat,v=.pointer (some ⟨a,0,none⟩)/\k=a)\/(v=.pointer none/\k=-1):=by
 unfold ZaS at h
 split at h
 ·injection h with h
  injection h with h _
  injection h with h
  injection h with _ h
  exact .inl ⟨_,rfl,h.symm⟩
 ·injection h with h
  injection h with h _
  injection h with h
  injection h with _ h
  exact .inr ⟨rfl,h.symm⟩
 ·cases h
theorem Zi6 {v:Value} {a:Nat} {pl:List MemPlace} (h:ZaS v=some (.lit (.int .i64 (a:Int)),pl)):v=.pointer (some ⟨a,0,none⟩):=by
 rcases ZfR h with ⟨b,rfl,e⟩ | ⟨_,e⟩
 ·have:a=b:=by omega
  rw [this]
 ·omega
theorem Zig {v:Value} {pl:List MemPlace} (h:ZaS v=some (.lit (.int .i64 (-1)),pl)):v=.pointer none:=by
 rcases ZfR h with ⟨b,rfl,e⟩ | ⟨e,_⟩
 ·omega
 ·exact e
theorem ZhR (w:World) (B bk bm:Nat) (ps:List Pro) (al:List Nat) (h:BookS B w bk bm ps al) (i:Nat) (p:Pro) (a:Nat) (hp:ps[i]? = some p) (ha:al[i]? = some a) (hl:p.name.length<=maxLen) :
  Calls Tryz.prog 9 #[.pointer (some ⟨bk,0,none⟩),txt p.name] w fun e w'=>e=.returned (.tuple #[.pointer (some ⟨a,0,none⟩),.bool true])/\w'=w:=by
 obtain ⟨vn,h1,_⟩:=h.box
 obtain ⟨D,m1,m2,m3,m4⟩:=h.map
 obtain ⟨q1,q2⟩:=m3 i p a hp ha
 have c1:=h1.blk.cell 1
 simp only [List.getElem?_toArray,List.getElem?_cons_zero,List.getElem?_cons_succ] at c1
 have HM:=zh (zi m1 (zi q1 (zi q2 (ZdI p.name hl))))
 clear h h1 m1 m2 m3 m4 q1 q2 hp ha hl
 go_enter Tryz.func9,Tryz.ntmps9
 go_wp2_with (at_lookup;refine wpList_lookup_own_ok _ rfl _ _ _ rfl 9 36 ZcJ Tryz.underlying61 ZaS (ZiA w) (.lit (.int .i64 (-1))) [] rfl bm _ D rfl HM.out.1 (txt p.name) _ rfl HM.out.2.2.2 ?_;intro v pl hv;rw [HM.out.2.2.1] at hv;obtain rfl:=Zi6 hv;rw [HM.out.2.1])
 exact bodyPost_ret (v:=.tuple #[.pointer (some ⟨a,0,none⟩),.bool true]) (by simp [results,Tryz.results9,go_sem]) rfl ⟨rfl,rfl⟩
theorem ZfM (w:World) (B bk bm:Nat) (ps:List Pro) (al:List Nat) (h:BookS B w bk bm ps al) (s:List UInt8) (hn:∀ p∈ps,p.name≠s) (hl:s.length<=maxLen) :
  Calls Tryz.prog 9 #[.pointer (some ⟨bk,0,none⟩),txt s] w fun e w'=>e=.returned (.tuple #[.pointer none,.bool false])/\w'=w:=by
 obtain ⟨vn,h1,_⟩:=h.box
 obtain ⟨D,m1,m2,m3,m4⟩:=h.map
 have q1:=m4 s hn
 have q2:=atKey_of_not_has q1 (.lit (.int .i64 (-1)))
 have c1:=h1.blk.cell 1
 simp only [List.getElem?_toArray,List.getElem?_cons_zero,List.getElem?_cons_succ] at c1
 have HM:=zh (zi m1 (zi q1 (zi q2 (ZdI s hl))))
 clear h h1 m1 m2 m3 m4 q1 q2 hn hl
 go_enter Tryz.func9,Tryz.ntmps9
 go_wp2_with (at_lookup;refine wpList_lookup_own_ok _ rfl _ _ _ rfl 9 36 ZcJ Tryz.underlying61 ZaS (ZiA w) (.lit (.int .i64 (-1))) [] rfl bm _ D rfl HM.out.1 (txt s) _ rfl HM.out.2.2.2 ?_;intro v pl hv;rw [HM.out.2.2.1] at hv;obtain rfl:=Zig hv;rw [HM.out.2.1])
 exact bodyPost_ret (v:=.tuple #[.pointer none,.bool false]) (by simp [results,Tryz.results9,go_sem]) rfl ⟨rfl,rfl⟩
end
section
open Go.RowKit Go.Maps
theorem Zhu (w:World) (v:Value) (l:List (List UInt8)) (h:Za0 w v l) (hn:l.length<1000):Calls Tryz.prog 20 #[v] w fun e w'=>∃ bx bm,e=.returned (tkF bx)/\FreS w' bx bm l.reverse/\Zd w' bx 93 #[.map (some bm)]/\w.heap.size<=bx/\w.heap.size<=bm/\Below w.heap.size w w':=by
 have hmm:=@run_makeMap Tryz.prog
 have hmf:∀ (fn:Fn) (first cap:Array Value) (w:World),(Instr.makeFunc fn first cap).run Tryz.prog w=.ok (.func fn first cap) w:=fun _ _ _ _=>rfl
 obtain ⟨A,c,rfl,h1,h2,h3,h4⟩:=h
 have a1:=below_alloc1 w (.map #[] 0)
 have a2:=below_alloc1 (w.alloc (.map #[] 0)) (.cells #[.map (some w.heap.size)] 93)
 have b:=Zd.start (w.alloc (.map #[] 0)) #[.map (some w.heap.size)] 93
 rw [World.size_alloc] at b
 have HF:=zh (show FreS _ (w.heap.size+1) w.heap.size [] from ⟨b.blk,(Zao.made w).keep a2⟩)
 have HT:=zh b
 have HB:=zh (a1.trans (a2.mono a1.size))
 have H3:=zh (zi h3 (zi h4 hn))
 clear a1 a2 b h1 h2 h3 h4
 go_enter Tryz.func20,Tryz.ntmps20
 go_upto_region 3 with fail
 generalize hW:(w.alloc (.map #[] 0)).alloc (.cells #[.map (some w.heap.size)] 93)=W at *
 clear hW
 go_wp2_with fail
 go_loopg [11] l.length (fun g v11 wr=>∃ k:Nat,v11=.int .i64 k/\k<=l.length/\g=l.length-k/\Below w.heap.size w wr/\FreS wr (w.heap.size+1) w.heap.size (l.take k).reverse/\Zd wr (w.heap.size+1) 93 #[.map (some w.heap.size)])
 case atStart=>exact ⟨0,rfl,Nat.zero_le _,rfl,HB.out,HF.out,HT.out⟩
 case round=>
  obtain ⟨k,rfl,hk,hg,hb,hr,ht⟩:=hrel
  by_cases hkn:k=l.length
  ·have j1:decide (k<l.length)=false:=decide_eq_false (by omega)
   have FIN:=zh (zi hb (show FreS wr (w.heap.size+1) w.heap.size l.reverse by rw [hkn,List.take_length] at hr;exact hr))
   have FT:=zh ht
   clear hk hg hb hr hkn ht
   go_wp2_with fail
   go_ret
   exact ⟨_,_,rfl,FIN.out.2,FT.out,Nat.le_succ _,Nat.le_refl _,FIN.out.1⟩
  ·have hlt:k<l.length:=by omega
   obtain ⟨y,hy⟩:∃ y,l[k]? = some y:=⟨_,List.getElem?_eq_getElem hlt⟩
   obtain ⟨ak,rfl,q0⟩:=Zba H3.out.1 hb hy (by omega)
   have j1:(k:Int)<(l.length:Int):=by omega
   have j2:(0:Int)<=(k:Int):=by omega
   have wk:IntKind.i64.wrap ((k:Int)+1)=(k:Int)+1:=IntWalk.i64_in _ (by have:=H3.out.2.2;omega)
   have TK:=zh (Zdv wr (w.heap.size+1) w.heap.size (l.take k).reverse y hr (by have:=H3.out.2.2;rw [List.length_reverse,List.length_take];omega) (H3.out.2.1 y (List.mem_of_getElem? hy)))
   have HK:=zh (zi hlt (zi hg (zi hb hy)))
   have FT:=zh ht
   clear hkn hlt hk hg hb hr hy ht
   go_wp2_with (go_at_call 42;(refine TK.out.mono ?_);rintro e w1 ⟨rfl,hf1,hg1⟩;have T1:=zh (FT.out.grown hg1 (fun e=>by injection e with e;omega));have H1:=zh (zi hf1 (Zv hg1 (show w.heap.size<=_ from HK.out.2.2.1.size) (fun k hk=>by injection hk with hk;omega)));clear hf1 hg1)
   go_roundg (l.length-(k+1))
   case measure=>have:=HK.out.1;have:=HK.out.2.1;omega
   case rel=>exact ⟨k+1,by push_cast;rfl,HK.out.1,rfl,HK.out.2.2.1.trans H1.out.2,by rw [List.take_add_one,HK.out.2.2.2];simpa using H1.out.1,T1.out⟩
def dgC (x:Int×Int×List UInt8):List Value:=[.int .i64 x.1,.int .i64 x.2.1,txt x.2.2]
theorem Zjs:(Tryz.prog.info? 40).map (fun i=>(i.zero,i.size,i.bytes))=some (some (.agg #[.int .i64 0,.int .i64 0,.string ⟨#[]⟩]),3,32):=by kernel_rfl
structure NwS (B:Nat) (w:World) (lb ub gb bb bk bm bx bf:Nat) (lv:Value) (st:Bk) (al:List Nat):Prop where
 l:Zd w lb 28 #[lv]
 u:Zd w ub 59 #[.func (.func 42) #[] #[.pointer (some ⟨bx,0,none⟩)]]
 d:∃ vd,Zd w gb 33 #[vd]/\w.ownsRow B 40 3 vd st.ds.length (Zt dgC st.ds)
 b:Zd w bb 32 #[.pointer (some ⟨bk,0,none⟩)]
 book:BookS B w bk bm st.ps al
 taken:FreS w bx bf st.taken
 tx:Zd w bx 93 #[.map (some bf)]
 ne:bf≠bm
 ge:B<=gb/\B<=bf
 sub:∀ q∈st.ps,q.name∈st.taken
section
variable {w w':World} {B lb ub gb bb bk bm bx bf:Nat} {lv:Value} {st:Bk} {al:List Nat}
theorem NwS.keep (h:NwS B w lb ub gb bb bk bm bx bf lv st al) (hb:Below w.heap.size w w'):NwS B w' lb ub gb bb bk bm bx bf lv st al:=by
 obtain ⟨h1,h2,⟨vd,h3,h4⟩,h5,h6,h7,h8,h9,h10,h11⟩:=h
 exact ⟨h1.keep hb,h2.keep hb,⟨vd,h3.keep hb,Ze h4 hb⟩,h5.keep hb,h6.keep hb,h7.keep hb,h8.keep hb,h9,h10,h11⟩
theorem Zao.no_blk {b:Nat} {L:List (List UInt8)} (h:Zao w b L) {ty:TypeId} {cs:Array Value} (k:Zd w b ty cs):False:=h.not_blk k.blk rfl
theorem BookS.grown_map {L:List (List UInt8)} (h:BookS B w bk bm st.ps al) (hm:Zao w bf L) (hne:bf≠bm) (hg:w.grownBy w' (some bf)):BookS B w' bk bm st.ps al:=by
 have nb:∀ ty cs,¬ Zd w bf ty cs:=fun ty cs k=>hm.no_blk k
 have KA:=ZY.of_map hg nb
 obtain ⟨⟨vn,h1,h2⟩,h3,h4,h5,h6⟩:=h
 refine ⟨⟨vn,h1.grown hg (fun e=>by injection e with e;subst e;exact nb _ _ h1),Zc4 h2 fun g hg'=>?_⟩,h3.keepE (hg.block bm h3.lt (fun e=>by injection e with e;exact hne e.symm)),h4,fun i p a hp ha=>(h5 i p a hp ha).keep KA,h6⟩
 refine hg.block g (h2.lt g hg').2 (fun e=>?_)
 injection e with e
 subst e
 rcases h2.2 with ⟨z,_⟩ | ⟨g',cap,cur,z,_,k,_⟩
 ·rw [z] at hg';cases hg'
 ·rw [z] at hg'
  injection hg' with hg'
  dsimp only at hg'
  subst hg'
  exact nb _ _ k
theorem NwS.take (h:NwS B w lb ub gb bb bk bm bx bf lv st al) {s:List UInt8} (hf:FreS w' bx bf (s::st.taken)) (hg:w.grownBy w' (some bf)):NwS B w' lb ub gb bb bk bm bx bf lv { st with taken:=s::st.taken } al:=by
 obtain ⟨h1,h2,⟨vd,h3,h4⟩,h5,h6,h7,h8,h9,h10,h11⟩:=h
 have nb:∀ ty cs,¬ Zd w bf ty cs:=fun ty cs k=>h7.map.no_blk k
 have G:∀ {b ty cs},Zd w b ty cs->Zd w' b ty cs:=fun k=>k.grown hg (fun e=>by injection e with e;subst e;exact nb _ _ k)
 refine ⟨G h1,G h2,⟨vd,G h3,Zc4 h4 fun g hg'=>?_⟩,G h5,h6.grown_map h7.map h9 hg,hf,G h8,h9,h10,fun q hq=>List.mem_cons_of_mem _ (h11 q hq)⟩
 refine hg.block g (h4.lt g hg').2 (fun e=>?_)
 injection e with e
 subst e
 rcases h4.2 with ⟨z,_⟩ | ⟨g',cap,cur,z,_,k,_⟩
 ·rw [z] at hg';cases hg'
 ·rw [z] at hg'
  injection hg' with hg'
  dsimp only at hg'
  subst hg'
  exact nb _ _ k
theorem NwS.tell (h:NwS B w lb ub gb bb bk bm bx bf lv st al) {v' vd:Value} {x:Int×Int×List UInt8} (hd:Zd w gb 33 #[vd]) (ho:w.ownsRow B 40 3 vd st.ds.length (Zt dgC st.ds)) (hown:w'.ownsRow B 40 3 v' (st.ds.length+1) (Zt dgC st.ds++dgC x)) (hg:w.grownBy w' vd.ownBlock) :
  NwS B (w'.setCell ⟨gb,0,none⟩ v') lb ub gb bb bk bm bx bf lv { st with ds:=st.ds++[x] } al:=by
 obtain ⟨h1,h2,_,h5,h6,h7,h8,h9,h10,h11⟩:=h
 have K:=(Zad.row (bd:=gb) ho hg).trans (Zad.set (e:=40) 0 v')
 have G:∀ {b ty cs},Zd w b ty cs->ty≠40->ty≠33->Zd (w'.setCell ⟨gb,0,none⟩ v') b ty cs:=fun k n1 n2=>K.tblk k (ZaV k hd n2) n1
 have KA:ZY w (w'.setCell ⟨gb,0,none⟩ v'):=ZY.of1 K hd (by decide) (by decide)
 have T1:=hd.grown hg (hd.off ho (by decide))
 have heap:∀ b,b<w.heap.size->(∀ ty cs,¬ Zd w b ty cs)->(w'.setCell ⟨gb,0,none⟩ v').heap[b]? = w.heap[b]?:=fun b hb nb=>K.2 b hb (fun e=>by subst e;exact nb _ _ hd) (fun cs k=>nb _ cs k)
 obtain ⟨⟨vn,b1,b2⟩,b3,b4,b5,b6⟩:=h6
 refine ⟨G h1 (by decide) (by decide),G h2 (by decide) (by decide),⟨v',by simpa using T1.set 0 v',?_⟩,G h5 (by decide) (by decide),⟨⟨vn,G b1 (by decide) (by decide),?_⟩,b3.keepE (heap bm b3.lt (fun ty cs k=>b3.not_blk k rfl)),b4,fun i p a hp ha=>(b5 i p a hp ha).keep KA,b6⟩,⟨(G h8 (by decide) (by decide)).blk,?_⟩,G h8 (by decide) (by decide),h9,h10,h11⟩
 ·rw [List.length_append,Zay]
  have e:Zt dgC [x]=dgC x:=by simp [Zt]
  rw [e]
  exact Zg hown (T1.off hown (by decide))
 ·have q:=ZX b2 ho (by decide) hg
  exact Zg q (T1.off q (by decide))
 ·obtain ⟨D,⟨es,cl,q1,q2⟩,q3⟩:=h7.map
  exact ⟨D,⟨es,cl,(heap bf h7.map.lt (fun ty cs k=>h7.map.no_blk k)).trans q1,q2⟩,q3⟩
theorem NwS.more (h:NwS B w lb ub gb bb bk bm bx bf lv st al) {p:Pro} {a:Nat} (hb:BookS B w' bk bm (st.ps++[p]) (al++[a])) (hf:FrA w w' bk bm) (hp:p.name∈st.taken):NwS B w' lb ub gb bb bk bm bx bf lv { st with ps:=st.ps++[p] } (al++[a]):=by
 obtain ⟨h1,h2,⟨vd,h3,h4⟩,h5,h6,h7,h8,h9,h10,h11⟩:=h
 have G:∀ {b ty cs},Zd w b ty cs->ty≠63->ty≠9->Zd w' b ty cs:=fun k n1 n2=>hf.tblk k (h6.apart k n1).1 (h6.apart k n1).2 n2
 refine ⟨G h1 (by decide) (by decide),G h2 (by decide) (by decide),⟨vd,G h3 (by decide) (by decide),?_⟩,G h5 (by decide) (by decide),hb,⟨(G h8 (by decide) (by decide)).blk,?_⟩,G h8 (by decide) (by decide),h9,h10,fun q hq=>?_⟩
 ·refine ⟨h4.1,h4.2.imp id ?_⟩
  rintro ⟨g,cap,cur,hv,hb',hg,r⟩
  exact ⟨g,cap,cur,hv,hb',G (b:=g) (ty:=40) hg (by decide) (by decide),r⟩
 ·obtain ⟨D,⟨es,cl,q1,q2⟩,q3⟩:=h7.map
  refine ⟨D,⟨es,cl,(hf.2 bf h7.map.lt (fun e=>?_) h9 (fun cs k=>h7.map.no_blk k)).trans q1,q2⟩,q3⟩
  obtain ⟨vn,b1,_⟩:=h6.box
  subst e
  exact h7.map.no_blk b1
 ·rcases List.mem_append.1 hq with hq | hq
  ·exact h11 q hq
  ·rw [List.mem_singleton.1 hq]
   exact hp
end
end
end Go.Proofs.YtkgkmdhpnhmcpaaGreatDoor
