import Derived.Test.YtaacbenikcbibabGreatDoorQAZ
import Derived.Test.YtaacbenikcbibabGreatDoorQBA
set_option maxRecDepth 100000
set_option maxHeartbeats 8000000
namespace Go.Proofs.YtaacbenikcbibabGreatDoor
section
open Go.RowKit
theorem ZM.below {w w':World} {B:Nat} {vs vm:Value} {p:Pro} (h:ZM w B vs vm p) (hb:Below w.heap.size w w'):ZM w' B vs vm p:=by
 obtain ⟨rs,hm,s1,s2,s3⟩:=h
 exact ⟨rs,hm,Zf s1 hb,Zf s2 hb,fun x hx=>Zf (s3 x hx) hb⟩
theorem ZM.less {w:World} {B B':Nat} {vs vm:Value} {p:Pro} (h:ZM w B vs vm p) (hB:B'<=B):ZM w B' vs vm p:=by
 obtain ⟨rs,hm,s1,s2,s3⟩:=h
 exact ⟨rs,hm,Zaz s1 hB,Zaz s2 hB,fun x hx=>Zaz (s3 x hx) hB⟩
theorem ZM.shape {w:World} {B:Nat} {vs vm:Value} {p:Pro} (h:ZM w B vs vm p):(∃ A c,vs=.slice A p.states.length c)/\∃ A c,vm=.slice A p.moves.length c:=by
 obtain ⟨rs,hm,s1,s2,_⟩:=h
 have:=Zm s2
 rw [<- hm,List.length_map]
 exact ⟨Zm s1,this⟩
structure Three (w:World) (B:Nat) (v0 m0 v1 m1 v2 m2:Value):Prop where
 f:ZM w B v0 m0 ZQ
 s:ZM w B v1 m1 Zw
 i:ZM w B v2 m2 ZS
theorem Three.below {w w':World} {B:Nat} {v0 m0 v1 m1 v2 m2:Value} (h:Three w B v0 m0 v1 m1 v2 m2) (hb:Below w.heap.size w w'):Three w' B v0 m0 v1 m1 v2 m2:=⟨h.f.below hb,h.s.below hb,h.i.below hb⟩
theorem Three.less {w:World} {B B':Nat} {v0 m0 v1 m1 v2 m2:Value} (h:Three w B v0 m0 v1 m1 v2 m2) (hB:B'<=B):Three w B' v0 m0 v1 m1 v2 m2:=⟨h.f.less hB,h.s.less hB,h.i.less hB⟩
theorem Three.set {w:World} {B b i:Nat} {u v0 m0 v1 m1 v2 m2:Value} (h:Three w B v0 m0 v1 m1 v2 m2) (hb:b<B):Three (w.setCell ⟨b,i,none⟩ u) B v0 m0 v1 m1 v2 m2:=⟨h.f.set hb,h.s.set hb,h.i.set hb⟩
abbrev nine (v0 m0 v1 m1 v2 m2:Value):Array Value:=#[txt ZQ.name,v0,m0,txt Zw.name,v1,m1,txt ZS.name,v2,m2]
abbrev Zcl:Array Value:=#[.string ⟨#[]⟩,.slice none 0 0,.slice none 0 0,.string ⟨#[]⟩,.slice none 0 0,.slice none 0 0,.string ⟨#[]⟩,.slice none 0 0,.slice none 0 0]
theorem ZhT {X:World} {b:Nat} (h:Blk X b Zcl) (u0 u1 u2 u3 u4 u5 u6 u7 u8:Value):Blk (((((((((X.setCell ⟨b,0,none⟩ u0).setCell ⟨b,1,none⟩ u1).setCell ⟨b,2,none⟩ u2).setCell ⟨b,3,none⟩ u3).setCell ⟨b,4,none⟩ u4).setCell ⟨b,5,none⟩ u5).setCell ⟨b,6,none⟩ u6).setCell ⟨b,7,none⟩ u7).setCell ⟨b,8,none⟩ u8) b #[u0,u1,u2,u3,u4,u5,u6,u7,u8]:=by
 have k:=(((((((((h.set 0 u0).set 1 u1).set 2 u2).set 3 u3).set 4 u4).set 5 u5).set 6 u6).set 7 u7).set 8 u8)
 simp only [List.setIfInBounds_toArray,List.set_cons_zero,List.set_cons_succ] at k
 exact k
theorem ZhU {X:World} {b:Nat} (h:Blk X b Zcl) (u0 u1 u2 u3 u4 u5 u6 u7 u8:Value):(((((((((X.setCell ⟨b,0,none⟩ u0).setCell ⟨b,1,none⟩ u1).setCell ⟨b,2,none⟩ u2).setCell ⟨b,3,none⟩ u3).setCell ⟨b,4,none⟩ u4).setCell ⟨b,5,none⟩ u5).setCell ⟨b,6,none⟩ u6).setCell ⟨b,7,none⟩ u7).setCell ⟨b,8,none⟩ u8).cell? ⟨b,0,none⟩=some u0/\(((((((((X.setCell ⟨b,0,none⟩ u0).setCell ⟨b,1,none⟩ u1).setCell ⟨b,2,none⟩ u2).setCell ⟨b,3,none⟩ u3).setCell ⟨b,4,none⟩ u4).setCell ⟨b,5,none⟩ u5).setCell ⟨b,6,none⟩ u6).setCell ⟨b,7,none⟩ u7).setCell ⟨b,8,none⟩ u8).cell? ⟨b,1,none⟩=some u1/\(((((((((X.setCell ⟨b,0,none⟩ u0).setCell ⟨b,1,none⟩ u1).setCell ⟨b,2,none⟩ u2).setCell ⟨b,3,none⟩ u3).setCell ⟨b,4,none⟩ u4).setCell ⟨b,5,none⟩ u5).setCell ⟨b,6,none⟩ u6).setCell ⟨b,7,none⟩ u7).setCell ⟨b,8,none⟩ u8).cell? ⟨b,2,none⟩=some u2/\(((((((((X.setCell ⟨b,0,none⟩ u0).setCell ⟨b,1,none⟩ u1).setCell ⟨b,2,none⟩ u2).setCell ⟨b,3,none⟩ u3).setCell ⟨b,4,none⟩ u4).setCell ⟨b,5,none⟩ u5).setCell ⟨b,6,none⟩ u6).setCell ⟨b,7,none⟩ u7).setCell ⟨b,8,none⟩ u8).cell? ⟨b,3,none⟩=some u3/\(((((((((X.setCell ⟨b,0,none⟩ u0).setCell ⟨b,1,none⟩ u1).setCell ⟨b,2,none⟩ u2).setCell ⟨b,3,none⟩ u3).setCell ⟨b,4,none⟩ u4).setCell ⟨b,5,none⟩ u5).setCell ⟨b,6,none⟩ u6).setCell ⟨b,7,none⟩ u7).setCell ⟨b,8,none⟩ u8).cell? ⟨b,4,none⟩=some u4/\(((((((((X.setCell ⟨b,0,none⟩ u0).setCell ⟨b,1,none⟩ u1).setCell ⟨b,2,none⟩ u2).setCell ⟨b,3,none⟩ u3).setCell ⟨b,4,none⟩ u4).setCell ⟨b,5,none⟩ u5).setCell ⟨b,6,none⟩ u6).setCell ⟨b,7,none⟩ u7).setCell ⟨b,8,none⟩ u8).cell? ⟨b,5,none⟩=some u5/\(((((((((X.setCell ⟨b,0,none⟩ u0).setCell ⟨b,1,none⟩ u1).setCell ⟨b,2,none⟩ u2).setCell ⟨b,3,none⟩ u3).setCell ⟨b,4,none⟩ u4).setCell ⟨b,5,none⟩ u5).setCell ⟨b,6,none⟩ u6).setCell ⟨b,7,none⟩ u7).setCell ⟨b,8,none⟩ u8).cell? ⟨b,6,none⟩=some u6/\(((((((((X.setCell ⟨b,0,none⟩ u0).setCell ⟨b,1,none⟩ u1).setCell ⟨b,2,none⟩ u2).setCell ⟨b,3,none⟩ u3).setCell ⟨b,4,none⟩ u4).setCell ⟨b,5,none⟩ u5).setCell ⟨b,6,none⟩ u6).setCell ⟨b,7,none⟩ u7).setCell ⟨b,8,none⟩ u8).cell? ⟨b,7,none⟩=some u7/\(((((((((X.setCell ⟨b,0,none⟩ u0).setCell ⟨b,1,none⟩ u1).setCell ⟨b,2,none⟩ u2).setCell ⟨b,3,none⟩ u3).setCell ⟨b,4,none⟩ u4).setCell ⟨b,5,none⟩ u5).setCell ⟨b,6,none⟩ u6).setCell ⟨b,7,none⟩ u7).setCell ⟨b,8,none⟩ u8).cell? ⟨b,8,none⟩=some u8:=
 have k:=ZhT h u0 u1 u2 u3 u4 u5 u6 u7 u8
 ⟨by rw [k.cell 0];rfl,by rw [k.cell 1];rfl,by rw [k.cell 2];rfl,by rw [k.cell 3];rfl,by rw [k.cell 4];rfl,by rw [k.cell 5];rfl,by rw [k.cell 6];rfl,by rw [k.cell 7];rfl,by rw [k.cell 8];rfl⟩
theorem Zhc (X:World) (b i j:Nat) (v:Value) (h:i≠j):(X.setCell ⟨b,i,none⟩ v).cell? ⟨b,j,none⟩=X.cell? ⟨b,j,none⟩:=World.cell?_setCell_other _ _ _ _ (fun e=>h (by injection e with _ e))
theorem ZiI {X:World} {b:Nat} (h:Blk X b Zcl):X.cell? ⟨b,0,none⟩=some (.string ⟨#[]⟩)/\X.cell? ⟨b,1,none⟩=some (.slice none 0 0)/\X.cell? ⟨b,2,none⟩=some (.slice none 0 0)/\X.cell? ⟨b,3,none⟩=some (.string ⟨#[]⟩)/\X.cell? ⟨b,4,none⟩=some (.slice none 0 0)/\X.cell? ⟨b,5,none⟩=some (.slice none 0 0)/\X.cell? ⟨b,6,none⟩=some (.string ⟨#[]⟩)/\X.cell? ⟨b,7,none⟩=some (.slice none 0 0)/\X.cell? ⟨b,8,none⟩=some (.slice none 0 0)/\X.frozen? ⟨b,0,none⟩=false/\X.frozen? ⟨b,1,none⟩=false/\X.frozen? ⟨b,2,none⟩=false/\X.frozen? ⟨b,3,none⟩=false/\X.frozen? ⟨b,4,none⟩=false/\X.frozen? ⟨b,5,none⟩=false/\X.frozen? ⟨b,6,none⟩=false/\X.frozen? ⟨b,7,none⟩=false/\X.frozen? ⟨b,8,none⟩=false:=
 ⟨by rw [h.cell 0];rfl,by rw [h.cell 1];rfl,by rw [h.cell 2];rfl,by rw [h.cell 3];rfl,by rw [h.cell 4];rfl,by rw [h.cell 5];rfl,by rw [h.cell 6];rfl,by rw [h.cell 7];rfl,by rw [h.cell 8];rfl,h.free 0,h.free 1,h.free 2,h.free 3,h.free 4,h.free 5,h.free 6,h.free 7,h.free 8⟩
theorem ZfV {w X:World} (h:Below w.heap.size w X) {b:Nat} (hb:w.heap.size<=b) (u0 u1 u2 u3 u4 u5 u6 u7 u8:Value):Below w.heap.size w (((((((((X.setCell ⟨b,0,none⟩ u0).setCell ⟨b,1,none⟩ u1).setCell ⟨b,2,none⟩ u2).setCell ⟨b,3,none⟩ u3).setCell ⟨b,4,none⟩ u4).setCell ⟨b,5,none⟩ u5).setCell ⟨b,6,none⟩ u6).setCell ⟨b,7,none⟩ u7).setCell ⟨b,8,none⟩ u8):=
 ((((((((h.setCell (p:=⟨b,0,none⟩) hb _).setCell (p:=⟨b,1,none⟩) hb _).setCell (p:=⟨b,2,none⟩) hb _).setCell (p:=⟨b,3,none⟩) hb _).setCell (p:=⟨b,4,none⟩) hb _).setCell (p:=⟨b,5,none⟩) hb _).setCell (p:=⟨b,6,none⟩) hb _).setCell (p:=⟨b,7,none⟩) hb _).setCell (p:=⟨b,8,none⟩) hb _
theorem Three.nine {X:World} {B b:Nat} {v0 m0 v1 m1 v2 m2:Value} (h:Three X B v0 m0 v1 m1 v2 m2) (hb:b<B) (u0 u1 u2 u3 u4 u5 u6 u7 u8:Value):Three (((((((((X.setCell ⟨b,0,none⟩ u0).setCell ⟨b,1,none⟩ u1).setCell ⟨b,2,none⟩ u2).setCell ⟨b,3,none⟩ u3).setCell ⟨b,4,none⟩ u4).setCell ⟨b,5,none⟩ u5).setCell ⟨b,6,none⟩ u6).setCell ⟨b,7,none⟩ u7).setCell ⟨b,8,none⟩ u8) B v0 m0 v1 m1 v2 m2:=
 ((((((((h.set (i:=0) (u:=u0) hb).set (i:=1) (u:=u1) hb).set (i:=2) (u:=u2) hb).set (i:=3) (u:=u3) hb).set (i:=4) (u:=u4) hb).set (i:=5) (u:=u5) hb).set (i:=6) (u:=u6) hb).set (i:=7) (u:=u7) hb).set (i:=8) (u:=u8) hb
theorem Zd9 (w:World):Calls Tryz.prog 41 #[] w fun e w'=>∃ v0 m0 v1 m1 v2 m2,e=.returned (.agg (nine v0 m0 v1 m1 v2 m2))/\Three w' w.heap.size v0 m0 v1 m1 v2 m2/\Below w.heap.size w w':=by
 have a1:=Za w (.cells Zcl 93)
 have B1:=Blk.start w Zcl 93
 have HS:=Lib.hid (World.size_alloc w (.cells Zcl 93))
 go_enter Tryz.func41,Tryz.ntmps41
 go_upto_region 1 with fail
 generalize w.alloc (.cells Zcl 93)=W0 at *
 have so:=Zhc
 have HB:=Lib.hid (And.intro a1 B1)
 clear a1 B1
 go_wp2_with (first
  | (go_at_call 64;(refine (ZhA _).mono ?_);rintro e w1 ⟨v0,m0,rfl,h,hb⟩;have H1:=Lib.hid (And.intro h hb);clear h hb)
  | (go_at_call 65;(refine (Zgs _).mono ?_);rintro e w2 ⟨v1,m1,rfl,h,hb⟩;have H2:=Lib.hid (And.intro h hb);clear h hb)
  | (go_at_call 66;(refine (ZhH _).mono ?_);rintro e w3 ⟨v2,m2,rfl,h,hb⟩;obtain ⟨⟨A0,d0,rfl⟩,⟨B0,e0,rfl⟩⟩:=H1.out.1.shape;obtain ⟨⟨A1,d1,rfl⟩,⟨B1,e1,rfl⟩⟩:=H2.out.1.shape;obtain ⟨⟨A2,d2,rfl⟩,⟨B2,e2,rfl⟩⟩:=h.shape;have H3:=Lib.hid (And.intro h hb);have BX:=((HB.out.2.keep H1.out.2).keep H2.out.2).keep hb;obtain ⟨c0,c1,c2,c3,c4,c5,c6,c7,c8,f0,f1,f2,f3,f4,f5,f6,f7,f8⟩:=ZiI BX;have HX:=Lib.hid BX;clear h hb BX))
 obtain ⟨r0,r1,r2,r3,r4,r5,r6,r7,r8⟩:=ZhU HX.out (txt ZQ.name) (.slice A0 ZQ.states.length d0) (.slice B0 ZQ.moves.length e0) (txt Zw.name) (.slice A1 Zw.states.length d1) (.slice B1 Zw.moves.length e1) (txt ZS.name) (.slice A2 ZS.states.length d2) (.slice B2 ZS.moves.length e2)
 have z:=HS.out
 have z1:=H1.out.2.size
 have z2:=H2.out.2.size
 have T3:Three w3 W0.heap.size _ _ _ _ _ _:=⟨(H1.out.1.below H2.out.2).below H3.out.2,(H2.out.1.less z1).below H3.out.2,H3.out.1.less (Nat.le_trans z1 z2)⟩
 have BL:=((HB.out.1.trans (H1.out.2.mono (by omega))).trans (H2.out.2.mono (by omega))).trans (H3.out.2.mono (by omega))
 exact bodyPost_ret (v:=.agg (nine (.slice A0 ZQ.states.length d0) (.slice B0 ZQ.moves.length e0) (.slice A1 Zw.states.length d1) (.slice B1 Zw.moves.length e1) (.slice A2 ZS.states.length d2) (.slice B2 ZS.moves.length e2))) (by simp [results,Tryz.results41,go_sem,r0,r1,r2,r3,r4,r5,r6,r7,r8]) rfl ⟨_,_,_,_,_,_,rfl,(T3.nine (by omega) _ _ _ _ _ _ _ _ _).less (by omega),ZfV BL (Nat.le_refl _) _ _ _ _ _ _ _ _ _⟩
theorem Zeb (w:World):Calls Tryz.prog 23 #[] w fun e w'=>∃ g v0 m0 v1 m1 v2 m2,e=.returned (.slice (some ⟨g,0,none⟩) 3 3)/\Ze w' g 93 (nine v0 m0 v1 m1 v2 m2)/\w.heap.size<=g/\Three w' w.heap.size v0 m0 v1 m1 v2 m2/\Below w.heap.size w w':=by
 have PX:=Lib.hid (Zd9 w)
 go_enter Tryz.func23,Tryz.ntmps23
 go_wp2_with (go_at_call 41;(refine PX.out.mono ?_);rintro e w1 ⟨v0,m0,v1,m1,v2,m2,rfl,h,hb⟩;obtain ⟨⟨A0,d0,rfl⟩,⟨B0,e0,rfl⟩⟩:=h.f.shape;obtain ⟨⟨A1,d1,rfl⟩,⟨B1,e1,rfl⟩⟩:=h.s.shape;obtain ⟨⟨A2,d2,rfl⟩,⟨B2,e2,rfl⟩⟩:=h.i.shape;have H1:=Lib.hid (And.intro h hb);clear h hb)
 go_ret
 refine ⟨_,_,_,_,_,_,_,rfl,Ze.start w1 _ _,H1.out.2.size,H1.out.1.below (Za w1 _),H1.out.2.trans ((Za w1 _).mono H1.out.2.size)⟩
end
section
open Go.RowKit Go.Maps
def Zae (w w':World) (bd:Nat) (e:TypeId):Prop:=
 w.heap.size<=w'.heap.size/\∀ b,b<w.heap.size->b≠bd->(∀ cs,¬ Ze w b e cs)->w'.heap[b]? = w.heap[b]?
theorem Zae.trans {w w' w2:World} {bd:Nat} {e:TypeId} (h:Zae w w' bd e) (k:Zae w' w2 bd e):Zae w w2 bd e:=
 ⟨Nat.le_trans h.1 k.1,fun b hb hne h1=>by
  have q:=h.2 b hb hne h1
  refine (k.2 b (Nat.lt_of_lt_of_le hb h.1) hne (fun cs z=>h1 cs ?_)).trans q
  unfold Ze at z ⊢
  rw [<- q]
  exact z⟩
theorem Zae.of_below {w w':World} {bd:Nat} {e:TypeId} (h:Below w.heap.size w w'):Zae w w' bd e:=⟨h.size,fun b hb _ _=>h.block b hb⟩
theorem Zae.set {w:World} {bd:Nat} {e:TypeId} (i:Nat) (v:Value):Zae w (w.setCell ⟨bd,i,none⟩ v) bd e:=
 ⟨by simp [World.setCell],fun b _ hne _=>Below.heap_setCell _ _ _ _ (fun e=>hne e)⟩
theorem Zae.row {w w':World} {bd base n size:Nat} {e:TypeId} {v:Value} {xs:List Value} (ho:w.ownsRow base e size v n xs) (hg:w.grownBy w' v.ownBlock):Zae w w' bd e:=
 ⟨hg.size,fun b hb _ h1=>hg.block b hb (fun q=>by
  rcases ho.2 with ⟨z,_⟩ | ⟨g,cap,cur,z,_,k,_⟩
  ·rw [z] at q;cases q
  ·rw [z] at q
   injection q with q
   dsimp only at q
   subst q
   exact h1 cur k)⟩
theorem Zae.tblk {w w':World} {bd b:Nat} {e ty:TypeId} {cs:Array Value} (h:Zae w w' bd e) (k:Ze w b ty cs) (hne:b≠bd) (h1:ty≠e):Ze w' b ty cs:=
 (h.2 b k.lt hne (fun _ q=>h1 (ZaW k rfl q))).trans k
theorem Zi3 (s:List UInt8):∀ u∈[txt s],u.oneCell'=true:=fun u hu=>by rw [List.mem_singleton.1 hu];rfl
theorem Zi8:(Tryz.prog.info? 9).map (fun i=>(i.zero,i.size,i.bytes))=some (some (.string ⟨#[]⟩),1,16):=by kernel_rfl
def Zbn (w:World) (B a:Nat) (p:Pro):Prop:=∃ vs vm,Ze w a 62 #[txt p.name,vs,vm]/\ZM w B vs vm p/\B<=a
theorem Zbn.at_ {w:World} {B a:Nat} {p:Pro} (h:Zbn w B a p) (hl:LenP p):Zc2 w a p:=by
 obtain ⟨vs,vm,h1,h2,_⟩:=h
 exact ⟨vs,vm,h1.blk,h2.pro hl⟩
def Zac (w w':World):Prop:=∀ b ty cs,Ze w b ty cs->(ty=62\/ty=74\/ty=79\/ty=100)->Ze w' b ty cs
theorem Zac.own {w w':World} {base n size:Nat} {e:TypeId} {v:Value} {xs:List Value} (k:Zac w w') (h:w.ownsRow base e size v n xs) (he:e=62\/e=74\/e=79\/e=100):w'.ownsRow base e size v n xs:=by
 refine ⟨h.1,h.2.imp id ?_⟩
 rintro ⟨g,cap,cur,hv,hb,hg,r⟩
 exact ⟨g,cap,cur,hv,hb,k g e cur hg he,r⟩
theorem Zbn.keep {w w':World} {B a:Nat} {p:Pro} (h:Zbn w B a p) (k:Zac w w'):Zbn w' B a p:=by
 obtain ⟨vs,vm,h1,⟨rs,h2,h3,h4,h5⟩,h6⟩:=h
 exact ⟨vs,vm,k _ _ _ h1 (.inl rfl),⟨rs,h2,k.own h3 (.inr (.inl rfl)),k.own h4 (.inr (.inr (.inl rfl))),fun x hx=>k.own (h5 x hx) (.inr (.inr (.inr rfl)))⟩,h6⟩
theorem Zac.of_below {w w':World} (h:Below w.heap.size w w'):Zac w w':=fun _ _ _ k _=>k.keep h
theorem Zac.trans {w w' w2:World} (h:Zac w w') (k:Zac w' w2):Zac w w2:=fun b ty cs z e=>k b ty cs (h b ty cs z e) e
theorem Zac.of1 {w w':World} {bd:Nat} {e ty:TypeId} {cs:Array Value} (h:Zae w w' bd e) (ht:Ze w bd ty cs) (h1:¬ (ty=62\/ty=74\/ty=79\/ty=100)) (h2:¬ (e=62\/e=74\/e=79\/e=100)):Zac w w':=fun b ty' cs' k hk=>
 h.tblk k (fun q=>by subst q;exact h1 (ZaW k rfl ht▸hk)) (fun q=>h2 (q▸hk))
theorem Zac.of_map {w w':World} {bm:Nat} (hg:w.grownBy w' (some bm)) (hm:∀ ty cs,¬ Ze w bm ty cs):Zac w w':=fun b ty cs k _=>
 k.grown hg (fun q=>by injection q with q;subst q;exact hm ty cs k)
theorem ZiH (w:World) (vs vm:Value) (p:Pro) (h:ProAt w vs vm p) (hz:SzP p) (hw:(Zy p).1=0) :
  Calls Tryz.prog 33 #[ZaF vs vm p] w fun e w'=>∃ a,e=.returned (.tuple #[.pointer (some ⟨a,0,none⟩),.int .i64 0])/\Zbn w' w.heap.size a p/\w.heap.size<=a/\Below w.heap.size w w':=by
 obtain ⟨As,cs,rfl,_⟩:=h.states.len
 obtain ⟨Am,cm,rfl,_⟩:=h.moves.len
 have a1:=Za w (.cells #[txt p.name,.slice As p.states.length cs,.slice Am p.moves.length cm] 41)
 have B1:=Blk.start w #[txt p.name,.slice As p.states.length cs,.slice Am p.moves.length cm] 41
 have WR:=Lib.hid (Zd0 _ _ _ p (h.below a1) (by have:=hz.mv;omega) (fun m hm=>by have:=hz.out m hm;omega))
 have CP:=Lib.hid (fun (v:World) (hb:Below w.heap.size w v)=>Zc6 v _ _ p (h.below hb) hz)
 have HA:=Lib.hid (And.intro a1 (And.intro B1 hz.len))
 rw [hw] at WR
 generalize (Zy p).2=r2 at *
 clear h hz a1 B1 hw
 go_enter Tryz.func33,Tryz.ntmps33
 go_wp2_with (first
  | (go_at_call 32;(with_reducible refine WR.out.mono ?_);rintro e w1 ⟨rfl,hb⟩;have c0:=(HA.out.2.1.keep hb).cell 0;have c1:=(HA.out.2.1.keep hb).cell 1;have c2:=(HA.out.2.1.keep hb).cell 2;simp only [List.getElem?_toArray,List.getElem?_cons_zero,List.getElem?_cons_succ] at c0 c1 c2;have H1:=Lib.hid (HA.out.1.trans (hb.mono HA.out.1.size));clear hb)
  | (go_at_call 17;(with_reducible refine (CP.out _ H1.out).mono ?_);rintro e w2 ⟨vs',vm',rfl,ho,hb⟩;have H2:=Lib.hid (And.intro ho hb);clear ho hb))
 have a5:=Za w2 (.cells #[txt p.name,vs',vm'] 62)
 have bw:=H1.out.trans (H2.out.2.mono H1.out.size)
 have HF:=Lib.hid (show Zbn (w2.alloc (.cells #[txt p.name,vs',vm'] 62)) w.heap.size w2.heap.size p from ⟨vs',vm',Ze.start w2 _ _,(H2.out.1.less H1.out.size).below a5,bw.size⟩)
 have HG:=Lib.hid (bw.trans (a5.mono bw.size))
 have HL:=Lib.hid bw.size
 clear a5 bw
 refine bodyPost_ret (v:=.tuple #[.pointer (some ⟨w2.heap.size,0,none⟩),.int .i64 0]) (by simp [results,Tryz.results33,go_sem]) rfl ?_
 exact ⟨_,rfl,HF.out,HL.out,HG.out⟩
def Zbk (v:Value):Option (DataW Unit×List MemPlace):=match v with
 | .pointer (some ⟨a,0,none⟩)=>some (.lit (.int .i64 (a:Int)),[])
 | .pointer none=>some (.lit (.int .i64 (-1)),[])
 | _=>none
def Zbd (w:World) (bm:Nat) (ps:List Pro) (al:List Nat):Prop:=
 ∃ D:DataW Unit,w.ownsMap Tryz.prog 9 Zbk bm ps.length D/\IsMap D/\(∀ (i:Nat) (p:Pro) (a:Nat),ps[i]? = some p->al[i]? = some a->has D (.string p.name)=true/\D.atKey (.string p.name) (.lit (.int .i64 (-1)))=.lit (.int .i64 (a:Int)))/\∀ s,(∀ p∈ps,p.name≠s)->has D (.string s)=false
structure BookS (B:Nat) (w:World) (bk bm:Nat) (ps:List Pro) (al:List Nat):Prop where
 box:∃ vn,Ze w bk 51 #[vn,.map (some bm)]/\w.ownsRow B 9 1 vn ps.length (ps.map fun p=>txt p.name)
 map:Zbd w bm ps al
 len:al.length=ps.length
 aut:∀ (i:Nat) (p:Pro) (a:Nat),ps[i]? = some p->al[i]? = some a->Zbn w B a p
 ge:B<=bk/\B<=bm
end
end Go.Proofs.YtaacbenikcbibabGreatDoor
