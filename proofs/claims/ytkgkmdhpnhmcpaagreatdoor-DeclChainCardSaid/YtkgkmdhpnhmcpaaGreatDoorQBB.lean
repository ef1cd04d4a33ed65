import Derived.Test.YtkgkmdhpnhmcpaaGreatDoorQAW
import Derived.Test.YtkgkmdhpnhmcpaaGreatDoorQBA
set_option maxRecDepth 100000
set_option maxHeartbeats 8000000
namespace Go.Proofs.YtkgkmdhpnhmcpaaGreatDoor
section
open Go.RowKit
theorem ZN.below {w w':World} {B:Nat} {vs vm:Value} {p:Pro} (h:ZN w B vs vm p) (hb:Below w.heap.size w w'):ZN w' B vs vm p:=by
 obtain ⟨rs,hm,s1,s2,s3⟩:=h
 exact ⟨rs,hm,Ze s1 hb,Ze s2 hb,fun x hx=>Ze (s3 x hx) hb⟩
theorem ZN.less {w:World} {B B':Nat} {vs vm:Value} {p:Pro} (h:ZN w B vs vm p) (hB:B'<=B):ZN w B' vs vm p:=by
 obtain ⟨rs,hm,s1,s2,s3⟩:=h
 exact ⟨rs,hm,Zab s1 hB,Zab s2 hB,fun x hx=>Zab (s3 x hx) hB⟩
theorem ZN.shape {w:World} {B:Nat} {vs vm:Value} {p:Pro} (h:ZN w B vs vm p):(∃ A c,vs=.slice A p.states.length c)/\∃ A c,vm=.slice A p.moves.length c:=by
 obtain ⟨rs,hm,s1,s2,_⟩:=h
 have:=Zl s2
 rw [<- hm,List.length_map]
 exact ⟨Zl s1,this⟩
structure Three (w:World) (B:Nat) (v0 m0 v1 m1 v2 m2:Value):Prop where
 f:ZN w B v0 m0 ZL
 s:ZN w B v1 m1 Zw
 i:ZN w B v2 m2 ZO
theorem Three.below {w w':World} {B:Nat} {v0 m0 v1 m1 v2 m2:Value} (h:Three w B v0 m0 v1 m1 v2 m2) (hb:Below w.heap.size w w'):Three w' B v0 m0 v1 m1 v2 m2:=⟨h.f.below hb,h.s.below hb,h.i.below hb⟩
theorem Three.less {w:World} {B B':Nat} {v0 m0 v1 m1 v2 m2:Value} (h:Three w B v0 m0 v1 m1 v2 m2) (hB:B'<=B):Three w B' v0 m0 v1 m1 v2 m2:=⟨h.f.less hB,h.s.less hB,h.i.less hB⟩
theorem Three.set {w:World} {B b i:Nat} {u v0 m0 v1 m1 v2 m2:Value} (h:Three w B v0 m0 v1 m1 v2 m2) (hb:b<B):Three (w.setCell ⟨b,i,none⟩ u) B v0 m0 v1 m1 v2 m2:=⟨h.f.set hb,h.s.set hb,h.i.set hb⟩
abbrev nine (v0 m0 v1 m1 v2 m2:Value):Array Value:=#[txt ZL.name,v0,m0,txt Zw.name,v1,m1,txt ZO.name,v2,m2]
abbrev Zcq:Array Value:=#[.string ⟨#[]⟩,.slice none 0 0,.slice none 0 0,.string ⟨#[]⟩,.slice none 0 0,.slice none 0 0,.string ⟨#[]⟩,.slice none 0 0,.slice none 0 0]
theorem Zia {X:World} {b:Nat} (h:Blk X b Zcq) (u0 u1 u2 u3 u4 u5 u6 u7 u8:Value):Blk (((((((((X.setCell ⟨b,0,none⟩ u0).setCell ⟨b,1,none⟩ u1).setCell ⟨b,2,none⟩ u2).setCell ⟨b,3,none⟩ u3).setCell ⟨b,4,none⟩ u4).setCell ⟨b,5,none⟩ u5).setCell ⟨b,6,none⟩ u6).setCell ⟨b,7,none⟩ u7).setCell ⟨b,8,none⟩ u8) b #[u0,u1,u2,u3,u4,u5,u6,u7,u8]:=by
 have k:=(((((((((h.set 0 u0).set 1 u1).set 2 u2).set 3 u3).set 4 u4).set 5 u5).set 6 u6).set 7 u7).set 8 u8)
 simp only [List.setIfInBounds_toArray,List.set_cons_zero,List.set_cons_succ] at k
 exact k
theorem Zib {X:World} {b:Nat} (h:Blk X b Zcq) (u0 u1 u2 u3 u4 u5 u6 u7 u8:Value):(((((((((X.setCell ⟨b,0,none⟩ u0).setCell ⟨b,1,none⟩ u1).setCell ⟨b,2,none⟩ u2).setCell ⟨b,3,none⟩ u3).setCell ⟨b,4,none⟩ u4).setCell ⟨b,5,none⟩ u5).setCell ⟨b,6,none⟩ u6).setCell ⟨b,7,none⟩ u7).setCell ⟨b,8,none⟩ u8).cell? ⟨b,0,none⟩=some u0/\(((((((((X.setCell ⟨b,0,none⟩ u0).setCell ⟨b,1,none⟩ u1).setCell ⟨b,2,none⟩ u2).setCell ⟨b,3,none⟩ u3).setCell ⟨b,4,none⟩ u4).setCell ⟨b,5,none⟩ u5).setCell ⟨b,6,none⟩ u6).setCell ⟨b,7,none⟩ u7).setCell ⟨b,8,none⟩ u8).cell? ⟨b,1,none⟩=some u1/\(((((((((X.setCell ⟨b,0,none⟩ u0).setCell ⟨b,1,none⟩ u1).setCell ⟨b,2,none⟩ u2).setCell ⟨b,3,none⟩ u3).setCell ⟨b,4,none⟩ u4).setCell ⟨b,5,none⟩ u5).setCell ⟨b,6,none⟩ u6).setCell ⟨b,7,none⟩ u7).setCell ⟨b,8,none⟩ u8).cell? ⟨b,2,none⟩=some u2/\(((((((((X.setCell ⟨b,0,none⟩ u0).setCell ⟨b,1,none⟩ u1).setCell ⟨b,2,none⟩ u2).setCell ⟨b,3,none⟩ u3).setCell ⟨b,4,none⟩ u4).setCell ⟨b,5,none⟩ u5).setCell ⟨b,6,none⟩ u6).setCell ⟨b,7,none⟩ u7).setCell ⟨b,8,none⟩ u8).cell? ⟨b,3,none⟩=some u3/\(((((((((X.setCell ⟨b,0,none⟩ u0).setCell ⟨b,1,none⟩ u1).setCell ⟨b,2,none⟩ u2).setCell ⟨b,3,none⟩ u3).setCell ⟨b,4,none⟩ u4).setCell ⟨b,5,none⟩ u5).setCell ⟨b,6,none⟩ u6).setCell ⟨b,7,none⟩ u7).setCell ⟨b,8,none⟩ u8).cell? ⟨b,4,none⟩=some u4/\(((((((((X.setCell ⟨b,0,none⟩ u0).setCell ⟨b,1,none⟩ u1).setCell ⟨b,2,none⟩ u2).setCell ⟨b,3,none⟩ u3).setCell ⟨b,4,none⟩ u4).setCell ⟨b,5,none⟩ u5).setCell ⟨b,6,none⟩ u6).setCell ⟨b,7,none⟩ u7).setCell ⟨b,8,none⟩ u8).cell? ⟨b,5,none⟩=some u5/\(((((((((X.setCell ⟨b,0,none⟩ u0).setCell ⟨b,1,none⟩ u1).setCell ⟨b,2,none⟩ u2).setCell ⟨b,3,none⟩ u3).setCell ⟨b,4,none⟩ u4).setCell ⟨b,5,none⟩ u5).setCell ⟨b,6,none⟩ u6).setCell ⟨b,7,none⟩ u7).setCell ⟨b,8,none⟩ u8).cell? ⟨b,6,none⟩=some u6/\(((((((((X.setCell ⟨b,0,none⟩ u0).setCell ⟨b,1,none⟩ u1).setCell ⟨b,2,none⟩ u2).setCell ⟨b,3,none⟩ u3).setCell ⟨b,4,none⟩ u4).setCell ⟨b,5,none⟩ u5).setCell ⟨b,6,none⟩ u6).setCell ⟨b,7,none⟩ u7).setCell ⟨b,8,none⟩ u8).cell? ⟨b,7,none⟩=some u7/\(((((((((X.setCell ⟨b,0,none⟩ u0).setCell ⟨b,1,none⟩ u1).setCell ⟨b,2,none⟩ u2).setCell ⟨b,3,none⟩ u3).setCell ⟨b,4,none⟩ u4).setCell ⟨b,5,none⟩ u5).setCell ⟨b,6,none⟩ u6).setCell ⟨b,7,none⟩ u7).setCell ⟨b,8,none⟩ u8).cell? ⟨b,8,none⟩=some u8:=
 have k:=Zia h u0 u1 u2 u3 u4 u5 u6 u7 u8
 ⟨by rw [k.cell 0];rfl,by rw [k.cell 1];rfl,by rw [k.cell 2];rfl,by rw [k.cell 3];rfl,by rw [k.cell 4];rfl,by rw [k.cell 5];rfl,by rw [k.cell 6];rfl,by rw [k.cell 7];rfl,by rw [k.cell 8];rfl⟩
theorem Zhn (X:World) (b i j:Nat) (v:Value) (h:i≠j):(X.setCell ⟨b,i,none⟩ v).cell? ⟨b,j,none⟩=X.cell? ⟨b,j,none⟩:=World.cell?_setCell_other _ _ _ _ (fun e=>h (by injection e with _ e))
theorem Zi2 {X:World} {b:Nat} (h:Blk X b Zcq):X.cell? ⟨b,0,none⟩=some (.string ⟨#[]⟩)/\X.cell? ⟨b,1,none⟩=some (.slice none 0 0)/\X.cell? ⟨b,2,none⟩=some (.slice none 0 0)/\X.cell? ⟨b,3,none⟩=some (.string ⟨#[]⟩)/\X.cell? ⟨b,4,none⟩=some (.slice none 0 0)/\X.cell? ⟨b,5,none⟩=some (.slice none 0 0)/\X.cell? ⟨b,6,none⟩=some (.string ⟨#[]⟩)/\X.cell? ⟨b,7,none⟩=some (.slice none 0 0)/\X.cell? ⟨b,8,none⟩=some (.slice none 0 0)/\X.frozen? ⟨b,0,none⟩=false/\X.frozen? ⟨b,1,none⟩=false/\X.frozen? ⟨b,2,none⟩=false/\X.frozen? ⟨b,3,none⟩=false/\X.frozen? ⟨b,4,none⟩=false/\X.frozen? ⟨b,5,none⟩=false/\X.frozen? ⟨b,6,none⟩=false/\X.frozen? ⟨b,7,none⟩=false/\X.frozen? ⟨b,8,none⟩=false:=
 ⟨by rw [h.cell 0];rfl,by rw [h.cell 1];rfl,by rw [h.cell 2];rfl,by rw [h.cell 3];rfl,by rw [h.cell 4];rfl,by rw [h.cell 5];rfl,by rw [h.cell 6];rfl,by rw [h.cell 7];rfl,by rw [h.cell 8];rfl,h.free 0,h.free 1,h.free 2,h.free 3,h.free 4,h.free 5,h.free 6,h.free 7,h.free 8⟩
theorem Zf1 {w X:World} (h:Below w.heap.size w X) {b:Nat} (hb:w.heap.size<=b) (u0 u1 u2 u3 u4 u5 u6 u7 u8:Value):Below w.heap.size w (((((((((X.setCell ⟨b,0,none⟩ u0).setCell ⟨b,1,none⟩ u1).setCell ⟨b,2,none⟩ u2).setCell ⟨b,3,none⟩ u3).setCell ⟨b,4,none⟩ u4).setCell ⟨b,5,none⟩ u5).setCell ⟨b,6,none⟩ u6).setCell ⟨b,7,none⟩ u7).setCell ⟨b,8,none⟩ u8):=
 ((((((((h.setCell (p:=⟨b,0,none⟩) hb _).setCell (p:=⟨b,1,none⟩) hb _).setCell (p:=⟨b,2,none⟩) hb _).setCell (p:=⟨b,3,none⟩) hb _).setCell (p:=⟨b,4,none⟩) hb _).setCell (p:=⟨b,5,none⟩) hb _).setCell (p:=⟨b,6,none⟩) hb _).setCell (p:=⟨b,7,none⟩) hb _).setCell (p:=⟨b,8,none⟩) hb _
theorem Three.nine {X:World} {B b:Nat} {v0 m0 v1 m1 v2 m2:Value} (h:Three X B v0 m0 v1 m1 v2 m2) (hb:b<B) (u0 u1 u2 u3 u4 u5 u6 u7 u8:Value):Three (((((((((X.setCell ⟨b,0,none⟩ u0).setCell ⟨b,1,none⟩ u1).setCell ⟨b,2,none⟩ u2).setCell ⟨b,3,none⟩ u3).setCell ⟨b,4,none⟩ u4).setCell ⟨b,5,none⟩ u5).setCell ⟨b,6,none⟩ u6).setCell ⟨b,7,none⟩ u7).setCell ⟨b,8,none⟩ u8) B v0 m0 v1 m1 v2 m2:=
 ((((((((h.set (i:=0) (u:=u0) hb).set (i:=1) (u:=u1) hb).set (i:=2) (u:=u2) hb).set (i:=3) (u:=u3) hb).set (i:=4) (u:=u4) hb).set (i:=5) (u:=u5) hb).set (i:=6) (u:=u6) hb).set (i:=7) (u:=u7) hb).set (i:=8) (u:=u8) hb
theorem Zef (w:World):Calls Tryz.prog 73 #[] w fun e w'=>∃ v0 m0 v1 m1 v2 m2,e=.returned (.agg (nine v0 m0 v1 m1 v2 m2))/\Three w' w.heap.size v0 m0 v1 m1 v2 m2/\Below w.heap.size w w':=by
 have a1:=below_alloc1 w (.cells Zcq 122)
 have B1:=Blk.start w Zcq 122
 have HS:=zh (World.size_alloc w (.cells Zcq 122))
 go_enter Tryz.func73,Tryz.ntmps73
 go_upto_region 1 with fail
 generalize w.alloc (.cells Zcq 122)=W0 at *
 have so:=Zhn
 have HB:=zh (zi a1 B1)
 clear a1 B1
 go_wp2_with (first
  | (go_at_call 103;(refine (ZhQ _).mono ?_);rintro e w1 ⟨v0,m0,rfl,h,hb⟩;have H1:=zh (zi h hb);clear h hb)
  | (go_at_call 104;(refine (ZgB _).mono ?_);rintro e w2 ⟨v1,m1,rfl,h,hb⟩;have H2:=zh (zi h hb);clear h hb)
  | (go_at_call 105;(refine (ZhY _).mono ?_);rintro e w3 ⟨v2,m2,rfl,h,hb⟩;obtain ⟨⟨A0,d0,rfl⟩,⟨B0,e0,rfl⟩⟩:=H1.out.1.shape;obtain ⟨⟨A1,d1,rfl⟩,⟨B1,e1,rfl⟩⟩:=H2.out.1.shape;obtain ⟨⟨A2,d2,rfl⟩,⟨B2,e2,rfl⟩⟩:=h.shape;have H3:=zh (zi h hb);have BX:=((HB.out.2.keep H1.out.2).keep H2.out.2).keep hb;obtain ⟨c0,c1,c2,c3,c4,c5,c6,c7,c8,f0,f1,f2,f3,f4,f5,f6,f7,f8⟩:=Zi2 BX;have HX:=zh BX;clear h hb BX))
 obtain ⟨r0,r1,r2,r3,r4,r5,r6,r7,r8⟩:=Zib HX.out (txt ZL.name) (.slice A0 ZL.states.length d0) (.slice B0 ZL.moves.length e0) (txt Zw.name) (.slice A1 Zw.states.length d1) (.slice B1 Zw.moves.length e1) (txt ZO.name) (.slice A2 ZO.states.length d2) (.slice B2 ZO.moves.length e2)
 have z:=HS.out
 have z1:=H1.out.2.size
 have z2:=H2.out.2.size
 have T3:Three w3 W0.heap.size _ _ _ _ _ _:=⟨(H1.out.1.below H2.out.2).below H3.out.2,(H2.out.1.less z1).below H3.out.2,H3.out.1.less (Nat.le_trans z1 z2)⟩
 have BL:=((HB.out.1.trans (H1.out.2.mono (by omega))).trans (H2.out.2.mono (by omega))).trans (H3.out.2.mono (by omega))
 exact bodyPost_ret (v:=.agg (nine (.slice A0 ZL.states.length d0) (.slice B0 ZL.moves.length e0) (.slice A1 Zw.states.length d1) (.slice B1 Zw.moves.length e1) (.slice A2 ZO.states.length d2) (.slice B2 ZO.moves.length e2))) (by simp [results,Tryz.results73,go_sem,r0,r1,r2,r3,r4,r5,r6,r7,r8]) rfl ⟨_,_,_,_,_,_,rfl,(T3.nine (by omega) _ _ _ _ _ _ _ _ _).less (by omega),Zf1 BL (Nat.le_refl _) _ _ _ _ _ _ _ _ _⟩
theorem Zeh (w:World):Calls Tryz.prog 41 #[] w fun e w'=>∃ g v0 m0 v1 m1 v2 m2,e=.returned (.slice (some ⟨g,0,none⟩) 3 3)/\Zd w' g 122 (nine v0 m0 v1 m1 v2 m2)/\w.heap.size<=g/\Three w' w.heap.size v0 m0 v1 m1 v2 m2/\Below w.heap.size w w':=by
 have PX:=zh (Zef w)
 go_enter Tryz.func41,Tryz.ntmps41
 go_wp2_with (go_at_call 73;(refine PX.out.mono ?_);rintro e w1 ⟨v0,m0,v1,m1,v2,m2,rfl,h,hb⟩;obtain ⟨⟨A0,d0,rfl⟩,⟨B0,e0,rfl⟩⟩:=h.f.shape;obtain ⟨⟨A1,d1,rfl⟩,⟨B1,e1,rfl⟩⟩:=h.s.shape;obtain ⟨⟨A2,d2,rfl⟩,⟨B2,e2,rfl⟩⟩:=h.i.shape;have H1:=zh (zi h hb);clear h hb)
 go_ret
 refine ⟨_,_,_,_,_,_,_,rfl,Zd.start w1 _ _,H1.out.2.size,H1.out.1.below (below_alloc1 w1 _),H1.out.2.trans ((below_alloc1 w1 _).mono H1.out.2.size)⟩
end
section
open Go.RowKit Go.Maps
def Zad (w w':World) (bd:Nat) (e:TypeId):Prop:=
 w.heap.size<=w'.heap.size/\∀ b,b<w.heap.size->b≠bd->(∀ cs,¬ Zd w b e cs)->w'.heap[b]? = w.heap[b]?
theorem Zad.trans {w w' w2:World} {bd:Nat} {e:TypeId} (h:Zad w w' bd e) (k:Zad w' w2 bd e):Zad w w2 bd e:=
 ⟨Nat.le_trans h.1 k.1,fun b hb hne h1=>by
  have q:=h.2 b hb hne h1
  refine (k.2 b (Nat.lt_of_lt_of_le hb h.1) hne (fun cs z=>h1 cs ?_)).trans q
  unfold Zd at z ⊢
  rw [<- q]
  exact z⟩
theorem Zad.of_below {w w':World} {bd:Nat} {e:TypeId} (h:Below w.heap.size w w'):Zad w w' bd e:=⟨h.size,fun b hb _ _=>h.block b hb⟩
theorem Zad.set {w:World} {bd:Nat} {e:TypeId} (i:Nat) (v:Value):Zad w (w.setCell ⟨bd,i,none⟩ v) bd e:=
 ⟨by simp [World.setCell],fun b _ hne _=>Below.heap_setCell _ _ _ _ (fun e=>hne e)⟩
theorem Zad.row {w w':World} {bd base n size:Nat} {e:TypeId} {v:Value} {xs:List Value} (ho:w.ownsRow base e size v n xs) (hg:w.grownBy w' v.ownBlock):Zad w w' bd e:=
 ⟨hg.size,fun b hb _ h1=>hg.block b hb (fun q=>by
  rcases ho.2 with ⟨z,_⟩ | ⟨g,cap,cur,z,_,k,_⟩
  ·rw [z] at q;cases q
  ·rw [z] at q
   injection q with q
   dsimp only at q
   subst q
   exact h1 cur k)⟩
theorem Zad.tblk {w w':World} {bd b:Nat} {e ty:TypeId} {cs:Array Value} (h:Zad w w' bd e) (k:Zd w b ty cs) (hne:b≠bd) (h1:ty≠e):Zd w' b ty cs:=
 (h.2 b k.lt hne (fun _ q=>h1 (ZaW k rfl q))).trans k
theorem Zjo (s:List UInt8):∀ u∈[txt s],u.oneCell'=true:=fun u hu=>by rw [List.mem_singleton.1 hu];rfl
theorem Zju:(Tryz.prog.info? 9).map (fun i=>(i.zero,i.size,i.bytes))=some (some (.string ⟨#[]⟩),1,16):=by kernel_rfl
def Zbn (w:World) (B a:Nat) (p:Pro):Prop:=∃ vs vm,Zd w a 73 #[txt p.name,vs,vm]/\ZN w B vs vm p/\B<=a
theorem Zbn.at_ {w:World} {B a:Nat} {p:Pro} (h:Zbn w B a p) (hl:LenP p):Zc8 w a p:=by
 obtain ⟨vs,vm,h1,h2,_⟩:=h
 exact ⟨vs,vm,h1.blk,h2.pro hl⟩
def ZY (w w':World):Prop:=∀ b ty cs,Zd w b ty cs->(ty=73\/ty=82\/ty=85\/ty=110)->Zd w' b ty cs
theorem ZY.own {w w':World} {base n size:Nat} {e:TypeId} {v:Value} {xs:List Value} (k:ZY w w') (h:w.ownsRow base e size v n xs) (he:e=73\/e=82\/e=85\/e=110):w'.ownsRow base e size v n xs:=by
 refine ⟨h.1,h.2.imp id ?_⟩
 rintro ⟨g,cap,cur,hv,hb,hg,r⟩
 exact ⟨g,cap,cur,hv,hb,k g e cur hg he,r⟩
theorem Zbn.keep {w w':World} {B a:Nat} {p:Pro} (h:Zbn w B a p) (k:ZY w w'):Zbn w' B a p:=by
 obtain ⟨vs,vm,h1,⟨rs,h2,h3,h4,h5⟩,h6⟩:=h
 exact ⟨vs,vm,k _ _ _ h1 (.inl rfl),⟨rs,h2,k.own h3 (.inr (.inl rfl)),k.own h4 (.inr (.inr (.inl rfl))),fun x hx=>k.own (h5 x hx) (.inr (.inr (.inr rfl)))⟩,h6⟩
theorem ZY.of_below {w w':World} (h:Below w.heap.size w w'):ZY w w':=fun _ _ _ k _=>k.keep h
theorem ZY.trans {w w' w2:World} (h:ZY w w') (k:ZY w' w2):ZY w w2:=fun b ty cs z e=>k b ty cs (h b ty cs z e) e
theorem ZY.of1 {w w':World} {bd:Nat} {e ty:TypeId} {cs:Array Value} (h:Zad w w' bd e) (ht:Zd w bd ty cs) (h1:¬ (ty=73\/ty=82\/ty=85\/ty=110)) (h2:¬ (e=73\/e=82\/e=85\/e=110)):ZY w w':=fun b ty' cs' k hk=>
 h.tblk k (fun q=>by subst q;exact h1 (ZaW k rfl ht▸hk)) (fun q=>h2 (q▸hk))
theorem ZY.of_map {w w':World} {bm:Nat} (hg:w.grownBy w' (some bm)) (hm:∀ ty cs,¬ Zd w bm ty cs):ZY w w':=fun b ty cs k _=>
 k.grown hg (fun q=>by injection q with q;subst q;exact hm ty cs k)
theorem Zi1 (w:World) (vs vm:Value) (p:Pro) (h:ProAt w vs vm p) (hz:SzP p) (hw:(Zy p).1=0) :
  Calls Tryz.prog 51 #[ZaH vs vm p] w fun e w'=>∃ a,e=.returned (.tuple #[.pointer (some ⟨a,0,none⟩),.int .i64 0])/\Zbn w' w.heap.size a p/\w.heap.size<=a/\Below w.heap.size w w':=by
 obtain ⟨As,cs,rfl,_⟩:=h.states.len
 obtain ⟨Am,cm,rfl,_⟩:=h.moves.len
 have a1:=below_alloc1 w (.cells #[txt p.name,.slice As p.states.length cs,.slice Am p.moves.length cm] 51)
 have B1:=Blk.start w #[txt p.name,.slice As p.states.length cs,.slice Am p.moves.length cm] 51
 have WR:=zh (Zd6 _ _ _ p (h.below a1) (by have:=hz.mv;omega) (fun m hm=>by have:=hz.out m hm;omega))
 have CP:=zh (fun (v:World) (hb:Below w.heap.size w v)=>Zf3 v _ _ p (h.below hb) hz)
 have HA:=zh (zi a1 (zi B1 hz.len))
 rw [hw] at WR
 generalize (Zy p).2=r2 at *
 clear h hz a1 B1 hw
 go_enter Tryz.func51,Tryz.ntmps51
 go_wp2_with (first
  | (go_at_call 50;(with_reducible refine WR.out.mono ?_);rintro e w1 ⟨rfl,hb⟩;have c0:=(HA.out.2.1.keep hb).cell 0;have c1:=(HA.out.2.1.keep hb).cell 1;have c2:=(HA.out.2.1.keep hb).cell 2;simp only [List.getElem?_toArray,List.getElem?_cons_zero,List.getElem?_cons_succ] at c0 c1 c2;have H1:=zh (HA.out.1.trans (hb.mono HA.out.1.size));clear hb)
  | (go_at_call 35;(with_reducible refine (CP.out _ H1.out).mono ?_);rintro e w2 ⟨vs',vm',rfl,ho,hb⟩;have H2:=zh (zi ho hb);clear ho hb))
 have a5:=below_alloc1 w2 (.cells #[txt p.name,vs',vm'] 73)
 have bw:=H1.out.trans (H2.out.2.mono H1.out.size)
 have HF:=zh (show Zbn (w2.alloc (.cells #[txt p.name,vs',vm'] 73)) w.heap.size w2.heap.size p from ⟨vs',vm',Zd.start w2 _ _,(H2.out.1.less H1.out.size).below a5,bw.size⟩)
 have HG:=zh (bw.trans (a5.mono bw.size))
 have HL:=zh bw.size
 clear a5 bw
 refine bodyPost_ret (v:=.tuple #[.pointer (some ⟨w2.heap.size,0,none⟩),.int .i64 0]) (by simp [results,Tryz.results51,go_sem]) rfl ?_
 exact ⟨_,rfl,HF.out,HL.out,HG.out⟩
def ZaS (v:Value):Option (DataW Unit×List MemPlace):=match v with
 | .pointer (some ⟨a,0,none⟩)=>some (.lit (.int .i64 (a:Int)),[])
 | .pointer none=>some (.lit (.int .i64 (-1)),[])
 | _=>none
def Zbc (w:World) (bm:Nat) (ps:List Pro) (al:List Nat):Prop:=
 ∃ D:DataW Unit,w.ownsMap Tryz.prog 9 ZaS bm ps.length D/\IsMap D/\(∀ (i:Nat) (p:Pro) (a:Nat),ps[i]? = some p->al[i]? = some a->has D (.string p.name)=true/\D.atKey (.string p.name) (.lit (.int .i64 (-1)))=.lit (.int .i64 (a:Int)))/\∀ s,(∀ p∈ps,p.name≠s)->has D (.string s)=false
structure BookS (B:Nat) (w:World) (bk bm:Nat) (ps:List Pro) (al:List Nat):Prop where
 box:∃ vn,Zd w bk 63 #[vn,.map (some bm)]/\w.ownsRow B 9 1 vn ps.length (ps.map fun p=>txt p.name)
 map:Zbc w bm ps al
 len:al.length=ps.length
 aut:∀ (i:Nat) (p:Pro) (a:Nat),ps[i]? = some p->al[i]? = some a->Zbn w B a p
 ge:B<=bk/\B<=bm
end
section
open Go.RowKit Go.Maps
def FrA (w w':World) (bk bm:Nat):Prop:=w.heap.size<=w'.heap.size/\∀ b,b<w.heap.size->b≠bk->b≠bm->(∀ cs,¬ Zd w b 9 cs)->w'.heap[b]? = w.heap[b]?
theorem Zbc.keepE {w w':World} {bm:Nat} {ps:List Pro} {al:List Nat} (h:Zbc w bm ps al) (he:w'.heap[bm]? = w.heap[bm]?):Zbc w' bm ps al:=by
 obtain ⟨D,⟨es,cl,h1,h2⟩,h3⟩:=h
 exact ⟨D,⟨es,cl,he.trans h1,h2⟩,h3⟩
theorem Zbc.lt {w:World} {bm:Nat} {ps:List Pro} {al:List Nat} (h:Zbc w bm ps al):bm<w.heap.size:=by
 obtain ⟨D,h1,_⟩:=h
 exact h1.lt
theorem Zbc.not_blk {w:World} {bm b:Nat} {ps:List Pro} {al:List Nat} {ty:TypeId} {cs:Array Value} (h:Zbc w bm ps al) (k:Zd w b ty cs):bm≠b:=by
 rintro rfl
 obtain ⟨D,⟨es,cl,h1,_⟩,_⟩:=h
 unfold Zd at k
 rw [h1] at k
 cases k
theorem BookS.keep {w w':World} {B bk bm:Nat} {ps:List Pro} {al:List Nat} (h:BookS B w bk bm ps al) (hb:Below w.heap.size w w'):BookS B w' bk bm ps al:=by
 obtain ⟨⟨vn,h1,h2⟩,h3,h4,h5,h6⟩:=h
 exact ⟨⟨vn,h1.keep hb,Ze h2 hb⟩,h3.keepE (hb.block _ h3.lt),h4,fun i p a hp ha=>(h5 i p a hp ha).keep (ZY.of_below hb),h6⟩
theorem Zb8 (w:World) (B bk bm:Nat) (ps:List Pro) (al:List Nat) (vs vm:Value) (p:Pro) (h:BookS B w bk bm ps al) (hp:ProAt w vs vm p) (hz:SzP p) (hw:(Zy p).1=0) (hf:∀ q∈ps,q.name≠p.name) (hn:ps.length<=1000) (hB:B<=w.heap.size) :
  Calls Tryz.prog 25 #[.pointer (some ⟨bk,0,none⟩),ZaH vs vm p] w fun e w'=>e=.returned (.tuple #[])/\(∃ a,BookS B w' bk bm (ps++[p]) (al++[a]))/\FrA w w' bk bm/\Below B w w':=by
 obtain ⟨As,cs,rfl,_⟩:=hp.states.len
 obtain ⟨Am,cm,rfl,_⟩:=hp.moves.len
 have a1:=below_alloc1 w (.cells #[txt p.name,.slice As p.states.length cs,.slice Am p.moves.length cm] 51)
 have B1:=Zd.start w #[txt p.name,.slice As p.states.length cs,.slice Am p.moves.length cm] 51
 have NO:=zh (Zi1 _ _ _ p (hp.below a1) hz hw)
 have HA:=zh (zi a1 (zi B1 (zi (h.keep a1) (zi hf (zi hn (zi hB hz.len.name))))))
 have c0:=B1.blk.cell 0
 have c1:=B1.blk.cell 1
 have c2:=B1.blk.cell 2
 simp only [List.getElem?_toArray,List.getElem?_cons_zero,List.getElem?_cons_succ] at c0 c1 c2
 obtain ⟨i0,hi,hz0,hz1,hz2⟩:=info_parts Zju
 clear a1 B1 h hp hz hw hf hn hB
 go_enter Tryz.func25,Tryz.ntmps25
 go_upto_region 2 with (go_at_call 51;(with_reducible refine NO.out.mono ?_);rintro e W ⟨a,rfl,hau,hal,hb1⟩;have H1:=zh (zi hau (zi hal hb1));clear hau hal hb1)
 have bW:=HA.out.1.trans (H1.out.2.2.mono HA.out.1.size)
 have bS:=HA.out.2.2.1.keep H1.out.2.2
 have bpW:=HA.out.2.1.keep H1.out.2.2
 obtain ⟨⟨vn,k1,k2⟩,k3,k4,k5,k6⟩:=bS
 generalize hbp:w.heap.size=bp at bpW c0 c1 c2
 have HB:=zh hbp
 generalize hnm:p.name=nm at bpW c0
 have HNM:=zh hnm
 have HR:=zh (zi k1 (zi k2 (zi bpW (zi (show ps.length<=1000 from HA.out.2.2.2.2.1) (zi (Nat.le_trans HA.out.2.2.2.2.2.1 bW.size) k6.1)))))
 have HM:=zh (zi k3 (zi k4 (zi k5 (zi k6.2 bW))))
 have d0:=k1.blk.cell 0
 simp only [List.getElem?_toArray,List.getElem?_cons_zero] at d0
 have d0a:∀ o,(W.alloc o).cell? ⟨bk,0,none⟩=some vn:=fun o=>(k1.keep (below_alloc1 W o)).blk.cell 0
 clear c0 c1 c2 k1 k2 k3 k4 k5 k6 bpW bW NO
 (try rw [hbp])
 clear hbp hnm
 generalize hn_:ps.length=n at HR
 have HN:=zh hn_
 clear hn_
 go_cut [] from 11 to 21 (fun wx=>∃ v',Zd wx bk 63 #[v',.map (some bm)]/\wx.ownsRow B 9 1 v' (n+1) ((ps.map fun p=>txt p.name)++[txt nm])/\Zd wx bp 51 #[txt nm,.slice As p.states.length cs,.slice Am p.moves.length cm]/\Zad W wx bk 9/\Below B W wx)
 case first=>
  refine wp_region_noPanic ?_
  refine wp_region_held_drew (S:=fun V'=>V'.cell? ⟨bp,0,none⟩=some (txt nm)) (by kernel_rfl) (HR.out.2.2.1.blk.cell 0) (fun hHeld=>?_)
  refine tk 0 rfl ?_
  refine tk 1 rfl ?_
  refine tk 2 rfl ?_
  refine tk 3 rfl ?_
  refine tk 5 rfl ?_
  refine tk 6 rfl ?_
  (try simp only [cl,Act.put])
  refine wpAnyH_ready (rs:=[4,7]) (by kernel_rfl) (by simp) (AllReadyH.cons (o:=_) rfl (fun K hK=>?_) (AllReadyH.cons (o:=_) rfl (fun K hK=>?_) AllReadyH.nil))
  ·go_simp
   refine hK.out _ _ (HR.out.2.2.1.blk.cell 0) (fun _=>?_)
   clear hK K
   (try simp only [cl,Act.put])
   refine rd 7 rfl fun K hK=>?_
   go_simp
   refine hK.out _ _ ((Zar HR.out.2.2.1 _).blk.cell 0) (fun _=>?_)
   clear hK K
   (try simp only [cl,Act.put])
   refine rd 8 rfl fun K hK=>?_
   refine ZP _ rfl _ _ 24 rfl B 9 i0 (.string ⟨#[]⟩) 1 16 Tryz.underlying24 hi hz0 hz1 hz2 rfl (by decide) vn n _ rfl (Zal HR.out.2.1 _) (W.heap.size+1) (some ⟨W.heap.size,0,none⟩) 1 1 [txt nm] rfl (ZbR _ _ _) (Zjo _) (by have:=HR.out.2.2.2.1;unfold maxLen;omega) (by have:=HR.out.2.2.2.1;omega) (Nat.le_trans HR.out.2.2.2.2.1 (below_alloc1 W _).size) (fun v' w' hown hgrow hl=>?_)
   obtain ⟨g',k',rfl⟩:=Zl hown
   have T1:=(Zar HR.out.1 (.cells #[txt nm] 9)).grown hgrow ((Zar HR.out.1 (.cells #[txt nm] 9)).off (Zal HR.out.2.1 (.cells #[txt nm] 9)) (by decide))
   have P1:=(Zar HR.out.2.2.1 (.cells #[txt nm] 9)).grown hgrow ((Zar HR.out.2.2.1 (.cells #[txt nm] 9)).off (Zal HR.out.2.1 (.cells #[txt nm] 9)) (by decide))
   have g1:=T1.blk.cell 0
   have g2:=T1.blk.free 0
   simp only [List.getElem?_toArray,List.getElem?_cons_zero] at g1
   refine hK.out _ _ (P1.blk.cell 0) (fun _=>?_)
   clear hK K
   (try simp only [cl,Act.put])
   refine tk 9 rfl ?_
   refine tk 10 rfl ?_
   (try simp only [cl,Act.put])
   refine rd 11 rfl fun K hK=>?_
   go_simp
   have P2:=P1.other (p:=⟨bk,0,none⟩) (fun e=>ZaV T1 P1 (by decide) e) (.slice g' (n+1) k')
   refine hK.out _ _ (P2.blk.cell 0) (fun _=>?_)
   clear hK K
   refine wpAnyH_done (by kernel_rfl) ?_ _
   refine NoPanic.normal ?_
   go_wp2_with fail
   go_meet
   have K1:=((Zad.of_below (bd:=bk) (e:=9) (below_alloc1 W (.cells #[txt nm] 9)).drew).trans (Zad.row (Zal HR.out.2.1 _) hgrow)).trans (Zad.set 0 (.slice g' (n+1) k'))
   have L1:=(((below_alloc1 W (.cells #[txt nm] 9)).drew.mono HR.out.2.2.2.2.1).trans (Zv hgrow (Nat.le_trans HR.out.2.2.2.2.1 (below_alloc1 W _).size) (fun k hk=>(HR.out.2.1.lt k hk).1))).setCell (p:=⟨bk,0,none⟩) HR.out.2.2.2.2.2 (.slice g' (n+1) k')
   exact ⟨_,by simpa using T1.set 0 (.slice g' (n+1) k'),Zg hown (T1.off hown (by decide)),P2,K1,L1⟩
  ·go_simp
   refine hK.out _ _ ((Zar HR.out.2.2.1 _).blk.cell 0) (fun _=>?_)
   clear hK K
   (try simp only [cl,Act.put])
   refine rd 4 rfl fun K hK=>?_
   go_simp
   refine hK.out _ _ ((Zar HR.out.2.2.1 _).blk.cell 0) (fun _=>?_)
   clear hK K
   (try simp only [cl,Act.put])
   refine rd 8 rfl fun K hK=>?_
   refine ZP _ rfl _ _ 24 rfl B 9 i0 (.string ⟨#[]⟩) 1 16 Tryz.underlying24 hi hz0 hz1 hz2 rfl (by decide) vn n _ rfl (Zal HR.out.2.1 _) (W.heap.size+1) (some ⟨W.heap.size,0,none⟩) 1 1 [txt nm] rfl (ZbR _ _ _) (Zjo _) (by have:=HR.out.2.2.2.1;unfold maxLen;omega) (by have:=HR.out.2.2.2.1;omega) (Nat.le_trans HR.out.2.2.2.2.1 (below_alloc1 W _).size) (fun v' w' hown hgrow hl=>?_)
   obtain ⟨g',k',rfl⟩:=Zl hown
   have T1:=(Zar HR.out.1 (.cells #[txt nm] 9)).grown hgrow ((Zar HR.out.1 (.cells #[txt nm] 9)).off (Zal HR.out.2.1 (.cells #[txt nm] 9)) (by decide))
   have P1:=(Zar HR.out.2.2.1 (.cells #[txt nm] 9)).grown hgrow ((Zar HR.out.2.2.1 (.cells #[txt nm] 9)).off (Zal HR.out.2.1 (.cells #[txt nm] 9)) (by decide))
   have g1:=T1.blk.cell 0
   have g2:=T1.blk.free 0
   simp only [List.getElem?_toArray,List.getElem?_cons_zero] at g1
   refine hK.out _ _ (P1.blk.cell 0) (fun _=>?_)
   clear hK K
   (try simp only [cl,Act.put])
   refine tk 9 rfl ?_
   refine tk 10 rfl ?_
   (try simp only [cl,Act.put])
   refine rd 11 rfl fun K hK=>?_
   go_simp
   have P2:=P1.other (p:=⟨bk,0,none⟩) (fun e=>ZaV T1 P1 (by decide) e) (.slice g' (n+1) k')
   refine hK.out _ _ (P2.blk.cell 0) (fun _=>?_)
   clear hK K
   refine wpAnyH_done (by kernel_rfl) ?_ _
   refine NoPanic.normal ?_
   go_wp2_with fail
   go_meet
   have K1:=((Zad.of_below (bd:=bk) (e:=9) (below_alloc1 W (.cells #[txt nm] 9)).drew).trans (Zad.row (Zal HR.out.2.1 _) hgrow)).trans (Zad.set 0 (.slice g' (n+1) k'))
   have L1:=(((below_alloc1 W (.cells #[txt nm] 9)).drew.mono HR.out.2.2.2.2.1).trans (Zv hgrow (Nat.le_trans HR.out.2.2.2.2.1 (below_alloc1 W _).size) (fun k hk=>(HR.out.2.1.lt k hk).1))).setCell (p:=⟨bk,0,none⟩) HR.out.2.2.2.2.2 (.slice g' (n+1) k')
   exact ⟨_,by simpa using T1.set 0 (.slice g' (n+1) k'),Zg hown (T1.off hown (by decide)),P2,K1,L1⟩
 case rest=>
  obtain ⟨v',T1,o1,P1,K1,L1⟩:=hcut
  generalize wc=W2 at *
  have d1:=T1.blk.cell 1
  have p0:=P1.blk.cell 0
  simp only [List.getElem?_toArray,List.getElem?_cons_zero,List.getElem?_cons_succ] at d1 p0
  have hbm:=HM.out.1
  have m2:Zbc W2 bm ps al:=hbm.keepE (K1.2 bm hbm.lt (hbm.not_blk HR.out.1) (fun _ q=>hbm.not_blk q rfl))
  obtain ⟨D,m3,m4,m5,m6⟩:=m2
  rw [HN.out] at m3
  have MM:=zh (zi (show W2.drew.ownsMap Tryz.prog 9 ZaS bm n D from m3) (zi m4 (zi m5 m6)))
  have HT:=zh (zi T1 (zi o1 (zi K1 L1)))
  have nmB:∀ ty cs,¬ Zd W2 bm ty cs:=fun ty cs q=>(hbm.keepE (K1.2 bm hbm.lt (hbm.not_blk HR.out.1) (fun _ q=>hbm.not_blk q rfl)):Zbc W2 bm ps al).not_blk q rfl
  have hml:nm.length<=maxLen:=by have:=HA.out.2.2.2.2.2.2;rw [HNM.out] at this;exact this
  clear d0 d0a T1 o1 P1 K1 L1 m3 m4 m5 m6 hbm
  go_upto_region 3 with fail
  refine wp_region_still_tail 7 (by kernel_rfl) (by kernel_rfl) ?_
  simp only [List.take_succ_cons,List.take_zero,List.drop_succ_cons,List.drop_zero]
  iterate 7 still_step
  refine wpStill_nil ?_
  change wpList _ _ _ _ _ W2.drew
  go_wp2_with (at_mapUpdate;refine wpList_mapUpdate_own _ rfl _ _ _ _ rfl 9 36 ZcJ Tryz.underlying61 ZaS _ _ D rfl MM.out.1 (by have:=HR.out.2.2.2.1;unfold maxLen;omega) (txt nm) (.pointer (some ⟨a,0,none⟩)) _ rfl rfl (ZdI nm hml) (.lit (.int .i64 (a:Int))) [] rfl ?_;intro w2 hm1 hg1;have H2:=zh (zi hm1 hg1);clear hm1 hg1)
  go_end0
  have gW:W2.grownBy w2 (some bm):=⟨H2.out.2.os,H2.out.2.tape,H2.out.2.output,H2.out.2.size,H2.out.2.block⟩
  have KA:ZY W w2:=(ZY.of1 HT.out.2.2.1 HR.out.1 (by decide) (by decide)).trans (ZY.of_map gW nmB)
  have T3:=HT.out.1.grown gW (fun e=>by injection e with e;subst e;exact nmB _ _ HT.out.1)
  have o3:=HT.out.2.1.kept gW (by
   cases q:v'.ownBlock with
   | none=>exact .inl rfl
   | some g=>
    refine .inr fun e=>?_
    injection e with e
    subst e
    rcases HT.out.2.1.2 with ⟨z,_⟩ | ⟨g',cap,cur,z,_,k,_⟩
    ·rw [z] at q;cases q
    ·rw [z] at q
     injection q with q
     dsimp only at q
     subst q
     exact nmB _ _ k)
  have hnl:=HN.out
  refine ⟨rfl,⟨a,⟨⟨v',T3,?_⟩,?_,?_,?_,HR.out.2.2.2.2.2,HM.out.2.2.2.1⟩⟩,?_,?_⟩
  ·rw [List.length_append,List.map_append,hnl,List.map_cons,List.map_nil,HNM.out]
   exact o3
  ·refine ⟨_,by rw [List.length_append,hnl];exact H2.out.1,MM.out.2.1.put _ _,fun i q b hq hb=>?_,fun s hs=>?_⟩
   ·rcases Nat.lt_or_ge i ps.length with hi | hi
    ·rw [List.getElem?_append_left hi] at hq
     rw [List.getElem?_append_left (by rw [HM.out.2.1];exact hi)] at hb
     have ne:(Lit.string q.name)≠.string nm:=by
      intro z
      injection z with z
      exact HA.out.2.2.2.1 q (List.mem_of_getElem? hq) (z.trans HNM.out.symm)
     rw [has_put_other ne,atKey_put_other ne]
     exact MM.out.2.2.1 i q b hq hb
    ·rw [List.getElem?_append_right hi] at hq
     rw [List.getElem?_append_right (by rw [HM.out.2.1];exact hi),HM.out.2.1] at hb
     have e0:i-ps.length=0:=by have:=(List.getElem?_eq_some_iff.1 hq).1;simp at this;omega
     rw [e0] at hq hb
     injection hq with hq
     injection hb with hb
     subst hq hb
     rw [HNM.out]
     exact ⟨has_put_same MM.out.2.1 (by trivial) _,atKey_put_same MM.out.2.1 (by trivial) _ _⟩
   ·have ne:(Lit.string s)≠.string nm:=by
     intro z
     injection z with z
     exact hs p (by simp) (HNM.out.trans z.symm)
    rw [has_put_other ne]
    exact MM.out.2.2.2 s fun q hq=>hs q (by simp [hq])
  ·rw [List.length_append,List.length_append,HM.out.2.1]
   rfl
  ·intro i q b hq hb
   rcases Nat.lt_or_ge i ps.length with hi | hi
   ·rw [List.getElem?_append_left hi] at hq
    rw [List.getElem?_append_left (by rw [HM.out.2.1];exact hi)] at hb
    exact (HM.out.2.2.1 i q b hq hb).keep KA
   ·rw [List.getElem?_append_right hi] at hq
    rw [List.getElem?_append_right (by rw [HM.out.2.1];exact hi),HM.out.2.1] at hb
    have e0:i-ps.length=0:=by have:=(List.getElem?_eq_some_iff.1 hq).1;simp at this;omega
    rw [e0] at hq hb
    injection hq with hq
    injection hb with hb
    subst hq hb
    obtain ⟨u1,u2,u3,u4,u5⟩:=H1.out.1.keep KA
    have hBw:=Nat.le_trans HA.out.2.2.2.2.2.1 HA.out.1.size
    exact ⟨u1,u2,u3,u4.less hBw,Nat.le_trans hBw u5⟩
  ·refine ⟨Nat.le_trans HM.out.2.2.2.2.size (Nat.le_trans HT.out.2.2.1.1 gW.size),fun b hb h1 h2 h3=>?_⟩
   have q1:=HM.out.2.2.2.2.block b hb
   have q2:=HT.out.2.2.1.2 b (Nat.lt_of_lt_of_le hb HM.out.2.2.2.2.size) h1 (fun cs z=>h3 cs (by unfold Zd at z ⊢;rw [<- q1];exact z))
   exact ((gW.block b (Nat.lt_of_lt_of_le hb (Nat.le_trans HM.out.2.2.2.2.size HT.out.2.2.1.1)) (fun e=>h2 (by injection e))).trans q2).trans q1
  ·exact ((HM.out.2.2.2.2.mono HA.out.2.2.2.2.2.1).trans HT.out.2.2.2).trans (Zv gW (Nat.le_trans (Nat.le_trans HA.out.2.2.2.2.2.1 HM.out.2.2.2.2.size) HT.out.2.2.1.1) (fun k hk=>by injection hk with hk;rw [<- hk];exact HM.out.2.2.2.1))
end
end Go.Proofs.YtkgkmdhpnhmcpaaGreatDoor
