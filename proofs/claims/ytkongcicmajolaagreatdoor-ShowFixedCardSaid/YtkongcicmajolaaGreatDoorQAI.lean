import Derived.Deep.LoopGhost
import Derived.Test.YtkongcicmajolaaGreatDoorQAA
import Derived.Test.YtkongcicmajolaaGreatDoorQAH
set_option maxRecDepth 100000
set_option maxHeartbeats 8000000
namespace Go.Proofs.YtkongcicmajolaaGreatDoor
section
open Go.RowKit
def Stb (P:World->Prop):Prop:=∀ w1 w2:World,Below w1.heap.size w1 w2->P w1->P w2
theorem Zac (p:Addr) (x:Value):Stb fun w=>w.cell? p=some x:=fun _ _ hb h=>(hb.cell (World.block_lt_of_cell? _ _ h)).trans h
theorem Zau {P Q:World->Prop} (hp:Stb P) (hq:Stb Q):Stb fun w=>P w/\Q w:=fun _ _ hb h=>⟨hp _ _ hb h.1,hq _ _ hb h.2⟩
theorem ZcW (wq:World):Stb fun w=>Below wq.heap.size wq w:=fun _ _ hb h=>h.trans (hb.mono h.size)
theorem Zm {A:Prop} {wq w':World} (h:A/\Below wq.heap.size wq w'):Below wq.heap.size wq w':=h.2
def ZgA (f:FuncId) (cap:Array Value) (t:Tst) (w:World):Prop:=∀ (w':World) (k:Int),Below w.heap.size w w'->Calls Tryz.prog f (#[.int .i64 k]++cap) w' fun e w2=>e=.returned (.bool (t.f k))/\Below w'.heap.size w' w2
theorem ZcU {f:FuncId} {xs:Array Value} {w:World} {v:Value} (h:Calls Tryz.prog f xs w fun e w'=>e=.returned v/\w=w'):Calls Tryz.prog f xs w fun e w2=>e=.returned v/\Below w.heap.size w w2:=h.mono fun _ _ q=>⟨q.1,q.2▸Below.refl _ _⟩
theorem Zlx {w:World} {t:Tst} {u:Value} (h:Za6 w t u):∃ f cap,u=.func (.func f) #[] cap/\ZgA f cap t w:=by
 cases t with
 | is ks=>
  obtain ⟨b,A,c,rfl,h1,h2⟩:=h
  exact ⟨_,_,rfl,fun w' k hb=>ZcU (ZmA w' b A _ c ks k (h1.keep hb) (h2.below hb))⟩
 | stmt=>exact ⟨_,_,h,fun w' k _=>ZcU (Zlv w' k)⟩
 | expr=>exact ⟨_,_,h,fun w' k _=>ZcU (Zih w' k)⟩
 | arg=>exact ⟨_,_,h,fun w' k _=>ZcU (Zmn w' k)⟩
theorem Zq6 (w:World) (bf:Nat) (ks:List Int) (b1 b2:Nat) (A:Option Addr) (c:Nat) (ns:List Nd) (k:Nat) (hB1:Blk w b1 #[.func (.func 109) #[] #[.pointer (some ⟨bf,0,none⟩)]]) (hB2:Blk w b2 #[.slice A ns.length c]) (hN:Zs w (.slice A ns.length c) ns) (hc:ZgA 109 #[.pointer (some ⟨bf,0,none⟩)] (.is ks) w) (hk:k<ns.length) :
  Calls Tryz.prog 112 #[.int .i64 k,.pointer (some ⟨b1,0,none⟩),.pointer (some ⟨b2,0,none⟩)] w fun e w'=>e=.returned (.bool (!Tst.f (.is ks) (ZJ ns k)))/\Below w.heap.size w w':=by
 obtain ⟨A',c',rs,e0,h2,h3,h4,h5,h6⟩:=hN
 injection e0 with e1 _ e2
 subst e1 e2
 obtain ⟨n,hn⟩:∃ n,n=ns.length:=⟨_,rfl⟩
 obtain ⟨x,hx⟩:∃ x,rs[k]? = some x:=⟨_,List.getElem?_eq_getElem (by rw [show rs.length=ns.length by rw [<- h4,List.length_map]];exact hk)⟩
 have hnx:ns[k]? = some x.2:=by rw [<- h4,List.getElem?_map,hx];rfl
 rw [<- hn] at h5 hk hB2
 obtain ⟨ad,rfl,d0,_⟩:=ZbA h5 (Below.refl _ _) hx (by omega)
 have hkd:ZJ ns k=x.2.kind:=by unfold ZJ Za;rw [Int.toNat_natCast,hnx];rfl
 rw [hkd]
 have cl:∀ w':World,Below w.heap.size w w'->Calls Tryz.prog 109 #[.int .i64 x.2.kind,.pointer (some ⟨bf,0,none⟩)] w' (fun e w2=>e=.returned (.bool (Tst.f (.is ks) x.2.kind))/\Below w'.heap.size w' w2):=fun w' hb=>hc w' x.2.kind hb
 have i1:(k:Int)<(n:Int):=by omega
 have i2:(0:Int)<=(k:Int):=by omega
 have b10:w.cell? ⟨b1,0,none⟩=some (.func (.func 109) #[] #[.pointer (some ⟨bf,0,none⟩)]):=hB1.cell 0
 have b20:w.cell? ⟨b2,0,none⟩=some (.slice (some ad) n c):=hB2.cell 0
 generalize x.2.kind=kd at *
 generalize Tst.f (.is ks) kd=BV at *
 have CL:=zh cl
 clear cl hc hkd hnx hx hk h2 h3 h4 h5 h6 hB1 hB2 hn
 have STB:=zh (show Stb (fun w'=>(w'.cell? ⟨b1,0,none⟩=some (.func (.func 109) #[] #[.pointer (some ⟨bf,0,none⟩)])/\(w'.cell? ⟨b2,0,none⟩=some (.slice (some ad) n c)/\w'.cell? (ad.add (k*5))=some (.int .i64 kd)))/\Below w.heap.size w w') from Zau (Zau (Zac _ _) (Zau (Zac _ _) (Zac _ _))) (ZcW w))
 go_enter Tryz.func112,Tryz.ntmps112
 go_upto_region 1 with fail
 have HS:((w.drew.cell? ⟨b1,0,none⟩=some (.func (.func 109) #[] #[.pointer (some ⟨bf,0,none⟩)])/\(w.drew.cell? ⟨b2,0,none⟩=some (.slice (some ad) n c)/\w.drew.cell? (ad.add (k*5))=some (.int .i64 kd)))/\Below w.heap.size w w.drew):=⟨⟨b10,b20,d0⟩,Za7 w⟩
 clear b10 b20 d0
 refine wp_region_noPanic ?_
 refine wp_region_held_drew (S:=(fun w'=>(w'.cell? ⟨b1,0,none⟩=some (.func (.func 109) #[] #[.pointer (some ⟨bf,0,none⟩)])/\(w'.cell? ⟨b2,0,none⟩=some (.slice (some ad) n c)/\w'.cell? (ad.add (k*5))=some (.int .i64 kd)))/\Below w.heap.size w w')) (by kernel_rfl) HS (fun hHeld=>?_)
 clear HS
 refine tk 0 rfl ?_
 refine tk 1 rfl ?_
 refine tk 2 rfl ?_
 refine tk 3 rfl ?_
 refine tk 4 rfl ?_
 refine tk 5 rfl ?_
 (try simp only [cl,Act.put])
 refine rd 6 rfl fun K hK=>?_
 go_simp
 (go_at_call 109;(with_reducible refine (CL.out _ (Zm (by with_reducible assumption))).mono ?_);rintro e5 w5 ⟨rfl,hb⟩)
 go_wp2_with fail
 refine hK.out _ _ (STB.out _ _ hb (by with_reducible assumption)) (fun hH2=>?_)
 clear hK K hHeld hb;have hHeld:=hH2;clear hH2
 (try simp only [cl,Act.put])
 refine tk 7 rfl ?_
 refine tk 8 rfl ?_
 (try simp only [cl,Act.put])
 refine wpAnyH_done (by kernel_rfl) ?_ _
 refine NoPanic.normal ?_
 have HB:=zh (Zm hHeld)
 clear hHeld
 go_wp2_with fail
 go_ret
 exact ⟨rfl,HB.out⟩
theorem Zod (w:World) (b1 b2:Nat) (A:Option Addr) (c:Nat) (ns:List Nd) (k:Nat) (hB1:Blk w b1 #[.func (.func 85) #[] #[]]) (hB2:Blk w b2 #[.slice A ns.length c]) (hN:Zs w (.slice A ns.length c) ns) (hc:ZgA 85 #[] (.stmt) w) (hk:k<ns.length) :
  Calls Tryz.prog 112 #[.int .i64 k,.pointer (some ⟨b1,0,none⟩),.pointer (some ⟨b2,0,none⟩)] w fun e w'=>e=.returned (.bool (!Tst.f (.stmt) (ZJ ns k)))/\Below w.heap.size w w':=by
 obtain ⟨A',c',rs,e0,h2,h3,h4,h5,h6⟩:=hN
 injection e0 with e1 _ e2
 subst e1 e2
 obtain ⟨n,hn⟩:∃ n,n=ns.length:=⟨_,rfl⟩
 obtain ⟨x,hx⟩:∃ x,rs[k]? = some x:=⟨_,List.getElem?_eq_getElem (by rw [show rs.length=ns.length by rw [<- h4,List.length_map]];exact hk)⟩
 have hnx:ns[k]? = some x.2:=by rw [<- h4,List.getElem?_map,hx];rfl
 rw [<- hn] at h5 hk hB2
 obtain ⟨ad,rfl,d0,_⟩:=ZbA h5 (Below.refl _ _) hx (by omega)
 have hkd:ZJ ns k=x.2.kind:=by unfold ZJ Za;rw [Int.toNat_natCast,hnx];rfl
 rw [hkd]
 have cl:∀ w':World,Below w.heap.size w w'->Calls Tryz.prog 85 #[.int .i64 x.2.kind] w' (fun e w2=>e=.returned (.bool (Tst.f (.stmt) x.2.kind))/\Below w'.heap.size w' w2):=fun w' hb=>hc w' x.2.kind hb
 have i1:(k:Int)<(n:Int):=by omega
 have i2:(0:Int)<=(k:Int):=by omega
 have b10:w.cell? ⟨b1,0,none⟩=some (.func (.func 85) #[] #[]):=hB1.cell 0
 have b20:w.cell? ⟨b2,0,none⟩=some (.slice (some ad) n c):=hB2.cell 0
 generalize x.2.kind=kd at *
 generalize Tst.f (.stmt) kd=BV at *
 have CL:=zh cl
 clear cl hc hkd hnx hx hk h2 h3 h4 h5 h6 hB1 hB2 hn
 have STB:=zh (show Stb (fun w'=>(w'.cell? ⟨b1,0,none⟩=some (.func (.func 85) #[] #[])/\(w'.cell? ⟨b2,0,none⟩=some (.slice (some ad) n c)/\w'.cell? (ad.add (k*5))=some (.int .i64 kd)))/\Below w.heap.size w w') from Zau (Zau (Zac _ _) (Zau (Zac _ _) (Zac _ _))) (ZcW w))
 go_enter Tryz.func112,Tryz.ntmps112
 go_upto_region 1 with fail
 have HS:((w.drew.cell? ⟨b1,0,none⟩=some (.func (.func 85) #[] #[])/\(w.drew.cell? ⟨b2,0,none⟩=some (.slice (some ad) n c)/\w.drew.cell? (ad.add (k*5))=some (.int .i64 kd)))/\Below w.heap.size w w.drew):=⟨⟨b10,b20,d0⟩,Za7 w⟩
 clear b10 b20 d0
 refine wp_region_noPanic ?_
 refine wp_region_held_drew (S:=(fun w'=>(w'.cell? ⟨b1,0,none⟩=some (.func (.func 85) #[] #[])/\(w'.cell? ⟨b2,0,none⟩=some (.slice (some ad) n c)/\w'.cell? (ad.add (k*5))=some (.int .i64 kd)))/\Below w.heap.size w w')) (by kernel_rfl) HS (fun hHeld=>?_)
 clear HS
 refine tk 0 rfl ?_
 refine tk 1 rfl ?_
 refine tk 2 rfl ?_
 refine tk 3 rfl ?_
 refine tk 4 rfl ?_
 refine tk 5 rfl ?_
 (try simp only [cl,Act.put])
 refine rd 6 rfl fun K hK=>?_
 go_simp
 (go_at_call 85;(with_reducible refine (CL.out _ (Zm (by with_reducible assumption))).mono ?_);rintro e5 w5 ⟨rfl,hb⟩)
 go_wp2_with fail
 refine hK.out _ _ (STB.out _ _ hb (by with_reducible assumption)) (fun hH2=>?_)
 clear hK K hHeld hb;have hHeld:=hH2;clear hH2
 (try simp only [cl,Act.put])
 refine tk 7 rfl ?_
 refine tk 8 rfl ?_
 (try simp only [cl,Act.put])
 refine wpAnyH_done (by kernel_rfl) ?_ _
 refine NoPanic.normal ?_
 have HB:=zh (Zm hHeld)
 clear hHeld
 go_wp2_with fail
 go_ret
 exact ⟨rfl,HB.out⟩
theorem Zoc (w:World) (b1 b2:Nat) (A:Option Addr) (c:Nat) (ns:List Nd) (k:Nat) (hB1:Blk w b1 #[.func (.func 86) #[] #[]]) (hB2:Blk w b2 #[.slice A ns.length c]) (hN:Zs w (.slice A ns.length c) ns) (hc:ZgA 86 #[] (.expr) w) (hk:k<ns.length) :
  Calls Tryz.prog 112 #[.int .i64 k,.pointer (some ⟨b1,0,none⟩),.pointer (some ⟨b2,0,none⟩)] w fun e w'=>e=.returned (.bool (!Tst.f (.expr) (ZJ ns k)))/\Below w.heap.size w w':=by
 obtain ⟨A',c',rs,e0,h2,h3,h4,h5,h6⟩:=hN
 injection e0 with e1 _ e2
 subst e1 e2
 obtain ⟨n,hn⟩:∃ n,n=ns.length:=⟨_,rfl⟩
 obtain ⟨x,hx⟩:∃ x,rs[k]? = some x:=⟨_,List.getElem?_eq_getElem (by rw [show rs.length=ns.length by rw [<- h4,List.length_map]];exact hk)⟩
 have hnx:ns[k]? = some x.2:=by rw [<- h4,List.getElem?_map,hx];rfl
 rw [<- hn] at h5 hk hB2
 obtain ⟨ad,rfl,d0,_⟩:=ZbA h5 (Below.refl _ _) hx (by omega)
 have hkd:ZJ ns k=x.2.kind:=by unfold ZJ Za;rw [Int.toNat_natCast,hnx];rfl
 rw [hkd]
 have cl:∀ w':World,Below w.heap.size w w'->Calls Tryz.prog 86 #[.int .i64 x.2.kind] w' (fun e w2=>e=.returned (.bool (Tst.f (.expr) x.2.kind))/\Below w'.heap.size w' w2):=fun w' hb=>hc w' x.2.kind hb
 have i1:(k:Int)<(n:Int):=by omega
 have i2:(0:Int)<=(k:Int):=by omega
 have b10:w.cell? ⟨b1,0,none⟩=some (.func (.func 86) #[] #[]):=hB1.cell 0
 have b20:w.cell? ⟨b2,0,none⟩=some (.slice (some ad) n c):=hB2.cell 0
 generalize x.2.kind=kd at *
 generalize Tst.f (.expr) kd=BV at *
 have CL:=zh cl
 clear cl hc hkd hnx hx hk h2 h3 h4 h5 h6 hB1 hB2 hn
 have STB:=zh (show Stb (fun w'=>(w'.cell? ⟨b1,0,none⟩=some (.func (.func 86) #[] #[])/\(w'.cell? ⟨b2,0,none⟩=some (.slice (some ad) n c)/\w'.cell? (ad.add (k*5))=some (.int .i64 kd)))/\Below w.heap.size w w') from Zau (Zau (Zac _ _) (Zau (Zac _ _) (Zac _ _))) (ZcW w))
 go_enter Tryz.func112,Tryz.ntmps112
 go_upto_region 1 with fail
 have HS:((w.drew.cell? ⟨b1,0,none⟩=some (.func (.func 86) #[] #[])/\(w.drew.cell? ⟨b2,0,none⟩=some (.slice (some ad) n c)/\w.drew.cell? (ad.add (k*5))=some (.int .i64 kd)))/\Below w.heap.size w w.drew):=⟨⟨b10,b20,d0⟩,Za7 w⟩
 clear b10 b20 d0
 refine wp_region_noPanic ?_
 refine wp_region_held_drew (S:=(fun w'=>(w'.cell? ⟨b1,0,none⟩=some (.func (.func 86) #[] #[])/\(w'.cell? ⟨b2,0,none⟩=some (.slice (some ad) n c)/\w'.cell? (ad.add (k*5))=some (.int .i64 kd)))/\Below w.heap.size w w')) (by kernel_rfl) HS (fun hHeld=>?_)
 clear HS
 refine tk 0 rfl ?_
 refine tk 1 rfl ?_
 refine tk 2 rfl ?_
 refine tk 3 rfl ?_
 refine tk 4 rfl ?_
 refine tk 5 rfl ?_
 (try simp only [cl,Act.put])
 refine rd 6 rfl fun K hK=>?_
 go_simp
 (go_at_call 86;(with_reducible refine (CL.out _ (Zm (by with_reducible assumption))).mono ?_);rintro e5 w5 ⟨rfl,hb⟩)
 go_wp2_with fail
 refine hK.out _ _ (STB.out _ _ hb (by with_reducible assumption)) (fun hH2=>?_)
 clear hK K hHeld hb;have hHeld:=hH2;clear hH2
 (try simp only [cl,Act.put])
 refine tk 7 rfl ?_
 refine tk 8 rfl ?_
 (try simp only [cl,Act.put])
 refine wpAnyH_done (by kernel_rfl) ?_ _
 refine NoPanic.normal ?_
 have HB:=zh (Zm hHeld)
 clear hHeld
 go_wp2_with fail
 go_ret
 exact ⟨rfl,HB.out⟩
theorem ZpT (w:World) (b1 b2:Nat) (A:Option Addr) (c:Nat) (ns:List Nd) (k:Nat) (hB1:Blk w b1 #[.func (.func 88) #[] #[]]) (hB2:Blk w b2 #[.slice A ns.length c]) (hN:Zs w (.slice A ns.length c) ns) (hc:ZgA 88 #[] (.arg) w) (hk:k<ns.length) :
  Calls Tryz.prog 112 #[.int .i64 k,.pointer (some ⟨b1,0,none⟩),.pointer (some ⟨b2,0,none⟩)] w fun e w'=>e=.returned (.bool (!Tst.f (.arg) (ZJ ns k)))/\Below w.heap.size w w':=by
 obtain ⟨A',c',rs,e0,h2,h3,h4,h5,h6⟩:=hN
 injection e0 with e1 _ e2
 subst e1 e2
 obtain ⟨n,hn⟩:∃ n,n=ns.length:=⟨_,rfl⟩
 obtain ⟨x,hx⟩:∃ x,rs[k]? = some x:=⟨_,List.getElem?_eq_getElem (by rw [show rs.length=ns.length by rw [<- h4,List.length_map]];exact hk)⟩
 have hnx:ns[k]? = some x.2:=by rw [<- h4,List.getElem?_map,hx];rfl
 rw [<- hn] at h5 hk hB2
 obtain ⟨ad,rfl,d0,_⟩:=ZbA h5 (Below.refl _ _) hx (by omega)
 have hkd:ZJ ns k=x.2.kind:=by unfold ZJ Za;rw [Int.toNat_natCast,hnx];rfl
 rw [hkd]
 have cl:∀ w':World,Below w.heap.size w w'->Calls Tryz.prog 88 #[.int .i64 x.2.kind] w' (fun e w2=>e=.returned (.bool (Tst.f (.arg) x.2.kind))/\Below w'.heap.size w' w2):=fun w' hb=>hc w' x.2.kind hb
 have i1:(k:Int)<(n:Int):=by omega
 have i2:(0:Int)<=(k:Int):=by omega
 have b10:w.cell? ⟨b1,0,none⟩=some (.func (.func 88) #[] #[]):=hB1.cell 0
 have b20:w.cell? ⟨b2,0,none⟩=some (.slice (some ad) n c):=hB2.cell 0
 generalize x.2.kind=kd at *
 generalize Tst.f (.arg) kd=BV at *
 have CL:=zh cl
 clear cl hc hkd hnx hx hk h2 h3 h4 h5 h6 hB1 hB2 hn
 have STB:=zh (show Stb (fun w'=>(w'.cell? ⟨b1,0,none⟩=some (.func (.func 88) #[] #[])/\(w'.cell? ⟨b2,0,none⟩=some (.slice (some ad) n c)/\w'.cell? (ad.add (k*5))=some (.int .i64 kd)))/\Below w.heap.size w w') from Zau (Zau (Zac _ _) (Zau (Zac _ _) (Zac _ _))) (ZcW w))
 go_enter Tryz.func112,Tryz.ntmps112
 go_upto_region 1 with fail
 have HS:((w.drew.cell? ⟨b1,0,none⟩=some (.func (.func 88) #[] #[])/\(w.drew.cell? ⟨b2,0,none⟩=some (.slice (some ad) n c)/\w.drew.cell? (ad.add (k*5))=some (.int .i64 kd)))/\Below w.heap.size w w.drew):=⟨⟨b10,b20,d0⟩,Za7 w⟩
 clear b10 b20 d0
 refine wp_region_noPanic ?_
 refine wp_region_held_drew (S:=(fun w'=>(w'.cell? ⟨b1,0,none⟩=some (.func (.func 88) #[] #[])/\(w'.cell? ⟨b2,0,none⟩=some (.slice (some ad) n c)/\w'.cell? (ad.add (k*5))=some (.int .i64 kd)))/\Below w.heap.size w w')) (by kernel_rfl) HS (fun hHeld=>?_)
 clear HS
 refine tk 0 rfl ?_
 refine tk 1 rfl ?_
 refine tk 2 rfl ?_
 refine tk 3 rfl ?_
 refine tk 4 rfl ?_
 refine tk 5 rfl ?_
 (try simp only [cl,Act.put])
 refine rd 6 rfl fun K hK=>?_
 go_simp
 (go_at_call 88;(with_reducible refine (CL.out _ (Zm (by with_reducible assumption))).mono ?_);rintro e5 w5 ⟨rfl,hb⟩)
 go_wp2_with fail
 refine hK.out _ _ (STB.out _ _ hb (by with_reducible assumption)) (fun hH2=>?_)
 clear hK K hHeld hb;have hHeld:=hH2;clear hH2
 (try simp only [cl,Act.put])
 refine tk 7 rfl ?_
 refine tk 8 rfl ?_
 (try simp only [cl,Act.put])
 refine wpAnyH_done (by kernel_rfl) ?_ _
 refine NoPanic.normal ?_
 have HB:=zh (Zm hHeld)
 clear hHeld
 go_wp2_with fail
 go_ret
 exact ⟨rfl,HB.out⟩
end
section
open Go.RowKit
def ZdO (ks:List Int) (n:Nat):Prop:=∀ k∈ks,0<=k/\k<n
theorem ZpS (w:World) (t:Tst) (u:Value) (b1 b2:Nat) (A:Option Addr) (c:Nat) (ns:List Nd) (hu:Za6 w t u) (hB1:Blk w b1 #[u]) (hB2:Blk w b2 #[.slice A ns.length c]) (hN:Zs w (.slice A ns.length c) ns) (w':World) (hb:Below w.heap.size w w') (k:Int) (hk:0<=k/\k<ns.length) :
  Calls Tryz.prog 112 #[.int .i64 k,.pointer (some ⟨b1,0,none⟩),.pointer (some ⟨b2,0,none⟩)] w' fun e w2=>e=.returned (.bool (!t.f (ZJ ns k)))/\Below w'.heap.size w' w2:=by
 obtain ⟨j,rfl⟩:∃ j:Nat,k=j:=⟨k.toNat,by omega⟩
 have hu':=hu.below hb
 have hc:=Zlx hu'
 obtain ⟨f,cap,e,hc⟩:=hc
 have B1:=hB1.keep hb
 rw [e] at B1
 have B2:=hB2.keep hb
 have N:=hN.below hb
 have hj:j<ns.length:=by omega
 cases t with
 | is ks=>
  obtain ⟨b,A',c',e',h1,h2⟩:=hu'
  rw [e'] at e
  injection e with e1 e2 e3
  injection e1 with e1
  subst e1 e3
  exact Zq6 w' b ks b1 b2 A c ns j B1 B2 N hc hj
 | stmt=>
  rw [show u=_ from hu'] at e
  injection e with e1 e2 e3
  injection e1 with e1
  subst e1 e3
  exact Zod w' b1 b2 A c ns j B1 B2 N hc hj
 | expr=>
  rw [show u=_ from hu'] at e
  injection e with e1 e2 e3
  injection e1 with e1
  subst e1 e3
  exact Zoc w' b1 b2 A c ns j B1 B2 N hc hj
 | arg=>
  rw [show u=_ from hu'] at e
  injection e with e1 e2 e3
  injection e1 with e1
  subst e1 e3
  exact ZpT w' b1 b2 A c ns j B1 B2 N hc hj
theorem ZpU {l:List Int} {f:Int->Bool} {k:Nat} {x:Int} (hk:l[k]? = some x) (h:(l.take k).any f=false):(l.take (k+1)).any f=f x:=by
 rw [List.take_add_one,hk,List.any_append,h,Bool.false_or]
 simp
theorem Zmd (w:World) (v:Value) (l:List Int) (f:Int->Bool) (b1 b2:Nat) (h:Zbh w v l) (hf:∀ (w':World),Below w.heap.size w w'->∀ k∈l,Calls Tryz.prog 112 #[.int .i64 k,.pointer (some ⟨b1,0,none⟩),.pointer (some ⟨b2,0,none⟩)] w' fun e w2=>e=.returned (.bool (f k))/\Below w'.heap.size w' w2) :
  Calls Tryz.prog 129 #[v,.func (.func 112) #[] #[.pointer (some ⟨b1,0,none⟩),.pointer (some ⟨b2,0,none⟩)]] w fun e w'=>(∃ z:Int,e=.returned (.int .i64 z)/\decide (0<=z)=l.any f)/\Below w.heap.size w w':=by
 obtain ⟨A,cp,rfl,h2,h3,h4⟩:=h
 obtain ⟨n,hn⟩:∃ n,n=l.length:=⟨_,rfl⟩
 have hmx:n<=9223372036854775807:=by unfold maxLen at h3;omega
 rw [<- hn] at h2 h4 ⊢
 have HN:=zh (zi hn (zi hmx hf))
 have H4:=zh h4
 clear hn h2 h3 h4 hmx hf
 go_enter Tryz.func129,Tryz.ntmps129
 go_wp2_with fail
 go_loopg [8] n (fun g v8 wr=>Below w.heap.size w wr/\∃ k:Nat,v8=.int .i64 k/\k<=n/\g=n-k/\(l.take k).any f=false)
 case atStart=>exact ⟨Below.refl _ _,0,rfl,Nat.zero_le _,rfl,rfl⟩
 case round=>
  obtain ⟨hb,k,rfl,hk,hg,hall⟩:=hrel
  by_cases hkn:k=n
  ·have e:l.take k=l:=by rw [hkn,HN.out.1];exact List.take_length
   rw [e] at hall
   have FIN:=zh (zi (show decide ((0:Int)<=-1)=l.any f from by rw [hall];rfl) hb)
   subst hkn
   clear hk hg hall e hb
   go_wp2_with fail
   go_ret
   exact ⟨⟨_,rfl,FIN.out.1⟩,FIN.out.2⟩
  ·have hlt:k<n:=by omega
   obtain ⟨x,hx⟩:∃ x,l[k]? = some x:=⟨_,List.getElem?_eq_getElem (by have:=HN.out.1;omega)⟩
   obtain ⟨ad,rfl,d0⟩:=ints_at H4.out hb hx (by omega)
   have cl:=HN.out.2.2 wr hb x (List.mem_of_getElem? hx)
   have nxt:=ZpU (f:=f) hx hall
   have hit:f x=true->decide ((0:Int)<=(k:Int))=l.any f:=fun q=>by
    rw [List.any_eq_true.2 ⟨x,List.mem_of_getElem? hx,q⟩]
    exact decide_eq_true (by omega)
   have i1:(k:Int)<(n:Int):=by omega
   have i2:(0:Int)<=(k:Int):=by omega
   have wk:IntKind.i64.wrap ((k:Int)+1)=(k:Int)+1:=IntWalk.i64_in _ (by have:=HN.out.2.1;omega)
   generalize f x=BX at *
   have HK:=zh (zi hlt (zi hg hb))
   have NX:=zh (zi nxt hit)
   have CL:=zh cl
   clear nxt hit hx hkn hlt hk hg hall hb cl
   cases BX
   ·go_wp2_with (go_at_call 112;(with_reducible refine CL.out.mono ?_);rintro e w1 ⟨rfl,hb1⟩)
    go_roundg (n-(k+1))
    case measure=>have:=HK.out.1;have:=HK.out.2.1;omega
    case rel=>exact ⟨HK.out.2.2.trans (hb1.mono HK.out.2.2.size),k+1,by push_cast;rfl,by have:=HK.out.1;omega,rfl,NX.out.1⟩
   ·go_wp2_with (go_at_call 112;(with_reducible refine CL.out.mono ?_);rintro e w1 ⟨rfl,hb1⟩)
    go_ret
    exact ⟨⟨_,rfl,NX.out.2 (by first | rfl | trivial)⟩,HK.out.2.2.trans (hb1.mono HK.out.2.2.size)⟩
theorem Zn7 (w:World) (v:Value) (l:List Int) (f:Int->Bool) (b1 b2:Nat) (h:Zbh w v l) (hf:∀ (w':World),Below w.heap.size w w'->∀ k∈l,Calls Tryz.prog 112 #[.int .i64 k,.pointer (some ⟨b1,0,none⟩),.pointer (some ⟨b2,0,none⟩)] w' fun e w2=>e=.returned (.bool (f k))/\Below w'.heap.size w' w2) :
  Calls Tryz.prog 111 #[v,.func (.func 112) #[] #[.pointer (some ⟨b1,0,none⟩),.pointer (some ⟨b2,0,none⟩)]] w fun e w'=>e=.returned (.bool (l.any f))/\Below w.heap.size w w':=by
 have ix:=Zmd w v l f b1 b2 h hf
 clear h hf
 generalize l.any f=B at *
 have IX:=zh ix
 clear ix
 go_enter Tryz.func111,Tryz.ntmps111
 go_wp2_with (go_at_call 129;(with_reducible refine IX.out.mono ?_);rintro e w1 ⟨⟨z,rfl,hz⟩,hb⟩;have HZ:=zh (zi hz hb);clear hz hb)
 go_ret
 exact ⟨by rw [<- HZ.out.1];rfl,HZ.out.2⟩
theorem Zq7 {ns:List Nd} {ks:List Int} {f:Int->Bool}:(!ks.any fun k=>!f (ZJ ns k))=ZbM ns ks f:=by
 unfold ZbM
 rw [List.all_eq_not_any_not]
theorem Zmj (w:World) (v vk u:Value) (ns:List Nd) (ks:List Int) (t:Tst) (hN:Zs w v ns) (hK:Zbh w vk ks) (hu:Za6 w t u) (hk:ZdO ks ns.length) :
  Calls Tryz.prog 82 #[v,vk,u] w fun e w'=>e=.returned (.bool (ZbM ns ks t.f))/\Below w.heap.size w w':=by
 have hmf:∀ (fn:Fn) (first cap:Array Value) (w:World),(Instr.makeFunc fn first cap).run Tryz.prog w=.ok (.func fn first cap) w:=fun _ _ _ _=>rfl
 obtain ⟨A,c,rfl⟩:∃ A c,v=.slice A ns.length c:=by obtain ⟨A,c,_,e,_⟩:=hN;exact ⟨A,c,e⟩
 have a1:=below_alloc1 w (.cells #[.slice A ns.length c] 22)
 have a2:=below_alloc1 (w.alloc (.cells #[.slice A ns.length c] 22)) (.cells #[u] 64)
 have a:=a1.trans (a2.mono a1.size)
 have B2:=(Blk.start w #[.slice A ns.length c] 22).keep a2
 have B1:=Blk.start (w.alloc (.cells #[.slice A ns.length c] 22)) #[u] 64
 rw [World.size_alloc] at B1
 have cf:=Zn7 _ vk ks (fun k=>!t.f (ZJ ns k)) (w.heap.size+1) w.heap.size (hK.below a) (fun w' hb k hm=>ZpS _ t u (w.heap.size+1) w.heap.size A c ns (hu.below a) B1 B2 (hN.below a) w' hb k (hk k hm))
 rw [<- Zq7]
 generalize ks.any (fun k=>!t.f (ZJ ns k))=B at *
 have CFH:=zh cf
 have HA:=zh a
 clear cf a a1 a2 B1 B2 hN hK hk
 obtain ⟨f,cap,hu2,_⟩:=Zlx hu
 subst hu2
 clear hu
 generalize ns.length=n at *
 go_enter Tryz.func82,Tryz.ntmps82
 go_wp2_with (go_at_call 111;(with_reducible refine CFH.out.mono ?_);rintro e w1 ⟨rfl,hb⟩)
 go_ret
 exact ⟨rfl,HA.out.trans (hb.mono HA.out.size)⟩
end
end Go.Proofs.YtkongcicmajolaaGreatDoor
