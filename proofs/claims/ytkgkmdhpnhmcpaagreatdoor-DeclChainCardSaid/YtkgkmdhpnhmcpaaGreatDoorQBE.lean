import Derived.Deep.LoopGhost
import Derived.Test.YtkgkmdhpnhmcpaaGreatDoorQAA
import Derived.Test.YtkgkmdhpnhmcpaaGreatDoorQAK
set_option maxRecDepth 100000
set_option maxHeartbeats 8000000
namespace Go.Proofs.YtkgkmdhpnhmcpaaGreatDoor
section
open Go.RowKit
def Stb (P:World->Prop):Prop:=∀ w1 w2:World,Below w1.heap.size w1 w2->P w1->P w2
theorem Zb (p:Addr) (x:Value):Stb fun w=>w.cell? p=some x:=fun _ _ hb h=>(hb.cell (World.block_lt_of_cell? _ _ h)).trans h
theorem Zc {P Q:World->Prop} (hp:Stb P) (hq:Stb Q):Stb fun w=>P w/\Q w:=fun _ _ hb h=>⟨hp _ _ hb h.1,hq _ _ hb h.2⟩
theorem Zq (wq:World):Stb fun w=>Below wq.heap.size wq w:=fun _ _ hb h=>h.trans (hb.mono h.size)
theorem Za {A:Prop} {wq w':World} (h:A/\Below wq.heap.size wq w'):Below wq.heap.size wq w':=h.2
def Zb2 (f:FuncId) (cap:Array Value) (t:Tst) (w:World):Prop:=∀ (w':World) (k:Int),Below w.heap.size w w'->Calls Tryz.prog f (#[.int .i64 k]++cap) w' fun e w2=>e=.returned (.bool (t.f k))/\Below w'.heap.size w' w2
theorem Zai {f:FuncId} {xs:Array Value} {w:World} {v:Value} (h:Calls Tryz.prog f xs w fun e w'=>e=.returned v/\w=w'):Calls Tryz.prog f xs w fun e w2=>e=.returned v/\Below w.heap.size w w2:=h.mono fun _ _ q=>⟨q.1,q.2▸Below.refl _ _⟩
theorem Zfd {w:World} {t:Tst} {u:Value} (h:Zp w t u):∃ f cap,u=.func (.func f) #[] cap/\Zb2 f cap t w:=by
 cases t with
 | is ks=>
  obtain ⟨b,A,c,rfl,h1,h2⟩:=h
  exact ⟨_,_,rfl,fun w' k hb=>Zai (ZfP w' b A _ c ks k (h1.keep hb) (h2.below hb))⟩
 | stmt=>exact ⟨_,_,h,fun w' k _=>Zai (Ze8 w' k)⟩
 | expr=>exact ⟨_,_,h,fun w' k _=>Zai (Zc0 w' k)⟩
 | arg=>exact ⟨_,_,h,fun w' k _=>Zai (ZfI w' k)⟩
theorem ZiB (w:World) (bf:Nat) (ks:List Int) (b1 b2:Nat) (A:Option Addr) (c:Nat) (ns:List Nd) (k:Nat) (hB1:Blk w b1 #[.func (.func 129) #[] #[.pointer (some ⟨bf,0,none⟩)]]) (hB2:Blk w b2 #[.slice A ns.length c]) (hN:Zn w (.slice A ns.length c) ns) (hc:Zb2 129 #[.pointer (some ⟨bf,0,none⟩)] (.is ks) w) (hk:k<ns.length) :
  Calls Tryz.prog 132 #[.int .i64 k,.pointer (some ⟨b1,0,none⟩),.pointer (some ⟨b2,0,none⟩)] w fun e w'=>e=.returned (.bool (!Tst.f (.is ks) (ZI ns k)))/\Below w.heap.size w w':=by
 obtain ⟨A',c',rs,e0,h2,h3,h4,h5,h6⟩:=hN
 injection e0 with e1 _ e2
 subst e1 e2
 obtain ⟨n,hn⟩:∃ n,n=ns.length:=⟨_,rfl⟩
 obtain ⟨x,hx⟩:∃ x,rs[k]? = some x:=⟨_,List.getElem?_eq_getElem (by rw [show rs.length=ns.length by rw [<- h4,List.length_map]];exact hk)⟩
 have hnx:ns[k]? = some x.2:=by rw [<- h4,List.getElem?_map,hx];rfl
 rw [<- hn] at h5 hk hB2
 obtain ⟨ad,rfl,d0,_⟩:=ZS h5 (Below.refl _ _) hx (by omega)
 have hkd:ZI ns k=x.2.kind:=by unfold ZI Zu;rw [Int.toNat_natCast,hnx];rfl
 rw [hkd]
 have cl:∀ w':World,Below w.heap.size w w'->Calls Tryz.prog 129 #[.int .i64 x.2.kind,.pointer (some ⟨bf,0,none⟩)] w' (fun e w2=>e=.returned (.bool (Tst.f (.is ks) x.2.kind))/\Below w'.heap.size w' w2):=fun w' hb=>hc w' x.2.kind hb
 have i1:(k:Int)<(n:Int):=by omega
 have i2:(0:Int)<=(k:Int):=by omega
 have b10:w.cell? ⟨b1,0,none⟩=some (.func (.func 129) #[] #[.pointer (some ⟨bf,0,none⟩)]):=hB1.cell 0
 have b20:w.cell? ⟨b2,0,none⟩=some (.slice (some ad) n c):=hB2.cell 0
 generalize x.2.kind=kd at *
 generalize Tst.f (.is ks) kd=BV at *
 have CL:=zh cl
 clear cl hc hkd hnx hx hk h2 h3 h4 h5 h6 hB1 hB2 hn
 have STB:=zh (show Stb (fun w'=>(w'.cell? ⟨b1,0,none⟩=some (.func (.func 129) #[] #[.pointer (some ⟨bf,0,none⟩)])/\(w'.cell? ⟨b2,0,none⟩=some (.slice (some ad) n c)/\w'.cell? (ad.add (k*5))=some (.int .i64 kd)))/\Below w.heap.size w w') from Zc (Zc (Zb _ _) (Zc (Zb _ _) (Zb _ _))) (Zq w))
 go_enter Tryz.func132,Tryz.ntmps132
 go_upto_region 1 with fail
 have HS:((w.drew.cell? ⟨b1,0,none⟩=some (.func (.func 129) #[] #[.pointer (some ⟨bf,0,none⟩)])/\(w.drew.cell? ⟨b2,0,none⟩=some (.slice (some ad) n c)/\w.drew.cell? (ad.add (k*5))=some (.int .i64 kd)))/\Below w.heap.size w w.drew):=⟨⟨b10,b20,d0⟩,Zo w⟩
 clear b10 b20 d0
 refine wp_region_noPanic ?_
 refine wp_region_held_drew (S:=(fun w'=>(w'.cell? ⟨b1,0,none⟩=some (.func (.func 129) #[] #[.pointer (some ⟨bf,0,none⟩)])/\(w'.cell? ⟨b2,0,none⟩=some (.slice (some ad) n c)/\w'.cell? (ad.add (k*5))=some (.int .i64 kd)))/\Below w.heap.size w w')) (by kernel_rfl) HS (fun hHeld=>?_)
 clear HS
 refine tk 0 rfl ?_
 refine tk 1 rfl ?_
 refine tk 2 rfl ?_
 refine tk 3 rfl ?_
 refine tk 4 rfl ?_
 refine tk 5 rfl ?_
 (try simp only [cl,Act.put])
 refine rd 6 rfl fun K hK=>?_
 go_simp
 (go_at_call 129;(with_reducible refine (CL.out _ (Za (by with_reducible assumption))).mono ?_);rintro e5 w5 ⟨rfl,hb⟩)
 go_wp2_with fail
 refine hK.out _ _ (STB.out _ _ hb (by with_reducible assumption)) (fun hH2=>?_)
 clear hK K hHeld hb;have hHeld:=hH2;clear hH2
 (try simp only [cl,Act.put])
 refine tk 7 rfl ?_
 refine tk 8 rfl ?_
 (try simp only [cl,Act.put])
 refine wpAnyH_done (by kernel_rfl) ?_ _
 refine NoPanic.normal ?_
 have HB:=zh (Za hHeld)
 clear hHeld
 go_wp2_with fail
 go_ret
 exact ⟨rfl,HB.out⟩
theorem ZgM (w:World) (b1 b2:Nat) (A:Option Addr) (c:Nat) (ns:List Nd) (k:Nat) (hB1:Blk w b1 #[.func (.func 99) #[] #[]]) (hB2:Blk w b2 #[.slice A ns.length c]) (hN:Zn w (.slice A ns.length c) ns) (hc:Zb2 99 #[] (.stmt) w) (hk:k<ns.length) :
  Calls Tryz.prog 132 #[.int .i64 k,.pointer (some ⟨b1,0,none⟩),.pointer (some ⟨b2,0,none⟩)] w fun e w'=>e=.returned (.bool (!Tst.f (.stmt) (ZI ns k)))/\Below w.heap.size w w':=by
 obtain ⟨A',c',rs,e0,h2,h3,h4,h5,h6⟩:=hN
 injection e0 with e1 _ e2
 subst e1 e2
 obtain ⟨n,hn⟩:∃ n,n=ns.length:=⟨_,rfl⟩
 obtain ⟨x,hx⟩:∃ x,rs[k]? = some x:=⟨_,List.getElem?_eq_getElem (by rw [show rs.length=ns.length by rw [<- h4,List.length_map]];exact hk)⟩
 have hnx:ns[k]? = some x.2:=by rw [<- h4,List.getElem?_map,hx];rfl
 rw [<- hn] at h5 hk hB2
 obtain ⟨ad,rfl,d0,_⟩:=ZS h5 (Below.refl _ _) hx (by omega)
 have hkd:ZI ns k=x.2.kind:=by unfold ZI Zu;rw [Int.toNat_natCast,hnx];rfl
 rw [hkd]
 have cl:∀ w':World,Below w.heap.size w w'->Calls Tryz.prog 99 #[.int .i64 x.2.kind] w' (fun e w2=>e=.returned (.bool (Tst.f (.stmt) x.2.kind))/\Below w'.heap.size w' w2):=fun w' hb=>hc w' x.2.kind hb
 have i1:(k:Int)<(n:Int):=by omega
 have i2:(0:Int)<=(k:Int):=by omega
 have b10:w.cell? ⟨b1,0,none⟩=some (.func (.func 99) #[] #[]):=hB1.cell 0
 have b20:w.cell? ⟨b2,0,none⟩=some (.slice (some ad) n c):=hB2.cell 0
 generalize x.2.kind=kd at *
 generalize Tst.f (.stmt) kd=BV at *
 have CL:=zh cl
 clear cl hc hkd hnx hx hk h2 h3 h4 h5 h6 hB1 hB2 hn
 have STB:=zh (show Stb (fun w'=>(w'.cell? ⟨b1,0,none⟩=some (.func (.func 99) #[] #[])/\(w'.cell? ⟨b2,0,none⟩=some (.slice (some ad) n c)/\w'.cell? (ad.add (k*5))=some (.int .i64 kd)))/\Below w.heap.size w w') from Zc (Zc (Zb _ _) (Zc (Zb _ _) (Zb _ _))) (Zq w))
 go_enter Tryz.func132,Tryz.ntmps132
 go_upto_region 1 with fail
 have HS:((w.drew.cell? ⟨b1,0,none⟩=some (.func (.func 99) #[] #[])/\(w.drew.cell? ⟨b2,0,none⟩=some (.slice (some ad) n c)/\w.drew.cell? (ad.add (k*5))=some (.int .i64 kd)))/\Below w.heap.size w w.drew):=⟨⟨b10,b20,d0⟩,Zo w⟩
 clear b10 b20 d0
 refine wp_region_noPanic ?_
 refine wp_region_held_drew (S:=(fun w'=>(w'.cell? ⟨b1,0,none⟩=some (.func (.func 99) #[] #[])/\(w'.cell? ⟨b2,0,none⟩=some (.slice (some ad) n c)/\w'.cell? (ad.add (k*5))=some (.int .i64 kd)))/\Below w.heap.size w w')) (by kernel_rfl) HS (fun hHeld=>?_)
 clear HS
 refine tk 0 rfl ?_
 refine tk 1 rfl ?_
 refine tk 2 rfl ?_
 refine tk 3 rfl ?_
 refine tk 4 rfl ?_
 refine tk 5 rfl ?_
 (try simp only [cl,Act.put])
 refine rd 6 rfl fun K hK=>?_
 go_simp
 (go_at_call 99;(with_reducible refine (CL.out _ (Za (by with_reducible assumption))).mono ?_);rintro e5 w5 ⟨rfl,hb⟩)
 go_wp2_with fail
 refine hK.out _ _ (STB.out _ _ hb (by with_reducible assumption)) (fun hH2=>?_)
 clear hK K hHeld hb;have hHeld:=hH2;clear hH2
 (try simp only [cl,Act.put])
 refine tk 7 rfl ?_
 refine tk 8 rfl ?_
 (try simp only [cl,Act.put])
 refine wpAnyH_done (by kernel_rfl) ?_ _
 refine NoPanic.normal ?_
 have HB:=zh (Za hHeld)
 clear hHeld
 go_wp2_with fail
 go_ret
 exact ⟨rfl,HB.out⟩
theorem ZgL (w:World) (b1 b2:Nat) (A:Option Addr) (c:Nat) (ns:List Nd) (k:Nat) (hB1:Blk w b1 #[.func (.func 100) #[] #[]]) (hB2:Blk w b2 #[.slice A ns.length c]) (hN:Zn w (.slice A ns.length c) ns) (hc:Zb2 100 #[] (.expr) w) (hk:k<ns.length) :
  Calls Tryz.prog 132 #[.int .i64 k,.pointer (some ⟨b1,0,none⟩),.pointer (some ⟨b2,0,none⟩)] w fun e w'=>e=.returned (.bool (!Tst.f (.expr) (ZI ns k)))/\Below w.heap.size w w':=by
 obtain ⟨A',c',rs,e0,h2,h3,h4,h5,h6⟩:=hN
 injection e0 with e1 _ e2
 subst e1 e2
 obtain ⟨n,hn⟩:∃ n,n=ns.length:=⟨_,rfl⟩
 obtain ⟨x,hx⟩:∃ x,rs[k]? = some x:=⟨_,List.getElem?_eq_getElem (by rw [show rs.length=ns.length by rw [<- h4,List.length_map]];exact hk)⟩
 have hnx:ns[k]? = some x.2:=by rw [<- h4,List.getElem?_map,hx];rfl
 rw [<- hn] at h5 hk hB2
 obtain ⟨ad,rfl,d0,_⟩:=ZS h5 (Below.refl _ _) hx (by omega)
 have hkd:ZI ns k=x.2.kind:=by unfold ZI Zu;rw [Int.toNat_natCast,hnx];rfl
 rw [hkd]
 have cl:∀ w':World,Below w.heap.size w w'->Calls Tryz.prog 100 #[.int .i64 x.2.kind] w' (fun e w2=>e=.returned (.bool (Tst.f (.expr) x.2.kind))/\Below w'.heap.size w' w2):=fun w' hb=>hc w' x.2.kind hb
 have i1:(k:Int)<(n:Int):=by omega
 have i2:(0:Int)<=(k:Int):=by omega
 have b10:w.cell? ⟨b1,0,none⟩=some (.func (.func 100) #[] #[]):=hB1.cell 0
 have b20:w.cell? ⟨b2,0,none⟩=some (.slice (some ad) n c):=hB2.cell 0
 generalize x.2.kind=kd at *
 generalize Tst.f (.expr) kd=BV at *
 have CL:=zh cl
 clear cl hc hkd hnx hx hk h2 h3 h4 h5 h6 hB1 hB2 hn
 have STB:=zh (show Stb (fun w'=>(w'.cell? ⟨b1,0,none⟩=some (.func (.func 100) #[] #[])/\(w'.cell? ⟨b2,0,none⟩=some (.slice (some ad) n c)/\w'.cell? (ad.add (k*5))=some (.int .i64 kd)))/\Below w.heap.size w w') from Zc (Zc (Zb _ _) (Zc (Zb _ _) (Zb _ _))) (Zq w))
 go_enter Tryz.func132,Tryz.ntmps132
 go_upto_region 1 with fail
 have HS:((w.drew.cell? ⟨b1,0,none⟩=some (.func (.func 100) #[] #[])/\(w.drew.cell? ⟨b2,0,none⟩=some (.slice (some ad) n c)/\w.drew.cell? (ad.add (k*5))=some (.int .i64 kd)))/\Below w.heap.size w w.drew):=⟨⟨b10,b20,d0⟩,Zo w⟩
 clear b10 b20 d0
 refine wp_region_noPanic ?_
 refine wp_region_held_drew (S:=(fun w'=>(w'.cell? ⟨b1,0,none⟩=some (.func (.func 100) #[] #[])/\(w'.cell? ⟨b2,0,none⟩=some (.slice (some ad) n c)/\w'.cell? (ad.add (k*5))=some (.int .i64 kd)))/\Below w.heap.size w w')) (by kernel_rfl) HS (fun hHeld=>?_)
 clear HS
 refine tk 0 rfl ?_
 refine tk 1 rfl ?_
 refine tk 2 rfl ?_
 refine tk 3 rfl ?_
 refine tk 4 rfl ?_
 refine tk 5 rfl ?_
 (try simp only [cl,Act.put])
 refine rd 6 rfl fun K hK=>?_
 go_simp
 (go_at_call 100;(with_reducible refine (CL.out _ (Za (by with_reducible assumption))).mono ?_);rintro e5 w5 ⟨rfl,hb⟩)
 go_wp2_with fail
 refine hK.out _ _ (STB.out _ _ hb (by with_reducible assumption)) (fun hH2=>?_)
 clear hK K hHeld hb;have hHeld:=hH2;clear hH2
 (try simp only [cl,Act.put])
 refine tk 7 rfl ?_
 refine tk 8 rfl ?_
 (try simp only [cl,Act.put])
 refine wpAnyH_done (by kernel_rfl) ?_ _
 refine NoPanic.normal ?_
 have HB:=zh (Za hHeld)
 clear hHeld
 go_wp2_with fail
 go_ret
 exact ⟨rfl,HB.out⟩
theorem ZhB (w:World) (b1 b2:Nat) (A:Option Addr) (c:Nat) (ns:List Nd) (k:Nat) (hB1:Blk w b1 #[.func (.func 102) #[] #[]]) (hB2:Blk w b2 #[.slice A ns.length c]) (hN:Zn w (.slice A ns.length c) ns) (hc:Zb2 102 #[] (.arg) w) (hk:k<ns.length) :
  Calls Tryz.prog 132 #[.int .i64 k,.pointer (some ⟨b1,0,none⟩),.pointer (some ⟨b2,0,none⟩)] w fun e w'=>e=.returned (.bool (!Tst.f (.arg) (ZI ns k)))/\Below w.heap.size w w':=by
 obtain ⟨A',c',rs,e0,h2,h3,h4,h5,h6⟩:=hN
 injection e0 with e1 _ e2
 subst e1 e2
 obtain ⟨n,hn⟩:∃ n,n=ns.length:=⟨_,rfl⟩
 obtain ⟨x,hx⟩:∃ x,rs[k]? = some x:=⟨_,List.getElem?_eq_getElem (by rw [show rs.length=ns.length by rw [<- h4,List.length_map]];exact hk)⟩
 have hnx:ns[k]? = some x.2:=by rw [<- h4,List.getElem?_map,hx];rfl
 rw [<- hn] at h5 hk hB2
 obtain ⟨ad,rfl,d0,_⟩:=ZS h5 (Below.refl _ _) hx (by omega)
 have hkd:ZI ns k=x.2.kind:=by unfold ZI Zu;rw [Int.toNat_natCast,hnx];rfl
 rw [hkd]
 have cl:∀ w':World,Below w.heap.size w w'->Calls Tryz.prog 102 #[.int .i64 x.2.kind] w' (fun e w2=>e=.returned (.bool (Tst.f (.arg) x.2.kind))/\Below w'.heap.size w' w2):=fun w' hb=>hc w' x.2.kind hb
 have i1:(k:Int)<(n:Int):=by omega
 have i2:(0:Int)<=(k:Int):=by omega
 have b10:w.cell? ⟨b1,0,none⟩=some (.func (.func 102) #[] #[]):=hB1.cell 0
 have b20:w.cell? ⟨b2,0,none⟩=some (.slice (some ad) n c):=hB2.cell 0
 generalize x.2.kind=kd at *
 generalize Tst.f (.arg) kd=BV at *
 have CL:=zh cl
 clear cl hc hkd hnx hx hk h2 h3 h4 h5 h6 hB1 hB2 hn
 have STB:=zh (show Stb (fun w'=>(w'.cell? ⟨b1,0,none⟩=some (.func (.func 102) #[] #[])/\(w'.cell? ⟨b2,0,none⟩=some (.slice (some ad) n c)/\w'.cell? (ad.add (k*5))=some (.int .i64 kd)))/\Below w.heap.size w w') from Zc (Zc (Zb _ _) (Zc (Zb _ _) (Zb _ _))) (Zq w))
 go_enter Tryz.func132,Tryz.ntmps132
 go_upto_region 1 with fail
 have HS:((w.drew.cell? ⟨b1,0,none⟩=some (.func (.func 102) #[] #[])/\(w.drew.cell? ⟨b2,0,none⟩=some (.slice (some ad) n c)/\w.drew.cell? (ad.add (k*5))=some (.int .i64 kd)))/\Below w.heap.size w w.drew):=⟨⟨b10,b20,d0⟩,Zo w⟩
 clear b10 b20 d0
 refine wp_region_noPanic ?_
 refine wp_region_held_drew (S:=(fun w'=>(w'.cell? ⟨b1,0,none⟩=some (.func (.func 102) #[] #[])/\(w'.cell? ⟨b2,0,none⟩=some (.slice (some ad) n c)/\w'.cell? (ad.add (k*5))=some (.int .i64 kd)))/\Below w.heap.size w w')) (by kernel_rfl) HS (fun hHeld=>?_)
 clear HS
 refine tk 0 rfl ?_
 refine tk 1 rfl ?_
 refine tk 2 rfl ?_
 refine tk 3 rfl ?_
 refine tk 4 rfl ?_
 refine tk 5 rfl ?_
 (try simp only [cl,Act.put])
 refine rd 6 rfl fun K hK=>?_
 go_simp
 (go_at_call 102;(with_reducible refine (CL.out _ (Za (by with_reducible assumption))).mono ?_);rintro e5 w5 ⟨rfl,hb⟩)
 go_wp2_with fail
 refine hK.out _ _ (STB.out _ _ hb (by with_reducible assumption)) (fun hH2=>?_)
 clear hK K hHeld hb;have hHeld:=hH2;clear hH2
 (try simp only [cl,Act.put])
 refine tk 7 rfl ?_
 refine tk 8 rfl ?_
 (try simp only [cl,Act.put])
 refine wpAnyH_done (by kernel_rfl) ?_ _
 refine NoPanic.normal ?_
 have HB:=zh (Za hHeld)
 clear hHeld
 go_wp2_with fail
 go_ret
 exact ⟨rfl,HB.out⟩
end
section
open Go.RowKit
def ZA (ks:List Int) (n:Nat):Prop:=∀ k∈ks,0<=k/\k<n
theorem ZhA (w:World) (t:Tst) (u:Value) (b1 b2:Nat) (A:Option Addr) (c:Nat) (ns:List Nd) (hu:Zp w t u) (hB1:Blk w b1 #[u]) (hB2:Blk w b2 #[.slice A ns.length c]) (hN:Zn w (.slice A ns.length c) ns) (w':World) (hb:Below w.heap.size w w') (k:Int) (hk:0<=k/\k<ns.length) :
  Calls Tryz.prog 132 #[.int .i64 k,.pointer (some ⟨b1,0,none⟩),.pointer (some ⟨b2,0,none⟩)] w' fun e w2=>e=.returned (.bool (!t.f (ZI ns k)))/\Below w'.heap.size w' w2:=by
 obtain ⟨j,rfl⟩:∃ j:Nat,k=j:=⟨k.toNat,by omega⟩
 have hu':=hu.below hb
 have hc:=Zfd hu'
 obtain ⟨f,cap,e,hc⟩:=hc
 have B1:=hB1.keep hb
 rw [e] at B1
 have B2:=hB2.keep hb
 have N:=hN.below hb
 have hj:j<ns.length:=by omega
 cases t with
 | is ks=>
  obtain ⟨b,A',c',e',h1,h2⟩:=hu'
  rw [e'] at e
  injection e with e1 e2 e3
  injection e1 with e1
  subst e1 e3
  exact ZiB w' b ks b1 b2 A c ns j B1 B2 N hc hj
 | stmt=>
  rw [show u=_ from hu'] at e
  injection e with e1 e2 e3
  injection e1 with e1
  subst e1 e3
  exact ZgM w' b1 b2 A c ns j B1 B2 N hc hj
 | expr=>
  rw [show u=_ from hu'] at e
  injection e with e1 e2 e3
  injection e1 with e1
  subst e1 e3
  exact ZgL w' b1 b2 A c ns j B1 B2 N hc hj
 | arg=>
  rw [show u=_ from hu'] at e
  injection e with e1 e2 e3
  injection e1 with e1
  subst e1 e3
  exact ZhB w' b1 b2 A c ns j B1 B2 N hc hj
theorem ZhC {l:List Int} {f:Int->Bool} {k:Nat} {x:Int} (hk:l[k]? = some x) (h:(l.take k).any f=false):(l.take (k+1)).any f=f x:=by
 rw [List.take_add_one,hk,List.any_append,h,Bool.false_or]
 simp
theorem ZfD (w:World) (v:Value) (l:List Int) (f:Int->Bool) (b1 b2:Nat) (h:ZH w v l) (hf:∀ (w':World),Below w.heap.size w w'->∀ k∈l,Calls Tryz.prog 132 #[.int .i64 k,.pointer (some ⟨b1,0,none⟩),.pointer (some ⟨b2,0,none⟩)] w' fun e w2=>e=.returned (.bool (f k))/\Below w'.heap.size w' w2) :
  Calls Tryz.prog 144 #[v,.func (.func 132) #[] #[.pointer (some ⟨b1,0,none⟩),.pointer (some ⟨b2,0,none⟩)]] w fun e w'=>(∃ z:Int,e=.returned (.int .i64 z)/\decide (0<=z)=l.any f)/\Below w.heap.size w w':=by
 obtain ⟨A,cp,rfl,h2,h3,h4⟩:=h
 obtain ⟨n,hn⟩:∃ n,n=l.length:=⟨_,rfl⟩
 have hmx:n<=9223372036854775807:=by unfold maxLen at h3;omega
 rw [<- hn] at h2 h4 ⊢
 have HN:=zh (zi hn (zi hmx hf))
 have H4:=zh h4
 clear hn h2 h3 h4 hmx hf
 go_enter Tryz.func144,Tryz.ntmps144
 go_wp2_with fail
 go_loopg [8] n (fun g v8 wr=>Below w.heap.size w wr/\∃ k:Nat,v8=.int .i64 k/\k<=n/\g=n-k/\(l.take k).any f=false)
 case atStart=>exact ⟨Below.refl _ _,0,rfl,Nat.zero_le _,rfl,rfl⟩
 case round=>
  obtain ⟨hb,k,rfl,hk,hg,hall⟩:=hrel
  by_cases hkn:k=n
  ·have e:l.take k=l:=by rw [hkn,HN.out.1];exact List.take_length
   rw [e] at hall
   have FIN:=zh (zi (show decide ((0:Int)<=-1)=l.any f from by rw [hall];rfl) hb)
   subst hkn
   clear hk hg hall e hb
   go_wp2_with fail
   go_ret
   exact ⟨⟨_,rfl,FIN.out.1⟩,FIN.out.2⟩
  ·have hlt:k<n:=by omega
   obtain ⟨x,hx⟩:∃ x,l[k]? = some x:=⟨_,List.getElem?_eq_getElem (by have:=HN.out.1;omega)⟩
   obtain ⟨ad,rfl,d0⟩:=ints_at H4.out hb hx (by omega)
   have cl:=HN.out.2.2 wr hb x (List.mem_of_getElem? hx)
   have nxt:=ZhC (f:=f) hx hall
   have hit:f x=true->decide ((0:Int)<=(k:Int))=l.any f:=fun q=>by
    rw [List.any_eq_true.2 ⟨x,List.mem_of_getElem? hx,q⟩]
    exact decide_eq_true (by omega)
   have i1:(k:Int)<(n:Int):=by omega
   have i2:(0:Int)<=(k:Int):=by omega
   have wk:IntKind.i64.wrap ((k:Int)+1)=(k:Int)+1:=IntWalk.i64_in _ (by have:=HN.out.2.1;omega)
   generalize f x=BX at *
   have HK:=zh (zi hlt (zi hg hb))
   have NX:=zh (zi nxt hit)
   have CL:=zh cl
   clear nxt hit hx hkn hlt hk hg hall hb cl
   cases BX
   ·go_wp2_with (go_at_call 132;(with_reducible refine CL.out.mono ?_);rintro e w1 ⟨rfl,hb1⟩)
    go_roundg (n-(k+1))
    case measure=>have:=HK.out.1;have:=HK.out.2.1;omega
    case rel=>exact ⟨HK.out.2.2.trans (hb1.mono HK.out.2.2.size),k+1,by push_cast;rfl,by have:=HK.out.1;omega,rfl,NX.out.1⟩
   ·go_wp2_with (go_at_call 132;(with_reducible refine CL.out.mono ?_);rintro e w1 ⟨rfl,hb1⟩)
    go_ret
    exact ⟨⟨_,rfl,NX.out.2 (by first | rfl | trivial)⟩,HK.out.2.2.trans (hb1.mono HK.out.2.2.size)⟩
theorem ZgF (w:World) (v:Value) (l:List Int) (f:Int->Bool) (b1 b2:Nat) (h:ZH w v l) (hf:∀ (w':World),Below w.heap.size w w'->∀ k∈l,Calls Tryz.prog 132 #[.int .i64 k,.pointer (some ⟨b1,0,none⟩),.pointer (some ⟨b2,0,none⟩)] w' fun e w2=>e=.returned (.bool (f k))/\Below w'.heap.size w' w2) :
  Calls Tryz.prog 131 #[v,.func (.func 132) #[] #[.pointer (some ⟨b1,0,none⟩),.pointer (some ⟨b2,0,none⟩)]] w fun e w'=>e=.returned (.bool (l.any f))/\Below w.heap.size w w':=by
 have ix:=ZfD w v l f b1 b2 h hf
 clear h hf
 generalize l.any f=B at *
 have IX:=zh ix
 clear ix
 go_enter Tryz.func131,Tryz.ntmps131
 go_wp2_with (go_at_call 144;(with_reducible refine IX.out.mono ?_);rintro e w1 ⟨⟨z,rfl,hz⟩,hb⟩;have HZ:=zh (zi hz hb);clear hz hb)
 go_ret
 exact ⟨by rw [<- HZ.out.1];rfl,HZ.out.2⟩
theorem ZiC {ns:List Nd} {ks:List Int} {f:Int->Bool}:(!ks.any fun k=>!f (ZI ns k))=Zax ns ks f:=by
 unfold Zax
 rw [List.all_eq_not_any_not]
theorem ZB (w:World) (v vk u:Value) (ns:List Nd) (ks:List Int) (t:Tst) (hN:Zn w v ns) (hK:ZH w vk ks) (hu:Zp w t u) (hk:ZA ks ns.length) :
  Calls Tryz.prog 96 #[v,vk,u] w fun e w'=>e=.returned (.bool (Zax ns ks t.f))/\Below w.heap.size w w':=by
 have hmf:∀ (fn:Fn) (first cap:Array Value) (w:World),(Instr.makeFunc fn first cap).run Tryz.prog w=.ok (.func fn first cap) w:=fun _ _ _ _=>rfl
 obtain ⟨A,c,rfl⟩:∃ A c,v=.slice A ns.length c:=by obtain ⟨A,c,_,e,_⟩:=hN;exact ⟨A,c,e⟩
 have a1:=below_alloc1 w (.cells #[.slice A ns.length c] 28)
 have a2:=below_alloc1 (w.alloc (.cells #[.slice A ns.length c] 28)) (.cells #[u] 105)
 have a:=a1.trans (a2.mono a1.size)
 have B2:=(Blk.start w #[.slice A ns.length c] 28).keep a2
 have B1:=Blk.start (w.alloc (.cells #[.slice A ns.length c] 28)) #[u] 105
 rw [World.size_alloc] at B1
 have cf:=ZgF _ vk ks (fun k=>!t.f (ZI ns k)) (w.heap.size+1) w.heap.size (hK.below a) (fun w' hb k hm=>ZhA _ t u (w.heap.size+1) w.heap.size A c ns (hu.below a) B1 B2 (hN.below a) w' hb k (hk k hm))
 rw [<- ZiC]
 generalize ks.any (fun k=>!t.f (ZI ns k))=B at *
 have CFH:=zh cf
 have HA:=zh a
 clear cf a a1 a2 B1 B2 hN hK hk
 obtain ⟨f,cap,hu2,_⟩:=Zfd hu
 subst hu2
 clear hu
 generalize ns.length=n at *
 go_enter Tryz.func96,Tryz.ntmps96
 go_wp2_with (go_at_call 131;(with_reducible refine CFH.out.mono ?_);rintro e w1 ⟨rfl,hb⟩)
 go_ret
 exact ⟨rfl,HA.out.trans (hb.mono HA.out.size)⟩
end
end Go.Proofs.YtkgkmdhpnhmcpaaGreatDoor
