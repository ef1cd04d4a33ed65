import Derived.Test.YtaacbenikcbibabGreatDoorQAQ
import Derived.Test.YtaacbenikcbibabGreatDoorQAR
set_option maxRecDepth 100000
set_option maxHeartbeats 8000000
namespace Go.Proofs.YtaacbenikcbibabGreatDoor
section
open Go.RowKit
structure RowR where
 e:TypeId
 size:Nat
 v:Value
 n:Nat
 xs:List Value
structure AccR (W0 w:World) (L:List RowR):Prop where
 all:∀ r∈L,w.ownsRow W0.heap.size r.e r.size r.v r.n r.xs
 below:Below W0.heap.size W0 w
theorem AccR.start (W0:World):AccR W0 W0 []:=⟨(fun r hr=>by cases hr),Below.refl _ _⟩
theorem AccR.keep {W0 w w':World} {L:List RowR} (h:AccR W0 w L) (hb:Below w.heap.size w w'):AccR W0 w' L:=⟨fun r hr=>Zf (h.all r hr) hb,h.below.trans (hb.mono h.below.size)⟩
theorem AccR.push {W0 w:World} {L:List RowR} (h:AccR W0 w L) (e:TypeId) (size n:Nat) (cs:Array Value) (hn:n<=1000) (hs:cs.size=n*size) :
  AccR W0 (w.alloc (.cells cs e)) (⟨e,size,.slice (some ⟨w.heap.size,0,none⟩) n n,n,cs.toList⟩::L):=by
 have k:=h.keep (Za w (.cells cs e))
 refine ⟨fun r hr=>?_,k.below⟩
 rcases List.mem_cons.1 hr with rfl | hr
 ·exact World.ownsRow_lit w cs n h.below.size (by unfold maxLen;omega) hs
 ·exact k.all r hr
theorem AccR.more {W0 w:World} {L:List RowR} (h:AccR W0 w L) {r:RowR} (hr:w.ownsRow W0.heap.size r.e r.size r.v r.n r.xs):AccR W0 w (r::L):=
 ⟨fun q hq=>by
  rcases List.mem_cons.1 hq with rfl | hq
  ·exact hr
  ·exact h.all q hq,h.below⟩
theorem Ze4 (w:World) (s:List UInt8) (k:Int) :
  Calls Tryz.prog 95 #[txt s,.int .i64 k] w fun e w'=>e=.returned (.agg #[txt s,.int .i64 k])/\Below w.heap.size w w':=by
 have a1:=Lib.hid (Za w (.cells #[txt s,.int .i64 k] 100))
 have B1:=Blk.start w #[txt s,.int .i64 k] 100
 have c0:=B1.cell 0
 have c1:=B1.cell 1
 simp only [List.getElem?_toArray,List.getElem?_cons_zero,List.getElem?_cons_succ] at c0 c1
 clear B1
 go_enter Tryz.func95,Tryz.ntmps95
 go_wp2_with fail
 exact bodyPost_ret (v:=.agg #[txt s,.int .i64 k]) (by simp [results,Tryz.results95,go_sem,c0,c1]) rfl ⟨rfl,a1.out⟩
theorem ZcX (w:World) (s:List UInt8) (k:Int) (A:Option Addr) (n c:Nat) :
  Calls Tryz.prog 94 #[txt s,.int .i64 k,.slice A n c] w fun e w'=>e=.returned (.agg #[txt s,.int .i64 k,.slice A n c])/\Below w.heap.size w w':=by
 have a1:=Lib.hid (Za w (.cells #[txt s,.int .i64 k,.slice A n c] 79))
 have B1:=Blk.start w #[txt s,.int .i64 k,.slice A n c] 79
 have c0:=B1.cell 0
 have c1:=B1.cell 1
 have c2:=B1.cell 2
 simp only [List.getElem?_toArray,List.getElem?_cons_zero,List.getElem?_cons_succ] at c0 c1 c2
 clear B1
 go_enter Tryz.func94,Tryz.ntmps94
 go_wp2_with fail
 exact bodyPost_ret (v:=.agg #[txt s,.int .i64 k,.slice A n c]) (by simp [results,Tryz.results94,go_sem,c0,c1,c2]) rfl ⟨rfl,a1.out⟩
end
section
open Go.RowKit
def ZQ:Pro:=⟨[70,105,108,101],[⟨[79,112,101,110],false⟩,⟨[69,110,100],false⟩,⟨[83,104,117,116],true⟩],[⟨[114,101,97,100],0,[⟨[115,111,109,101],0⟩,⟨[110,111,110,101],1⟩]⟩,⟨[119,114,105,116,101],0,[⟨[111,107],0⟩,⟨[111,118,101,114],1⟩]⟩,⟨[115,105,122,101],0,[⟨[111,107],0⟩]⟩,⟨[115,105,122,101],1,[⟨[111,107],1⟩]⟩,⟨[99,108,111,115,101],0,[⟨[111,107],2⟩]⟩,⟨[99,108,111,115,101],1,[⟨[111,107],2⟩]⟩]⟩
def Zw:Pro:=⟨[83,111,99,107,101,116],[⟨[70,114,101,115,104],false⟩,⟨[76,105,118,101],false⟩,⟨[68,101,97,100],false⟩,⟨[67,108,111,115,101,100],true⟩],[⟨[99,111,110,110,101,99,116],0,[⟨[111,107],1⟩,⟨[102,97,105,108],2⟩]⟩,⟨[115,101,110,100],1,[⟨[111,107],1⟩,⟨[108,111,115,116],2⟩]⟩,⟨[114,101,99,118],1,[⟨[115,111,109,101],1⟩,⟨[110,111,110,101],1⟩,⟨[108,111,115,116],2⟩]⟩,⟨[112,101,101,107],1,[⟨[115,111,109,101],1⟩,⟨[110,111,110,101],1⟩]⟩,⟨[99,108,111,115,101],0,[⟨[111,107],3⟩]⟩,⟨[99,108,111,115,101],1,[⟨[111,107],3⟩]⟩,⟨[99,108,111,115,101],2,[⟨[111,107],3⟩]⟩]⟩
def ZS:Pro:=⟨[73,116,101,114],[⟨[82,101,97,100,121],false⟩,⟨[79,118,101,114],true⟩],[⟨[110,101,120,116],0,[⟨[105,116,101,109],0⟩,⟨[100,111,110,101],1⟩]⟩,⟨[115,116,111,112],0,[⟨[111,107],1⟩]⟩,⟨[108,101,102,116],0,[⟨[111,107],0⟩]⟩]⟩
theorem ZcD (W0 w:World) {L:List RowR} (h:AccR W0 w L) (s:List UInt8) (k:Int) (o0:List UInt8) (t0:Int) :
  Calls Tryz.prog 94 #[txt s,.int .i64 k,.slice (some ⟨w.heap.size,0,none⟩) 1 1] (w.alloc (.cells #[txt o0,.int .i64 t0] 100)) fun e w'=>e=.returned (.agg #[txt s,.int .i64 k,.slice (some ⟨w.heap.size,0,none⟩) 1 1])/\AccR W0 w' (⟨100,2,.slice (some ⟨w.heap.size,0,none⟩) 1 1,1,[txt o0,.int .i64 t0]⟩::L)/\Below (w.alloc (.cells #[txt o0,.int .i64 t0] 100)).heap.size (w.alloc (.cells #[txt o0,.int .i64 t0] 100)) w':=
 (ZcX _ s k _ 1 1).mono fun _ _ ⟨he,hb⟩=>⟨he,(h.push 100 2 1 #[txt o0,.int .i64 t0] (by omega) rfl).keep hb,hb⟩
theorem ZcE (W0 w:World) {L:List RowR} (h:AccR W0 w L) (s:List UInt8) (k:Int) (o0:List UInt8) (t0:Int) (o1:List UInt8) (t1:Int) :
  Calls Tryz.prog 94 #[txt s,.int .i64 k,.slice (some ⟨w.heap.size,0,none⟩) 2 2] (w.alloc (.cells #[txt o0,.int .i64 t0,txt o1,.int .i64 t1] 100)) fun e w'=>e=.returned (.agg #[txt s,.int .i64 k,.slice (some ⟨w.heap.size,0,none⟩) 2 2])/\AccR W0 w' (⟨100,2,.slice (some ⟨w.heap.size,0,none⟩) 2 2,2,[txt o0,.int .i64 t0,txt o1,.int .i64 t1]⟩::L)/\Below (w.alloc (.cells #[txt o0,.int .i64 t0,txt o1,.int .i64 t1] 100)).heap.size (w.alloc (.cells #[txt o0,.int .i64 t0,txt o1,.int .i64 t1] 100)) w':=
 (ZcX _ s k _ 2 2).mono fun _ _ ⟨he,hb⟩=>⟨he,(h.push 100 2 2 #[txt o0,.int .i64 t0,txt o1,.int .i64 t1] (by omega) rfl).keep hb,hb⟩
theorem ZcF (W0 w:World) {L:List RowR} (h:AccR W0 w L) (s:List UInt8) (k:Int) (o0:List UInt8) (t0:Int) (o1:List UInt8) (t1:Int) (o2:List UInt8) (t2:Int) :
  Calls Tryz.prog 94 #[txt s,.int .i64 k,.slice (some ⟨w.heap.size,0,none⟩) 3 3] (w.alloc (.cells #[txt o0,.int .i64 t0,txt o1,.int .i64 t1,txt o2,.int .i64 t2] 100)) fun e w'=>e=.returned (.agg #[txt s,.int .i64 k,.slice (some ⟨w.heap.size,0,none⟩) 3 3])/\AccR W0 w' (⟨100,2,.slice (some ⟨w.heap.size,0,none⟩) 3 3,3,[txt o0,.int .i64 t0,txt o1,.int .i64 t1,txt o2,.int .i64 t2]⟩::L)/\Below (w.alloc (.cells #[txt o0,.int .i64 t0,txt o1,.int .i64 t1,txt o2,.int .i64 t2] 100)).heap.size (w.alloc (.cells #[txt o0,.int .i64 t0,txt o1,.int .i64 t1,txt o2,.int .i64 t2] 100)) w':=
 (ZcX _ s k _ 3 3).mono fun _ _ ⟨he,hb⟩=>⟨he,(h.push 100 2 3 #[txt o0,.int .i64 t0,txt o1,.int .i64 t1,txt o2,.int .i64 t2] (by omega) rfl).keep hb,hb⟩
theorem Zaz {w:World} {b b' n size:Nat} {e:TypeId} {v:Value} {xs:List Value} (h:w.ownsRow b e size v n xs) (hb:b'<=b):w.ownsRow b' e size v n xs:=by
 refine ⟨h.1,h.2.imp id ?_⟩
 rintro ⟨g,cap,cur,h1,h2,h3⟩
 exact ⟨g,cap,cur,h1,Nat.le_trans hb h2,h3⟩
end
section
open Go.RowKit
theorem ZaQ {X:World} {b:Nat} (h:Blk X b #[.string ⟨#[]⟩,.slice none 0 0,.slice none 0 0]) (v0 v1 v2:Value):(((X.setCell ⟨b,0,none⟩ v0).setCell ⟨b,1,none⟩ v1).setCell ⟨b,2,none⟩ v2).cell? ⟨b,0,none⟩=some v0/\(((X.setCell ⟨b,0,none⟩ v0).setCell ⟨b,1,none⟩ v1).setCell ⟨b,2,none⟩ v2).cell? ⟨b,1,none⟩=some v1/\(((X.setCell ⟨b,0,none⟩ v0).setCell ⟨b,1,none⟩ v1).setCell ⟨b,2,none⟩ v2).cell? ⟨b,2,none⟩=some v2:=
 have k:=((h.set 0 v0).set 1 v1).set 2 v2
 ⟨by rw [k.cell 0];rfl,by rw [k.cell 1];rfl,by rw [k.cell 2];rfl⟩
theorem Zen {X:World} {b:Nat} (h:Blk X b #[.string ⟨#[]⟩,.slice none 0 0,.slice none 0 0]):X.cell? ⟨b,0,none⟩=some (.string ⟨#[]⟩)/\X.cell? ⟨b,1,none⟩=some (.slice none 0 0)/\X.cell? ⟨b,2,none⟩=some (.slice none 0 0)/\X.frozen? ⟨b,0,none⟩=false/\X.frozen? ⟨b,1,none⟩=false/\X.frozen? ⟨b,2,none⟩=false:=
 ⟨by rw [h.cell 0];rfl,by rw [h.cell 1];rfl,by rw [h.cell 2];rfl,h.free 0,h.free 1,h.free 2⟩
theorem Za7 {X:World} {b:Nat} (h:Blk X b #[.string ⟨#[]⟩,.slice none 0 0,.slice none 0 0]) (v0:Value):(X.setCell ⟨b,0,none⟩ v0).cell? ⟨b,1,none⟩=some (.slice none 0 0)/\∀ v1,((X.setCell ⟨b,0,none⟩ v0).setCell ⟨b,1,none⟩ v1).cell? ⟨b,2,none⟩=some (.slice none 0 0):=
 ⟨by rw [(h.set 0 v0).cell 1];rfl,fun v1=>by rw [((h.set 0 v0).set 1 v1).cell 2];rfl⟩
theorem Zdq {w W0 X:World} {b:Nat} {L:List RowR} (acc:AccR W0 X L) (hb:b<W0.heap.size) (hw:w.heap.size<=W0.heap.size) (p:Pro) (vs vm:Value) (rs:List (Value×Mov)) (hm:rs.map (·.2)=p.moves)
  (hs:(⟨74,2,vs,p.states.length,Zt stC p.states⟩:RowR)∈L) (hv:(⟨79,3,vm,rs.length,Zt mvC rs⟩:RowR)∈L) (ho:∀ x∈rs,(⟨100,2,x.1,x.2.outs.length,Zt ouC x.2.outs⟩:RowR)∈L) (u0 u1 u2:Value) :
  ZM (((X.setCell ⟨b,0,none⟩ u0).setCell ⟨b,1,none⟩ u1).setCell ⟨b,2,none⟩ u2) w.heap.size vs vm p:=by
 have h:ZM X W0.heap.size vs vm p:=⟨rs,hm,acc.all _ hs,acc.all _ hv,fun x hx=>acc.all _ (ho x hx)⟩
 obtain ⟨rs',h1,h2,h3,h4⟩:=((h.set (i:=0) (u:=u0) hb).set (i:=1) (u:=u1) hb).set (i:=2) (u:=u2) hb
 exact ⟨rs',h1,Zaz h2 hw,Zaz h3 hw,fun x hx=>Zaz (h4 x hx) hw⟩
theorem ZhA (w:World):Calls Tryz.prog 64 #[] w fun e w'=>∃ vs vm,e=.returned (ZaF vs vm ZQ)/\ZM w' w.heap.size vs vm ZQ/\Below w.heap.size w w':=by
 have a1:=Za w (.cells #[.string ⟨#[]⟩,.slice none 0 0,.slice none 0 0] 41)
 have B1:=Blk.start w #[.string ⟨#[]⟩,.slice none 0 0,.slice none 0 0] 41
 have HS:=Lib.hid (World.size_alloc w (.cells #[.string ⟨#[]⟩,.slice none 0 0,.slice none 0 0] 41))
 go_enter Tryz.func64,Tryz.ntmps64
 go_upto_region 1 with fail
 generalize w.alloc (.cells #[.string ⟨#[]⟩,.slice none 0 0,.slice none 0 0] 41)=W0 at *
 have ACC:=Lib.hid ((AccR.start W0).push 74 2 3 #[.string ⟨#[79,112,101,110]⟩,.bool false,.string ⟨#[69,110,100]⟩,.bool false,.string ⟨#[83,104,117,116]⟩,.bool true] (by omega) rfl)
 have HB:=Lib.hid (And.intro a1 B1)
 clear a1 B1
 go_wp2_with (first
  | (go_at_call 95;(refine (Ze4 _ _ _).mono ?_);rintro e w1 ⟨rfl,hb⟩;replace ACC:=Lib.hid (ACC.out.keep hb);clear hb)
  | (go_at_call 94;(first | (with_reducible refine (ZcD _ _ ACC.out _ _ _ _).mono ?_) | (with_reducible refine (ZcE _ _ ACC.out _ _ _ _ _ _).mono ?_) | (with_reducible refine (ZcF _ _ ACC.out _ _ _ _ _ _ _ _).mono ?_));rintro e w1 ⟨rfl,h,_⟩;replace ACC:=Lib.hid h;have BX:=fun (x:Obj)=>(HB.out.2.keepB h.below HB.out.2.lt).keep (Za w1 x);have I:=fun (x:Obj)=>Zen (BX x);have c0:=fun x=>(I x).1;have c1:=fun x=>(I x).2.1;have c2:=fun x=>(I x).2.2.1;have f0:=fun x=>(I x).2.2.2.1;have f1:=fun x=>(I x).2.2.2.2.1;have f2:=fun x=>(I x).2.2.2.2.2;have d1:=fun x v=>(Za7 (BX x) v).1;have d2:=fun x v=>(Za7 (BX x) v).2;have r0:=fun x u0 u1 u2=>(ZaQ (BX x) u0 u1 u2).1;have r1:=fun x u0 u1 u2=>(ZaQ (BX x) u0 u1 u2).2.1;have r2:=fun x u0 u1 u2=>(ZaQ (BX x) u0 u1 u2).2.2;clear h I BX))
 have lt:w.heap.size<W0.heap.size:=by have:=HS.out;omega
 refine bodyPost_ret (v:=ZaF (.slice (some ⟨W0.heap.size,0,none⟩) 3 3) (.slice (some ⟨w1.heap.size,0,none⟩) 6 6) ZQ) (by simp [results,Tryz.results64,go_sem,r0,r1,r2];rfl) rfl ⟨_,_,rfl,Zdq (AccR.push ACC.out 79 3 6 _ (by omega) ?_) lt (Nat.le_of_lt lt) ZQ (.slice (some ⟨W0.heap.size,0,none⟩) 3 3) (.slice (some ⟨w1.heap.size,0,none⟩) 6 6) [(_,⟨[114,101,97,100],0,[⟨[115,111,109,101],0⟩,⟨[110,111,110,101],1⟩]⟩),(_,⟨[119,114,105,116,101],0,[⟨[111,107],0⟩,⟨[111,118,101,114],1⟩]⟩),(_,⟨[115,105,122,101],0,[⟨[111,107],0⟩]⟩),(_,⟨[115,105,122,101],1,[⟨[111,107],1⟩]⟩),(_,⟨[99,108,111,115,101],0,[⟨[111,107],2⟩]⟩),(_,⟨[99,108,111,115,101],1,[⟨[111,107],2⟩]⟩)] rfl (.tail _ (.tail _ (.tail _ (.tail _ (.tail _ (.tail _ (.tail _ (.head _)))))))) (.head _) (fun x hx=>?_) _ _ _,?_⟩
 ·rfl
 ·simp only [List.mem_cons,List.not_mem_nil,or_false] at hx
  rcases hx with rfl | rfl | rfl | rfl | rfl | rfl
  ·exact .tail _ (.tail _ (.tail _ (.tail _ (.tail _ (.tail _ (.head _))))))
  ·exact .tail _ (.tail _ (.tail _ (.tail _ (.tail _ (.head _)))))
  ·exact .tail _ (.tail _ (.tail _ (.tail _ (.head _))))
  ·exact .tail _ (.tail _ (.tail _ (.head _)))
  ·exact .tail _ (.tail _ (.head _))
  ·exact .tail _ (.head _)
 ·exact ((((HB.out.1.trans (((ACC.out.keep (Za w1 _)).below).mono (Nat.le_of_lt lt))).setCell (p:=⟨w.heap.size,0,none⟩) (Nat.le_refl _) _).setCell (p:=⟨w.heap.size,1,none⟩) (Nat.le_refl _) _).setCell (p:=⟨w.heap.size,2,none⟩) (Nat.le_refl _) _)
theorem Zgs (w:World):Calls Tryz.prog 65 #[] w fun e w'=>∃ vs vm,e=.returned (ZaF vs vm Zw)/\ZM w' w.heap.size vs vm Zw/\Below w.heap.size w w':=by
 have a1:=Za w (.cells #[.string ⟨#[]⟩,.slice none 0 0,.slice none 0 0] 41)
 have B1:=Blk.start w #[.string ⟨#[]⟩,.slice none 0 0,.slice none 0 0] 41
 have HS:=Lib.hid (World.size_alloc w (.cells #[.string ⟨#[]⟩,.slice none 0 0,.slice none 0 0] 41))
 go_enter Tryz.func65,Tryz.ntmps65
 go_upto_region 1 with fail
 generalize w.alloc (.cells #[.string ⟨#[]⟩,.slice none 0 0,.slice none 0 0] 41)=W0 at *
 have ACC:=Lib.hid ((AccR.start W0).push 74 2 4 #[.string ⟨#[70,114,101,115,104]⟩,.bool false,.string ⟨#[76,105,118,101]⟩,.bool false,.string ⟨#[68,101,97,100]⟩,.bool false,.string ⟨#[67,108,111,115,101,100]⟩,.bool true] (by omega) rfl)
 have HB:=Lib.hid (And.intro a1 B1)
 clear a1 B1
 go_wp2_with (first
  | (go_at_call 95;(refine (Ze4 _ _ _).mono ?_);rintro e w1 ⟨rfl,hb⟩;replace ACC:=Lib.hid (ACC.out.keep hb);clear hb)
  | (go_at_call 94;(first | (with_reducible refine (ZcD _ _ ACC.out _ _ _ _).mono ?_) | (with_reducible refine (ZcE _ _ ACC.out _ _ _ _ _ _).mono ?_) | (with_reducible refine (ZcF _ _ ACC.out _ _ _ _ _ _ _ _).mono ?_));rintro e w1 ⟨rfl,h,_⟩;replace ACC:=Lib.hid h;have BX:=fun (x:Obj)=>(HB.out.2.keepB h.below HB.out.2.lt).keep (Za w1 x);have I:=fun (x:Obj)=>Zen (BX x);have c0:=fun x=>(I x).1;have c1:=fun x=>(I x).2.1;have c2:=fun x=>(I x).2.2.1;have f0:=fun x=>(I x).2.2.2.1;have f1:=fun x=>(I x).2.2.2.2.1;have f2:=fun x=>(I x).2.2.2.2.2;have d1:=fun x v=>(Za7 (BX x) v).1;have d2:=fun x v=>(Za7 (BX x) v).2;have r0:=fun x u0 u1 u2=>(ZaQ (BX x) u0 u1 u2).1;have r1:=fun x u0 u1 u2=>(ZaQ (BX x) u0 u1 u2).2.1;have r2:=fun x u0 u1 u2=>(ZaQ (BX x) u0 u1 u2).2.2;clear h I BX))
 have lt:w.heap.size<W0.heap.size:=by have:=HS.out;omega
 refine bodyPost_ret (v:=ZaF (.slice (some ⟨W0.heap.size,0,none⟩) 4 4) (.slice (some ⟨w1.heap.size,0,none⟩) 7 7) Zw) (by simp [results,Tryz.results65,go_sem,r0,r1,r2];rfl) rfl ⟨_,_,rfl,Zdq (AccR.push ACC.out 79 3 7 _ (by omega) ?_) lt (Nat.le_of_lt lt) Zw (.slice (some ⟨W0.heap.size,0,none⟩) 4 4) (.slice (some ⟨w1.heap.size,0,none⟩) 7 7) [(_,⟨[99,111,110,110,101,99,116],0,[⟨[111,107],1⟩,⟨[102,97,105,108],2⟩]⟩),(_,⟨[115,101,110,100],1,[⟨[111,107],1⟩,⟨[108,111,115,116],2⟩]⟩),(_,⟨[114,101,99,118],1,[⟨[115,111,109,101],1⟩,⟨[110,111,110,101],1⟩,⟨[108,111,115,116],2⟩]⟩),(_,⟨[112,101,101,107],1,[⟨[115,111,109,101],1⟩,⟨[110,111,110,101],1⟩]⟩),(_,⟨[99,108,111,115,101],0,[⟨[111,107],3⟩]⟩),(_,⟨[99,108,111,115,101],1,[⟨[111,107],3⟩]⟩),(_,⟨[99,108,111,115,101],2,[⟨[111,107],3⟩]⟩)] rfl (.tail _ (.tail _ (.tail _ (.tail _ (.tail _ (.tail _ (.tail _ (.tail _ (.head _))))))))) (.head _) (fun x hx=>?_) _ _ _,?_⟩
 ·rfl
 ·simp only [List.mem_cons,List.not_mem_nil,or_false] at hx
  rcases hx with rfl | rfl | rfl | rfl | rfl | rfl | rfl
  ·exact .tail _ (.tail _ (.tail _ (.tail _ (.tail _ (.tail _ (.tail _ (.head _)))))))
  ·exact .tail _ (.tail _ (.tail _ (.tail _ (.tail _ (.tail _ (.head _))))))
  ·exact .tail _ (.tail _ (.tail _ (.tail _ (.tail _ (.head _)))))
  ·exact .tail _ (.tail _ (.tail _ (.tail _ (.head _))))
  ·exact .tail _ (.tail _ (.tail _ (.head _)))
  ·exact .tail _ (.tail _ (.head _))
  ·exact .tail _ (.head _)
 ·exact ((((HB.out.1.trans (((ACC.out.keep (Za w1 _)).below).mono (Nat.le_of_lt lt))).setCell (p:=⟨w.heap.size,0,none⟩) (Nat.le_refl _) _).setCell (p:=⟨w.heap.size,1,none⟩) (Nat.le_refl _) _).setCell (p:=⟨w.heap.size,2,none⟩) (Nat.le_refl _) _)
theorem ZhH (w:World):Calls Tryz.prog 66 #[] w fun e w'=>∃ vs vm,e=.returned (ZaF vs vm ZS)/\ZM w' w.heap.size vs vm ZS/\Below w.heap.size w w':=by
 have a1:=Za w (.cells #[.string ⟨#[]⟩,.slice none 0 0,.slice none 0 0] 41)
 have B1:=Blk.start w #[.string ⟨#[]⟩,.slice none 0 0,.slice none 0 0] 41
 have HS:=Lib.hid (World.size_alloc w (.cells #[.string ⟨#[]⟩,.slice none 0 0,.slice none 0 0] 41))
 go_enter Tryz.func66,Tryz.ntmps66
 go_upto_region 1 with fail
 generalize w.alloc (.cells #[.string ⟨#[]⟩,.slice none 0 0,.slice none 0 0] 41)=W0 at *
 have ACC:=Lib.hid ((AccR.start W0).push 74 2 2 #[.string ⟨#[82,101,97,100,121]⟩,.bool false,.string ⟨#[79,118,101,114]⟩,.bool true] (by omega) rfl)
 have HB:=Lib.hid (And.intro a1 B1)
 clear a1 B1
 go_wp2_with (first
  | (go_at_call 95;(refine (Ze4 _ _ _).mono ?_);rintro e w1 ⟨rfl,hb⟩;replace ACC:=Lib.hid (ACC.out.keep hb);clear hb)
  | (go_at_call 94;(first | (with_reducible refine (ZcD _ _ ACC.out _ _ _ _).mono ?_) | (with_reducible refine (ZcE _ _ ACC.out _ _ _ _ _ _).mono ?_) | (with_reducible refine (ZcF _ _ ACC.out _ _ _ _ _ _ _ _).mono ?_));rintro e w1 ⟨rfl,h,_⟩;replace ACC:=Lib.hid h;have BX:=fun (x:Obj)=>(HB.out.2.keepB h.below HB.out.2.lt).keep (Za w1 x);have I:=fun (x:Obj)=>Zen (BX x);have c0:=fun x=>(I x).1;have c1:=fun x=>(I x).2.1;have c2:=fun x=>(I x).2.2.1;have f0:=fun x=>(I x).2.2.2.1;have f1:=fun x=>(I x).2.2.2.2.1;have f2:=fun x=>(I x).2.2.2.2.2;have d1:=fun x v=>(Za7 (BX x) v).1;have d2:=fun x v=>(Za7 (BX x) v).2;have r0:=fun x u0 u1 u2=>(ZaQ (BX x) u0 u1 u2).1;have r1:=fun x u0 u1 u2=>(ZaQ (BX x) u0 u1 u2).2.1;have r2:=fun x u0 u1 u2=>(ZaQ (BX x) u0 u1 u2).2.2;clear h I BX))
 have lt:w.heap.size<W0.heap.size:=by have:=HS.out;omega
 refine bodyPost_ret (v:=ZaF (.slice (some ⟨W0.heap.size,0,none⟩) 2 2) (.slice (some ⟨w1.heap.size,0,none⟩) 3 3) ZS) (by simp [results,Tryz.results66,go_sem,r0,r1,r2];rfl) rfl ⟨_,_,rfl,Zdq (AccR.push ACC.out 79 3 3 _ (by omega) ?_) lt (Nat.le_of_lt lt) ZS (.slice (some ⟨W0.heap.size,0,none⟩) 2 2) (.slice (some ⟨w1.heap.size,0,none⟩) 3 3) [(_,⟨[110,101,120,116],0,[⟨[105,116,101,109],0⟩,⟨[100,111,110,101],1⟩]⟩),(_,⟨[115,116,111,112],0,[⟨[111,107],1⟩]⟩),(_,⟨[108,101,102,116],0,[⟨[111,107],0⟩]⟩)] rfl (.tail _ (.tail _ (.tail _ (.tail _ (.head _))))) (.head _) (fun x hx=>?_) _ _ _,?_⟩
 ·rfl
 ·simp only [List.mem_cons,List.not_mem_nil,or_false] at hx
  rcases hx with rfl | rfl | rfl
  ·exact .tail _ (.tail _ (.tail _ (.head _)))
  ·exact .tail _ (.tail _ (.head _))
  ·exact .tail _ (.head _)
 ·exact ((((HB.out.1.trans (((ACC.out.keep (Za w1 _)).below).mono (Nat.le_of_lt lt))).setCell (p:=⟨w.heap.size,0,none⟩) (Nat.le_refl _) _).setCell (p:=⟨w.heap.size,1,none⟩) (Nat.le_refl _) _).setCell (p:=⟨w.heap.size,2,none⟩) (Nat.le_refl _) _)
end
end Go.Proofs.YtaacbenikcbibabGreatDoor
