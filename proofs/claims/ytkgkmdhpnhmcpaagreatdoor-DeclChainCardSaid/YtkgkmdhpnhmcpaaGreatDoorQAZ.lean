import Derived.Test.YtkgkmdhpnhmcpaaGreatDoorQAX
import Derived.Test.YtkgkmdhpnhmcpaaGreatDoorQAY
set_option maxRecDepth 100000
set_option maxHeartbeats 8000000
namespace Go.Proofs.YtkgkmdhpnhmcpaaGreatDoor
section
open Go.RowKit
structure RowR where
 e:TypeId
 size:Nat
 v:Value
 n:Nat
 xs:List Value
structure AccR (W0 w:World) (L:List RowR):Prop where
 all:∀ r∈L,w.ownsRow W0.heap.size r.e r.size r.v r.n r.xs
 below:Below W0.heap.size W0 w
theorem AccR.start (W0:World):AccR W0 W0 []:=⟨(fun r hr=>by cases hr),Below.refl _ _⟩
theorem AccR.keep {W0 w w':World} {L:List RowR} (h:AccR W0 w L) (hb:Below w.heap.size w w'):AccR W0 w' L:=⟨fun r hr=>Ze (h.all r hr) hb,h.below.trans (hb.mono h.below.size)⟩
theorem AccR.push {W0 w:World} {L:List RowR} (h:AccR W0 w L) (e:TypeId) (size n:Nat) (cs:Array Value) (hn:n<=1000) (hs:cs.size=n*size) :
  AccR W0 (w.alloc (.cells cs e)) (⟨e,size,.slice (some ⟨w.heap.size,0,none⟩) n n,n,cs.toList⟩::L):=by
 have k:=h.keep (below_alloc1 w (.cells cs e))
 refine ⟨fun r hr=>?_,k.below⟩
 rcases List.mem_cons.1 hr with rfl | hr
 ·exact World.ownsRow_lit w cs n h.below.size (by unfold maxLen;omega) hs
 ·exact k.all r hr
theorem AccR.more {W0 w:World} {L:List RowR} (h:AccR W0 w L) {r:RowR} (hr:w.ownsRow W0.heap.size r.e r.size r.v r.n r.xs):AccR W0 w (r::L):=
 ⟨fun q hq=>by
  rcases List.mem_cons.1 hq with rfl | hq
  ·exact hr
  ·exact h.all q hq,h.below⟩
theorem Zfc (w:World) (s:List UInt8) (k:Int) :
  Calls Tryz.prog 137 #[txt s,.int .i64 k] w fun e w'=>e=.returned (.agg #[txt s,.int .i64 k])/\Below w.heap.size w w':=by
 have a1:=zh (below_alloc1 w (.cells #[txt s,.int .i64 k] 110))
 have B1:=Blk.start w #[txt s,.int .i64 k] 110
 have c0:=B1.cell 0
 have c1:=B1.cell 1
 simp only [List.getElem?_toArray,List.getElem?_cons_zero,List.getElem?_cons_succ] at c0 c1
 clear B1
 go_enter Tryz.func137,Tryz.ntmps137
 go_wp2_with fail
 exact bodyPost_ret (v:=.agg #[txt s,.int .i64 k]) (by simp [results,Tryz.results137,go_sem,c0,c1]) rfl ⟨rfl,a1.out⟩
theorem Zc3 (w:World) (s:List UInt8) (k:Int) (A:Option Addr) (n c:Nat) :
  Calls Tryz.prog 136 #[txt s,.int .i64 k,.slice A n c] w fun e w'=>e=.returned (.agg #[txt s,.int .i64 k,.slice A n c])/\Below w.heap.size w w':=by
 have a1:=zh (below_alloc1 w (.cells #[txt s,.int .i64 k,.slice A n c] 85))
 have B1:=Blk.start w #[txt s,.int .i64 k,.slice A n c] 85
 have c0:=B1.cell 0
 have c1:=B1.cell 1
 have c2:=B1.cell 2
 simp only [List.getElem?_toArray,List.getElem?_cons_zero,List.getElem?_cons_succ] at c0 c1 c2
 clear B1
 go_enter Tryz.func136,Tryz.ntmps136
 go_wp2_with fail
 exact bodyPost_ret (v:=.agg #[txt s,.int .i64 k,.slice A n c]) (by simp [results,Tryz.results136,go_sem,c0,c1,c2]) rfl ⟨rfl,a1.out⟩
end
section
open Go.RowKit
def ZL:Pro:=⟨[70,105,108,101],[⟨[79,112,101,110],false⟩,⟨[69,110,100],false⟩,⟨[83,104,117,116],true⟩],[⟨[114,101,97,100],0,[⟨[115,111,109,101],0⟩,⟨[110,111,110,101],1⟩]⟩,⟨[119,114,105,116,101],0,[⟨[111,107],0⟩,⟨[111,118,101,114],1⟩]⟩,⟨[115,105,122,101],0,[⟨[111,107],0⟩]⟩,⟨[115,105,122,101],1,[⟨[111,107],1⟩]⟩,⟨[99,108,111,115,101],0,[⟨[111,107],2⟩]⟩,⟨[99,108,111,115,101],1,[⟨[111,107],2⟩]⟩]⟩
def Zw:Pro:=⟨[83,111,99,107,101,116],[⟨[70,114,101,115,104],false⟩,⟨[76,105,118,101],false⟩,⟨[68,101,97,100],false⟩,⟨[67,108,111,115,101,100],true⟩],[⟨[99,111,110,110,101,99,116],0,[⟨[111,107],1⟩,⟨[102,97,105,108],2⟩]⟩,⟨[115,101,110,100],1,[⟨[111,107],1⟩,⟨[108,111,115,116],2⟩]⟩,⟨[114,101,99,118],1,[⟨[115,111,109,101],1⟩,⟨[110,111,110,101],1⟩,⟨[108,111,115,116],2⟩]⟩,⟨[112,101,101,107],1,[⟨[115,111,109,101],1⟩,⟨[110,111,110,101],1⟩]⟩,⟨[99,108,111,115,101],0,[⟨[111,107],3⟩]⟩,⟨[99,108,111,115,101],1,[⟨[111,107],3⟩]⟩,⟨[99,108,111,115,101],2,[⟨[111,107],3⟩]⟩]⟩
def ZO:Pro:=⟨[73,116,101,114],[⟨[82,101,97,100,121],false⟩,⟨[79,118,101,114],true⟩],[⟨[110,101,120,116],0,[⟨[105,116,101,109],0⟩,⟨[100,111,110,101],1⟩]⟩,⟨[115,116,111,112],0,[⟨[111,107],1⟩]⟩,⟨[108,101,102,116],0,[⟨[111,107],0⟩]⟩]⟩
theorem ZcL (W0 w:World) {L:List RowR} (h:AccR W0 w L) (s:List UInt8) (k:Int) (o0:List UInt8) (t0:Int) :
  Calls Tryz.prog 136 #[txt s,.int .i64 k,.slice (some ⟨w.heap.size,0,none⟩) 1 1] (w.alloc (.cells #[txt o0,.int .i64 t0] 110)) fun e w'=>e=.returned (.agg #[txt s,.int .i64 k,.slice (some ⟨w.heap.size,0,none⟩) 1 1])/\AccR W0 w' (⟨110,2,.slice (some ⟨w.heap.size,0,none⟩) 1 1,1,[txt o0,.int .i64 t0]⟩::L)/\Below (w.alloc (.cells #[txt o0,.int .i64 t0] 110)).heap.size (w.alloc (.cells #[txt o0,.int .i64 t0] 110)) w':=
 (Zc3 _ s k _ 1 1).mono fun _ _ ⟨he,hb⟩=>⟨he,(h.push 110 2 1 #[txt o0,.int .i64 t0] (by omega) rfl).keep hb,hb⟩
theorem ZcM (W0 w:World) {L:List RowR} (h:AccR W0 w L) (s:List UInt8) (k:Int) (o0:List UInt8) (t0:Int) (o1:List UInt8) (t1:Int) :
  Calls Tryz.prog 136 #[txt s,.int .i64 k,.slice (some ⟨w.heap.size,0,none⟩) 2 2] (w.alloc (.cells #[txt o0,.int .i64 t0,txt o1,.int .i64 t1] 110)) fun e w'=>e=.returned (.agg #[txt s,.int .i64 k,.slice (some ⟨w.heap.size,0,none⟩) 2 2])/\AccR W0 w' (⟨110,2,.slice (some ⟨w.heap.size,0,none⟩) 2 2,2,[txt o0,.int .i64 t0,txt o1,.int .i64 t1]⟩::L)/\Below (w.alloc (.cells #[txt o0,.int .i64 t0,txt o1,.int .i64 t1] 110)).heap.size (w.alloc (.cells #[txt o0,.int .i64 t0,txt o1,.int .i64 t1] 110)) w':=
 (Zc3 _ s k _ 2 2).mono fun _ _ ⟨he,hb⟩=>⟨he,(h.push 110 2 2 #[txt o0,.int .i64 t0,txt o1,.int .i64 t1] (by omega) rfl).keep hb,hb⟩
theorem ZcN (W0 w:World) {L:List RowR} (h:AccR W0 w L) (s:List UInt8) (k:Int) (o0:List UInt8) (t0:Int) (o1:List UInt8) (t1:Int) (o2:List UInt8) (t2:Int) :
  Calls Tryz.prog 136 #[txt s,.int .i64 k,.slice (some ⟨w.heap.size,0,none⟩) 3 3] (w.alloc (.cells #[txt o0,.int .i64 t0,txt o1,.int .i64 t1,txt o2,.int .i64 t2] 110)) fun e w'=>e=.returned (.agg #[txt s,.int .i64 k,.slice (some ⟨w.heap.size,0,none⟩) 3 3])/\AccR W0 w' (⟨110,2,.slice (some ⟨w.heap.size,0,none⟩) 3 3,3,[txt o0,.int .i64 t0,txt o1,.int .i64 t1,txt o2,.int .i64 t2]⟩::L)/\Below (w.alloc (.cells #[txt o0,.int .i64 t0,txt o1,.int .i64 t1,txt o2,.int .i64 t2] 110)).heap.size (w.alloc (.cells #[txt o0,.int .i64 t0,txt o1,.int .i64 t1,txt o2,.int .i64 t2] 110)) w':=
 (Zc3 _ s k _ 3 3).mono fun _ _ ⟨he,hb⟩=>⟨he,(h.push 110 2 3 #[txt o0,.int .i64 t0,txt o1,.int .i64 t1,txt o2,.int .i64 t2] (by omega) rfl).keep hb,hb⟩
theorem Zab {w:World} {b b' n size:Nat} {e:TypeId} {v:Value} {xs:List Value} (h:w.ownsRow b e size v n xs) (hb:b'<=b):w.ownsRow b' e size v n xs:=by
 refine ⟨h.1,h.2.imp id ?_⟩
 rintro ⟨g,cap,cur,h1,h2,h3⟩
 exact ⟨g,cap,cur,h1,Nat.le_trans hb h2,h3⟩
end
end Go.Proofs.YtkgkmdhpnhmcpaaGreatDoor
