import Derived.Deep.LoopGhost
import Derived.Test.YtkgkmdhpnhmcpaaGreatDoorQBY
set_option maxRecDepth 100000
set_option maxHeartbeats 8000000
namespace Go.Proofs.YtkgkmdhpnhmcpaaGreatDoor
section
open Go.RowKit
theorem Zjr {n:Int} (h:(Lit.int .u8 n).wf=true):0<=n/\n<=255:=by
 simp only [Lit.wf,Bool.and_eq_true,decide_eq_true_eq] at h
 have a:IntKind.u8.min=0:=by decide
 have b:IntKind.u8.max=255:=by decide
 rw [a,b] at h
 exact h
theorem Zew (w:World) (k:Nat) (fin:Bool):ChAt ((((w.alloc (.cells #[.int .i64 1] 3)).alloc (.cells #[txt [80]] 9)).alloc (.cells #[.int .i64 0,.slice none 0 0,.slice none 0 0,.slice (some ⟨w.heap.size,0,none⟩) 1 1,.int .i64 0,.int .i64 1,.slice (some ⟨w.heap.size+1,0,none⟩) 1 1,.slice none 0 0,.slice none 0 0,.int .i64 0] 27)).alloc (.cells #[.slice (some ⟨w.heap.size+1+1,0,none⟩) 2 2] 28)) w.heap.size (w.heap.size+1+1+1) (chN k fin 0) (.slice (some ⟨w.heap.size+1+1,0,none⟩) 2 2) ∧
  Below w.heap.size w ((((w.alloc (.cells #[.int .i64 1] 3)).alloc (.cells #[txt [80]] 9)).alloc (.cells #[.int .i64 0,.slice none 0 0,.slice none 0 0,.slice (some ⟨w.heap.size,0,none⟩) 1 1,.int .i64 0,.int .i64 1,.slice (some ⟨w.heap.size+1,0,none⟩) 1 1,.slice none 0 0,.slice none 0 0,.int .i64 0] 27)).alloc (.cells #[.slice (some ⟨w.heap.size+1+1,0,none⟩) 2 2] 28)):=by
 have h:=(((AccR.start w).push 3 1 1 #[.int .i64 1] (by omega) rfl).push 9 1 1 #[txt [80]] (by omega) rfl).push 27 5 2 #[.int .i64 0,.slice none 0 0,.slice none 0 0,.slice (some ⟨w.heap.size,0,none⟩) 1 1,.int .i64 0,.int .i64 1,.slice (some ⟨w.heap.size+1,0,none⟩) 1 1,.slice none 0 0,.slice none 0 0,.int .i64 0] (by omega) rfl
 have h:=h.keep (below_alloc1 _ (.cells #[.slice (some ⟨w.heap.size+1+1,0,none⟩) 2 2] 28))
 have T:=Zd.start (((w.alloc (.cells #[.int .i64 1] 3)).alloc (.cells #[txt [80]] 9)).alloc (.cells #[.int .i64 0,.slice none 0 0,.slice none 0 0,.slice (some ⟨w.heap.size,0,none⟩) 1 1,.int .i64 0,.int .i64 1,.slice (some ⟨w.heap.size+1,0,none⟩) 1 1,.slice none 0 0,.slice none 0 0,.int .i64 0] 27)) #[.slice (some ⟨w.heap.size+1+1,0,none⟩) 2 2] 28
 simp only [World.size_alloc] at h T
 have r1:=h.all _ (.tail _ (.tail _ (.head _)))
 have r2:=h.all _ (.tail _ (.head _))
 have r3:=h.all _ (.head _)
 refine ⟨⟨T,[((.slice none 0 0,.slice none 0 0,.slice (some ⟨w.heap.size,0,none⟩) 1 1),⟨0,[],[],[1],0⟩),((.slice (some ⟨w.heap.size+1,0,none⟩) 1 1,.slice none 0 0,.slice none 0 0),⟨1,[[80]],[],[],0⟩)],_,⟨r3,fun x hx=>?_⟩,rfl,rfl,fun j z hj hz b hb=>?_⟩,h.below⟩
 ·rcases List.mem_cons.1 hx with rfl | hx
  ·exact ⟨World.ownsRow_nil _ _ _ _,World.ownsRow_nil _ _ _ _,r1,fun s hs=>by cases hs⟩
  ·rw [List.mem_singleton.1 hx]
   exact ⟨r2,World.ownsRow_nil _ _ _ _,World.ownsRow_nil _ _ _ _,fun s hs=>by rw [List.mem_singleton.1 hs];decide⟩
 ·intro e
  cases e
theorem Zb3 (w:World) (a b:Obj):Below w.heap.size w ((w.alloc a).alloc b):=(below_alloc1 w a).trans ((below_alloc1 _ b).mono (below_alloc1 w a).size)
theorem ZcW (w:World) (B:Nat) (hB:B<=w.heap.size) (s:List UInt8) (hs:s.length<=100) (x:Int):NdO ((w.alloc (.cells #[txt s] 9)).alloc (.cells #[.int .i64 x] 2)) B ((.slice (some ⟨w.heap.size,0,none⟩) 1 1,.slice (some ⟨w.heap.size+1,0,none⟩) 1 1,.slice none 0 0),⟨2,[s],[x],[],0⟩):=by
 have h:=((AccR.start w).push 9 1 1 #[txt s] (by omega) rfl).push 2 1 1 #[.int .i64 x] (by omega) rfl
 simp only [World.size_alloc] at h
 exact ⟨Zab (h.all _ (.tail _ (.head _))) hB,Zab (h.all _ (.head _)) hB,World.ownsRow_nil _ _ _ _,fun t ht=>by rw [List.mem_singleton.1 ht];unfold maxLen;omega⟩
theorem Ziu (w:World) (B:Nat) (hB:B<=w.heap.size) (s t:List UInt8) (hs:s.length<=100) (ht:t.length<=100):NdO (w.alloc (.cells #[txt [111,110],txt s,txt [111,107],txt t] 9)) B ((.slice (some ⟨w.heap.size,0,none⟩) 4 4,.slice none 0 0,.slice none 0 0),⟨3,[[111,110],s,[111,107],t],[],[],0⟩):=by
 have h:=(AccR.start w).push 9 1 4 #[txt [111,110],txt s,txt [111,107],txt t] (by omega) rfl
 exact ⟨Zab (h.all _ (.head _)) hB,World.ownsRow_nil _ _ _ _,World.ownsRow_nil _ _ _ _,fun u hu=>by
  simp only [List.mem_cons,List.not_mem_nil,or_false] at hu
  rcases hu with rfl | rfl | rfl | rfl<;>first | decide | (unfold maxLen;omega)⟩
theorem Zbk (i:Nat):(chS i).length<=100:=by unfold chS;simp
theorem ZbV {k j:Nat} {fin:Bool} (h:j<k):chK k fin j=⟨2,[chS j],[if fin&&decide (j+1=k) then 1 else 0],[],0⟩:=by unfold chK;rw [if_pos h]
theorem Zeu {k q:Nat} {fin:Bool}:chK k fin (k+q)=⟨3,[[111,110],chS q,[111,107],chS (q+1)],[],[],0⟩:=by
 unfold chK
 rw [if_neg (by omega),Nat.add_sub_cancel_left]
def fiR (Ad:Option Addr) (cd a kk:Nat):Nat->Value->World->Prop
 | 0,v,_=>v=.bool true
 | 1,v,_=>v=.bool true
 | 2,v,_=>v=.slice Ad 0 cd
 | 3,v,_=>v=.int .i64 0
 | 4,v,_=>v=.bool true
 | 5,v,_=>v=.bool true
 | 6,v,_=>v=.bool true
 | 7,v,_=>v=.pointer (some ⟨a,0,none⟩)
 | 8,v,_=>v=.int .u32 ((2 ^ (kk-1):Nat):Int)
 | 9,v,_=>v=.int .i64 kk
 | 10,v,_=>v=.int .i64 ((kk:Int)-1)
 | 11,v,_=>v=.int .u32 ((2 ^ (kk-1):Nat):Int)
 | 12,v,_=>v=.bool true
 | 13,v,_=>v=.bool true
 | 14,v,_=>v=.bool true
 | _,_,_=>True
theorem ZhP (Ad:Option Addr) (cd a kk:Nat):∀ j v w1 w2,Below w1.heap.size w1 w2->fiR Ad cd a kk j v w1->fiR Ad cd a kk j v w2
 | 0,_,_,_,_,h=>h
 | 1,_,_,_,_,h=>h
 | 2,_,_,_,_,h=>h
 | 3,_,_,_,_,h=>h
 | 4,_,_,_,_,h=>h
 | 5,_,_,_,_,h=>h
 | 6,_,_,_,_,h=>h
 | 7,_,_,_,_,h=>h
 | 8,_,_,_,_,h=>h
 | 9,_,_,_,_,h=>h
 | 10,_,_,_,_,h=>h
 | 11,_,_,_,_,h=>h
 | 12,_,_,_,_,h=>h
 | 13,_,_,_,_,h=>h
 | 14,_,_,_,_,h=>h
 | _+15,_,_,_,_,_=>trivial
theorem Zfj (w:World) (ht:ZZ w 0 Zh) (nv:Int) (hn:0<=nv/\nv<256) (k:Nat) (hk:1+nv % 20=(k:Int)) (k1:1<=k) (k2:k<=20) :
  Calls Tryz.prog 3 #[.int .u8 nv,.bool true] w fun e w'=>e=.returned (.bool true)/\Below w.heap.size w w':=by
 have AW:=zh (ZfJ w ht)
 have HT:=zh ht
 have wn:IntKind.i64.wrap nv=nv:=IntWalk.i64_in _ (by omega)
 have wk:IntKind.i64.wrap (1+nv % 20)=1+nv % 20:=IntWalk.i64_in _ (by omega)
 clear ht
 go_enter Tryz.func3,Tryz.ntmps3
 go_upto_region 3 with (go_at_call 5;(refine AW.out.mono ?_);rintro e w1 ⟨rfl,hb1⟩;have H1:=zh hb1;clear hb1)
 clear AW
 go_upto_region 4 with fail
 try rw [hk]
 have CS:=zh (Zew w1 k true)
 have HK:=zh (zi k1 k2)
 clear wn wk hk hn k1 k2
 go_upto_region 8 with fail
 generalize ((((w1.alloc (.cells #[.int .i64 1] 3)).alloc (.cells #[txt [80]] 9)).alloc (.cells #[.int .i64 0,.slice none 0 0,.slice none 0 0,.slice (some ⟨w1.heap.size,0,none⟩) 1 1,.int .i64 0,.int .i64 1,.slice (some ⟨w1.heap.size+1,0,none⟩) 1 1,.slice none 0 0,.slice none 0 0,.int .i64 0] 27)).alloc (.cells #[.slice (some ⟨w1.heap.size+1+1,0,none⟩) 2 2] 28))=wS at *
 go_loopg [9,10] k (fun g v9 v10 wr=>∃ (j:Nat) (V:Value),v9=.int .i64 j/\j<=k/\g=k-j/\ChAt wr w1.heap.size (w1.heap.size+1+1+1) (chN k true j) V/\Below w1.heap.size w1 wr)
 case atStart=>exact ⟨0,_,rfl,Nat.zero_le _,rfl,CS.out.1,CS.out.2⟩
 case round=>
  obtain ⟨j,V,rfl,hj,hg,hC,hW⟩:=hrel
  by_cases hin:j<k
  ·have i1:(j:Int)<(k:Int):=by omega
   have wj:IntKind.i64.wrap ((j:Int)+1)=(j:Int)+1:=IntWalk.i64_in _ (by have:=HK.out;omega)
   have wk1:IntKind.i64.wrap ((k:Int)-1)=(k:Int)-1:=IntWalk.i64_in _ (by have:=HK.out;omega)
   have NM:=zh (fun w=>ZaP j (by have:=HK.out;omega) w)
   have HC:=zh (zi hC (zi hW (zi hin (zi HK.out.2 hg))))
   clear hC hW hj hg hin
   by_cases hq:j+1=k
   ·have e1:((j:Int)==(k:Int)-1)=true:=by simp;omega
    go_wp2_with (first
     | (go_at_call 6;(with_reducible refine (NM.out _).mono ?_);rintro e w2 ⟨rfl,hb2⟩)
     | (go_at_call 7;(refine (Zbp ((w2.alloc (.cells #[txt (chS j)] 9)).alloc (.cells #[.int .i64 1] 2)) w1.heap.size (w1.heap.size+1+1+1) V (chN k true j) ((HC.out.1.keep hb2).keep (Zb3 w2 _ _)) _ _ 2 0 [chS j] [1] (ZcW w2 w1.heap.size (Nat.le_trans HC.out.2.1.size hb2.size) _ (Zbk j) _) (by have:=HC.out.2.1.size;have:=hb2.size;simp only [World.size_alloc];omega) (by omega) (by rw [Zbj];have:=HC.out.2.2;omega) (by rw [Zbz];have:=HC.out.2.2;omega)).mono ?_);rintro e w4 ⟨rfl,V4,hC4,hb4⟩))
    have hN:Zbo (chN k true j) ⟨2,[chS j],[1],[],0⟩=chN k true (j+1):=by rw [ZbD,ZbV HC.out.2.2.1];simp [hq]
    rw [hN] at hC4
    have HC4:=zh (zi hC4 (HC.out.2.1.trans ((hb2.mono HC.out.2.1.size).trans (((Zb3 w2 _ _).mono (Nat.le_trans HC.out.2.1.size hb2.size)).trans hb4))))
    clear hC4 hb4 hb2 hN
    go_wp2_with fail
    go_roundg (k-(j+1))
    case measure=>have:=HC.out.2.2;omega
    case rel=>exact ⟨j+1,V4,by push_cast;rfl,by have:=HC.out.2.2;omega,rfl,HC4.out.1,HC4.out.2⟩
   ·have e1:((j:Int)==(k:Int)-1)=false:=by simp;omega
    go_wp2_with (first
     | (go_at_call 6;(with_reducible refine (NM.out _).mono ?_);rintro e w2 ⟨rfl,hb2⟩)
     | (go_at_call 7;(refine (Zbp ((w2.alloc (.cells #[txt (chS j)] 9)).alloc (.cells #[.int .i64 0] 2)) w1.heap.size (w1.heap.size+1+1+1) V (chN k true j) ((HC.out.1.keep hb2).keep (Zb3 w2 _ _)) _ _ 2 0 [chS j] [0] (ZcW w2 w1.heap.size (Nat.le_trans HC.out.2.1.size hb2.size) _ (Zbk j) _) (by have:=HC.out.2.1.size;have:=hb2.size;simp only [World.size_alloc];omega) (by omega) (by rw [Zbj];have:=HC.out.2.2;omega) (by rw [Zbz];have:=HC.out.2.2;omega)).mono ?_);rintro e w4 ⟨rfl,V4,hC4,hb4⟩))
    have hN:Zbo (chN k true j) ⟨2,[chS j],[0],[],0⟩=chN k true (j+1):=by rw [ZbD,ZbV HC.out.2.2.1];simp [hq]
    rw [hN] at hC4
    have HC4:=zh (zi hC4 (HC.out.2.1.trans ((hb2.mono HC.out.2.1.size).trans (((Zb3 w2 _ _).mono (Nat.le_trans HC.out.2.1.size hb2.size)).trans hb4))))
    clear hC4 hb4 hb2 hN
    go_wp2_with fail
    go_roundg (k-(j+1))
    case measure=>have:=HC.out.2.2;omega
    case rel=>exact ⟨j+1,V4,by push_cast;rfl,by have:=HC.out.2.2;omega,rfl,HC4.out.1,HC4.out.2⟩
  ·obtain rfl:j=k:=by omega
   have i1:¬ (j:Int)<(j:Int):=by omega
   have i2:decide ((j:Int)<(j:Int))=false:=decide_eq_false i1
   have HC:=zh (zi hC hW)
   clear hC hW hj hg hin CS
   go_upto_region 15 with fail
   go_loopg [11] j (fun g v11 wr'=>∃ (q:Nat) (V:Value),v11=.int .i64 q/\q+1<=j/\g=j-q/\ChAt wr' w1.heap.size (w1.heap.size+1+1+1) (chN j true (j+q)) V/\Below w1.heap.size w1 wr')
   case atStart=>exact ⟨0,V,rfl,HK.out.1,rfl,HC.out.1,HC.out.2⟩
   case round=>
    obtain ⟨q,V,rfl,hq,hg,hC,hW⟩:=hrel
    have wq:IntKind.i64.wrap ((q:Int)+1)=(q:Int)+1:=IntWalk.i64_in _ (by have:=HK.out;omega)
    by_cases hin:q+1<j
    ·have i1:(q:Int)+1<(j:Int):=by omega
     have NM:=zh (fun w=>ZaP q (by have:=HK.out;omega) w)
     have NM2:=zh (fun w=>show Calls Tryz.prog 6 #[.int .i64 ((q:Int)+1)] w fun e w'=>e=.returned (txt (chS (q+1)))/\Below w.heap.size w w' from by have:=ZaP (q+1) (by have:=HK.out;omega) w;rwa [show ((q+1:Nat):Int)=(q:Int)+1 by push_cast;rfl] at this)
     have HC:=zh (zi hC (zi hW (zi hin (zi HK.out.2 hg))))
     clear hC hW hq hg hin
     go_wp2_with (first
      | (go_at_call 6;(with_reducible refine (NM.out _).mono ?_);rintro e w2 ⟨rfl,hb2⟩)
      | (go_at_call 6;(with_reducible refine (NM2.out _).mono ?_);rintro e w3 ⟨rfl,hb3⟩)
      | (go_at_call 7;(refine (Zbp (w3.alloc (.cells #[txt [111,110],txt (chS q),txt [111,107],txt (chS (q+1))] 9)) w1.heap.size (w1.heap.size+1+1+1) V (chN j true (j+q)) (((HC.out.1.keep hb2).keep hb3).keep (below_alloc1 w3 _)) _ _ 3 0 [[111,110],chS q,[111,107],chS (q+1)] [] (Ziu w3 w1.heap.size (Nat.le_trans HC.out.2.1.size (Nat.le_trans hb2.size hb3.size)) _ _ (Zbk q) (Zbk (q+1))) (by have:=HC.out.2.1.size;have:=hb2.size;have:=hb3.size;simp only [World.size_alloc];omega) (by omega) (by rw [Zbj];have:=HC.out.2.2;omega) (by rw [Zbz];have:=HC.out.2.2;omega)).mono ?_);rintro e w4 ⟨rfl,V4,hC4,hb4⟩))
     have hN:Zbo (chN j true (j+q)) ⟨3,[[111,110],chS q,[111,107],chS (q+1)],[],[],0⟩=chN j true (j+(q+1)):=by rw [show j+(q+1)=(j+q)+1 by omega,ZbD,Zeu]
     rw [hN] at hC4
     have s2:=Nat.le_trans HC.out.2.1.size hb2.size
     have HC4:=zh (zi hC4 (HC.out.2.1.trans ((hb2.mono HC.out.2.1.size).trans ((hb3.mono s2).trans (((below_alloc1 w3 _).mono (Nat.le_trans s2 hb3.size)).trans hb4)))))
     clear hC4 hb4 hb3 hb2 hN s2
     go_wp2_with fail
     go_roundg (j-(q+1))
     case measure=>have:=HC.out.2.2;omega
     case rel=>exact ⟨q+1,V4,by push_cast;rfl,by have:=HC.out.2.2;omega,rfl,HC4.out.1,HC4.out.2⟩
    ·have i1:¬ (q:Int)+1<(j:Int):=by omega
     have i2:decide ((q:Int)+1<(j:Int))=false:=decide_eq_false i1
     have hq2:j+q=2*j-1:=by omega
     rw [hq2] at hC
     have F:=Zev j HK.out.1 HK.out.2 true
     obtain ⟨rs,x,r1,r2,r3,r4⟩:=hC.row
     have hNA:=r1.nodes
     rw [r2] at hNA
     have bx:=hC.box.blk.cell 0
     simp only [List.getElem?_toArray,List.getElem?_cons_zero] at bx
     clear r1 r2 r3 r4 x rs
     have H2:=zh (zi hNA (zi (HT.out.below (H1.out.trans (hW.mono H1.out.size))) (zi F (H1.out.trans (hW.mono H1.out.size)))))
     clear F hNA hC hW hq hg hin hq2
     go_upto_region 19 with (go_at_call 8;(refine (ZcY _ _ _ H2.out.1 H2.out.2.1 H2.out.2.2.1.1).mono ?_);rintro e w5 ⟨bk,bm,al,vd,rfl,hB,hD,hb5⟩;have H3:=zh (zi hB (H2.out.2.2.2.trans (hb5.mono H2.out.2.2.2.size)));have HD:=zh hD;clear hB hb5 hD)
     clear bx i1 i2 wq
     by_cases k16:j<=16
     ·have F3:=H2.out.2.2.1.2.2
      rw [if_pos (by first | exact ⟨rfl,k16⟩ | exact ⟨trivial,k16⟩)] at F3
      obtain ⟨hdl,ip,p,hp,hpn,hpf,hps⟩:=F3
      obtain ⟨a,ha⟩:∃ a,al[ip]? = some a:=⟨_,List.getElem?_eq_getElem (by rw [H3.out.1.len];exact (List.getElem?_eq_some_iff.1 hp).1)⟩
      have hsz:=(H2.out.2.2.1.2.1 p (List.mem_of_getElem? hp)).2.1
      have FY:=ZhR w5 _ bk bm _ al H3.out.1 ip p a hp ha (by have:=hsz.name;unfold maxLen;omega)
      rw [hpn] at FY
      have FYH:=zh FY
      have AA:=(H3.out.1.aut ip p a hp ha).at_ hsz.len
      have FA:=zh (fun (w':World) (hb:Below w5.heap.size w5 w')=>show Calls Tryz.prog 10 #[.pointer (some ⟨a,0,none⟩)] w' fun e w2=>e=.returned (.int .u32 ((2 ^ (j-1):Nat):Int))/\Below w'.heap.size w' w2 from by have:=Zff w' a p (AA.below hb) hps;rwa [hpf] at this)
      have hD:=HD.out
      rw [hdl] at hD
      obtain ⟨Ad,cd,rfl⟩:=Zl hD
      have d16:decide ((j:Int) > 16)=false:=decide_eq_false (by omega)
      have d16':¬ (16:Int)<(j:Int):=by omega
      have hj1:=HK.out.1
      clear FY hp ha hpn hpf hps hsz AA hD hdl HD
      have cj:j=1\/j=2\/j=3\/j=4\/j=5\/j=6\/j=7\/j=8\/j=9\/j=10\/j=11\/j=12\/j=13\/j=14\/j=15\/j=16:=by omega
      go_upto_region 22 with (go_at_call 9;(refine FYH.out.mono ?_);rintro e w6 ⟨rfl,rfl⟩)
      clear d16 d16' k16 FYH
      refine ZdQ (fun x=>{ tmps:=List.toArray (.int .u8 nv::.bool true::undef::undef::x 14::.int .i64 j::.pointer (some ⟨w1.heap.size+1+1+1,0,none⟩)::.func (.func 6) #[] #[]::.func (.func 7) #[] #[.pointer (some ⟨w1.heap.size+1+1+1,0,none⟩)]::.int .i64 j::u10::.int .i64 q::.pointer (some ⟨bk,0,none⟩)::.slice Ad 0 cd::.pointer (some ⟨a,0,none⟩)::.bool true::.bool true::.bool false::.int .u8 nv::.int .i64 nv::.int .i64 (nv % 20)::.int .i64 j::.slice (some ⟨w1.heap.size,0,none⟩) 1 1::.agg #[.int .i64 0,.slice none 0 0,.slice none 0 0,.slice (some ⟨w1.heap.size,0,none⟩) 1 1,.int .i64 0]::.slice (some ⟨w1.heap.size+1,0,none⟩) 1 1::.agg #[.int .i64 1,.slice (some ⟨w1.heap.size+1,0,none⟩) 1 1,.slice none 0 0,.slice none 0 0,.int .i64 0]::.slice (some ⟨w1.heap.size+1+1,0,none⟩) 2 2::.func (.func 7) #[] #[.pointer (some ⟨w1.heap.size+1+1+1,0,none⟩)]::.int .i64 j::.int .i64 j::.bool false::u31::u32::u33::u34::u35::u36::u37::u38::u39::u40::u41::u42::u43::u44::u45::u46::u47::u48::.int .i64 q::.int .i64 ((q:Int)+1)::.int .i64 j::.bool false::u53::u54::u55::u56::u57::u58::u59::u60::u61::u62::u63::u64::u65::.tuple #[.pointer (some ⟨bk,0,none⟩),.slice Ad 0 cd]::V::.tuple #[.pointer (some ⟨bk,0,none⟩),.slice Ad 0 cd]::.pointer (some ⟨bk,0,none⟩)::.slice Ad 0 cd::.tuple #[.pointer (some ⟨a,0,none⟩),.bool true]::.pointer (some ⟨bk,0,none⟩)::.tuple #[.pointer (some ⟨a,0,none⟩),.bool true]::.pointer (some ⟨a,0,none⟩)::.bool true::.bool true::.bool false::.bool false::.int .i64 j::.bool false::.bool false::undef::undef::undef::undef::undef::undef::undef::undef::undef::undef::undef::undef::undef::undef::x 0::x 1::x 2::x 3::x 4::x 5::x 6::x 7::x 8::x 9::x 10::x 11::x 12::x 13::[]),defers:=[] }) (fun j=>if j=14 then .bool false else undef) (fiR Ad cd a j) (by kernel_rfl) (by kernel_rfl) (by rfl) ?_ (ZhP Ad cd a j) ?_ ?_
      ·intro i o ho x v
       have hi:i<15:=(Array.getElem?_eq_some_iff.1 ho).1
       have hc:i=0\/i=1\/i=2\/i=3\/i=4\/i=5\/i=6\/i=7\/i=8\/i=9\/i=10\/i=11\/i=12\/i=13\/i=14:=by omega
       rcases hc with rfl | rfl | rfl | rfl | rfl | rfl | rfl | rfl | rfl | rfl | rfl | rfl | rfl | rfl | rfl <;>
       ·have e:=Option.some.inj ho
        subst e
        rfl
      ·intro i o ho x w9 hb hd K' hK
       have hi:i<15:=(Array.getElem?_eq_some_iff.1 ho).1
       have hc:i=0\/i=1\/i=2\/i=3\/i=4\/i=5\/i=6\/i=7\/i=8\/i=9\/i=10\/i=11\/i=12\/i=13\/i=14:=by omega
       rcases hc with rfl | rfl | rfl | rfl | rfl | rfl | rfl | rfl | rfl | rfl | rfl | rfl | rfl | rfl | rfl<;>(have e:=Option.some.inj ho;subst e)
       ·go_simp
        exact hK.out _ _ (Below.refl _ _) rfl
       ·have d0:=hd ⟨0,.data⟩ (by simp) rfl
        dsimp only [fiR] at d0
        generalize x 0=z0 at *
        subst d0
        go_simp
        exact hK.out _ _ (Below.refl _ _) rfl
       ·have d1:=hd ⟨1,.guard⟩ (by simp) rfl
        dsimp only [fiR] at d1
        generalize x 1=z1 at *
        subst d1
        go_simp
        exact hK.out _ _ (Below.refl _ _) rfl
       ·have d1:=hd ⟨1,.guard⟩ (by simp) rfl
        have d2:=hd ⟨2,.data⟩ (by simp) rfl
        dsimp only [fiR] at d1 d2
        generalize x 1=z1 at *
        generalize x 2=z2 at *
        subst d1 d2
        go_simp
        exact hK.out _ _ (Below.refl _ _) rfl
       ·have d1:=hd ⟨1,.guard⟩ (by simp) rfl
        have d3:=hd ⟨3,.data⟩ (by simp) rfl
        dsimp only [fiR] at d1 d3
        generalize x 1=z1 at *
        generalize x 3=z3 at *
        subst d1 d3
        go_simp
        exact hK.out _ _ (Below.refl _ _) rfl
       ·have d1:=hd ⟨1,.data⟩ (by simp) rfl
        have d4:=hd ⟨4,.data⟩ (by simp) rfl
        dsimp only [fiR] at d1 d4
        generalize x 1=z1 at *
        generalize x 4=z4 at *
        subst d1 d4
        go_simp
        exact hK.out _ _ (Below.refl _ _) rfl
       ·have d5:=hd ⟨5,.data⟩ (by simp) rfl
        dsimp only [fiR] at d5
        generalize x 5=z5 at *
        subst d5
        go_simp
        exact hK.out _ _ (Below.refl _ _) rfl
       ·have d6:=hd ⟨6,.guard⟩ (by simp) rfl
        dsimp only [fiR] at d6
        generalize x 6=z6 at *
        subst d6
        go_simp
        exact hK.out _ _ (Below.refl _ _) rfl
       ·have d6:=hd ⟨6,.guard⟩ (by simp) rfl
        have d7:=hd ⟨7,.data⟩ (by simp) rfl
        dsimp only [fiR] at d6 d7
        generalize x 6=z6 at *
        generalize x 7=z7 at *
        subst d6 d7
        go_simp
        go_at_call 10
        refine (FA.out w9 hb).mono ?_
        rintro e' w2 ⟨rfl,hb2⟩
        go_wp2_with fail
        exact hK.out _ _ hb2 rfl
       ·have d6:=hd ⟨6,.guard⟩ (by simp) rfl
        dsimp only [fiR] at d6
        generalize x 6=z6 at *
        subst d6
        go_simp
        exact hK.out _ _ (Below.refl _ _) rfl
       ·have d6:=hd ⟨6,.guard⟩ (by simp) rfl
        have d9:=hd ⟨9,.data⟩ (by simp) rfl
        dsimp only [fiR] at d6 d9
        generalize x 6=z6 at *
        generalize x 9=z9 at *
        subst d6 d9
        have wj:IntKind.i64.wrap ((j:Int)-1)=(j:Int)-1:=IntWalk.i64_in _ (by omega)
        go_simp
        exact hK.out _ _ (Below.refl _ _) rfl
       ·have d6:=hd ⟨6,.guard⟩ (by simp) rfl
        have d10:=hd ⟨10,.data⟩ (by simp) rfl
        dsimp only [fiR] at d6 d10
        generalize x 6=z6 at *
        generalize x 10=z10 at *
        subst d6 d10
        rcases cj with rfl | rfl | rfl | rfl | rfl | rfl | rfl | rfl | rfl | rfl | rfl | rfl | rfl | rfl | rfl | rfl<;>(go_simp;exact hK.out _ _ (Below.refl _ _) rfl)
       ·have d6:=hd ⟨6,.guard⟩ (by simp) rfl
        have d8:=hd ⟨8,.data⟩ (by simp) rfl
        have d11:=hd ⟨11,.data⟩ (by simp) rfl
        dsimp only [fiR] at d6 d8 d11
        generalize x 6=z6 at *
        generalize x 8=z8 at *
        generalize x 11=z11 at *
        subst d6 d8 d11
        have ee:(((2 ^ (j-1):Nat):Int)==((2 ^ (j-1):Nat):Int))=true:=by simp
        generalize ((2 ^ (j-1):Nat):Int)=pw at *
        go_simp
        exact hK.out _ _ (Below.refl _ _) rfl
       ·have d6:=hd ⟨6,.data⟩ (by simp) rfl
        have d12:=hd ⟨12,.data⟩ (by simp) rfl
        dsimp only [fiR] at d6 d12
        generalize x 6=z6 at *
        generalize x 12=z12 at *
        subst d6 d12
        go_simp
        exact hK.out _ _ (Below.refl _ _) rfl
       ·have d13:=hd ⟨13,.data⟩ (by simp) rfl
        dsimp only [fiR] at d13
        generalize x 13=z13 at *
        subst d13
        go_simp
        exact hK.out _ _ (Below.refl _ _) rfl
      ·intro x w9 hb hx
       have h14:=hx 14 (by decide)
       dsimp only [fiR] at h14
       generalize x 0=y0 at *
       generalize x 1=y1 at *
       generalize x 2=y2 at *
       generalize x 3=y3 at *
       generalize x 4=y4 at *
       generalize x 5=y5 at *
       generalize x 6=y6 at *
       generalize x 7=y7 at *
       generalize x 8=y8 at *
       generalize x 9=y9 at *
       generalize x 10=y10 at *
       generalize x 11=y11 at *
       generalize x 12=y12 at *
       generalize x 13=y13 at *
       generalize x 14=y14 at *
       subst h14
       clear hx
       have HL:=zh (H3.out.2.trans (hb.mono H3.out.2.size))
       go_wp2_with fail
       go_ret
       exact ⟨rfl,HL.out⟩
     ·have d16:decide ((j:Int) > 16)=true:=decide_eq_true (by omega)
      have d16':(16:Int)<(j:Int):=by omega
      have F3:=H2.out.2.2.1.2.2
      rw [if_neg (fun q=>k16 q.2)] at F3
      obtain ⟨F3,F4⟩:=F3
      have hdl:(Zah (chN j true (2*j-1))).ds.length=1:=by have:=congrArg List.length F3;rwa [List.length_map] at this
      obtain ⟨d,hd⟩:∃ d,(Zah (chN j true (2*j-1))).ds[0]? = some d:=⟨_,List.getElem?_eq_getElem (by omega)⟩
      have d1:d.1=1:=by
       have:=congrArg (fun l=>l[0]?) F3
       simp only [List.getElem?_map,hd,Option.map_some,List.getElem?_cons_zero,Option.some.injEq] at this
       exact this
      have hD:=HD.out
      rw [hdl] at hD
      obtain ⟨gd,cd,cur,rfl,_,_,_,_⟩:=Zcl hD (by omega)
      obtain ⟨_,_,r3⟩:=Zac hD
      obtain ⟨ad,e,_,hc⟩:=r3.2 (by omega)
      injection e with e
      subst e
      have z0:=ZaB (f:=dgC) (m:=3) (fun _=>rfl) _ 0 0 d hd (by omega)
      have y0:=hc _ _ (z0.trans (show (dgC d)[0]? = some (.int .i64 1) from by unfold dgC;rw [d1];rfl))
      rw [Addr.add_lit] at y0
      simp only [Nat.zero_mul,Nat.add_zero] at y0
      have FN:=zh (ZfM w5 _ bk bm _ al H3.out.1 [80] F4 (by decide))
      clear F3 F4 hdl hd d1 hD r3 hc z0 HD
      go_wp2_with (go_at_call 9;(refine FN.out.mono ?_);rintro e w6 ⟨rfl,rfl⟩)
      exact bodyPost_ret (v:=.bool true) (by simp [results,Tryz.results3,go_sem]) rfl ⟨rfl,H3.out.2⟩
theorem Zey (w:World) (ht:ZZ w 0 Zh) (nv:Int) (hn:0<=nv/\nv<256) (k:Nat) (hk:1+nv % 20=(k:Int)) (k1:1<=k) (k2:k<=20) :
  Calls Tryz.prog 3 #[.int .u8 nv,.bool false] w fun e w'=>e=.returned (.bool true)/\Below w.heap.size w w':=by
 have AW:=zh (ZfJ w ht)
 have HT:=zh ht
 have wn:IntKind.i64.wrap nv=nv:=IntWalk.i64_in _ (by omega)
 have wk:IntKind.i64.wrap (1+nv % 20)=1+nv % 20:=IntWalk.i64_in _ (by omega)
 clear ht
 go_enter Tryz.func3,Tryz.ntmps3
 go_upto_region 3 with (go_at_call 5;(refine AW.out.mono ?_);rintro e w1 ⟨rfl,hb1⟩;have H1:=zh hb1;clear hb1)
 clear AW
 go_upto_region 4 with fail
 try rw [hk]
 have CS:=zh (Zew w1 k false)
 have HK:=zh (zi k1 k2)
 clear wn wk hk hn k1 k2
 go_upto_region 8 with fail
 generalize ((((w1.alloc (.cells #[.int .i64 1] 3)).alloc (.cells #[txt [80]] 9)).alloc (.cells #[.int .i64 0,.slice none 0 0,.slice none 0 0,.slice (some ⟨w1.heap.size,0,none⟩) 1 1,.int .i64 0,.int .i64 1,.slice (some ⟨w1.heap.size+1,0,none⟩) 1 1,.slice none 0 0,.slice none 0 0,.int .i64 0] 27)).alloc (.cells #[.slice (some ⟨w1.heap.size+1+1,0,none⟩) 2 2] 28))=wS at *
 go_loopg [9,10] k (fun g v9 v10 wr=>∃ (j:Nat) (V:Value),v9=.int .i64 j/\j<=k/\g=k-j/\ChAt wr w1.heap.size (w1.heap.size+1+1+1) (chN k false j) V/\Below w1.heap.size w1 wr)
 case atStart=>exact ⟨0,_,rfl,Nat.zero_le _,rfl,CS.out.1,CS.out.2⟩
 case round=>
  obtain ⟨j,V,rfl,hj,hg,hC,hW⟩:=hrel
  by_cases hin:j<k
  ·have i1:(j:Int)<(k:Int):=by omega
   have wj:IntKind.i64.wrap ((j:Int)+1)=(j:Int)+1:=IntWalk.i64_in _ (by have:=HK.out;omega)
   have wk1:IntKind.i64.wrap ((k:Int)-1)=(k:Int)-1:=IntWalk.i64_in _ (by have:=HK.out;omega)
   have NM:=zh (fun w=>ZaP j (by have:=HK.out;omega) w)
   have HC:=zh (zi hC (zi hW (zi hin (zi HK.out.2 hg))))
   clear hC hW hj hg hin
   go_wp2_with (first
    | (go_at_call 6;(with_reducible refine (NM.out _).mono ?_);rintro e w2 ⟨rfl,hb2⟩)
    | (go_at_call 7;(refine (Zbp ((w2.alloc (.cells #[txt (chS j)] 9)).alloc (.cells #[.int .i64 0] 2)) w1.heap.size (w1.heap.size+1+1+1) V (chN k false j) ((HC.out.1.keep hb2).keep (Zb3 w2 _ _)) _ _ 2 0 [chS j] [0] (ZcW w2 w1.heap.size (Nat.le_trans HC.out.2.1.size hb2.size) _ (Zbk j) _) (by have:=HC.out.2.1.size;have:=hb2.size;simp only [World.size_alloc];omega) (by omega) (by rw [Zbj];have:=HC.out.2.2;omega) (by rw [Zbz];have:=HC.out.2.2;omega)).mono ?_);rintro e w4 ⟨rfl,V4,hC4,hb4⟩))
   have hN:Zbo (chN k false j) ⟨2,[chS j],[0],[],0⟩=chN k false (j+1):=by rw [ZbD,ZbV HC.out.2.2.1];simp
   rw [hN] at hC4
   have HC4:=zh (zi hC4 (HC.out.2.1.trans ((hb2.mono HC.out.2.1.size).trans (((Zb3 w2 _ _).mono (Nat.le_trans HC.out.2.1.size hb2.size)).trans hb4))))
   clear hC4 hb4 hb2 hN
   go_wp2_with fail
   go_roundg (k-(j+1))
   case measure=>have:=HC.out.2.2;omega
   case rel=>exact ⟨j+1,V4,by push_cast;rfl,by have:=HC.out.2.2;omega,rfl,HC4.out.1,HC4.out.2⟩
  ·obtain rfl:j=k:=by omega
   have i1:¬ (j:Int)<(j:Int):=by omega
   have i2:decide ((j:Int)<(j:Int))=false:=decide_eq_false i1
   have HC:=zh (zi hC hW)
   clear hC hW hj hg hin CS
   go_upto_region 15 with fail
   go_loopg [11] j (fun g v11 wr'=>∃ (q:Nat) (V:Value),v11=.int .i64 q/\q+1<=j/\g=j-q/\ChAt wr' w1.heap.size (w1.heap.size+1+1+1) (chN j false (j+q)) V/\Below w1.heap.size w1 wr')
   case atStart=>exact ⟨0,V,rfl,HK.out.1,rfl,HC.out.1,HC.out.2⟩
   case round=>
    obtain ⟨q,V,rfl,hq,hg,hC,hW⟩:=hrel
    have wq:IntKind.i64.wrap ((q:Int)+1)=(q:Int)+1:=IntWalk.i64_in _ (by have:=HK.out;omega)
    by_cases hin:q+1<j
    ·have i1:(q:Int)+1<(j:Int):=by omega
     have NM:=zh (fun w=>ZaP q (by have:=HK.out;omega) w)
     have NM2:=zh (fun w=>show Calls Tryz.prog 6 #[.int .i64 ((q:Int)+1)] w fun e w'=>e=.returned (txt (chS (q+1)))/\Below w.heap.size w w' from by have:=ZaP (q+1) (by have:=HK.out;omega) w;rwa [show ((q+1:Nat):Int)=(q:Int)+1 by push_cast;rfl] at this)
     have HC:=zh (zi hC (zi hW (zi hin (zi HK.out.2 hg))))
     clear hC hW hq hg hin
     go_wp2_with (first
      | (go_at_call 6;(with_reducible refine (NM.out _).mono ?_);rintro e w2 ⟨rfl,hb2⟩)
      | (go_at_call 6;(with_reducible refine (NM2.out _).mono ?_);rintro e w3 ⟨rfl,hb3⟩)
      | (go_at_call 7;(refine (Zbp (w3.alloc (.cells #[txt [111,110],txt (chS q),txt [111,107],txt (chS (q+1))] 9)) w1.heap.size (w1.heap.size+1+1+1) V (chN j false (j+q)) (((HC.out.1.keep hb2).keep hb3).keep (below_alloc1 w3 _)) _ _ 3 0 [[111,110],chS q,[111,107],chS (q+1)] [] (Ziu w3 w1.heap.size (Nat.le_trans HC.out.2.1.size (Nat.le_trans hb2.size hb3.size)) _ _ (Zbk q) (Zbk (q+1))) (by have:=HC.out.2.1.size;have:=hb2.size;have:=hb3.size;simp only [World.size_alloc];omega) (by omega) (by rw [Zbj];have:=HC.out.2.2;omega) (by rw [Zbz];have:=HC.out.2.2;omega)).mono ?_);rintro e w4 ⟨rfl,V4,hC4,hb4⟩))
     have hN:Zbo (chN j false (j+q)) ⟨3,[[111,110],chS q,[111,107],chS (q+1)],[],[],0⟩=chN j false (j+(q+1)):=by rw [show j+(q+1)=(j+q)+1 by omega,ZbD,Zeu]
     rw [hN] at hC4
     have s2:=Nat.le_trans HC.out.2.1.size hb2.size
     have HC4:=zh (zi hC4 (HC.out.2.1.trans ((hb2.mono HC.out.2.1.size).trans ((hb3.mono s2).trans (((below_alloc1 w3 _).mono (Nat.le_trans s2 hb3.size)).trans hb4)))))
     clear hC4 hb4 hb3 hb2 hN s2
     go_wp2_with fail
     go_roundg (j-(q+1))
     case measure=>have:=HC.out.2.2;omega
     case rel=>exact ⟨q+1,V4,by push_cast;rfl,by have:=HC.out.2.2;omega,rfl,HC4.out.1,HC4.out.2⟩
    ·have i1:¬ (q:Int)+1<(j:Int):=by omega
     have i2:decide ((q:Int)+1<(j:Int))=false:=decide_eq_false i1
     have hq2:j+q=2*j-1:=by omega
     rw [hq2] at hC
     have F:=Zev j HK.out.1 HK.out.2 false
     obtain ⟨rs,x,r1,r2,r3,r4⟩:=hC.row
     have hNA:=r1.nodes
     rw [r2] at hNA
     have bx:=hC.box.blk.cell 0
     simp only [List.getElem?_toArray,List.getElem?_cons_zero] at bx
     clear r1 r2 r3 r4 x rs
     have H2:=zh (zi hNA (zi (HT.out.below (H1.out.trans (hW.mono H1.out.size))) (zi F (H1.out.trans (hW.mono H1.out.size)))))
     clear F hNA hC hW hq hg hin hq2
     go_upto_region 19 with (go_at_call 8;(refine (ZcY _ _ _ H2.out.1 H2.out.2.1 H2.out.2.2.1.1).mono ?_);rintro e w5 ⟨bk,bm,al,vd,rfl,hB,hD,hb5⟩;have H3:=zh (zi hB (H2.out.2.2.2.trans (hb5.mono H2.out.2.2.2.size)));have HD:=zh hD;clear hB hb5 hD)
     clear bx i1 i2 wq
     have F3:=H2.out.2.2.1.2.2
     rw [if_neg (fun q=>by cases q.1)] at F3
     obtain ⟨F3,F4⟩:=F3
     have hdl:(Zah (chN j false (2*j-1))).ds.length=1:=by have:=congrArg List.length F3;rwa [List.length_map] at this
     obtain ⟨d,hd⟩:∃ d,(Zah (chN j false (2*j-1))).ds[0]? = some d:=⟨_,List.getElem?_eq_getElem (by omega)⟩
     have d1:d.1=1:=by
      have:=congrArg (fun l=>l[0]?) F3
      simp only [List.getElem?_map,hd,Option.map_some,List.getElem?_cons_zero,Option.some.injEq] at this
      exact this
     have hD:=HD.out
     rw [hdl] at hD
     obtain ⟨gd,cd,cur,rfl,_,_,_,_⟩:=Zcl hD (by omega)
     obtain ⟨_,_,r3⟩:=Zac hD
     obtain ⟨ad,e,_,hc⟩:=r3.2 (by omega)
     injection e with e
     subst e
     have z0:=ZaB (f:=dgC) (m:=3) (fun _=>rfl) _ 0 0 d hd (by omega)
     have y0:=hc _ _ (z0.trans (show (dgC d)[0]? = some (.int .i64 1) from by unfold dgC;rw [d1];rfl))
     rw [Addr.add_lit] at y0
     simp only [Nat.zero_mul,Nat.add_zero] at y0
     have FN:=zh (ZfM w5 _ bk bm _ al H3.out.1 [80] F4 (by decide))
     clear F3 F4 hdl hd d1 hD r3 hc z0 HD
     go_wp2_with (go_at_call 9;(refine FN.out.mono ?_);rintro e w6 ⟨rfl,rfl⟩)
     exact bodyPost_ret (v:=.bool true) (by simp [results,Tryz.results3,go_sem]) rfl ⟨rfl,H3.out.2⟩
end
section
open Go.RowKit
theorem Zf4 (w:World) (ht:ZZ w 0 Zh) (nv:Int) (hw:(Lit.int .u8 nv).wf=true) (b:Bool) :
  Calls Tryz.prog 3 #[.int .u8 nv,.bool b] w fun e w'=>e=.returned (.bool true)/\Below w.heap.size w w':=by
 have hn:0<=nv/\nv<256:=by
  have:=Zjr hw
  omega
 obtain ⟨k,hk⟩:∃ k:Nat,1+nv % 20=(k:Int):=⟨(1+nv % 20).toNat,by omega⟩
 cases b
 ·exact Zey w ht nv hn k hk (by omega) (by omega)
 ·exact Zfj w ht nv hn k hk (by omega) (by omega)
end
end Go.Proofs.YtkgkmdhpnhmcpaaGreatDoor
