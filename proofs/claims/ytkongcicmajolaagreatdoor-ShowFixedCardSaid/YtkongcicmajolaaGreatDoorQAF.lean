import Derived.Lib.ItoaLen
import Derived.RegionTactic
import Derived.Test.YtkongcicmajolaaGreatDoorQAC
import Derived.Test.YtkongcicmajolaaGreatDoorQAE
set_option maxRecDepth 100000
set_option maxHeartbeats 8000000
namespace Go.Proofs.YtkongcicmajolaaGreatDoor
section
open Go.RowKit
abbrev Zff (w0 w:World):Prop:=Lib.TabBelow Tryz.prog w0.heap.size w "internal/strconv.uint64pow10" .u64 Lib.pow10Tab
theorem ZgI (t:Txt):u8s t=Lib.byteCells t:=by simp [u8s,Lib.strCells,Lib.byteCells]
theorem Fr.of_kept {w w':World} (bp:Nat) (hb:w.heap.size<=w'.heap.size) (h:Lib.OthersKept 5 none w w'):Fr w w' bp:=
 ⟨hb,fun b ty cs _ h2 h3=>h b _ h3 (by simp) (fun c fz e=>h2 (by injection e))⟩
theorem PrS.put {w0 w w2:World} {bp dp:Nat} {t t2:Txt} {vn v:Value} (h:PrS w0 w bp t dp vn) (hf:∀ ty cs,ty≠5->Zh w bp ty cs->Zh w2 bp ty cs) (hb:Below w0.heap.size w0 w2) (ho:w2.ownsRow w0.heap.size 5 1 v t2.length (u8s t2)):PrS w0 (w2.setCell ⟨bp,0,none⟩ v) bp t2 dp vn:=by
 obtain ⟨v0,h1,_⟩:=h.box
 have k:=hf _ _ (by decide) h1
 exact ⟨⟨v,by simpa using k.set 0 v,ZdJ ho (k.off ho (by decide))⟩,hb.setCell h.ge _,h.ge⟩
theorem Fr.put {w w2:World} {bp:Nat} {v:Value} (h:Fr w w2 bp):Fr w (w2.setCell ⟨bp,0,none⟩ v) bp:=
 ⟨by have:=h.size;simpa [World.setCell] using this,fun b ty cs h1 h2 h3=>Zh.other (h.at_ b ty cs h1 h2 h3) (fun e=>h1 e.symm) _⟩
theorem Zg6 (w0 w:World) (bp dp:Nat) (t:Txt) (vn:Value) (n:Int) (h:PrS w0 w bp t dp vn) (ht:Zff w0 w) (h0:-9223372036854775808<=n) (h1:n<=9223372036854775807) (hl:t.length+21<=140737488355328) :
  Calls Tryz.prog 52 #[.pointer (some ⟨bp,0,none⟩),.int .i64 n] w fun e w'=>e=.returned (.tuple #[])/\PrS w0 w' bp (t++ZbP n) dp vn/\Fr w w' bp:=by
 have S0:=zh h
 obtain ⟨v,hv,ho⟩:=h.box
 obtain ⟨A,c,rfl⟩:=Zby ho
 have AI:=zh (Tryz.strconv_AppendInt_10 w0.heap.size t.length n h0 h1 _ _ w ho h.below.size hl ht)
 have e0:=hv.blk.cell 0
 simp only [List.getElem?_toArray,List.getElem?_cons_zero] at e0
 have HV:=zh hv
 clear h hv ho ht h0 h1 hl
 go_enter Tryz.func52,Tryz.ntmps52
 go_wp2_with (go_at_call 77;(refine AI.out.mono ?_);rintro e w1 ⟨v1,rfl,ho1,hb1,hk1⟩;(have ho2:w1.ownsRow w0.heap.size 5 1 v1 (t++ZbP n).length (u8s (t++ZbP n)):=(by rw [List.length_append,Zm3,ZgI (ZbP n)];exact ho1));obtain ⟨A1,c1,rfl⟩:=Zby ho2;have F1:=Fr.of_kept bp hb1.size hk1;(have k1:Zh w1 bp _ _:=hk1 bp _ HV.out (by simp) (fun c fz e=>by injection e with _ e;exact absurd e (by decide)));have e1:=k1.blk.cell 0;have f1:=k1.blk.free 0;simp only [List.getElem?_toArray,List.getElem?_cons_zero] at e1;have H1:=zh (zi ho2 (zi hb1 (zi F1 hk1)));clear ho1 ho2 hb1 hk1 F1 k1)
 go_end0
 refine ⟨rfl,PrS.put S0.out (fun ty cs h2 h3=>H1.out.2.2.2 bp _ h3 (by simp) (fun c fz e=>h2 (by injection e))) (S0.out.below.trans H1.out.2.1) ?_,Fr.put H1.out.2.2.1⟩
 first
  | exact H1.out.1
  | (have:=H1.out.1;rw [List.length_append] at this ⊢;exact this)
theorem Zaf (w0 w:World) (bp dp:Nat) (t:Txt) (vn:Value) (a0:Txt) (h:PrS w0 w bp t dp vn) (hl:t.length+(a0.length)<=140737488355328) :
  Calls Tryz.prog 36 #[.pointer (some ⟨bp,0,none⟩),.slice (some ⟨w.heap.size,0,none⟩) 1 1] (w.alloc (.cells #[txt a0] 9)) fun e w'=>e=.returned (.tuple #[])/\PrS w0 w' bp (t++(a0)) dp vn/\Fr w w' bp:=by
 have k:=below_alloc1 w (.cells #[txt a0] 9)
 refine (ZfQ w0 _ bp w.heap.size dp t vn [a0] (h.keep k) (Zh.start _ _ _) (by simp only [List.length_append,List.flatten_cons,List.flatten_nil,List.length_nil];omega) (by simp)).mono ?_
 rintro e w' ⟨he,hp,hf⟩
 refine ⟨he,?_,(Fr.of_below bp k).trans hf⟩
 have e1:[a0].flatten=a0:=by simp
 rw [e1] at hp
 exact hp
theorem Zds (w0 w:World) (bp dp:Nat) (t:Txt) (vn:Value) (a0 a1:Txt) (h:PrS w0 w bp t dp vn) (hl:t.length+(a0.length+a1.length)<=140737488355328) :
  Calls Tryz.prog 36 #[.pointer (some ⟨bp,0,none⟩),.slice (some ⟨w.heap.size,0,none⟩) 2 2] (w.alloc (.cells #[txt a0,txt a1] 9)) fun e w'=>e=.returned (.tuple #[])/\PrS w0 w' bp (t++(a0++a1)) dp vn/\Fr w w' bp:=by
 have k:=below_alloc1 w (.cells #[txt a0,txt a1] 9)
 refine (ZfQ w0 _ bp w.heap.size dp t vn [a0,a1] (h.keep k) (Zh.start _ _ _) (by simp only [List.length_append,List.flatten_cons,List.flatten_nil,List.length_nil];omega) (by simp)).mono ?_
 rintro e w' ⟨he,hp,hf⟩
 refine ⟨he,?_,(Fr.of_below bp k).trans hf⟩
 have e1:[a0,a1].flatten=a0++a1:=by simp
 rw [e1] at hp
 exact hp
theorem ZpN (w0 w:World) (bp dp:Nat) (t:Txt) (vn:Value) (a0 a1 a2:Txt) (h:PrS w0 w bp t dp vn) (hl:t.length+(a0.length+a1.length+a2.length)<=140737488355328) :
  Calls Tryz.prog 36 #[.pointer (some ⟨bp,0,none⟩),.slice (some ⟨w.heap.size,0,none⟩) 3 3] (w.alloc (.cells #[txt a0,txt a1,txt a2] 9)) fun e w'=>e=.returned (.tuple #[])/\PrS w0 w' bp (t++(a0++a1++a2)) dp vn/\Fr w w' bp:=by
 have k:=below_alloc1 w (.cells #[txt a0,txt a1,txt a2] 9)
 refine (ZfQ w0 _ bp w.heap.size dp t vn [a0,a1,a2] (h.keep k) (Zh.start _ _ _) (by simp only [List.length_append,List.flatten_cons,List.flatten_nil,List.length_nil];omega) (by simp)).mono ?_
 rintro e w' ⟨he,hp,hf⟩
 refine ⟨he,?_,(Fr.of_below bp k).trans hf⟩
 have e1:[a0,a1,a2].flatten=a0++a1++a2:=by simp
 rw [e1] at hp
 exact hp
theorem Zid (w0 w:World) (bp dp:Nat) (t:Txt) (vn:Value) (a0 a1 a2 a3:Txt) (h:PrS w0 w bp t dp vn) (hl:t.length+(a0.length+a1.length+a2.length+a3.length)<=140737488355328) :
  Calls Tryz.prog 36 #[.pointer (some ⟨bp,0,none⟩),.slice (some ⟨w.heap.size,0,none⟩) 4 4] (w.alloc (.cells #[txt a0,txt a1,txt a2,txt a3] 9)) fun e w'=>e=.returned (.tuple #[])/\PrS w0 w' bp (t++(a0++a1++a2++a3)) dp vn/\Fr w w' bp:=by
 have k:=below_alloc1 w (.cells #[txt a0,txt a1,txt a2,txt a3] 9)
 refine (ZfQ w0 _ bp w.heap.size dp t vn [a0,a1,a2,a3] (h.keep k) (Zh.start _ _ _) (by simp only [List.length_append,List.flatten_cons,List.flatten_nil,List.length_nil];omega) (by simp)).mono ?_
 rintro e w' ⟨he,hp,hf⟩
 refine ⟨he,?_,(Fr.of_below bp k).trans hf⟩
 have e1:[a0,a1,a2,a3].flatten=a0++a1++a2++a3:=by simp
 rw [e1] at hp
 exact hp
theorem ZpO (w0 w:World) (bp dp:Nat) (t:Txt) (vn:Value) (a0 a1 a2 a3 a4:Txt) (h:PrS w0 w bp t dp vn) (hl:t.length+(a0.length+a1.length+a2.length+a3.length+a4.length)<=140737488355328) :
  Calls Tryz.prog 36 #[.pointer (some ⟨bp,0,none⟩),.slice (some ⟨w.heap.size,0,none⟩) 5 5] (w.alloc (.cells #[txt a0,txt a1,txt a2,txt a3,txt a4] 9)) fun e w'=>e=.returned (.tuple #[])/\PrS w0 w' bp (t++(a0++a1++a2++a3++a4)) dp vn/\Fr w w' bp:=by
 have k:=below_alloc1 w (.cells #[txt a0,txt a1,txt a2,txt a3,txt a4] 9)
 refine (ZfQ w0 _ bp w.heap.size dp t vn [a0,a1,a2,a3,a4] (h.keep k) (Zh.start _ _ _) (by simp only [List.length_append,List.flatten_cons,List.flatten_nil,List.length_nil];omega) (by simp)).mono ?_
 rintro e w' ⟨he,hp,hf⟩
 refine ⟨he,?_,(Fr.of_below bp k).trans hf⟩
 have e1:[a0,a1,a2,a3,a4].flatten=a0++a1++a2++a3++a4:=by simp
 rw [e1] at hp
 exact hp
theorem ZpP (w0 w:World) (bp dp:Nat) (t:Txt) (vn:Value) (a0 a1 a2 a3 a4 a5 a6:Txt) (h:PrS w0 w bp t dp vn) (hl:t.length+(a0.length+a1.length+a2.length+a3.length+a4.length+a5.length+a6.length)<=140737488355328) :
  Calls Tryz.prog 36 #[.pointer (some ⟨bp,0,none⟩),.slice (some ⟨w.heap.size,0,none⟩) 7 7] (w.alloc (.cells #[txt a0,txt a1,txt a2,txt a3,txt a4,txt a5,txt a6] 9)) fun e w'=>e=.returned (.tuple #[])/\PrS w0 w' bp (t++(a0++a1++a2++a3++a4++a5++a6)) dp vn/\Fr w w' bp:=by
 have k:=below_alloc1 w (.cells #[txt a0,txt a1,txt a2,txt a3,txt a4,txt a5,txt a6] 9)
 refine (ZfQ w0 _ bp w.heap.size dp t vn [a0,a1,a2,a3,a4,a5,a6] (h.keep k) (Zh.start _ _ _) (by simp only [List.length_append,List.flatten_cons,List.flatten_nil,List.length_nil];omega) (by simp)).mono ?_
 rintro e w' ⟨he,hp,hf⟩
 refine ⟨he,?_,(Fr.of_below bp k).trans hf⟩
 have e1:[a0,a1,a2,a3,a4,a5,a6].flatten=a0++a1++a2++a3++a4++a5++a6:=by simp
 rw [e1] at hp
 exact hp
theorem Zhh (w0 w:World) (bp dp:Nat) (t:Txt) (vn:Value) (n d:Int) (h:PrS w0 w bp t dp vn) (ht:Zff w0 w0) (hn:-9223372036854775808<=n/\n<=9223372036854775807) (hd:-9223372036854775808<=d/\d<=9223372036854775807) (hl:t.length+100<=140737488355328) :
  Calls Tryz.prog 67 #[.pointer (some ⟨bp,0,none⟩),.int .i64 n,.int .i64 d] w fun e w'=>e=.returned (.tuple #[])/\PrS w0 w' bp (t++Zdk n d) dp vn/\Fr w w' bp:=by
 have l1:=Lib.itoa_length_le n hn.1 hn.2
 have N1:=zh (Zg6 w0 w bp dp t vn n h (ht.on h.below) hn.1 hn.2 (by omega))
 have HD:=zh (zi ht (zi hd (show t.length+(ZbP n).length+50<=140737488355328 by unfold ZbP;omega)))
 clear h ht hn hd hl l1
 go_enter Tryz.func67,Tryz.ntmps67
 go_upto_region 1 with (go_at_call 52;(refine N1.out.mono ?_);rintro e w1 ⟨rfl,hp,hf⟩;have H1:=zh (zi hp hf);clear hp hf)
 have A1:=zh (Zaf w0 w1 bp dp _ vn [47] H1.out.1 (by have:=HD.out.2.2;rw [List.length_append];simp only [List.length_cons,List.length_nil];omega))
 go_upto_region 2 with (go_at_call 36;(refine A1.out.mono ?_);rintro e w2 ⟨rfl,hp,hf⟩;have H2:=zh (zi hp (H1.out.2.trans hf));clear hp hf)
 have N2:=zh (Zg6 w0 w2 bp dp _ vn d H2.out.1 (HD.out.1.on H2.out.1.below) HD.out.2.1.1 HD.out.2.1.2 (by have:=HD.out.2.2;simp only [List.length_append,List.length_cons,List.length_nil];omega))
 go_wp2_with (go_at_call 52;(refine N2.out.mono ?_);rintro e w3 ⟨rfl,hp,hf⟩;have H3:=zh (zi hp (H2.out.2.trans hf));clear hp hf)
 go_end0
 refine ⟨rfl,?_,H3.out.2⟩
 have e:t++Zdk n d=t++ZbP n++[47]++ZbP d:=by unfold Zdk;simp only [List.append_assoc]
 rw [e]
 exact H3.out.1
theorem ZiT (w0 w:World) (bp dp:Nat) (t:Txt) (vn:Value) (h:PrS w0 w bp t dp vn) (hd:dp<=4000) (hl:t.length+9000<=140737488355328) :
  Calls Tryz.prog 35 #[.pointer (some ⟨bp,0,none⟩)] w fun e w'=>e=.returned (.tuple #[])/\PrS w0 w' bp (t++Zdi dp) dp vn/\Fr w w' bp:=by
 obtain ⟨v,hv,ho⟩:=h.box
 have e1:=hv.blk.cell 1
 simp only [List.getElem?_toArray,List.getElem?_cons_zero,List.getElem?_cons_succ] at e1
 have S0:=zh (zi h (zi hd hl))
 clear h hd hl hv ho
 go_enter Tryz.func35,Tryz.ntmps35
 go_wp2_with fail
 go_loopg [6] dp (fun g v6 wr=>∃ k:Nat,v6=.int .i64 k/\k<=dp/\g=dp-k/\PrS w0 wr bp (t++Zdi k) dp vn/\Fr w wr bp)
 case atStart=>exact ⟨0,rfl,Nat.zero_le _,rfl,by simpa [Zdi] using S0.out.1,Fr.refl _ _⟩
 case round=>
  obtain ⟨k,rfl,hk,hg,hS,hF⟩:=hrel
  by_cases hkn:k=dp
  ·have j1:decide (k<dp)=false:=decide_eq_false (by omega)
   have j2:¬ ((k:Int)<(dp:Int)):=by omega
   have FIN:=zh (zi (show PrS w0 wr bp (t++Zdi dp) dp vn by rw [hkn] at hS;exact hS) hF)
   clear hk hg hS hF hkn
   go_wp2_with fail
   go_end0
   exact ⟨rfl,FIN.out⟩
  ·have hlt:k<dp:=by omega
   have j1:(k:Int)<(dp:Int):=by omega
   have wk:IntKind.i64.wrap ((k:Int)+1)=(k:Int)+1:=IntWalk.i64_in _ (by have:=S0.out.2.1;omega)
   have nx:Zdi (k+1)=Zdi k++[32,32]:=by
    unfold Zdi
    rw [show 2*(k+1)=(2*k+1)+1 by omega,List.replicate_succ',List.replicate_succ',List.append_assoc]
    rfl
   have AD:=zh (Zaf w0 wr bp dp _ vn [32,32] hS (by have:=S0.out.2.2;have:=S0.out.2.1;rw [List.length_append];simp only [Zdi,List.length_replicate,List.length_cons,List.length_nil];omega))
   have HK:=zh (zi hlt (zi hg (zi nx hF)))
   clear hkn hlt hk hg nx hF hS
   go_wp2_with (go_at_call 36;(refine AD.out.mono ?_);rintro e w1 ⟨rfl,hp,hf⟩;have H1:=zh (zi hp hf);clear hp hf)
   go_roundg (dp-(k+1))
   case measure=>have:=HK.out.1;have:=HK.out.2.1;omega
   case rel=>
    refine ⟨k+1,by push_cast;rfl,HK.out.1,rfl,?_,HK.out.2.2.2.trans H1.out.2⟩
    rw [HK.out.2.2.1,<- List.append_assoc]
    exact H1.out.1
end
section
open Go.RowKit
structure PrN (w0 w:World) (bp:Nat) (t:Txt) (dp:Nat) (vn:Value) (ns:List Nd):Prop where
 p:PrS w0 w bp t dp vn
 n:Zs w0 vn ns
abbrev ndX (x:NdV×Nd):Value:=.agg #[.int .i64 x.2.kind,x.1.1,x.1.2.1,x.1.2.2,.int .i64 x.2.pos]
abbrev Zjm:Array Value:=#[.int .i64 0,.slice none 0 0,.slice none 0 0,.slice none 0 0,.int .i64 0]
theorem Zn2 (X:World) (b i j:Nat) (v:Value) (h:i≠j):(X.setCell ⟨b,i,none⟩ v).cell? ⟨b,j,none⟩=X.cell? ⟨b,j,none⟩:=World.cell?_setCell_other _ _ _ _ (fun e=>h (by injection e with _ e))
theorem Zp7 {X:World} {b:Nat} (h:Blk X b Zjm) (u0 u1 u2 u3 u4:Value):(X.setCell ⟨b,0,none⟩ u0).cell? ⟨b,0,none⟩=some u0/\((X.setCell ⟨b,0,none⟩ u0).setCell ⟨b,1,none⟩ u1).cell? ⟨b,1,none⟩=some u1/\(((X.setCell ⟨b,0,none⟩ u0).setCell ⟨b,1,none⟩ u1).setCell ⟨b,2,none⟩ u2).cell? ⟨b,2,none⟩=some u2/\((((X.setCell ⟨b,0,none⟩ u0).setCell ⟨b,1,none⟩ u1).setCell ⟨b,2,none⟩ u2).setCell ⟨b,3,none⟩ u3).cell? ⟨b,3,none⟩=some u3/\(((((X.setCell ⟨b,0,none⟩ u0).setCell ⟨b,1,none⟩ u1).setCell ⟨b,2,none⟩ u2).setCell ⟨b,3,none⟩ u3).setCell ⟨b,4,none⟩ u4).cell? ⟨b,4,none⟩=some u4:=
 ⟨by rw [(h.set 0 u0).cell 0];rfl,by rw [((h.set 0 u0).set 1 u1).cell 1];rfl,by rw [(((h.set 0 u0).set 1 u1).set 2 u2).cell 2];rfl,by rw [((((h.set 0 u0).set 1 u1).set 2 u2).set 3 u3).cell 3];rfl,by rw [(((((h.set 0 u0).set 1 u1).set 2 u2).set 3 u3).set 4 u4).cell 4];rfl⟩
theorem Znb {w X:World} (h:Below w.heap.size w X) {b:Nat} (hb:w.heap.size<=b) (u0 u1 u2 u3 u4:Value):Below w.heap.size w (((((X.setCell ⟨b,0,none⟩ u0).setCell ⟨b,1,none⟩ u1).setCell ⟨b,2,none⟩ u2).setCell ⟨b,3,none⟩ u3).setCell ⟨b,4,none⟩ u4):=
 ((((h.setCell (p:=⟨b,0,none⟩) hb _).setCell (p:=⟨b,1,none⟩) hb _).setCell (p:=⟨b,2,none⟩) hb _).setCell (p:=⟨b,3,none⟩) hb _).setCell (p:=⟨b,4,none⟩) hb _
theorem ZbB (w0 w:World) (bp dp:Nat) (t:Txt) (vn:Value) (ns:List Nd) (x:NdV×Nd) (i k:Nat) (h:PrN w0 w bp t dp vn ns) (hx:ZaW w0 x) (hi:x.2.kids[i]? = some (k:Int)) (hk:k<ns.length) :
  Calls Tryz.prog 42 #[.pointer (some ⟨bp,0,none⟩),ndX x,.int .i64 (i:Int)] w fun e w'=>∃ y:NdV×Nd,e=.returned (ndX y)/\ns[k]? = some y.2/\ZaW w0 y/\Below w.heap.size w w':=by
 obtain ⟨⟨vw,vu,vk⟩,kd,ws,nums,ks,ps⟩:=x
 obtain ⟨hw,hu,hkk⟩:=hx
 dsimp only at hw hu hkk hi ⊢
 obtain ⟨Aw,cw,rfl,_⟩:=hw
 obtain ⟨Au,cu,rfl,_⟩:=hu
 obtain ⟨Ak,ck,rfl,_,_,hK⟩:=hkk
 obtain ⟨An,cn,rs,rfl,_,hcn,hm,hN,hE⟩:=h.n
 have hil:=(List.getElem?_eq_some_iff.1 hi).1
 have hkl:ks.length<=maxLen:=by omega
 obtain ⟨v,hv,_⟩:=h.p.box
 obtain ⟨y,hy⟩:∃ y,rs[k]? = some y:=⟨_,List.getElem?_eq_getElem (by rw [<- hm,List.length_map] at hk;exact hk)⟩
 have hyn:ns[k]? = some y.2:=by rw [<- hm,List.getElem?_map,hy];rfl
 have a1:=below_alloc1 w (.cells #[.int .i64 kd,.slice Aw ws.length cw,.slice Au nums.length cu,.slice Ak ks.length ck,.int .i64 ps] 37)
 have B1:=Blk.start w #[.int .i64 kd,.slice Aw ws.length cw,.slice Au nums.length cu,.slice Ak ks.length ck,.int .i64 ps] 37
 have a2:=below_alloc1 (w.alloc (.cells #[.int .i64 kd,.slice Aw ws.length cw,.slice Au nums.length cu,.slice Ak ks.length ck,.int .i64 ps] 37)) (.cells Zjm 37)
 have B2:=Blk.start (w.alloc (.cells #[.int .i64 kd,.slice Aw ws.length cw,.slice Au nums.length cu,.slice Ak ks.length ck,.int .i64 ps] 37)) Zjm 37
 rw [World.size_alloc] at B2
 have bw:=a1.trans (a2.mono a1.size)
 have b0:=h.p.below.trans (bw.mono h.p.below.size)
 have S0:=zh (zi (B1.keep a2) (zi B2 (zi (hv.keep bw) (zi bw (zi b0 (zi hyn (hE y (List.mem_of_getElem? hy))))))))
 have HC:=zh (zi hK (zi hN (zi hi hy)))
 clear h hK hN hE hm hv hy hyn a1 B1 a2 B2 bw b0 hi
 go_enter Tryz.func42,Tryz.ntmps42
 go_upto_region 1 with fail
 generalize ((w.alloc (.cells #[.int .i64 kd,.slice Aw ws.length cw,.slice Au nums.length cu,.slice Ak ks.length ck,.int .i64 ps] 37)).alloc (.cells Zjm 37))=W at *
 obtain ⟨ak,rfl,d0⟩:=ints_at HC.out.1 S0.out.2.2.2.2.1 HC.out.2.2.1 (by omega)
 obtain ⟨an,rfl,n0,n1,n2,n3,n4⟩:=ZbA HC.out.2.1 S0.out.2.2.2.2.1 HC.out.2.2.2 (by omega)
 have c2:=S0.out.2.2.1.blk.cell 2
 have c3:=S0.out.1.cell 3
 simp only [List.getElem?_toArray,List.getElem?_cons_zero,List.getElem?_cons_succ] at c2 c3
 have z0:=S0.out.2.1.cell 0
 have z1:=S0.out.2.1.cell 1
 have z2:=S0.out.2.1.cell 2
 have z3:=S0.out.2.1.cell 3
 have z4:=S0.out.2.1.cell 4
 simp only [List.getElem?_toArray,List.getElem?_cons_zero,List.getElem?_cons_succ] at z0 z1 z2 z3 z4
 have f0:=S0.out.2.1.free 0
 have f1:=S0.out.2.1.free 1
 have f2:=S0.out.2.1.free 2
 have f3:=S0.out.2.1.free 3
 have f4:=S0.out.2.1.free 4
 have i0:(0:Int)<=(i:Int):=by omega
 have i1:(i:Int)<(ks.length:Int):=by omega
 have k0:(0:Int)<=(k:Int):=by omega
 have k1:(k:Int)<(ns.length:Int):=by omega
 obtain ⟨⟨yw,yu,yk⟩,kd2,ws2,nums2,ks2,ps2⟩:=y
 obtain ⟨h61,h62,h63⟩:=S0.out.2.2.2.2.2.2
 dsimp only at h61 h62 h63
 obtain ⟨Bw,dw,rfl,_⟩:=h61
 obtain ⟨Bu,du,rfl,_⟩:=h62
 obtain ⟨Bk,dk,rfl,_⟩:=h63
 dsimp only at n0 n1 n2 n3 n4
 clear hil hkl hk
 have so:=Zn2
 refine wp_region_still_tail 11 (by kernel_rfl) (by kernel_rfl) ?_
 simp only [List.take_succ_cons,List.take_zero,List.drop_succ_cons,List.drop_zero]
 iterate 11 still_step
 refine wpStill_nil ?_
 change wpList _ _ _ _ _ W.drew
 go_wp2_with fail
 obtain ⟨r0,r1,r2,r3,r4⟩:=Zp7 S0.out.2.1 (.int .i64 kd2) (.slice Bw ws2.length dw) (.slice Bu nums2.length du) (.slice Bk ks2.length dk) (.int .i64 ps2)
 exact bodyPost_ret (v:=.agg #[.int .i64 kd2,.slice Bw ws2.length dw,.slice Bu nums2.length du,.slice Bk ks2.length dk,.int .i64 ps2]) (by simp [results,Tryz.results42,go_sem,so,r0,r1,r2,r3,r4]) rfl ⟨.slice Bw ws2.length dw,.slice Bu nums2.length du,.slice Bk ks2.length dk,⟨kd2,ws2,nums2,ks2,ps2⟩,rfl,S0.out.2.2.2.2.2.1,S0.out.2.2.2.2.2.2,(Znb S0.out.2.2.2.1 (Nat.le_succ _) _ _ _ _ _).drew⟩
end
section
open Go.RowKit
def ZfF (n:Nd):Prop:=n.kind=22->∃ s r,n.nums=s::r/\0<=s/\s<=5
theorem Zde (w0 w:World) (x:NdV×Nd) (hx:ZaW w0 x) (hb:Below w0.heap.size w0 w) (hv:ZfF x.2) :
  Calls Tryz.prog 54 #[ndX x] w fun e w'=>e=.returned (.int .i64 (Zu x.2:Nat))/\Below w.heap.size w w':=by
 obtain ⟨⟨vw,vu,vk⟩,kd,ws,nums,ks,ps⟩:=x
 obtain ⟨hw,hu,hkk⟩:=hx
 dsimp only at hw hu hkk hv ⊢
 obtain ⟨Aw,cw,rfl,_⟩:=hw
 obtain ⟨Au,cu,rfl,_,_,hU⟩:=hu
 obtain ⟨Ak,ck,rfl,_⟩:=hkk
 have a1:=below_alloc1 w (.cells #[.int .i64 kd,.slice Aw ws.length cw,.slice Au nums.length cu,.slice Ak ks.length ck,.int .i64 ps] 37)
 have B1:=Blk.start w #[.int .i64 kd,.slice Aw ws.length cw,.slice Au nums.length cu,.slice Ak ks.length ck,.int .i64 ps] 37
 have c0:=B1.cell 0
 have c2:=B1.cell 2
 simp only [List.getElem?_toArray,List.getElem?_cons_zero,List.getElem?_cons_succ] at c0 c2
 have HA:=zh a1
 have ba:=hb.trans (a1.mono hb.size)
 clear a1 B1 hb
 by_cases hk:kd=22
 ·subst hk
  obtain ⟨s,r,hn,h0,h5⟩:=hv rfl
  dsimp only at hn
  obtain ⟨au,rfl,d0⟩:=ints_at (k:=0) (x:=s) hU ba (by rw [hn];rfl) (by rw [hn];exact Nat.succ_pos _)
  have d1:(w.alloc (.cells #[.int .i64 22,.slice Aw ws.length cw,.slice (some au) nums.length cu,.slice Ak ks.length ck,.int .i64 ps] 37)).cell? au=some (.int .i64 s):=d0
  clear d0
  have hl:(0:Int)<(nums.length:Int):=by rw [hn];simp only [List.length_cons];omega
  have he:Zu ⟨22,ws,nums,ks,ps⟩=if s<=1 then 0 else if s<=3 then 1 else 2:=by unfold Zu num;rw [if_pos rfl];dsimp only;rw [hn];rfl
  rw [he]
  clear hU hn he ba hv
  have:s=0\/s=1\/s=2\/s=3\/s=4\/s=5:=by omega
  rcases this with rfl | rfl | rfl | rfl | rfl | rfl <;>
  ·clear h0 h5
   go_enter Tryz.func54,Tryz.ntmps54
   go_wp2_with fail
   go_ret
   exact ⟨rfl,HA.out⟩
 ·have he:Zu ⟨kd,ws,nums,ks,ps⟩=3:=by unfold Zu;rw [if_neg hk]
  rw [he]
  have t0:(kd != 22)=true:=by rw [bne_iff_ne];exact hk
  clear hU he ba hv hk
  go_enter Tryz.func54,Tryz.ntmps54
  go_wp2_with fail
  go_ret
  exact ⟨rfl,HA.out⟩
end
end Go.Proofs.YtkongcicmajolaaGreatDoor
