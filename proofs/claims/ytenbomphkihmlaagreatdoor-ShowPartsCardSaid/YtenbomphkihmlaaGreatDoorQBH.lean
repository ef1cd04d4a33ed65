import Derived.Lib.AppendStr
import Derived.Lib.ItoaLen
import Derived.RegionTactic
import Derived.Test.YtenbomphkihmlaaGreatDoorQAB
import Derived.Test.YtenbomphkihmlaaGreatDoorQBG
set_option maxRecDepth 100000
set_option maxHeartbeats 8000000
namespace Go.Proofs.YtenbomphkihmlaaGreatDoor
section
open Go.RowKit
abbrev u8s (t:Txt):List Value:=Lib.strCells ⟨t.toArray⟩
theorem ZgM (a b:Txt):u8s (a++b)=u8s a++u8s b:=by simp [u8s,Lib.strCells]
structure Fr (w w':World) (bp:Nat):Prop where
 size:w.heap.size<=w'.heap.size
 at_:∀ b ty cs,b≠bp->ty≠5->Zm w b ty cs->Zm w' b ty cs
theorem Fr.refl (w:World) (bp:Nat):Fr w w bp:=⟨Nat.le_refl _,fun _ _ _ _ _ h=>h⟩
theorem Fr.trans {w w1 w2:World} {bp:Nat} (h:Fr w w1 bp) (k:Fr w1 w2 bp):Fr w w2 bp:=⟨Nat.le_trans h.size k.size,fun b ty cs h1 h2 h3=>k.at_ b ty cs h1 h2 (h.at_ b ty cs h1 h2 h3)⟩
theorem Fr.of_below {w w':World} (bp:Nat) (h:Below w.heap.size w w'):Fr w w' bp:=⟨h.size,fun _ _ _ _ _ k=>k.keep h⟩
structure PrS (w0 w:World) (bp:Nat) (t:Txt) (dp:Nat) (vn:Value):Prop where
 box:∃ v,Zm w bp 39 #[v,.int .i64 (dp:Int),vn]/\w.ownsRow w0.heap.size 5 1 v t.length (u8s t)
 below:Below w0.heap.size w0 w
 ge:w0.heap.size<=bp
theorem PrS.keep {w0 w w':World} {bp:Nat} {t:Txt} {dp:Nat} {vn:Value} (h:PrS w0 w bp t dp vn) (hb:Below w.heap.size w w'):PrS w0 w' bp t dp vn:=by
 obtain ⟨v,h1,h2⟩:=h.box
 exact ⟨⟨v,h1.keep hb,Zbu h2 hb⟩,h.below.trans (hb.mono h.below.size),h.ge⟩
theorem Zm.grown {w w':World} {b:Nat} {ty:TypeId} {cs:Array Value} {row:Option Nat} (h:Zm w b ty cs) (hg:w.grownBy w' row) (hne:row≠some b):Zm w' b ty cs:=(hg.block b h.lt (fun e=>hne e.symm)).trans h
theorem Zdw {w:World} {b:Nat} {t1 t2:TypeId} {c1 c2:Array Value} (h1:Zm w b t1 c1) (h2:Zm w b t2 c2):t1=t2:=by
 unfold Zm at h1 h2
 rw [h1] at h2
 injection h2 with h2
 injection h2
theorem ZjI:(Tryz.prog.info? 5).map (fun i=>(i.zero,i.size,i.bytes))=some (some (.int .u8 0),1,1):=by kernel_rfl
theorem Zcq (w0 w:World) (bp pb dp:Nat) (t:Txt) (vn:Value) (parts:List Txt) (h:PrS w0 w bp t dp vn) (hp:Zm w pb 9 (parts.map txt).toArray) (hl:(t++parts.flatten).length<=140737488355328) (hn:parts.length<=1000) :
  Calls Tryz.prog 26 #[.pointer (some ⟨bp,0,none⟩),.slice (some ⟨pb,0,none⟩) parts.length parts.length] w fun e w'=>e=.returned (.tuple #[])/\PrS w0 w' bp (t++parts.flatten) dp vn/\Fr w w' bp:=by
 obtain ⟨i0,hi,hz0,hz1,hz2⟩:=ZcY ZjI
 have S0:=Lib.hid (And.intro h (And.intro hp (And.intro hl hn)))
 clear h hp hl hn
 go_enter Tryz.func26,Tryz.ntmps26
 go_wp2_with fail
 go_loopg [8] parts.length (fun g v8 wr=>∃ k:Nat,v8=.int .i64 k/\k<=parts.length/\g=parts.length-k/\PrS w0 wr bp (t++(parts.take k).flatten) dp vn/\Fr w wr bp)
 case atStart=>exact ⟨0,rfl,Nat.zero_le _,rfl,by simpa using S0.out.1,Fr.refl _ _⟩
 case round=>
  obtain ⟨k,rfl,hk,hg,hS,hF⟩:=hrel
  by_cases hkn:k=parts.length
  ·have j1:decide (k<parts.length)=false:=decide_eq_false (by omega)
   have FIN:=Lib.hid (And.intro (show PrS w0 wr bp (t++parts.flatten) dp vn by rw [hkn,List.take_length] at hS;exact hS) hF)
   clear hk hg hS hF hkn
   go_wp2_with fail
   go_end0
   exact ⟨rfl,FIN.out⟩
  ·have hlt:k<parts.length:=by omega
   obtain ⟨x,hx⟩:∃ x,parts[k]? = some x:=⟨_,List.getElem?_eq_getElem hlt⟩
   have nx:(parts.take (k+1)).flatten=(parts.take k).flatten++x:=by rw [List.take_add_one,hx,List.flatten_append];simp
   obtain ⟨bx,hbx,hob⟩:∃ p,Zm w bp 39 p/\True:=by obtain ⟨v,h1,_⟩:=S0.out.1.box;exact ⟨_,h1,trivial⟩
   have ne:pb≠bp:=fun e=>absurd (Zdw S0.out.2.1 (e▸hbx)) (by decide)
   have hpk:=hF.at_ pb _ _ ne (by decide) S0.out.2.1
   have d0:=(hpk.blk.cell k).trans (show (parts.map txt).toArray[k]? = some (txt x) by rw [List.getElem?_toArray,List.getElem?_map,hx];rfl)
   obtain ⟨v,hv,ho⟩:=hS.box
   obtain ⟨A,c,rfl⟩:=ZaY ho
   have e0:=hv.blk.cell 0
   have f0:=hv.blk.free 0
   simp only [List.getElem?_toArray,List.getElem?_cons_zero] at e0
   have off:=hv.off ho (by decide)
   have j1:(k:Int)<(parts.length:Int):=by omega
   have j2:(0:Int)<=(k:Int):=by omega
   have wk:IntKind.i64.wrap ((k:Int)+1)=(k:Int)+1:=IntWalk.i64_in _ (by have:=S0.out.2.2.2;omega)
   have LN:(t++(parts.take k).flatten).length+x.length<=140737488355328:=by
    have e:parts=parts.take (k+1)++parts.drop (k+1):=(List.take_append_drop _ _).symm
    have:=S0.out.2.2.1
    rw [e,List.flatten_append,nx] at this
    simp only [List.length_append] at this ⊢
    omega
   have HK:=Lib.hid (And.intro hlt (And.intro hg (And.intro nx (And.intro hv (And.intro ho (And.intro off (And.intro hF (And.intro hS LN))))))))
   clear hkn hlt hk hg hx nx hbx hob ne hpk hv ho off hF hS LN
   generalize hT:t++(parts.take k).flatten=T at *
   have HT:=Lib.hid hT
   clear hT
   go_wp2_with (at_builtin;(refine Lib.wpList_append_own_string _ rfl _ _ 35 9 rfl w0.heap.size 5 i0 Tryz.underlying35 Tryz.underlying9 hi hz0 hz1 hz2 _ T.length (u8s T) rfl HK.out.2.2.2.2.1 ⟨x.toArray⟩ rfl ?c1 ?c2 ?c3 ?_))
   case c1=>have:=HK.out.2.2.2.2.2.2.2.2;show T.length+x.toArray.size<=_;rw [List.size_toArray];unfold maxLen;omega
   case c2=>have:=HK.out.2.2.2.2.2.2.2.2;show T.length+x.toArray.size<=_;rw [List.size_toArray];omega
   case c3=>exact HK.out.2.2.2.2.2.2.2.1.below.size
   intro v9 w3 hown hgrow _
   have hown':w3.ownsRow w0.heap.size 5 1 v9 (T++x).length (u8s (T++x)):=by
    rw [ZgM,List.length_append]
    exact hown
   obtain ⟨A9,c9,rfl⟩:=ZaY hown'
   have k1:=HK.out.2.2.2.1.grown hgrow HK.out.2.2.2.2.2.1
   have e1:=k1.blk.cell 0
   have f1:=k1.blk.free 0
   simp only [List.getElem?_toArray,List.getElem?_cons_zero] at e1
   have off9:=k1.off hown' (by decide)
   have NX:=Lib.hid (show PrS w0 (w3.setCell ⟨bp,0,none⟩ (.slice A9 (T++x).length c9)) bp (T++x) dp vn from
    ⟨⟨_,by simpa using k1.set 0 (.slice A9 (T++x).length c9),Zb4 hown' off9⟩,(HK.out.2.2.2.2.2.2.2.1.below.trans (ZcO hgrow HK.out.2.2.2.2.2.2.2.1.below.size (fun k hk=>(HK.out.2.2.2.2.1.lt k hk).1))).setCell HK.out.2.2.2.2.2.2.2.1.ge _,HK.out.2.2.2.2.2.2.2.1.ge⟩)
   have NF:=Lib.hid (show Fr w (w3.setCell ⟨bp,0,none⟩ (.slice A9 (T++x).length c9)) bp from
    HK.out.2.2.2.2.2.2.1.trans ⟨by have:=hgrow.size;simpa [World.setCell] using this,fun b ty cs h1 h2 h3=>Zm.other (Zm.grown h3 hgrow (h3.off HK.out.2.2.2.2.1 h2)) (fun e=>h1 e.symm) _⟩)
   rw [List.length_append] at NX NF
   clear hown hown' hgrow k1 off9
   go_wp2_with fail
   go_roundg (parts.length-(k+1))
   case measure=>have:=HK.out.1;have:=HK.out.2.1;omega
   case rel=>
    refine ⟨k+1,by push_cast;rfl,HK.out.1,rfl,?_,NF.out⟩
    rw [HK.out.2.2.1,<- List.append_assoc,HT.out]
    exact NX.out
end
section
open Go.RowKit
abbrev Zb7 (w0 w:World):Prop:=Lib.TabBelow Tryz.prog w0.heap.size w "internal/strconv.uint64pow10" .u64 Lib.pow10Tab
theorem ZcR (t:Txt):u8s t=Lib.byteCells t:=by simp [u8s,Lib.strCells,Lib.byteCells]
theorem Fr.of_kept {w w':World} (bp:Nat) (hb:w.heap.size<=w'.heap.size) (h:Lib.OthersKept 5 none w w'):Fr w w' bp:=
 ⟨hb,fun b ty cs _ h2 h3=>h b _ h3 (by simp) (fun c fz e=>h2 (by injection e))⟩
theorem PrS.put {w0 w w2:World} {bp dp:Nat} {t t2:Txt} {vn v:Value} (h:PrS w0 w bp t dp vn) (hf:∀ ty cs,ty≠5->Zm w bp ty cs->Zm w2 bp ty cs) (hb:Below w0.heap.size w0 w2) (ho:w2.ownsRow w0.heap.size 5 1 v t2.length (u8s t2)):PrS w0 (w2.setCell ⟨bp,0,none⟩ v) bp t2 dp vn:=by
 obtain ⟨v0,h1,_⟩:=h.box
 have k:=hf _ _ (by decide) h1
 exact ⟨⟨v,by simpa using k.set 0 v,Zb4 ho (k.off ho (by decide))⟩,hb.setCell h.ge _,h.ge⟩
theorem Fr.put {w w2:World} {bp:Nat} {v:Value} (h:Fr w w2 bp):Fr w (w2.setCell ⟨bp,0,none⟩ v) bp:=
 ⟨by have:=h.size;simpa [World.setCell] using this,fun b ty cs h1 h2 h3=>Zm.other (h.at_ b ty cs h1 h2 h3) (fun e=>h1 e.symm) _⟩
theorem Zc6 (w0 w:World) (bp dp:Nat) (t:Txt) (vn:Value) (n:Int) (h:PrS w0 w bp t dp vn) (ht:Zb7 w0 w) (h0:-9223372036854775808<=n) (h1:n<=9223372036854775807) (hl:t.length+21<=140737488355328) :
  Calls Tryz.prog 62 #[.pointer (some ⟨bp,0,none⟩),.int .i64 n] w fun e w'=>e=.returned (.tuple #[])/\PrS w0 w' bp (t++ZbT n) dp vn/\Fr w w' bp:=by
 have S0:=Lib.hid h
 obtain ⟨v,hv,ho⟩:=h.box
 obtain ⟨A,c,rfl⟩:=ZaY ho
 have AI:=Lib.hid (Tryz.strconv_AppendInt_10 w0.heap.size t.length n h0 h1 _ _ w ho h.below.size hl ht)
 have e0:=hv.blk.cell 0
 simp only [List.getElem?_toArray,List.getElem?_cons_zero] at e0
 have HV:=Lib.hid hv
 clear h hv ho ht h0 h1 hl
 go_enter Tryz.func62,Tryz.ntmps62
 go_wp2_with (go_at_call 84;(refine AI.out.mono ?_);rintro e w1 ⟨v1,rfl,ho1,hb1,hk1⟩;(have ho2:w1.ownsRow w0.heap.size 5 1 v1 (t++ZbT n).length (u8s (t++ZbT n)):=(by rw [List.length_append,ZgM,ZcR (ZbT n)];exact ho1));obtain ⟨A1,c1,rfl⟩:=ZaY ho2;have F1:=Fr.of_kept bp hb1.size hk1;(have k1:Zm w1 bp _ _:=hk1 bp _ HV.out (by simp) (fun c fz e=>by injection e with _ e;exact absurd e (by decide)));have e1:=k1.blk.cell 0;have f1:=k1.blk.free 0;simp only [List.getElem?_toArray,List.getElem?_cons_zero] at e1;have H1:=Lib.hid (And.intro ho2 (And.intro hb1 (And.intro F1 hk1)));clear ho1 ho2 hb1 hk1 F1 k1)
 go_end0
 refine ⟨rfl,PrS.put S0.out (fun ty cs h2 h3=>H1.out.2.2.2 bp _ h3 (by simp) (fun c fz e=>h2 (by injection e))) (S0.out.below.trans H1.out.2.1) ?_,Fr.put H1.out.2.2.1⟩
 first
  | exact H1.out.1
  | (have:=H1.out.1;rw [List.length_append] at this ⊢;exact this)
theorem ZH (w0 w:World) (bp dp:Nat) (t:Txt) (vn:Value) (a0:Txt) (h:PrS w0 w bp t dp vn) (hl:t.length+(a0.length)<=140737488355328) :
  Calls Tryz.prog 26 #[.pointer (some ⟨bp,0,none⟩),.slice (some ⟨w.heap.size,0,none⟩) 1 1] (w.alloc (.cells #[txt a0] 9)) fun e w'=>e=.returned (.tuple #[])/\PrS w0 w' bp (t++(a0)) dp vn/\Fr w w' bp:=by
 have k:=Zb w (.cells #[txt a0] 9)
 refine (Zcq w0 _ bp w.heap.size dp t vn [a0] (h.keep k) (Zm.start _ _ _) (by simp only [List.length_append,List.flatten_cons,List.flatten_nil,List.length_nil];omega) (by simp)).mono ?_
 rintro e w' ⟨he,hp,hf⟩
 refine ⟨he,?_,(Fr.of_below bp k).trans hf⟩
 have e1:[a0].flatten=a0:=by simp
 rw [e1] at hp
 exact hp
theorem Zbl (w0 w:World) (bp dp:Nat) (t:Txt) (vn:Value) (a0 a1:Txt) (h:PrS w0 w bp t dp vn) (hl:t.length+(a0.length+a1.length)<=140737488355328) :
  Calls Tryz.prog 26 #[.pointer (some ⟨bp,0,none⟩),.slice (some ⟨w.heap.size,0,none⟩) 2 2] (w.alloc (.cells #[txt a0,txt a1] 9)) fun e w'=>e=.returned (.tuple #[])/\PrS w0 w' bp (t++(a0++a1)) dp vn/\Fr w w' bp:=by
 have k:=Zb w (.cells #[txt a0,txt a1] 9)
 refine (Zcq w0 _ bp w.heap.size dp t vn [a0,a1] (h.keep k) (Zm.start _ _ _) (by simp only [List.length_append,List.flatten_cons,List.flatten_nil,List.length_nil];omega) (by simp)).mono ?_
 rintro e w' ⟨he,hp,hf⟩
 refine ⟨he,?_,(Fr.of_below bp k).trans hf⟩
 have e1:[a0,a1].flatten=a0++a1:=by simp
 rw [e1] at hp
 exact hp
theorem ZiI (w0 w:World) (bp dp:Nat) (t:Txt) (vn:Value) (a0 a1 a2:Txt) (h:PrS w0 w bp t dp vn) (hl:t.length+(a0.length+a1.length+a2.length)<=140737488355328) :
  Calls Tryz.prog 26 #[.pointer (some ⟨bp,0,none⟩),.slice (some ⟨w.heap.size,0,none⟩) 3 3] (w.alloc (.cells #[txt a0,txt a1,txt a2] 9)) fun e w'=>e=.returned (.tuple #[])/\PrS w0 w' bp (t++(a0++a1++a2)) dp vn/\Fr w w' bp:=by
 have k:=Zb w (.cells #[txt a0,txt a1,txt a2] 9)
 refine (Zcq w0 _ bp w.heap.size dp t vn [a0,a1,a2] (h.keep k) (Zm.start _ _ _) (by simp only [List.length_append,List.flatten_cons,List.flatten_nil,List.length_nil];omega) (by simp)).mono ?_
 rintro e w' ⟨he,hp,hf⟩
 refine ⟨he,?_,(Fr.of_below bp k).trans hf⟩
 have e1:[a0,a1,a2].flatten=a0++a1++a2:=by simp
 rw [e1] at hp
 exact hp
theorem ZdJ (w0 w:World) (bp dp:Nat) (t:Txt) (vn:Value) (a0 a1 a2 a3:Txt) (h:PrS w0 w bp t dp vn) (hl:t.length+(a0.length+a1.length+a2.length+a3.length)<=140737488355328) :
  Calls Tryz.prog 26 #[.pointer (some ⟨bp,0,none⟩),.slice (some ⟨w.heap.size,0,none⟩) 4 4] (w.alloc (.cells #[txt a0,txt a1,txt a2,txt a3] 9)) fun e w'=>e=.returned (.tuple #[])/\PrS w0 w' bp (t++(a0++a1++a2++a3)) dp vn/\Fr w w' bp:=by
 have k:=Zb w (.cells #[txt a0,txt a1,txt a2,txt a3] 9)
 refine (Zcq w0 _ bp w.heap.size dp t vn [a0,a1,a2,a3] (h.keep k) (Zm.start _ _ _) (by simp only [List.length_append,List.flatten_cons,List.flatten_nil,List.length_nil];omega) (by simp)).mono ?_
 rintro e w' ⟨he,hp,hf⟩
 refine ⟨he,?_,(Fr.of_below bp k).trans hf⟩
 have e1:[a0,a1,a2,a3].flatten=a0++a1++a2++a3:=by simp
 rw [e1] at hp
 exact hp
theorem ZiJ (w0 w:World) (bp dp:Nat) (t:Txt) (vn:Value) (a0 a1 a2 a3 a4:Txt) (h:PrS w0 w bp t dp vn) (hl:t.length+(a0.length+a1.length+a2.length+a3.length+a4.length)<=140737488355328) :
  Calls Tryz.prog 26 #[.pointer (some ⟨bp,0,none⟩),.slice (some ⟨w.heap.size,0,none⟩) 5 5] (w.alloc (.cells #[txt a0,txt a1,txt a2,txt a3,txt a4] 9)) fun e w'=>e=.returned (.tuple #[])/\PrS w0 w' bp (t++(a0++a1++a2++a3++a4)) dp vn/\Fr w w' bp:=by
 have k:=Zb w (.cells #[txt a0,txt a1,txt a2,txt a3,txt a4] 9)
 refine (Zcq w0 _ bp w.heap.size dp t vn [a0,a1,a2,a3,a4] (h.keep k) (Zm.start _ _ _) (by simp only [List.length_append,List.flatten_cons,List.flatten_nil,List.length_nil];omega) (by simp)).mono ?_
 rintro e w' ⟨he,hp,hf⟩
 refine ⟨he,?_,(Fr.of_below bp k).trans hf⟩
 have e1:[a0,a1,a2,a3,a4].flatten=a0++a1++a2++a3++a4:=by simp
 rw [e1] at hp
 exact hp
theorem ZiK (w0 w:World) (bp dp:Nat) (t:Txt) (vn:Value) (a0 a1 a2 a3 a4 a5 a6:Txt) (h:PrS w0 w bp t dp vn) (hl:t.length+(a0.length+a1.length+a2.length+a3.length+a4.length+a5.length+a6.length)<=140737488355328) :
  Calls Tryz.prog 26 #[.pointer (some ⟨bp,0,none⟩),.slice (some ⟨w.heap.size,0,none⟩) 7 7] (w.alloc (.cells #[txt a0,txt a1,txt a2,txt a3,txt a4,txt a5,txt a6] 9)) fun e w'=>e=.returned (.tuple #[])/\PrS w0 w' bp (t++(a0++a1++a2++a3++a4++a5++a6)) dp vn/\Fr w w' bp:=by
 have k:=Zb w (.cells #[txt a0,txt a1,txt a2,txt a3,txt a4,txt a5,txt a6] 9)
 refine (Zcq w0 _ bp w.heap.size dp t vn [a0,a1,a2,a3,a4,a5,a6] (h.keep k) (Zm.start _ _ _) (by simp only [List.length_append,List.flatten_cons,List.flatten_nil,List.length_nil];omega) (by simp)).mono ?_
 rintro e w' ⟨he,hp,hf⟩
 refine ⟨he,?_,(Fr.of_below bp k).trans hf⟩
 have e1:[a0,a1,a2,a3,a4,a5,a6].flatten=a0++a1++a2++a3++a4++a5++a6:=by simp
 rw [e1] at hp
 exact hp
theorem Zdd (w0 w:World) (bp dp:Nat) (t:Txt) (vn:Value) (n d:Int) (h:PrS w0 w bp t dp vn) (ht:Zb7 w0 w0) (hn:-9223372036854775808<=n/\n<=9223372036854775807) (hd:-9223372036854775808<=d/\d<=9223372036854775807) (hl:t.length+100<=140737488355328) :
  Calls Tryz.prog 45 #[.pointer (some ⟨bp,0,none⟩),.int .i64 n,.int .i64 d] w fun e w'=>e=.returned (.tuple #[])/\PrS w0 w' bp (t++Zbo n d) dp vn/\Fr w w' bp:=by
 have l1:=Lib.itoa_length_le n hn.1 hn.2
 have N1:=Lib.hid (Zc6 w0 w bp dp t vn n h (ht.on h.below) hn.1 hn.2 (by omega))
 have HD:=Lib.hid (And.intro ht (And.intro hd (show t.length+(ZbT n).length+50<=140737488355328 by unfold ZbT;omega)))
 clear h ht hn hd hl l1
 go_enter Tryz.func45,Tryz.ntmps45
 go_upto_region 1 with (go_at_call 62;(refine N1.out.mono ?_);rintro e w1 ⟨rfl,hp,hf⟩;have H1:=Lib.hid (And.intro hp hf);clear hp hf)
 have A1:=Lib.hid (ZH w0 w1 bp dp _ vn [47] H1.out.1 (by have:=HD.out.2.2;rw [List.length_append];simp only [List.length_cons,List.length_nil];omega))
 go_upto_region 2 with (go_at_call 26;(refine A1.out.mono ?_);rintro e w2 ⟨rfl,hp,hf⟩;have H2:=Lib.hid (And.intro hp (H1.out.2.trans hf));clear hp hf)
 have N2:=Lib.hid (Zc6 w0 w2 bp dp _ vn d H2.out.1 (HD.out.1.on H2.out.1.below) HD.out.2.1.1 HD.out.2.1.2 (by have:=HD.out.2.2;simp only [List.length_append,List.length_cons,List.length_nil];omega))
 go_wp2_with (go_at_call 62;(refine N2.out.mono ?_);rintro e w3 ⟨rfl,hp,hf⟩;have H3:=Lib.hid (And.intro hp (H2.out.2.trans hf));clear hp hf)
 go_end0
 refine ⟨rfl,?_,H3.out.2⟩
 have e:t++Zbo n d=t++ZbT n++[47]++ZbT d:=by unfold Zbo;simp only [List.append_assoc]
 rw [e]
 exact H3.out.1
theorem Zd7 (w0 w:World) (bp dp:Nat) (t:Txt) (vn:Value) (h:PrS w0 w bp t dp vn) (hd:dp<=4000) (hl:t.length+9000<=140737488355328) :
  Calls Tryz.prog 25 #[.pointer (some ⟨bp,0,none⟩)] w fun e w'=>e=.returned (.tuple #[])/\PrS w0 w' bp (t++ZbG dp) dp vn/\Fr w w' bp:=by
 obtain ⟨v,hv,ho⟩:=h.box
 have e1:=hv.blk.cell 1
 simp only [List.getElem?_toArray,List.getElem?_cons_zero,List.getElem?_cons_succ] at e1
 have S0:=Lib.hid (And.intro h (And.intro hd hl))
 clear h hd hl hv ho
 go_enter Tryz.func25,Tryz.ntmps25
 go_wp2_with fail
 go_loopg [6] dp (fun g v6 wr=>∃ k:Nat,v6=.int .i64 k/\k<=dp/\g=dp-k/\PrS w0 wr bp (t++ZbG k) dp vn/\Fr w wr bp)
 case atStart=>exact ⟨0,rfl,Nat.zero_le _,rfl,by simpa [ZbG] using S0.out.1,Fr.refl _ _⟩
 case round=>
  obtain ⟨k,rfl,hk,hg,hS,hF⟩:=hrel
  by_cases hkn:k=dp
  ·have j1:decide (k<dp)=false:=decide_eq_false (by omega)
   have j2:¬ ((k:Int)<(dp:Int)):=by omega
   have FIN:=Lib.hid (And.intro (show PrS w0 wr bp (t++ZbG dp) dp vn by rw [hkn] at hS;exact hS) hF)
   clear hk hg hS hF hkn
   go_wp2_with fail
   go_end0
   exact ⟨rfl,FIN.out⟩
  ·have hlt:k<dp:=by omega
   have j1:(k:Int)<(dp:Int):=by omega
   have wk:IntKind.i64.wrap ((k:Int)+1)=(k:Int)+1:=IntWalk.i64_in _ (by have:=S0.out.2.1;omega)
   have nx:ZbG (k+1)=ZbG k++[32,32]:=by
    unfold ZbG
    rw [show 2*(k+1)=(2*k+1)+1 by omega,List.replicate_succ',List.replicate_succ',List.append_assoc]
    rfl
   have AD:=Lib.hid (ZH w0 wr bp dp _ vn [32,32] hS (by have:=S0.out.2.2;have:=S0.out.2.1;rw [List.length_append];simp only [ZbG,List.length_replicate,List.length_cons,List.length_nil];omega))
   have HK:=Lib.hid (And.intro hlt (And.intro hg (And.intro nx hF)))
   clear hkn hlt hk hg nx hF hS
   go_wp2_with (go_at_call 26;(refine AD.out.mono ?_);rintro e w1 ⟨rfl,hp,hf⟩;have H1:=Lib.hid (And.intro hp hf);clear hp hf)
   go_roundg (dp-(k+1))
   case measure=>have:=HK.out.1;have:=HK.out.2.1;omega
   case rel=>
    refine ⟨k+1,by push_cast;rfl,HK.out.1,rfl,?_,HK.out.2.2.2.trans H1.out.2⟩
    rw [HK.out.2.2.1,<- List.append_assoc]
    exact H1.out.1
end
section
open Go.RowKit
structure PrN (w0 w:World) (bp:Nat) (t:Txt) (dp:Nat) (vn:Value) (ns:List Nd):Prop where
 p:PrS w0 w bp t dp vn
 n:Zf w0 vn ns
abbrev ndX (x:NdV×Nd):Value:=.agg #[.int .i64 x.2.kind,x.1.1,x.1.2.1,x.1.2.2,.int .i64 x.2.pos]
abbrev Zep:Array Value:=#[.int .i64 0,.slice none 0 0,.slice none 0 0,.slice none 0 0,.int .i64 0]
theorem Zht (X:World) (b i j:Nat) (v:Value) (h:i≠j):(X.setCell ⟨b,i,none⟩ v).cell? ⟨b,j,none⟩=X.cell? ⟨b,j,none⟩:=World.cell?_setCell_other _ _ _ _ (fun e=>h (by injection e with _ e))
theorem ZiY {X:World} {b:Nat} (h:Blk X b Zep) (u0 u1 u2 u3 u4:Value):(X.setCell ⟨b,0,none⟩ u0).cell? ⟨b,0,none⟩=some u0/\((X.setCell ⟨b,0,none⟩ u0).setCell ⟨b,1,none⟩ u1).cell? ⟨b,1,none⟩=some u1/\(((X.setCell ⟨b,0,none⟩ u0).setCell ⟨b,1,none⟩ u1).setCell ⟨b,2,none⟩ u2).cell? ⟨b,2,none⟩=some u2/\((((X.setCell ⟨b,0,none⟩ u0).setCell ⟨b,1,none⟩ u1).setCell ⟨b,2,none⟩ u2).setCell ⟨b,3,none⟩ u3).cell? ⟨b,3,none⟩=some u3/\(((((X.setCell ⟨b,0,none⟩ u0).setCell ⟨b,1,none⟩ u1).setCell ⟨b,2,none⟩ u2).setCell ⟨b,3,none⟩ u3).setCell ⟨b,4,none⟩ u4).cell? ⟨b,4,none⟩=some u4:=
 ⟨by rw [(h.set 0 u0).cell 0];rfl,by rw [((h.set 0 u0).set 1 u1).cell 1];rfl,by rw [(((h.set 0 u0).set 1 u1).set 2 u2).cell 2];rfl,by rw [((((h.set 0 u0).set 1 u1).set 2 u2).set 3 u3).cell 3];rfl,by rw [(((((h.set 0 u0).set 1 u1).set 2 u2).set 3 u3).set 4 u4).cell 4];rfl⟩
theorem ZgQ {w X:World} (h:Below w.heap.size w X) {b:Nat} (hb:w.heap.size<=b) (u0 u1 u2 u3 u4:Value):Below w.heap.size w (((((X.setCell ⟨b,0,none⟩ u0).setCell ⟨b,1,none⟩ u1).setCell ⟨b,2,none⟩ u2).setCell ⟨b,3,none⟩ u3).setCell ⟨b,4,none⟩ u4):=
 ((((h.setCell (p:=⟨b,0,none⟩) hb _).setCell (p:=⟨b,1,none⟩) hb _).setCell (p:=⟨b,2,none⟩) hb _).setCell (p:=⟨b,3,none⟩) hb _).setCell (p:=⟨b,4,none⟩) hb _
theorem Zas (w0 w:World) (bp dp:Nat) (t:Txt) (vn:Value) (ns:List Nd) (x:NdV×Nd) (i k:Nat) (h:PrN w0 w bp t dp vn ns) (hx:Zv w0 x) (hi:x.2.kids[i]? = some (k:Int)) (hk:k<ns.length) :
  Calls Tryz.prog 32 #[.pointer (some ⟨bp,0,none⟩),ndX x,.int .i64 (i:Int)] w fun e w'=>∃ y:NdV×Nd,e=.returned (ndX y)/\ns[k]? = some y.2/\Zv w0 y/\Below w.heap.size w w':=by
 obtain ⟨⟨vw,vu,vk⟩,kd,ws,nums,ks,ps⟩:=x
 obtain ⟨hw,hu,hkk⟩:=hx
 dsimp only at hw hu hkk hi ⊢
 obtain ⟨Aw,cw,rfl,_⟩:=hw
 obtain ⟨Au,cu,rfl,_⟩:=hu
 obtain ⟨Ak,ck,rfl,_,_,hK⟩:=hkk
 obtain ⟨An,cn,rs,rfl,_,hcn,hm,hN,hE⟩:=h.n
 have hil:=(List.getElem?_eq_some_iff.1 hi).1
 have hkl:ks.length<=maxLen:=by omega
 obtain ⟨v,hv,_⟩:=h.p.box
 obtain ⟨y,hy⟩:∃ y,rs[k]? = some y:=⟨_,List.getElem?_eq_getElem (by rw [<- hm,List.length_map] at hk;exact hk)⟩
 have hyn:ns[k]? = some y.2:=by rw [<- hm,List.getElem?_map,hy];rfl
 have a1:=Zb w (.cells #[.int .i64 kd,.slice Aw ws.length cw,.slice Au nums.length cu,.slice Ak ks.length ck,.int .i64 ps] 29)
 have B1:=Blk.start w #[.int .i64 kd,.slice Aw ws.length cw,.slice Au nums.length cu,.slice Ak ks.length ck,.int .i64 ps] 29
 have a2:=Zb (w.alloc (.cells #[.int .i64 kd,.slice Aw ws.length cw,.slice Au nums.length cu,.slice Ak ks.length ck,.int .i64 ps] 29)) (.cells Zep 29)
 have B2:=Blk.start (w.alloc (.cells #[.int .i64 kd,.slice Aw ws.length cw,.slice Au nums.length cu,.slice Ak ks.length ck,.int .i64 ps] 29)) Zep 29
 rw [World.size_alloc] at B2
 have bw:=a1.trans (a2.mono a1.size)
 have b0:=h.p.below.trans (bw.mono h.p.below.size)
 have S0:=Lib.hid (And.intro (B1.keep a2) (And.intro B2 (And.intro (hv.keep bw) (And.intro bw (And.intro b0 (And.intro hyn (hE y (List.mem_of_getElem? hy))))))))
 have HC:=Lib.hid (And.intro hK (And.intro hN (And.intro hi hy)))
 clear h hK hN hE hm hv hy hyn a1 B1 a2 B2 bw b0 hi
 go_enter Tryz.func32,Tryz.ntmps32
 go_upto_region 1 with fail
 generalize ((w.alloc (.cells #[.int .i64 kd,.slice Aw ws.length cw,.slice Au nums.length cu,.slice Ak ks.length ck,.int .i64 ps] 29)).alloc (.cells Zep 29))=W at *
 obtain ⟨ak,rfl,d0⟩:=Zp HC.out.1 S0.out.2.2.2.2.1 HC.out.2.2.1 (by omega)
 obtain ⟨an,rfl,n0,n1,n2,n3,n4⟩:=ZK HC.out.2.1 S0.out.2.2.2.2.1 HC.out.2.2.2 (by omega)
 have c2:=S0.out.2.2.1.blk.cell 2
 have c3:=S0.out.1.cell 3
 simp only [List.getElem?_toArray,List.getElem?_cons_zero,List.getElem?_cons_succ] at c2 c3
 have z0:=S0.out.2.1.cell 0
 have z1:=S0.out.2.1.cell 1
 have z2:=S0.out.2.1.cell 2
 have z3:=S0.out.2.1.cell 3
 have z4:=S0.out.2.1.cell 4
 simp only [List.getElem?_toArray,List.getElem?_cons_zero,List.getElem?_cons_succ] at z0 z1 z2 z3 z4
 have f0:=S0.out.2.1.free 0
 have f1:=S0.out.2.1.free 1
 have f2:=S0.out.2.1.free 2
 have f3:=S0.out.2.1.free 3
 have f4:=S0.out.2.1.free 4
 have i0:(0:Int)<=(i:Int):=by omega
 have i1:(i:Int)<(ks.length:Int):=by omega
 have k0:(0:Int)<=(k:Int):=by omega
 have k1:(k:Int)<(ns.length:Int):=by omega
 obtain ⟨⟨yw,yu,yk⟩,kd2,ws2,nums2,ks2,ps2⟩:=y
 obtain ⟨h61,h62,h63⟩:=S0.out.2.2.2.2.2.2
 dsimp only at h61 h62 h63
 obtain ⟨Bw,dw,rfl,_⟩:=h61
 obtain ⟨Bu,du,rfl,_⟩:=h62
 obtain ⟨Bk,dk,rfl,_⟩:=h63
 dsimp only at n0 n1 n2 n3 n4
 clear hil hkl hk
 have so:=Zht
 refine wp_region_still_tail 11 (by kernel_rfl) (by kernel_rfl) ?_
 simp only [List.take_succ_cons,List.take_zero,List.drop_succ_cons,List.drop_zero]
 iterate 11 still_step
 refine wpStill_nil ?_
 change wpList _ _ _ _ _ W.drew
 go_wp2_with fail
 obtain ⟨r0,r1,r2,r3,r4⟩:=ZiY S0.out.2.1 (.int .i64 kd2) (.slice Bw ws2.length dw) (.slice Bu nums2.length du) (.slice Bk ks2.length dk) (.int .i64 ps2)
 exact bodyPost_ret (v:=.agg #[.int .i64 kd2,.slice Bw ws2.length dw,.slice Bu nums2.length du,.slice Bk ks2.length dk,.int .i64 ps2]) (by simp [results,Tryz.results32,go_sem,so,r0,r1,r2,r3,r4]) rfl ⟨.slice Bw ws2.length dw,.slice Bu nums2.length du,.slice Bk ks2.length dk,⟨kd2,ws2,nums2,ks2,ps2⟩,rfl,S0.out.2.2.2.2.2.1,S0.out.2.2.2.2.2.2,(ZgQ S0.out.2.2.2.1 (Nat.le_succ _) _ _ _ _ _).drew⟩
end
section
open Go.RowKit
def Zci (n:Nd):Prop:=n.kind=22->∃ s r,n.nums=s::r/\0<=s/\s<=5
theorem Zbc (w0 w:World) (x:NdV×Nd) (hx:Zv w0 x) (hb:Below w0.heap.size w0 w) (hv:Zci x.2) :
  Calls Tryz.prog 92 #[ndX x] w fun e w'=>e=.returned (.int .i64 (ZO x.2:Nat))/\Below w.heap.size w w':=by
 obtain ⟨⟨vw,vu,vk⟩,kd,ws,nums,ks,ps⟩:=x
 obtain ⟨hw,hu,hkk⟩:=hx
 dsimp only at hw hu hkk hv ⊢
 obtain ⟨Aw,cw,rfl,_⟩:=hw
 obtain ⟨Au,cu,rfl,_,_,hU⟩:=hu
 obtain ⟨Ak,ck,rfl,_⟩:=hkk
 have a1:=Zb w (.cells #[.int .i64 kd,.slice Aw ws.length cw,.slice Au nums.length cu,.slice Ak ks.length ck,.int .i64 ps] 29)
 have B1:=Blk.start w #[.int .i64 kd,.slice Aw ws.length cw,.slice Au nums.length cu,.slice Ak ks.length ck,.int .i64 ps] 29
 have c0:=B1.cell 0
 have c2:=B1.cell 2
 simp only [List.getElem?_toArray,List.getElem?_cons_zero,List.getElem?_cons_succ] at c0 c2
 have HA:=Lib.hid a1
 have ba:=hb.trans (a1.mono hb.size)
 clear a1 B1 hb
 by_cases hk:kd=22
 ·subst hk
  obtain ⟨s,r,hn,h0,h5⟩:=hv rfl
  dsimp only at hn
  obtain ⟨au,rfl,d0⟩:=Zp (k:=0) (x:=s) hU ba (by rw [hn];rfl) (by rw [hn];exact Nat.succ_pos _)
  have d1:(w.alloc (.cells #[.int .i64 22,.slice Aw ws.length cw,.slice (some au) nums.length cu,.slice Ak ks.length ck,.int .i64 ps] 29)).cell? au=some (.int .i64 s):=d0
  clear d0
  have hl:(0:Int)<(nums.length:Int):=by rw [hn];simp only [List.length_cons];omega
  have he:ZO ⟨22,ws,nums,ks,ps⟩=if s<=1 then 0 else if s<=3 then 1 else 2:=by unfold ZO num;rw [if_pos rfl];dsimp only;rw [hn];rfl
  rw [he]
  clear hU hn he ba hv
  have:s=0\/s=1\/s=2\/s=3\/s=4\/s=5:=by omega
  rcases this with rfl | rfl | rfl | rfl | rfl | rfl <;>
  ·clear h0 h5
   go_enter Tryz.func92,Tryz.ntmps92
   go_wp2_with fail
   go_ret
   exact ⟨rfl,HA.out⟩
 ·have he:ZO ⟨kd,ws,nums,ks,ps⟩=3:=by unfold ZO;rw [if_neg hk]
  rw [he]
  have t0:(kd != 22)=true:=by rw [bne_iff_ne];exact hk
  clear hU he ba hv hk
  go_enter Tryz.func92,Tryz.ntmps92
  go_wp2_with fail
  go_ret
  exact ⟨rfl,HA.out⟩
end
section
open Go.RowKit
def ZX (ns:List Nd):Nat->Nd->Prop
 | 0,_=>False
 | f+1,n=>Zci n/\((n.kind=20/\∃ v r,n.nums=v::r/\-9223372036854775808<=v/\v<=9223372036854775807)\/(n.kind=21/\∃ s r,n.words=s::r) ∨
   (n.kind=23/\∃ k:Nat,n.kids[0]? = some (k:Int)/\k<ns.length/\ZX ns f (Ze ns k)) ∨
   (n.kind=22/\∃ j k:Nat,n.kids[0]? = some (j:Int)/\j<ns.length/\ZX ns f (Ze ns j)/\n.kids[1]? = some (k:Int)/\k<ns.length/\ZX ns f (Ze ns k)))
theorem ZX.bin {ns:List Nd} {f:Nat} {n:Nd} (h:ZX ns f n):Zci n:=by
 cases f with
 | zero=>exact h.elim
 | succ f=>exact h.1
def opT (ns:List Nd) (f:Nat) (m:Nd) (least:Nat):Txt:=if least<=ZO m then Zu ns f m else [40]++Zu ns f m++[41]
theorem Za3 {w0 w:World} {bp dp b:Nat} {t:Txt} {vn:Value} {cs:Array Value} (h:PrS w0 w bp t dp vn) (k:Zm w b 29 cs):b≠bp:=by
 obtain ⟨v,h1,_⟩:=h.box
 intro e
 subst e
 exact absurd (Zdw k h1) (by decide)
def Zaj (w0:World) (ns:List Nd) (f:Nat):Prop:=
 ∀ (w:World) (bp dp:Nat) (t:Txt) (vn:Value) (x:NdV×Nd),PrS w0 w bp t dp vn->Zf w0 vn ns->Zv w0 x->ZX ns f x.2->t.length+(Zu ns f x.2).length+100<=140737488355328 ->
  Calls Tryz.prog 69 #[.pointer (some ⟨bp,0,none⟩),ndX x] w fun e w'=>e=.returned (.tuple #[])/\PrS w0 w' bp (t++Zu ns f x.2) dp vn/\Fr w w' bp
abbrev ndC (x:NdV×Nd):Array Value:=#[.int .i64 x.2.kind,x.1.1,x.1.2.1,x.1.2.2,.int .i64 x.2.pos]
theorem Zg {w:World} {b:Nat} {x:NdV×Nd} (h:Zm w b 29 (ndC x)):w.cell? ⟨b,0,none⟩=some (.int .i64 x.2.kind)/\w.cell? ⟨b,1,none⟩=some x.1.1/\w.cell? ⟨b,2,none⟩=some x.1.2.1/\w.cell? ⟨b,3,none⟩=some x.1.2.2/\w.cell? ⟨b,4,none⟩=some (.int .i64 x.2.pos):=by
 have c0:=h.blk.cell 0
 have c1:=h.blk.cell 1
 have c2:=h.blk.cell 2
 have c3:=h.blk.cell 3
 have c4:=h.blk.cell 4
 simp only [List.getElem?_toArray,List.getElem?_cons_zero,List.getElem?_cons_succ] at c0 c1 c2 c3 c4
 exact ⟨c0,c1,c2,c3,c4⟩
theorem ZaB (w0 w:World) (bp dp f least:Nat) (t:Txt) (vn:Value) (ns:List Nd) (x:NdV×Nd) (hE:Zaj w0 ns f) (h:PrS w0 w bp t dp vn) (hN:Zf w0 vn ns) (hx:Zv w0 x) (hv:ZX ns f x.2) (hl:t.length+(opT ns f x.2 least).length+100<=140737488355328) :
  Calls Tryz.prog 91 #[.pointer (some ⟨bp,0,none⟩),ndX x,.int .i64 (least:Nat)] w fun e w'=>e=.returned (.tuple #[])/\PrS w0 w' bp (t++opT ns f x.2 least) dp vn/\Fr w w' bp:=by
 have hq:=hx
 have hb:=hv.bin
 obtain ⟨⟨vw,vu,vk⟩,kd,ws,nums,ks,ps⟩:=x
 obtain ⟨hw,hu,hkk⟩:=hx
 dsimp only at hw hu hkk hv hl hb ⊢
 obtain ⟨Aw,cw,rfl,_⟩:=hw
 obtain ⟨Au,cu,rfl,_⟩:=hu
 obtain ⟨Ak,ck,rfl,_⟩:=hkk
 have a1:=Zb w (.cells #[.int .i64 kd,.slice Aw ws.length cw,.slice Au nums.length cu,.slice Ak ks.length ck,.int .i64 ps] 29)
 have B1:Zm _ _ _ _:=Zm.start w #[.int .i64 kd,.slice Aw ws.length cw,.slice Au nums.length cu,.slice Ak ks.length ck,.int .i64 ps] 29
 obtain ⟨c0,c1,c2,c3,c4⟩:=Zg (x:=((.slice Aw ws.length cw,.slice Au nums.length cu,.slice Ak ks.length ck),⟨kd,ws,nums,ks,ps⟩)) B1
 dsimp only at c0 c1 c2 c3 c4
 have p1:=h.keep a1
 have ST:=Lib.hid (Zbc w0 _ _ hq p1.below hb)
 generalize hs:ZO ⟨kd,ws,nums,ks,ps⟩=s at ST
 have HX:=Lib.hid (And.intro p1 (And.intro B1 (And.intro a1 (And.intro hN (And.intro hq (And.intro hv hE))))))
 have HP:=Lib.hid h
 clear p1 B1 a1 hN hq hv hE h hb
 generalize hw1:w.alloc (.cells #[.int .i64 kd,.slice Aw ws.length cw,.slice Au nums.length cu,.slice Ak ks.length ck,.int .i64 ps] 29)=w1 at ST HX c0 c1 c2 c3 c4
 by_cases hle:least<=s
 ·have e1:opT ns f ⟨kd,ws,nums,ks,ps⟩ least=Zu ns f ⟨kd,ws,nums,ks,ps⟩:=by unfold opT;rw [hs,if_pos hle]
  rw [e1] at hl ⊢
  have j:(least:Int)<=(s:Int):=by omega
  have HL:=Lib.hid hl
  clear hl e1 hs hle
  go_enter Tryz.func91,Tryz.ntmps91
  go_upto_region 2 with (go_at_call 92;(refine ST.out.mono ?_);rintro e w2 ⟨rfl,hb⟩;have HB:=Lib.hid hb;clear hb)
  have K2:=HX.out.2.1.keep HB.out
  obtain ⟨d0,d1,d2,d3,d4⟩:=Zg (x:=((.slice Aw ws.length cw,.slice Au nums.length cu,.slice Ak ks.length ck),⟨kd,ws,nums,ks,ps⟩)) K2
  dsimp only at d0 d1 d2 d3 d4
  have EX:=Lib.hid (HX.out.2.2.2.2.2.2 w2 bp dp t vn _ (HX.out.1.keep HB.out) HX.out.2.2.2.1 HX.out.2.2.2.2.1 HX.out.2.2.2.2.2.1 HL.out)
  clear K2
  go_wp2_with (go_at_call 69;(refine EX.out.mono ?_);rintro e w3 ⟨rfl,hp,hf⟩;have H3:=Lib.hid (And.intro hp hf);clear hp hf)
  refine bodyPost_ret (v:=.tuple #[]) (results_none (by kernel_rfl) _ _ _) rfl ⟨rfl,H3.out.1,((Fr.of_below bp (hw1▸HX.out.2.2.1)).trans (Fr.of_below bp HB.out)).trans H3.out.2⟩
 ·have e1:opT ns f ⟨kd,ws,nums,ks,ps⟩ least=[40]++Zu ns f ⟨kd,ws,nums,ks,ps⟩++[41]:=by unfold opT;rw [hs,if_neg hle]
  rw [e1] at hl ⊢
  simp only [List.length_append,List.length_cons,List.length_nil] at hl
  have j:¬ ((least:Int)<=(s:Int)):=by omega
  have HL:=Lib.hid hl
  clear hl e1 hs hle
  go_enter Tryz.func91,Tryz.ntmps91
  go_upto_region 3 with (go_at_call 92;(refine ST.out.mono ?_);rintro e w2 ⟨rfl,hb⟩;have HB:=Lib.hid hb;clear hb)
  have A2:=Lib.hid (ZH w0 w2 bp dp t vn [40] (HX.out.1.keep HB.out) (by have:=HL.out;simp only [List.length_cons,List.length_nil];omega))
  go_upto_region 4 with (go_at_call 26;(refine A2.out.mono ?_);rintro e w3 ⟨rfl,hp,hf⟩;have H3:=Lib.hid (And.intro hp hf);clear hp hf)
  have K2:=HX.out.2.1.keep HB.out
  have K3:=H3.out.2.at_ _ _ _ (Za3 (HX.out.1.keep HB.out) K2) (by decide) K2
  obtain ⟨d0,d1,d2,d3,d4⟩:=Zg (x:=((.slice Aw ws.length cw,.slice Au nums.length cu,.slice Ak ks.length ck),⟨kd,ws,nums,ks,ps⟩)) K3
  dsimp only at d0 d1 d2 d3 d4
  have EX:=Lib.hid (HX.out.2.2.2.2.2.2 w3 bp dp _ vn _ H3.out.1 HX.out.2.2.2.1 HX.out.2.2.2.2.1 HX.out.2.2.2.2.2.1 (by have:=HL.out;simp only [List.length_append,List.length_cons,List.length_nil];omega))
  clear K2 K3
  go_upto_region 5 with (go_at_call 69;(refine EX.out.mono ?_);rintro e w4 ⟨rfl,hp,hf⟩;have H4:=Lib.hid (And.intro hp hf);clear hp hf)
  have A4:=Lib.hid (ZH w0 w4 bp dp _ vn [41] H4.out.1 (by have:=HL.out;simp only [List.length_append,List.length_cons,List.length_nil];omega))
  go_wp2_with (go_at_call 26;(refine A4.out.mono ?_);rintro e w5 ⟨rfl,hp,hf⟩;have H5:=Lib.hid (And.intro hp hf);clear hp hf)
  go_end0
  refine ⟨rfl,?_,((((Fr.of_below bp (hw1▸HX.out.2.2.1)).trans (Fr.of_below bp HB.out)).trans H3.out.2).trans H4.out.2).trans H5.out.2⟩
  have:=H5.out.1
  simp only [List.append_assoc] at this ⊢
  exact this
end
end Go.Proofs.YtenbomphkihmlaaGreatDoor
