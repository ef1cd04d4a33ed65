import Derived.Test.YtfdgeijnkkdplaaDoorQAX
set_option maxRecDepth 100000
set_option maxHeartbeats 8000000
namespace Go.Proofs.YtfdgeijnkkdplaaDoor
section
open Go Go.RowKit
def Zjg (B:Nat) (sb:Nat) (p:String):Oper:=⟨some B,.load 39 (.tmp sb),39,p,#[],none⟩
def Zjh (B:Nat) (sp:Nat) (p:String):Oper:=⟨some (B+1),.load 63 (.tmp sp),63,p,#[],none⟩
def Zji (B:Nat) (p:String):Oper:=⟨some (B+2),.nilCheck (.tmp (B+1)),0,p,#[Zf 1],none⟩
def Zjj (B:Nat) (p:String):Oper:=⟨some (B+3),.fieldAddr 54 (.tmp (B+2)) 0,0,p,#[Zf 2],none⟩
def Zjk (F:Nat) (B:Nat) (p:String):Oper:=⟨some (B+4),.call ⟨.value (.func F),#[.tmp (B+3)],#[52]⟩,9,p,#[Zf 3],none⟩
def Zjl (B:Nat) (sp:Nat) (p:String):Oper:=⟨some (B+5),.load 63 (.tmp sp),63,p,#[],none⟩
def Zjm (B:Nat) (p:String):Oper:=⟨some (B+6),.nilCheck (.tmp (B+5)),0,p,#[Zf 5],none⟩
def Zjn (B:Nat) (p:String):Oper:=⟨some (B+7),.fieldAddr 54 (.tmp (B+6)) 0,0,p,#[Zf 6],none⟩
def Zjo (F:Nat) (B:Nat) (p:String):Oper:=⟨some (B+8),.call ⟨.value (.func F),#[.tmp (B+7)],#[52]⟩,9,p,#[Zf 7,ZbT 4],none⟩
def Zjp (B:Nat) (p:String):Oper:=⟨some (B+9),.buildSlice 29 2 #[(0,.tmp (B+4)),(1,.tmp (B+8))],29,p,#[Zf 4,Zf 8],none⟩
def Zgw (B:Nat) (p:String):Oper:=⟨some (B+10),.nilCheck (.tmp B),0,p,#[Zf 0,Zc 0,Zc 1,Zc 2,Zc 3,Zc 4,Zc 5,Zc 6,Zc 7,Zc 8,Zc 9],none⟩
def Zgx (B:Nat) (p:String):Oper:=⟨some (B+11),.fieldAddr 59 (.tmp (B+10)) 0,0,p,#[Zf 10,Zc 0,Zc 1,Zc 2,Zc 3,Zc 4,Zc 5,Zc 6,Zc 7,Zc 8,Zc 9],none⟩
def Zgy (B:Nat) (p:String):Oper:=⟨some (B+12),.fieldAddr 33 (.tmp (B+11)) 1,0,p,#[Zf 11,Zc 0,Zc 1,Zc 2,Zc 3,Zc 4,Zc 5,Zc 6,Zc 7,Zc 8,Zc 9],none⟩
def Zgz (B:Nat) (p:String):Oper:=⟨none,.store 29 (.tmp (B+12)) (.tmp (B+9)),0,p,#[Zf 12,Zf 9,ZbT 8,Zc 0,Zc 1,Zc 2,Zc 3,Zc 4,Zc 5,Zc 6,Zc 7,Zc 8,Zc 9],none⟩
def ZmF (F:Nat) (B:Nat) (sp:Nat) (sb:Nat) (p:String):Array Oper:=#[Zjg B sb p,Zjh B sp p,Zji B p,Zjj B p,Zjk F B p,Zjl B sp p,Zjm B p,Zjn B p,Zjo F B p,Zjp B p,Zgw B p,Zgx B p,Zgy B p,Zgz B p]
def Za6 (B:Nat):List (Option Nat):=[some B,some (B+1),some (B+2),some (B+3),some (B+4),some (B+5),some (B+6),some (B+7),some (B+8),some (B+9),some (B+10),some (B+11),some (B+12),none]
theorem ZmN {F:Nat} (hF:ZN F) (B sp sb:Nat) {p:String} {id:Nat} {Q:Exit->Act->World->Prop} {a:Act} {w0 wS w:World} {bp c:Nat} {ad:Addr} {L:List Tok} {s:PS} {k:Int} {ws:List Txt} {ns:List Int} {at_:Int} {kids:List Tr} {b:Nat} {xs:List (Nat×TypeId×Array Value)} (hG:Way w0 wS w bp c ad L s k ws ns at_ kids b xs) {px bx:Nat} (hbx:(bx,39,#[brV b])∈xs) (hpx:(px,63,#[pV bp])∈xs) (hC1:∀ w1,ParQ w0 w1 bp ad c L s->Calls Tryd.prog F #[pV bp] w1 (Zbv w0 w1 bp c ad L (Za L s) fun x v _=>v=txt x)) (hC2:∀ w1,ParQ w0 w1 bp ad c L (Za L s).2->Calls Tryd.prog F #[pV bp] w1 (Zbv w0 w1 bp c ad L (Za L (Za L s).2) fun x v _=>v=txt x)) (hbad1:Zcl wS bp Q a (Za L s).2) (hbad2:Zcl wS bp Q a (Za L (Za L s).2).2)
  (h:∀ x w',Way w0 wS w' bp c ad L (Za L (Za L s).2).2 k [(Za L s).1,(Za L (Za L s).2).1] ns at_ kids b xs->Q .normal (ZE x 0 (Za6 B) a) w')
  (hB:Nat.blt (B+12) a.tmps.size=true:=by kernel_rfl) (n_sp:some sp ∉ Za6 B:=by decide) (n_sb:some sb ∉ Za6 B:=by decide) (hon:Zbc (Za6 B)=true:=by kernel_rfl) (h_sp:a.eval (.tmp sp)=pV px:=by rfl) (h_sb:a.eval (.tmp sb)=pV bx:=by rfl) :
  (Code.region id (ZmF F B sp sb p) true).wp Tryd.prog Q a w:=by
 rw [Nat.blt_eq] at hB
 refine Zav 13 [4,8,9] (Za6 B) (fun i v=>match i with | 0=>v=brV b | 1=>v=pV bp | 2=>v=pV bp | 3=>v=pV bp | 5=>v=pV bp | 6=>v=pV bp | 7=>v=pV bp | 10=>v=brV b | 11=>v=brV b | 12=>v=(.pointer (some ⟨b,1,none⟩)) | _=>True) (fun q v w1=>match q with | 0=>Way w0 wS w1 bp c ad L s k ws ns at_ kids b xs | 1=>Way w0 wS w1 bp c ad L (Za L s).2 k ws ns at_ kids b xs/\v 0=txt (Za L s).1 | 2=>Way w0 wS w1 bp c ad L (Za L (Za L s).2).2 k ws ns at_ kids b xs/\v 0=txt (Za L s).1/\v 1=txt (Za L (Za L s).2).1 | _=>∃ w2,Way w0 wS w2 bp c ad L (Za L (Za L s).2).2 k ws ns at_ kids b xs/\w1=(w2.alloc (.cells #[txt (Za L s).1,txt (Za L (Za L s).2).1] 9))/\v 2=.slice (some ⟨w2.heap.size,0,none⟩) 2 2) (fun x w'=>Way w0 wS w' bp c ad L (Za L (Za L s).2).2 k [(Za L s).1,(Za L (Za L s).2).1] ns at_ kids b xs) rfl (by kernel_rfl) (by kernel_rfl) (by kernel_rfl) (by kernel_rfl) (by decide) (by decide) rfl hon hG.drew ?_ ?_ ?_ ?_ ?_
 ·intro q v v' w1 hv hW
  match q,hW with
  | 0,hW=>exact hW
  | 1,hW=>
   have e0:=hv 0 (by omega)
   simpa only [<- e0] using hW
  | 2,hW=>
   have e0:=hv 0 (by omega)
   have e1:=hv 1 (by omega)
   simpa only [<- e0,<- e1] using hW
  | q+3,hW=>
   have e2:=hv 2 (by omega)
   simpa only [<- e2] using hW
 ·intro i o hi him ho x ph w1 hp hW hd hq K' hK
  have hS:w1.cell? ⟨bx,0,none⟩=some (brV b)/\w1.cell? ⟨px,0,none⟩=some (pV bp):=by
   have hc2:ph=0\/ph=1\/ph=2\/ph=3:=by dsimp only [List.length] at hp;omega
   rcases hc2 with rfl | rfl | rfl | rfl
   ·exact ⟨hW.cell hbx,hW.cell hpx⟩
   ·exact ⟨hW.1.cell hbx,hW.1.cell hpx⟩
   ·exact ⟨hW.1.cell hbx,hW.1.cell hpx⟩
   ·obtain ⟨w2,h1,rfl,_⟩:=hW
    have h2:=h1.grown (below_alloc1 w2 (.cells #[txt (Za L s).1,txt (Za L (Za L s).2).1] 9))
    exact ⟨h2.cell hbx,h2.cell hpx⟩
  obtain ⟨q1,q2⟩:=hS
  clear hW hq hp
  have hc:i=0\/i=1\/i=2\/i=3\/i=4\/i=5\/i=6\/i=7\/i=8\/i=9\/i=10\/i=11\/i=12:=by omega
  clear hi
  rcases hc with rfl | rfl | rfl | rfl | rfl | rfl | rfl | rfl | rfl | rfl | rfl | rfl | rfl
  ·obtain rfl:Zjg B sb p=o:=Option.some.inj ho
   dsimp only [Zjg] at hK hd ⊢
   have y_sb:=(ZM (x:=x) (Za6 B) 0 a n_sb).trans h_sb
   refine Zi rfl (v:=brV b) (w2:=w1) ?_ (hK.out (brV b) rfl)
   simp only [execOp,y_sb]
   go_simp
  ·obtain rfl:Zjh B sp p=o:=Option.some.inj ho
   dsimp only [Zjh] at hK hd ⊢
   have y_sp:=(ZM (x:=x) (Za6 B) 0 a n_sp).trans h_sp
   refine Zi rfl (v:=pV bp) (w2:=w1) ?_ (hK.out (pV bp) rfl)
   simp only [execOp,y_sp]
   go_simp
  ·obtain rfl:Zji B p=o:=Option.some.inj ho
   dsimp only [Zji] at hK hd ⊢
   have y_1:=(Ze (x:=x) (Za6 B) 0 1 a hon rfl (show (B+1)<a.tmps.size by omega)).trans ((congrArg x (Nat.zero_add 1)).trans (show x 1=pV bp from hd (Zf 1) (by simp) rfl (by decide)))
   refine Zi rfl (v:=pV bp) (w2:=w1) ?_ (hK.out (pV bp) rfl)
   simp only [execOp,y_1]
   go_simp
  ·obtain rfl:Zjj B p=o:=Option.some.inj ho
   dsimp only [Zjj] at hK hd ⊢
   have y_2:=(Ze (x:=x) (Za6 B) 0 2 a hon rfl (show (B+2)<a.tmps.size by omega)).trans ((congrArg x (Nat.zero_add 2)).trans (show x 2=pV bp from hd (Zf 2) (by simp) rfl (by decide)))
   refine Zi rfl (v:=pV bp) (w2:=w1) ?_ (hK.out (pV bp) rfl)
   simp only [execOp,y_2]
   go_simp
  ·exact absurd (by decide) him
  ·obtain rfl:Zjl B sp p=o:=Option.some.inj ho
   dsimp only [Zjl] at hK hd ⊢
   have y_sp:=(ZM (x:=x) (Za6 B) 0 a n_sp).trans h_sp
   refine Zi rfl (v:=pV bp) (w2:=w1) ?_ (hK.out (pV bp) rfl)
   simp only [execOp,y_sp]
   go_simp
  ·obtain rfl:Zjm B p=o:=Option.some.inj ho
   dsimp only [Zjm] at hK hd ⊢
   have y_5:=(Ze (x:=x) (Za6 B) 0 5 a hon rfl (show (B+5)<a.tmps.size by omega)).trans ((congrArg x (Nat.zero_add 5)).trans (show x 5=pV bp from hd (Zf 5) (by simp) rfl (by decide)))
   refine Zi rfl (v:=pV bp) (w2:=w1) ?_ (hK.out (pV bp) rfl)
   simp only [execOp,y_5]
   go_simp
  ·obtain rfl:Zjn B p=o:=Option.some.inj ho
   dsimp only [Zjn] at hK hd ⊢
   have y_6:=(Ze (x:=x) (Za6 B) 0 6 a hon rfl (show (B+6)<a.tmps.size by omega)).trans ((congrArg x (Nat.zero_add 6)).trans (show x 6=pV bp from hd (Zf 6) (by simp) rfl (by decide)))
   refine Zi rfl (v:=pV bp) (w2:=w1) ?_ (hK.out (pV bp) rfl)
   simp only [execOp,y_6]
   go_simp
  ·exact absurd (by decide) him
  ·exact absurd (by decide) him
  ·obtain rfl:Zgw B p=o:=Option.some.inj ho
   dsimp only [Zgw] at hK hd ⊢
   have y_0:=(Ze (x:=x) (Za6 B) 0 0 a hon rfl (show B<a.tmps.size by omega)).trans ((congrArg x (Nat.zero_add 0)).trans (show x 0=brV b from hd (Zf 0) (by simp) rfl (by decide)))
   refine Zi rfl (v:=brV b) (w2:=w1) ?_ (hK.out (brV b) rfl)
   simp only [execOp,y_0]
   go_simp
  ·obtain rfl:Zgx B p=o:=Option.some.inj ho
   dsimp only [Zgx] at hK hd ⊢
   have y_10:=(Ze (x:=x) (Za6 B) 0 10 a hon rfl (show (B+10)<a.tmps.size by omega)).trans ((congrArg x (Nat.zero_add 10)).trans (show x 10=brV b from hd (Zf 10) (by simp) rfl (by decide)))
   refine Zi rfl (v:=brV b) (w2:=w1) ?_ (hK.out (brV b) rfl)
   simp only [execOp,y_10]
   go_simp
  ·obtain rfl:Zgy B p=o:=Option.some.inj ho
   dsimp only [Zgy] at hK hd ⊢
   have y_11:=(Ze (x:=x) (Za6 B) 0 11 a hon rfl (show (B+11)<a.tmps.size by omega)).trans ((congrArg x (Nat.zero_add 11)).trans (show x 11=brV b from hd (Zf 11) (by simp) rfl (by decide)))
   refine Zi rfl (v:=(.pointer (some ⟨b,1,none⟩))) (w2:=w1) ?_ (hK.out ((.pointer (some ⟨b,1,none⟩))) rfl)
   simp only [execOp,y_11]
   go_simp
 ·intro q m o hq ho x w1 hW hd K' hK
  have hc:q=0\/q=1\/q=2:=by have:=(List.getElem?_eq_some_iff.1 hq).1;dsimp only [List.length] at this;omega
  rcases hc with rfl | rfl | rfl
  ·obtain rfl:4=m:=Option.some.inj hq
   obtain rfl:Zjk F B p=o:=Option.some.inj ho
   dsimp only [Zjk] at hK hd ⊢
   have hF0:=hW.F
   have hPP:=hW.P
   have y_3:=(Ze (x:=x) (Za6 B) 0 3 a hon rfl (show (B+3)<a.tmps.size by omega)).trans ((congrArg x (Nat.zero_add 3)).trans (show x 3=pV bp from hd (Zf 3) (by simp) rfl (by decide)))
   refine Zba rfl (ZaP y_3) (hF _ _) ((hC1 w1 hPP).mono ?_)
   rintro e w2 ⟨hf,hok,hbd⟩
   by_cases z:(Za L s).2.err=0
   ·obtain ⟨v,rfl,hP,rfl⟩:=hok z
    exact hK.out _ _ ⟨hW.call hP hf,rfl⟩
   ·obtain rfl:=hbd z
    exact hbad1 z _ _ (Zap _ _ _) (hF0.trans hf)
  ·obtain rfl:8=m:=Option.some.inj hq
   obtain rfl:Zjo F B p=o:=Option.some.inj ho
   dsimp only [Zjo] at hK hd ⊢
   obtain ⟨hW,hv0⟩:=hW
   have hF0:=hW.F
   have hPP:=hW.P
   have y_7:=(Ze (x:=x) (Za6 B) 0 7 a hon rfl (show (B+7)<a.tmps.size by omega)).trans ((congrArg x (Nat.zero_add 7)).trans (show x 7=pV bp from hd (Zf 7) (by simp) rfl (by decide)))
   refine Zba rfl (ZaP y_7) (hF _ _) ((hC2 w1 hPP).mono ?_)
   rintro e w2 ⟨hf,hok,hbd⟩
   by_cases z:(Za L (Za L s).2).2.err=0
   ·obtain ⟨v,rfl,hP,rfl⟩:=hok z
    exact hK.out _ _ ⟨hW.call hP hf,hv0,rfl⟩
   ·obtain rfl:=hbd z
    exact hbad2 z _ _ (Zap _ _ _) (hF0.trans hf)
  ·obtain rfl:9=m:=Option.some.inj hq
   obtain rfl:Zjp B p=o:=Option.some.inj ho
   dsimp only [Zjp] at hK hd ⊢
   obtain ⟨hW,hv0,hv1⟩:=hW
   have y_4:=(Ze (x:=x) (Za6 B) 0 4 a hon rfl (show (B+4)<a.tmps.size by omega)).trans ((congrArg x (Nat.zero_add 4)).trans (show x 4=txt (Za L s).1 from hv0))
   have y_8:=(Ze (x:=x) (Za6 B) 0 8 a hon rfl (show (B+8)<a.tmps.size by omega)).trans ((congrArg x (Nat.zero_add 8)).trans (show x 8=txt (Za L (Za L s).2).1 from hv1))
   refine Zi rfl (v:=.slice (some ⟨w1.heap.size,0,none⟩) 2 2) (w2:=w1.alloc (.cells #[txt (Za L s).1,txt (Za L (Za L s).2).1] 9)) ?_ (hK.out _ _ ⟨w1,hW,rfl,rfl⟩)
   simp only [execOp,List.map_toArray,List.map_cons,List.map_nil,y_4,y_8]
   go_simp
 ·intro o ho x w1 hW hd K' hK
  obtain rfl:Zgz B p=o:=Option.some.inj ho
  dsimp only [Zgz] at hK ⊢
  obtain ⟨w2,hW1,rfl,hv2⟩:=hW
  have y_12:=(Ze (x:=x) (Za6 B) 0 12 a hon rfl (show (B+12)<a.tmps.size by omega)).trans ((congrArg x (Nat.zero_add 12)).trans (show x 12=(.pointer (some ⟨b,1,none⟩)) from hd 12 (by decide) (by decide)))
  have y_9:=(Ze (x:=x) (Za6 B) 0 9 a hon rfl (show (B+9)<a.tmps.size by omega)).trans ((congrArg x (Nat.zero_add 9)).trans (show x 9=.slice (some ⟨w2.heap.size,0,none⟩) 2 2 from hv2))
  have W2:=hW1.grown (below_alloc1 w2 (.cells #[txt (Za L s).1,txt (Za L (Za L s).2).1] 9))
  have q0:=W2.free 1
  obtain ⟨vw,vn,vk,bs,KK,X⟩:=W2.X
  have q1:=X.box.blk.cell 1
  simp only [List.getElem?_toArray,List.getElem?_cons_zero,List.getElem?_cons_succ] at q1
  have HW:=zh hW1
  clear W2 X hW1
  refine ZbE rfl (w2:=((w2.alloc (.cells #[txt (Za L s).1,txt (Za L (Za L s).2).1] 9))).setCell ⟨b,1,none⟩ (.slice (some ⟨w2.heap.size,0,none⟩) 2 2)) ?_ (hK.out _ _ (HW.out.words2 (Za L s).1 (Za L (Za L s).2).1))
  simp only [execOp,y_12,y_9]
  go_simp
 ·exact fun x w1 hE=>h x w1 hE
def Zjq (B:Nat) (sb:Nat) (p:String):Oper:=⟨some B,.move (.tmp sb),39,p,#[],none⟩
def Zjr (B:Nat) (sp:Nat) (p:String):Oper:=⟨some (B+1),.move (.tmp sp),63,p,#[],none⟩
def Zjs (B:Nat) (p:String):Oper:=⟨some (B+2),.nilCheck (.tmp (B+1)),0,p,#[Zf 1],none⟩
def Zjt (B:Nat) (p:String):Oper:=⟨some (B+3),.fieldAddr 54 (.tmp (B+2)) 0,0,p,#[Zf 2],none⟩
def Zju (F:Nat) (B:Nat) (p:String):Oper:=⟨some (B+4),.call ⟨.value (.func F),#[.tmp (B+3)],#[52]⟩,9,p,#[Zf 3],none⟩
def Zjv (B:Nat) (sp:Nat) (p:String):Oper:=⟨some (B+5),.move (.tmp sp),63,p,#[],none⟩
def Zjw (B:Nat) (p:String):Oper:=⟨some (B+6),.nilCheck (.tmp (B+5)),0,p,#[Zf 5],none⟩
def Zjx (B:Nat) (p:String):Oper:=⟨some (B+7),.fieldAddr 54 (.tmp (B+6)) 0,0,p,#[Zf 6],none⟩
def Zjy (F:Nat) (B:Nat) (p:String):Oper:=⟨some (B+8),.call ⟨.value (.func F),#[.tmp (B+7)],#[52]⟩,9,p,#[Zf 7,ZbT 4],none⟩
def Zjz (B:Nat) (p:String):Oper:=⟨some (B+9),.buildSlice 29 2 #[(0,.tmp (B+4)),(1,.tmp (B+8))],29,p,#[Zf 4,Zf 8],none⟩
def ZgA (B:Nat) (p:String):Oper:=⟨some (B+10),.nilCheck (.tmp B),0,p,#[Zf 0,Zc 0,Zc 1,Zc 2,Zc 3,Zc 4,Zc 5,Zc 6,Zc 7,Zc 8,Zc 9],none⟩
def ZgB (B:Nat) (p:String):Oper:=⟨some (B+11),.fieldAddr 59 (.tmp (B+10)) 0,0,p,#[Zf 10,Zc 0,Zc 1,Zc 2,Zc 3,Zc 4,Zc 5,Zc 6,Zc 7,Zc 8,Zc 9],none⟩
def ZgC (B:Nat) (p:String):Oper:=⟨some (B+12),.fieldAddr 33 (.tmp (B+11)) 1,0,p,#[Zf 11,Zc 0,Zc 1,Zc 2,Zc 3,Zc 4,Zc 5,Zc 6,Zc 7,Zc 8,Zc 9],none⟩
def ZgD (B:Nat) (p:String):Oper:=⟨none,.store 29 (.tmp (B+12)) (.tmp (B+9)),0,p,#[Zf 12,Zf 9,ZbT 8,Zc 0,Zc 1,Zc 2,Zc 3,Zc 4,Zc 5,Zc 6,Zc 7,Zc 8,Zc 9],none⟩
def ZmG (F:Nat) (B:Nat) (sp:Nat) (sb:Nat) (p:String):Array Oper:=#[Zjq B sb p,Zjr B sp p,Zjs B p,Zjt B p,Zju F B p,Zjv B sp p,Zjw B p,Zjx B p,Zjy F B p,Zjz B p,ZgA B p,ZgB B p,ZgC B p,ZgD B p]
def Za7 (B:Nat):List (Option Nat):=[some B,some (B+1),some (B+2),some (B+3),some (B+4),some (B+5),some (B+6),some (B+7),some (B+8),some (B+9),some (B+10),some (B+11),some (B+12),none]
theorem ZmO {F:Nat} (hF:ZN F) (B sp sb:Nat) {p:String} {id:Nat} {Q:Exit->Act->World->Prop} {a:Act} {w0 wS w:World} {bp c:Nat} {ad:Addr} {L:List Tok} {s:PS} {k:Int} {ws:List Txt} {ns:List Int} {at_:Int} {kids:List Tr} {b:Nat} {xs:List (Nat×TypeId×Array Value)} (hG:Way w0 wS w bp c ad L s k ws ns at_ kids b xs) (hC1:∀ w1,ParQ w0 w1 bp ad c L s->Calls Tryd.prog F #[pV bp] w1 (Zbv w0 w1 bp c ad L (Za L s) fun x v _=>v=txt x)) (hC2:∀ w1,ParQ w0 w1 bp ad c L (Za L s).2->Calls Tryd.prog F #[pV bp] w1 (Zbv w0 w1 bp c ad L (Za L (Za L s).2) fun x v _=>v=txt x)) (hbad1:Zcl wS bp Q a (Za L s).2) (hbad2:Zcl wS bp Q a (Za L (Za L s).2).2)
  (h:∀ x w',Way w0 wS w' bp c ad L (Za L (Za L s).2).2 k [(Za L s).1,(Za L (Za L s).2).1] ns at_ kids b xs->Q .normal (ZE x 0 (Za7 B) a) w')
  (hB:Nat.blt (B+12) a.tmps.size=true:=by kernel_rfl) (n_sp:some sp ∉ Za7 B:=by decide) (n_sb:some sb ∉ Za7 B:=by decide) (hon:Zbc (Za7 B)=true:=by kernel_rfl) (h_sp:a.eval (.tmp sp)=pV bp:=by rfl) (h_sb:a.eval (.tmp sb)=brV b:=by rfl) :
  (Code.region id (ZmG F B sp sb p) true).wp Tryd.prog Q a w:=by
 rw [Nat.blt_eq] at hB
 refine Zav 13 [4,8,9] (Za7 B) (fun i v=>match i with | 0=>v=brV b | 1=>v=pV bp | 2=>v=pV bp | 3=>v=pV bp | 5=>v=pV bp | 6=>v=pV bp | 7=>v=pV bp | 10=>v=brV b | 11=>v=brV b | 12=>v=(.pointer (some ⟨b,1,none⟩)) | _=>True) (fun q v w1=>match q with | 0=>Way w0 wS w1 bp c ad L s k ws ns at_ kids b xs | 1=>Way w0 wS w1 bp c ad L (Za L s).2 k ws ns at_ kids b xs/\v 0=txt (Za L s).1 | 2=>Way w0 wS w1 bp c ad L (Za L (Za L s).2).2 k ws ns at_ kids b xs/\v 0=txt (Za L s).1/\v 1=txt (Za L (Za L s).2).1 | _=>∃ w2,Way w0 wS w2 bp c ad L (Za L (Za L s).2).2 k ws ns at_ kids b xs/\w1=(w2.alloc (.cells #[txt (Za L s).1,txt (Za L (Za L s).2).1] 9))/\v 2=.slice (some ⟨w2.heap.size,0,none⟩) 2 2) (fun x w'=>Way w0 wS w' bp c ad L (Za L (Za L s).2).2 k [(Za L s).1,(Za L (Za L s).2).1] ns at_ kids b xs) rfl (by kernel_rfl) (by kernel_rfl) (by kernel_rfl) (by kernel_rfl) (by decide) (by decide) rfl hon hG.drew ?_ ?_ ?_ ?_ ?_
 ·intro q v v' w1 hv hW
  match q,hW with
  | 0,hW=>exact hW
  | 1,hW=>
   have e0:=hv 0 (by omega)
   simpa only [<- e0] using hW
  | 2,hW=>
   have e0:=hv 0 (by omega)
   have e1:=hv 1 (by omega)
   simpa only [<- e0,<- e1] using hW
  | q+3,hW=>
   have e2:=hv 2 (by omega)
   simpa only [<- e2] using hW
 ·intro i o hi him ho x ph w1 hp hW hd hq K' hK
  have hS:True:=by
   have hc2:ph=0\/ph=1\/ph=2\/ph=3:=by dsimp only [List.length] at hp;omega
   rcases hc2 with rfl | rfl | rfl | rfl
   ·exact trivial
   ·exact trivial
   ·exact trivial
   ·trivial
  obtain q1:=hS
  clear hW hq hp
  have hc:i=0\/i=1\/i=2\/i=3\/i=4\/i=5\/i=6\/i=7\/i=8\/i=9\/i=10\/i=11\/i=12:=by omega
  clear hi
  rcases hc with rfl | rfl | rfl | rfl | rfl | rfl | rfl | rfl | rfl | rfl | rfl | rfl | rfl
  ·obtain rfl:Zjq B sb p=o:=Option.some.inj ho
   dsimp only [Zjq] at hK hd ⊢
   have y_sb:=(ZM (x:=x) (Za7 B) 0 a n_sb).trans h_sb
   refine Zi rfl (v:=brV b) (w2:=w1) ?_ (hK.out (brV b) rfl)
   simp only [execOp,y_sb]
   go_simp
  ·obtain rfl:Zjr B sp p=o:=Option.some.inj ho
   dsimp only [Zjr] at hK hd ⊢
   have y_sp:=(ZM (x:=x) (Za7 B) 0 a n_sp).trans h_sp
   refine Zi rfl (v:=pV bp) (w2:=w1) ?_ (hK.out (pV bp) rfl)
   simp only [execOp,y_sp]
   go_simp
  ·obtain rfl:Zjs B p=o:=Option.some.inj ho
   dsimp only [Zjs] at hK hd ⊢
   have y_1:=(Ze (x:=x) (Za7 B) 0 1 a hon rfl (show (B+1)<a.tmps.size by omega)).trans ((congrArg x (Nat.zero_add 1)).trans (show x 1=pV bp from hd (Zf 1) (by simp) rfl (by decide)))
   refine Zi rfl (v:=pV bp) (w2:=w1) ?_ (hK.out (pV bp) rfl)
   simp only [execOp,y_1]
   go_simp
  ·obtain rfl:Zjt B p=o:=Option.some.inj ho
   dsimp only [Zjt] at hK hd ⊢
   have y_2:=(Ze (x:=x) (Za7 B) 0 2 a hon rfl (show (B+2)<a.tmps.size by omega)).trans ((congrArg x (Nat.zero_add 2)).trans (show x 2=pV bp from hd (Zf 2) (by simp) rfl (by decide)))
   refine Zi rfl (v:=pV bp) (w2:=w1) ?_ (hK.out (pV bp) rfl)
   simp only [execOp,y_2]
   go_simp
  ·exact absurd (by decide) him
  ·obtain rfl:Zjv B sp p=o:=Option.some.inj ho
   dsimp only [Zjv] at hK hd ⊢
   have y_sp:=(ZM (x:=x) (Za7 B) 0 a n_sp).trans h_sp
   refine Zi rfl (v:=pV bp) (w2:=w1) ?_ (hK.out (pV bp) rfl)
   simp only [execOp,y_sp]
   go_simp
  ·obtain rfl:Zjw B p=o:=Option.some.inj ho
   dsimp only [Zjw] at hK hd ⊢
   have y_5:=(Ze (x:=x) (Za7 B) 0 5 a hon rfl (show (B+5)<a.tmps.size by omega)).trans ((congrArg x (Nat.zero_add 5)).trans (show x 5=pV bp from hd (Zf 5) (by simp) rfl (by decide)))
   refine Zi rfl (v:=pV bp) (w2:=w1) ?_ (hK.out (pV bp) rfl)
   simp only [execOp,y_5]
   go_simp
  ·obtain rfl:Zjx B p=o:=Option.some.inj ho
   dsimp only [Zjx] at hK hd ⊢
   have y_6:=(Ze (x:=x) (Za7 B) 0 6 a hon rfl (show (B+6)<a.tmps.size by omega)).trans ((congrArg x (Nat.zero_add 6)).trans (show x 6=pV bp from hd (Zf 6) (by simp) rfl (by decide)))
   refine Zi rfl (v:=pV bp) (w2:=w1) ?_ (hK.out (pV bp) rfl)
   simp only [execOp,y_6]
   go_simp
  ·exact absurd (by decide) him
  ·exact absurd (by decide) him
  ·obtain rfl:ZgA B p=o:=Option.some.inj ho
   dsimp only [ZgA] at hK hd ⊢
   have y_0:=(Ze (x:=x) (Za7 B) 0 0 a hon rfl (show B<a.tmps.size by omega)).trans ((congrArg x (Nat.zero_add 0)).trans (show x 0=brV b from hd (Zf 0) (by simp) rfl (by decide)))
   refine Zi rfl (v:=brV b) (w2:=w1) ?_ (hK.out (brV b) rfl)
   simp only [execOp,y_0]
   go_simp
  ·obtain rfl:ZgB B p=o:=Option.some.inj ho
   dsimp only [ZgB] at hK hd ⊢
   have y_10:=(Ze (x:=x) (Za7 B) 0 10 a hon rfl (show (B+10)<a.tmps.size by omega)).trans ((congrArg x (Nat.zero_add 10)).trans (show x 10=brV b from hd (Zf 10) (by simp) rfl (by decide)))
   refine Zi rfl (v:=brV b) (w2:=w1) ?_ (hK.out (brV b) rfl)
   simp only [execOp,y_10]
   go_simp
  ·obtain rfl:ZgC B p=o:=Option.some.inj ho
   dsimp only [ZgC] at hK hd ⊢
   have y_11:=(Ze (x:=x) (Za7 B) 0 11 a hon rfl (show (B+11)<a.tmps.size by omega)).trans ((congrArg x (Nat.zero_add 11)).trans (show x 11=brV b from hd (Zf 11) (by simp) rfl (by decide)))
   refine Zi rfl (v:=(.pointer (some ⟨b,1,none⟩))) (w2:=w1) ?_ (hK.out ((.pointer (some ⟨b,1,none⟩))) rfl)
   simp only [execOp,y_11]
   go_simp
 ·intro q m o hq ho x w1 hW hd K' hK
  have hc:q=0\/q=1\/q=2:=by have:=(List.getElem?_eq_some_iff.1 hq).1;dsimp only [List.length] at this;omega
  rcases hc with rfl | rfl | rfl
  ·obtain rfl:4=m:=Option.some.inj hq
   obtain rfl:Zju F B p=o:=Option.some.inj ho
   dsimp only [Zju] at hK hd ⊢
   have hF0:=hW.F
   have hPP:=hW.P
   have y_3:=(Ze (x:=x) (Za7 B) 0 3 a hon rfl (show (B+3)<a.tmps.size by omega)).trans ((congrArg x (Nat.zero_add 3)).trans (show x 3=pV bp from hd (Zf 3) (by simp) rfl (by decide)))
   refine Zba rfl (ZaP y_3) (hF _ _) ((hC1 w1 hPP).mono ?_)
   rintro e w2 ⟨hf,hok,hbd⟩
   by_cases z:(Za L s).2.err=0
   ·obtain ⟨v,rfl,hP,rfl⟩:=hok z
    exact hK.out _ _ ⟨hW.call hP hf,rfl⟩
   ·obtain rfl:=hbd z
    exact hbad1 z _ _ (Zap _ _ _) (hF0.trans hf)
  ·obtain rfl:8=m:=Option.some.inj hq
   obtain rfl:Zjy F B p=o:=Option.some.inj ho
   dsimp only [Zjy] at hK hd ⊢
   obtain ⟨hW,hv0⟩:=hW
   have hF0:=hW.F
   have hPP:=hW.P
   have y_7:=(Ze (x:=x) (Za7 B) 0 7 a hon rfl (show (B+7)<a.tmps.size by omega)).trans ((congrArg x (Nat.zero_add 7)).trans (show x 7=pV bp from hd (Zf 7) (by simp) rfl (by decide)))
   refine Zba rfl (ZaP y_7) (hF _ _) ((hC2 w1 hPP).mono ?_)
   rintro e w2 ⟨hf,hok,hbd⟩
   by_cases z:(Za L (Za L s).2).2.err=0
   ·obtain ⟨v,rfl,hP,rfl⟩:=hok z
    exact hK.out _ _ ⟨hW.call hP hf,hv0,rfl⟩
   ·obtain rfl:=hbd z
    exact hbad2 z _ _ (Zap _ _ _) (hF0.trans hf)
  ·obtain rfl:9=m:=Option.some.inj hq
   obtain rfl:Zjz B p=o:=Option.some.inj ho
   dsimp only [Zjz] at hK hd ⊢
   obtain ⟨hW,hv0,hv1⟩:=hW
   have y_4:=(Ze (x:=x) (Za7 B) 0 4 a hon rfl (show (B+4)<a.tmps.size by omega)).trans ((congrArg x (Nat.zero_add 4)).trans (show x 4=txt (Za L s).1 from hv0))
   have y_8:=(Ze (x:=x) (Za7 B) 0 8 a hon rfl (show (B+8)<a.tmps.size by omega)).trans ((congrArg x (Nat.zero_add 8)).trans (show x 8=txt (Za L (Za L s).2).1 from hv1))
   refine Zi rfl (v:=.slice (some ⟨w1.heap.size,0,none⟩) 2 2) (w2:=w1.alloc (.cells #[txt (Za L s).1,txt (Za L (Za L s).2).1] 9)) ?_ (hK.out _ _ ⟨w1,hW,rfl,rfl⟩)
   simp only [execOp,List.map_toArray,List.map_cons,List.map_nil,y_4,y_8]
   go_simp
 ·intro o ho x w1 hW hd K' hK
  obtain rfl:ZgD B p=o:=Option.some.inj ho
  dsimp only [ZgD] at hK ⊢
  obtain ⟨w2,hW1,rfl,hv2⟩:=hW
  have y_12:=(Ze (x:=x) (Za7 B) 0 12 a hon rfl (show (B+12)<a.tmps.size by omega)).trans ((congrArg x (Nat.zero_add 12)).trans (show x 12=(.pointer (some ⟨b,1,none⟩)) from hd 12 (by decide) (by decide)))
  have y_9:=(Ze (x:=x) (Za7 B) 0 9 a hon rfl (show (B+9)<a.tmps.size by omega)).trans ((congrArg x (Nat.zero_add 9)).trans (show x 9=.slice (some ⟨w2.heap.size,0,none⟩) 2 2 from hv2))
  have W2:=hW1.grown (below_alloc1 w2 (.cells #[txt (Za L s).1,txt (Za L (Za L s).2).1] 9))
  have q0:=W2.free 1
  obtain ⟨vw,vn,vk,bs,KK,X⟩:=W2.X
  have q1:=X.box.blk.cell 1
  simp only [List.getElem?_toArray,List.getElem?_cons_zero,List.getElem?_cons_succ] at q1
  have HW:=zh hW1
  clear W2 X hW1
  refine ZbE rfl (w2:=((w2.alloc (.cells #[txt (Za L s).1,txt (Za L (Za L s).2).1] 9))).setCell ⟨b,1,none⟩ (.slice (some ⟨w2.heap.size,0,none⟩) 2 2)) ?_ (hK.out _ _ (HW.out.words2 (Za L s).1 (Za L (Za L s).2).1))
  simp only [execOp,y_12,y_9]
  go_simp
 ·exact fun x w1 hE=>h x w1 hE
end
end Go.Proofs.YtfdgeijnkkdplaaDoor
