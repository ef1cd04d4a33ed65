import Derived.Test.YtfdgeijnkkdplaaDoorQAX
set_option maxRecDepth 100000
set_option maxHeartbeats 8000000
namespace Go.Proofs.YtfdgeijnkkdplaaDoor
section
open Go Go.RowKit
def ZjA (B:Nat) (sb:Nat) (p:String):Oper:=⟨some B,.load 39 (.tmp sb),39,p,#[],none⟩
def ZjB (B:Nat) (sb:Nat) (p:String):Oper:=⟨some (B+1),.load 39 (.tmp sb),39,p,#[],none⟩
def ZjC (B:Nat) (p:String):Oper:=⟨some (B+2),.nilCheck (.tmp (B+1)),0,p,#[Zf 1],none⟩
def ZjD (B:Nat) (p:String):Oper:=⟨some (B+3),.fieldAddr 59 (.tmp (B+2)) 0,0,p,#[Zf 2],none⟩
def ZjE (B:Nat) (p:String):Oper:=⟨some (B+4),.fieldAddr 33 (.tmp (B+3)) 1,0,p,#[Zf 3],none⟩
def ZjF (B:Nat) (p:String):Oper:=⟨some (B+5),.load 29 (.tmp (B+4)),29,p,#[Zf 4],none⟩
def ZjG (B:Nat) (sp:Nat) (p:String):Oper:=⟨some (B+6),.load 63 (.tmp sp),63,p,#[],none⟩
def ZjH (B:Nat) (p:String):Oper:=⟨some (B+7),.nilCheck (.tmp (B+6)),0,p,#[Zf 6],none⟩
def ZjI (B:Nat) (p:String):Oper:=⟨some (B+8),.fieldAddr 54 (.tmp (B+7)) 0,0,p,#[Zf 7],none⟩
def ZjJ (F:Nat) (B:Nat) (p:String):Oper:=⟨some (B+9),.call ⟨.value (.func F),#[.tmp (B+8)],#[52]⟩,9,p,#[Zf 8],none⟩
def ZgE (B:Nat) (p:String):Oper:=⟨some (B+10),.buildSlice 29 1 #[(0,.tmp (B+9))],29,p,#[Zf 9],none⟩
def ZgF (B:Nat) (p:String):Oper:=⟨some (B+11),.call ⟨.builtin .append,#[.tmp (B+5),.tmp (B+10)],#[29,29]⟩,29,p,#[Zf 5,Zf 10,ZbT 9],none⟩
def ZgG (B:Nat) (p:String):Oper:=⟨some (B+12),.nilCheck (.tmp B),0,p,#[Zf 0,Zc 0,Zc 1,Zc 2,Zc 3,Zc 4,Zc 5,Zc 6,Zc 7,Zc 8,Zc 9,Zc 10,Zc 11],none⟩
def ZgH (B:Nat) (p:String):Oper:=⟨some (B+13),.fieldAddr 59 (.tmp (B+12)) 0,0,p,#[Zf 12,Zc 0,Zc 1,Zc 2,Zc 3,Zc 4,Zc 5,Zc 6,Zc 7,Zc 8,Zc 9,Zc 10,Zc 11],none⟩
def ZgI (B:Nat) (p:String):Oper:=⟨some (B+14),.fieldAddr 33 (.tmp (B+13)) 1,0,p,#[Zf 13,Zc 0,Zc 1,Zc 2,Zc 3,Zc 4,Zc 5,Zc 6,Zc 7,Zc 8,Zc 9,Zc 10,Zc 11],none⟩
def ZgJ (B:Nat) (p:String):Oper:=⟨none,.store 29 (.tmp (B+14)) (.tmp (B+11)),0,p,#[Zf 14,Zf 11,ZbT 11,Zc 0,Zc 1,Zc 2,Zc 3,Zc 4,Zc 5,Zc 6,Zc 7,Zc 8,Zc 9,Zc 10,Zc 11],none⟩
def ZmH (F:Nat) (B:Nat) (sp:Nat) (sb:Nat) (p:String):Array Oper:=#[ZjA B sb p,ZjB B sb p,ZjC B p,ZjD B p,ZjE B p,ZjF B p,ZjG B sp p,ZjH B p,ZjI B p,ZjJ F B p,ZgE B p,ZgF B p,ZgG B p,ZgH B p,ZgI B p,ZgJ B p]
def ZaR (B:Nat):List (Option Nat):=[some B,some (B+1),some (B+2),some (B+3),some (B+4),some (B+5),some (B+6),some (B+7),some (B+8),some (B+9),some (B+10),some (B+11),some (B+12),some (B+13),some (B+14),none]
theorem Zg7 {F:Nat} (hF:ZN F) (B sp sb:Nat) {p:String} {id:Nat} {Q:Exit->Act->World->Prop} {a:Act} {w0 wS w:World} {bp c:Nat} {ad:Addr} {L:List Tok} {s:PS} {k:Int} {ws:List Txt} {ns:List Int} {at_:Int} {b:Nat} {xs:List (Nat×TypeId×Array Value)} (hG0:Way w0 wS w bp c ad L s k ws ns at_ [] b xs) (hl:ws.length<=1000000) {px bx:Nat} (hbx:(bx,39,#[brV b])∈xs) (hpx:(px,63,#[pV bp])∈xs) (hC1:∀ w1,ParQ w0 w1 bp ad c L s->Calls Tryd.prog F #[pV bp] w1 (Zbv w0 w1 bp c ad L (Za L s) fun x v _=>v=txt x)) (hbad1:Zcl wS bp Q a (Za L s).2)
  (h:∀ x w',Way w0 wS w' bp c ad L (Za L s).2 k (ws++[(Za L s).1]) ns at_ [] b xs->Q .normal (ZE x 0 (ZaR B) a) w')
  (hB:Nat.blt (B+14) a.tmps.size=true:=by kernel_rfl) (n_sp:some sp ∉ ZaR B:=by decide) (n_sb:some sb ∉ ZaR B:=by decide) (hon:Zbc (ZaR B)=true:=by kernel_rfl) (h_sp:a.eval (.tmp sp)=pV px:=by rfl) (h_sb:a.eval (.tmp sb)=pV bx:=by rfl) :
  (Code.region id (ZmH F B sp sb p) true).wp Tryd.prog Q a w:=by
 rw [Nat.blt_eq] at hB
 obtain ⟨vw,hG⟩:=hG0.words
 refine Zav 15 [9,10,11] (ZaR B) (fun i v=>match i with | 0=>v=brV b | 1=>v=brV b | 2=>v=brV b | 3=>v=brV b | 4=>v=(.pointer (some ⟨b,1,none⟩)) | 5=>v=vw | 6=>v=pV bp | 7=>v=pV bp | 8=>v=pV bp | 12=>v=brV b | 13=>v=brV b | 14=>v=(.pointer (some ⟨b,1,none⟩)) | _=>True) (fun q v w1=>match q with | 0=>WayV w0 wS w1 bp c ad L s k ws ns at_ [] b xs vw | 1=>WayV w0 wS w1 bp c ad L (Za L s).2 k ws ns at_ [] b xs vw/\v 0=txt (Za L s).1 | 2=>∃ w2,WayV w0 wS w2 bp c ad L (Za L s).2 k ws ns at_ [] b xs vw/\w1=(w2.alloc (.cells #[txt (Za L s).1] 9))/\v 1=.slice (some ⟨w2.heap.size,0,none⟩) 1 1 | _=>∃ vw',WayP w0 wS w1 bp c ad L (Za L s).2 k (ws++[(Za L s).1]) ns at_ [] b xs vw vw'/\v 2=vw') (fun x w'=>Way w0 wS w' bp c ad L (Za L s).2 k (ws++[(Za L s).1]) ns at_ [] b xs) rfl (by kernel_rfl) (by kernel_rfl) (by kernel_rfl) (by kernel_rfl) (by decide) (by decide) rfl hon (hG.grown (Below.refl _ _).drew) ?_ ?_ ?_ ?_ ?_
 ·intro q v v' w1 hv hW
  match q,hW with
  | 0,hW=>exact hW
  | 1,hW=>
   have e0:=hv 0 (by omega)
   simpa only [<- e0] using hW
  | 2,hW=>
   have e1:=hv 1 (by omega)
   simpa only [<- e1] using hW
  | q+3,hW=>
   have e2:=hv 2 (by omega)
   simpa only [<- e2] using hW
 ·intro i o hi him ho x ph w1 hp hW hd hq K' hK
  have hS:w1.cell? ⟨bx,0,none⟩=some (brV b)/\w1.cell? ⟨px,0,none⟩=some (pV bp)/\w1.cell? ⟨b,1,none⟩=some vw:=by
   have hc2:ph=0\/ph=1\/ph=2\/ph=3:=by dsimp only [List.length] at hp;omega
   rcases hc2 with rfl | rfl | rfl | rfl
   ·exact ⟨hW.way.cell hbx,hW.way.cell hpx,hW.cell⟩
   ·exact ⟨hW.1.way.cell hbx,hW.1.way.cell hpx,hW.1.cell⟩
   ·obtain ⟨w2,h1,rfl,_⟩:=hW
    have h2:=h1.grown (below_alloc1 w2 (.cells #[txt (Za L s).1] 9))
    exact ⟨h2.way.cell hbx,h2.way.cell hpx,h2.cell⟩
   ·obtain ⟨vw',h1,_⟩:=hW
    exact ⟨h1.box hbx,h1.box hpx,h1.cell.1⟩
  obtain ⟨q1,q2,q3⟩:=hS
  clear hW hq hp
  have hc:i=0\/i=1\/i=2\/i=3\/i=4\/i=5\/i=6\/i=7\/i=8\/i=9\/i=10\/i=11\/i=12\/i=13\/i=14:=by omega
  clear hi
  rcases hc with rfl | rfl | rfl | rfl | rfl | rfl | rfl | rfl | rfl | rfl | rfl | rfl | rfl | rfl | rfl
  ·obtain rfl:ZjA B sb p=o:=Option.some.inj ho
   dsimp only [ZjA] at hK hd ⊢
   have y_sb:=(ZM (x:=x) (ZaR B) 0 a n_sb).trans h_sb
   refine Zi rfl (v:=brV b) (w2:=w1) ?_ (hK.out (brV b) rfl)
   simp only [execOp,y_sb]
   go_simp
  ·obtain rfl:ZjB B sb p=o:=Option.some.inj ho
   dsimp only [ZjB] at hK hd ⊢
   have y_sb:=(ZM (x:=x) (ZaR B) 0 a n_sb).trans h_sb
   refine Zi rfl (v:=brV b) (w2:=w1) ?_ (hK.out (brV b) rfl)
   simp only [execOp,y_sb]
   go_simp
  ·obtain rfl:ZjC B p=o:=Option.some.inj ho
   dsimp only [ZjC] at hK hd ⊢
   have y_1:=(Ze (x:=x) (ZaR B) 0 1 a hon rfl (show (B+1)<a.tmps.size by omega)).trans ((congrArg x (Nat.zero_add 1)).trans (show x 1=brV b from hd (Zf 1) (by simp) rfl (by decide)))
   refine Zi rfl (v:=brV b) (w2:=w1) ?_ (hK.out (brV b) rfl)
   simp only [execOp,y_1]
   go_simp
  ·obtain rfl:ZjD B p=o:=Option.some.inj ho
   dsimp only [ZjD] at hK hd ⊢
   have y_2:=(Ze (x:=x) (ZaR B) 0 2 a hon rfl (show (B+2)<a.tmps.size by omega)).trans ((congrArg x (Nat.zero_add 2)).trans (show x 2=brV b from hd (Zf 2) (by simp) rfl (by decide)))
   refine Zi rfl (v:=brV b) (w2:=w1) ?_ (hK.out (brV b) rfl)
   simp only [execOp,y_2]
   go_simp
  ·obtain rfl:ZjE B p=o:=Option.some.inj ho
   dsimp only [ZjE] at hK hd ⊢
   have y_3:=(Ze (x:=x) (ZaR B) 0 3 a hon rfl (show (B+3)<a.tmps.size by omega)).trans ((congrArg x (Nat.zero_add 3)).trans (show x 3=brV b from hd (Zf 3) (by simp) rfl (by decide)))
   refine Zi rfl (v:=(.pointer (some ⟨b,1,none⟩))) (w2:=w1) ?_ (hK.out ((.pointer (some ⟨b,1,none⟩))) rfl)
   simp only [execOp,y_3]
   go_simp
  ·obtain rfl:ZjF B p=o:=Option.some.inj ho
   dsimp only [ZjF] at hK hd ⊢
   have y_4:=(Ze (x:=x) (ZaR B) 0 4 a hon rfl (show (B+4)<a.tmps.size by omega)).trans ((congrArg x (Nat.zero_add 4)).trans (show x 4=(.pointer (some ⟨b,1,none⟩)) from hd (Zf 4) (by simp) rfl (by decide)))
   refine Zi rfl (v:=vw) (w2:=w1) ?_ (hK.out (vw) rfl)
   simp only [execOp,y_4]
   go_simp
  ·obtain rfl:ZjG B sp p=o:=Option.some.inj ho
   dsimp only [ZjG] at hK hd ⊢
   have y_sp:=(ZM (x:=x) (ZaR B) 0 a n_sp).trans h_sp
   refine Zi rfl (v:=pV bp) (w2:=w1) ?_ (hK.out (pV bp) rfl)
   simp only [execOp,y_sp]
   go_simp
  ·obtain rfl:ZjH B p=o:=Option.some.inj ho
   dsimp only [ZjH] at hK hd ⊢
   have y_6:=(Ze (x:=x) (ZaR B) 0 6 a hon rfl (show (B+6)<a.tmps.size by omega)).trans ((congrArg x (Nat.zero_add 6)).trans (show x 6=pV bp from hd (Zf 6) (by simp) rfl (by decide)))
   refine Zi rfl (v:=pV bp) (w2:=w1) ?_ (hK.out (pV bp) rfl)
   simp only [execOp,y_6]
   go_simp
  ·obtain rfl:ZjI B p=o:=Option.some.inj ho
   dsimp only [ZjI] at hK hd ⊢
   have y_7:=(Ze (x:=x) (ZaR B) 0 7 a hon rfl (show (B+7)<a.tmps.size by omega)).trans ((congrArg x (Nat.zero_add 7)).trans (show x 7=pV bp from hd (Zf 7) (by simp) rfl (by decide)))
   refine Zi rfl (v:=pV bp) (w2:=w1) ?_ (hK.out (pV bp) rfl)
   simp only [execOp,y_7]
   go_simp
  ·exact absurd (by decide) him
  ·exact absurd (by decide) him
  ·exact absurd (by decide) him
  ·obtain rfl:ZgG B p=o:=Option.some.inj ho
   dsimp only [ZgG] at hK hd ⊢
   have y_0:=(Ze (x:=x) (ZaR B) 0 0 a hon rfl (show B<a.tmps.size by omega)).trans ((congrArg x (Nat.zero_add 0)).trans (show x 0=brV b from hd (Zf 0) (by simp) rfl (by decide)))
   refine Zi rfl (v:=brV b) (w2:=w1) ?_ (hK.out (brV b) rfl)
   simp only [execOp,y_0]
   go_simp
  ·obtain rfl:ZgH B p=o:=Option.some.inj ho
   dsimp only [ZgH] at hK hd ⊢
   have y_12:=(Ze (x:=x) (ZaR B) 0 12 a hon rfl (show (B+12)<a.tmps.size by omega)).trans ((congrArg x (Nat.zero_add 12)).trans (show x 12=brV b from hd (Zf 12) (by simp) rfl (by decide)))
   refine Zi rfl (v:=brV b) (w2:=w1) ?_ (hK.out (brV b) rfl)
   simp only [execOp,y_12]
   go_simp
  ·obtain rfl:ZgI B p=o:=Option.some.inj ho
   dsimp only [ZgI] at hK hd ⊢
   have y_13:=(Ze (x:=x) (ZaR B) 0 13 a hon rfl (show (B+13)<a.tmps.size by omega)).trans ((congrArg x (Nat.zero_add 13)).trans (show x 13=brV b from hd (Zf 13) (by simp) rfl (by decide)))
   refine Zi rfl (v:=(.pointer (some ⟨b,1,none⟩))) (w2:=w1) ?_ (hK.out ((.pointer (some ⟨b,1,none⟩))) rfl)
   simp only [execOp,y_13]
   go_simp
 ·intro q m o hq ho x w1 hW hd K' hK
  have hc:q=0\/q=1\/q=2:=by have:=(List.getElem?_eq_some_iff.1 hq).1;dsimp only [List.length] at this;omega
  rcases hc with rfl | rfl | rfl
  ·obtain rfl:9=m:=Option.some.inj hq
   obtain rfl:ZjJ F B p=o:=Option.some.inj ho
   dsimp only [ZjJ] at hK hd ⊢
   have hF0:=hW.F
   have hPP:=hW.P
   have y_8:=(Ze (x:=x) (ZaR B) 0 8 a hon rfl (show (B+8)<a.tmps.size by omega)).trans ((congrArg x (Nat.zero_add 8)).trans (show x 8=pV bp from hd (Zf 8) (by simp) rfl (by decide)))
   refine Zba rfl (ZaP y_8) (hF _ _) ((hC1 w1 hPP).mono ?_)
   rintro e w2 ⟨hf,hok,hbd⟩
   by_cases z:(Za L s).2.err=0
   ·obtain ⟨v,rfl,hP,rfl⟩:=hok z
    exact hK.out _ _ ⟨hW.call hP hf,rfl⟩
   ·obtain rfl:=hbd z
    exact hbad1 z _ _ (Zap _ _ _) (hF0.trans hf)
  ·obtain rfl:10=m:=Option.some.inj hq
   obtain rfl:ZgE B p=o:=Option.some.inj ho
   dsimp only [ZgE] at hK hd ⊢
   obtain ⟨hW,hv0⟩:=hW
   have y_9:=(Ze (x:=x) (ZaR B) 0 9 a hon rfl (show (B+9)<a.tmps.size by omega)).trans ((congrArg x (Nat.zero_add 9)).trans (show x 9=txt (Za L s).1 from hv0))
   refine Zi rfl (v:=.slice (some ⟨w1.heap.size,0,none⟩) 1 1) (w2:=w1.alloc (.cells #[txt (Za L s).1] 9)) ?_ (hK.out _ _ ⟨w1,hW,rfl,rfl⟩)
   simp only [execOp,List.map_toArray,List.map_cons,List.map_nil,y_9]
   go_simp
  ·obtain rfl:11=m:=Option.some.inj hq
   obtain rfl:ZgF B p=o:=Option.some.inj ho
   dsimp only [ZgF] at hK hd ⊢
   obtain ⟨w2,hW1,rfl,hv1⟩:=hW
   have y_5:=(Ze (x:=x) (ZaR B) 0 5 a hon rfl (show (B+5)<a.tmps.size by omega)).trans ((congrArg x (Nat.zero_add 5)).trans (show x 5=vw from hd (Zf 5) (by simp) rfl (by decide)))
   have y_10:=(Ze (x:=x) (ZaR B) 0 10 a hon rfl (show (B+10)<a.tmps.size by omega)).trans ((congrArg x (Nat.zero_add 10)).trans (show x 10=.slice (some ⟨w2.heap.size,0,none⟩) 1 1 from hv1))
   have W2:=hW1.grown (below_alloc1 w2 (.cells #[txt (Za L s).1] 9))
   obtain ⟨iS,hS,zS0,zS1,zS2⟩:=info_parts ZdJ
   have hrow:=W2.row
   refine Zc3 rfl (.tmp (B+5)) (.tmp (B+10)) 29 rfl wS.heap.size 9 iS (.string ⟨#[]⟩) 1 16 Zeu hS zS0 zS1 zS2 rfl (by decide) vw ws.length (ws.map txt) y_5 hrow _ (some ⟨w2.heap.size,0,none⟩) 1 1 [txt (Za L s).1] y_10 (Zb3 (Zy.start w2 _ _).blk rfl) (fun u hu=>by simp only [List.mem_cons,List.not_mem_nil,or_false] at hu;subst hu;rfl) (by unfold maxLen;omega) (by omega) W2.F.size ?_
   intro v' w3 hown hgrow hat
   exact hK.out _ _ ⟨v',W2.append (ys:=[(Za L s).1]) rfl hown hgrow hat,rfl⟩
 ·intro o ho x w1 hW hd K' hK
  obtain rfl:ZgJ B p=o:=Option.some.inj ho
  dsimp only [ZgJ] at hK ⊢
  obtain ⟨vw',hW1,hv2⟩:=hW
  have y_14:=(Ze (x:=x) (ZaR B) 0 14 a hon rfl (show (B+14)<a.tmps.size by omega)).trans ((congrArg x (Nat.zero_add 14)).trans (show x 14=(.pointer (some ⟨b,1,none⟩)) from hd 14 (by decide) (by decide)))
  have y_11:=(Ze (x:=x) (ZaR B) 0 11 a hon rfl (show (B+11)<a.tmps.size by omega)).trans ((congrArg x (Nat.zero_add 11)).trans (show x 11=vw' from hv2))
  obtain ⟨_,_,_,_,_,_,hr0,_⟩:=hW1.X
  obtain ⟨A0,c0,rfl⟩:=Zbp hr0
  clear hr0
  obtain ⟨q1,q0⟩:=hW1.cell
  have HW:=zh hW1
  clear hW1
  refine ZbE rfl (w2:=w1.setCell ⟨b,1,none⟩ (.slice A0 _ c0)) ?_ (hK.out _ _ HW.out.store)
  simp only [execOp,y_14,y_11]
  go_simp
 ·exact fun x w1 hE=>h x w1 hE
def ZjK (B:Nat) (sb:Nat) (p:String):Oper:=⟨some B,.move (.tmp sb),39,p,#[],none⟩
def ZjL (B:Nat) (sb:Nat) (p:String):Oper:=⟨some (B+1),.move (.tmp sb),39,p,#[],none⟩
def ZjM (B:Nat) (p:String):Oper:=⟨some (B+2),.nilCheck (.tmp (B+1)),0,p,#[Zf 1],none⟩
def ZjN (B:Nat) (p:String):Oper:=⟨some (B+3),.fieldAddr 59 (.tmp (B+2)) 0,0,p,#[Zf 2],none⟩
def ZjO (B:Nat) (p:String):Oper:=⟨some (B+4),.fieldAddr 33 (.tmp (B+3)) 1,0,p,#[Zf 3],none⟩
def ZjP (B:Nat) (p:String):Oper:=⟨some (B+5),.load 29 (.tmp (B+4)),29,p,#[Zf 4],none⟩
def ZjQ (B:Nat) (sp:Nat) (p:String):Oper:=⟨some (B+6),.move (.tmp sp),63,p,#[],none⟩
def ZjR (B:Nat) (p:String):Oper:=⟨some (B+7),.nilCheck (.tmp (B+6)),0,p,#[Zf 6],none⟩
def ZjS (B:Nat) (p:String):Oper:=⟨some (B+8),.fieldAddr 54 (.tmp (B+7)) 0,0,p,#[Zf 7],none⟩
def ZjT (F:Nat) (B:Nat) (p:String):Oper:=⟨some (B+9),.call ⟨.value (.func F),#[.tmp (B+8)],#[52]⟩,9,p,#[Zf 8],none⟩
def ZgK (B:Nat) (p:String):Oper:=⟨some (B+10),.buildSlice 29 1 #[(0,.tmp (B+9))],29,p,#[Zf 9],none⟩
def ZgL (B:Nat) (p:String):Oper:=⟨some (B+11),.call ⟨.builtin .append,#[.tmp (B+5),.tmp (B+10)],#[29,29]⟩,29,p,#[Zf 5,Zf 10,ZbT 9],none⟩
def ZgM (B:Nat) (p:String):Oper:=⟨some (B+12),.nilCheck (.tmp B),0,p,#[Zf 0,Zc 0,Zc 1,Zc 2,Zc 3,Zc 4,Zc 5,Zc 6,Zc 7,Zc 8,Zc 9,Zc 10,Zc 11],none⟩
def ZgN (B:Nat) (p:String):Oper:=⟨some (B+13),.fieldAddr 59 (.tmp (B+12)) 0,0,p,#[Zf 12,Zc 0,Zc 1,Zc 2,Zc 3,Zc 4,Zc 5,Zc 6,Zc 7,Zc 8,Zc 9,Zc 10,Zc 11],none⟩
def ZgO (B:Nat) (p:String):Oper:=⟨some (B+14),.fieldAddr 33 (.tmp (B+13)) 1,0,p,#[Zf 13,Zc 0,Zc 1,Zc 2,Zc 3,Zc 4,Zc 5,Zc 6,Zc 7,Zc 8,Zc 9,Zc 10,Zc 11],none⟩
def ZgP (B:Nat) (p:String):Oper:=⟨none,.store 29 (.tmp (B+14)) (.tmp (B+11)),0,p,#[Zf 14,Zf 11,ZbT 11,Zc 0,Zc 1,Zc 2,Zc 3,Zc 4,Zc 5,Zc 6,Zc 7,Zc 8,Zc 9,Zc 10,Zc 11],none⟩
def ZmI (F:Nat) (B:Nat) (sp:Nat) (sb:Nat) (p:String):Array Oper:=#[ZjK B sb p,ZjL B sb p,ZjM B p,ZjN B p,ZjO B p,ZjP B p,ZjQ B sp p,ZjR B p,ZjS B p,ZjT F B p,ZgK B p,ZgL B p,ZgM B p,ZgN B p,ZgO B p,ZgP B p]
def ZaL (B:Nat):List (Option Nat):=[some B,some (B+1),some (B+2),some (B+3),some (B+4),some (B+5),some (B+6),some (B+7),some (B+8),some (B+9),some (B+10),some (B+11),some (B+12),some (B+13),some (B+14),none]
theorem Zg8 {F:Nat} (hF:ZN F) (B sp sb:Nat) {p:String} {id:Nat} {Q:Exit->Act->World->Prop} {a:Act} {w0 wS w:World} {bp c:Nat} {ad:Addr} {L:List Tok} {s:PS} {k:Int} {ws:List Txt} {ns:List Int} {at_:Int} {b:Nat} {xs:List (Nat×TypeId×Array Value)} (hG0:Way w0 wS w bp c ad L s k ws ns at_ [] b xs) (hl:ws.length<=1000000) (hC1:∀ w1,ParQ w0 w1 bp ad c L s->Calls Tryd.prog F #[pV bp] w1 (Zbv w0 w1 bp c ad L (Za L s) fun x v _=>v=txt x)) (hbad1:Zcl wS bp Q a (Za L s).2)
  (h:∀ x w',Way w0 wS w' bp c ad L (Za L s).2 k (ws++[(Za L s).1]) ns at_ [] b xs->Q .normal (ZE x 0 (ZaL B) a) w')
  (hB:Nat.blt (B+14) a.tmps.size=true:=by kernel_rfl) (n_sp:some sp ∉ ZaL B:=by decide) (n_sb:some sb ∉ ZaL B:=by decide) (hon:Zbc (ZaL B)=true:=by kernel_rfl) (h_sp:a.eval (.tmp sp)=pV bp:=by rfl) (h_sb:a.eval (.tmp sb)=brV b:=by rfl) :
  (Code.region id (ZmI F B sp sb p) true).wp Tryd.prog Q a w:=by
 rw [Nat.blt_eq] at hB
 obtain ⟨vw,hG⟩:=hG0.words
 refine Zav 15 [9,10,11] (ZaL B) (fun i v=>match i with | 0=>v=brV b | 1=>v=brV b | 2=>v=brV b | 3=>v=brV b | 4=>v=(.pointer (some ⟨b,1,none⟩)) | 5=>v=vw | 6=>v=pV bp | 7=>v=pV bp | 8=>v=pV bp | 12=>v=brV b | 13=>v=brV b | 14=>v=(.pointer (some ⟨b,1,none⟩)) | _=>True) (fun q v w1=>match q with | 0=>WayV w0 wS w1 bp c ad L s k ws ns at_ [] b xs vw | 1=>WayV w0 wS w1 bp c ad L (Za L s).2 k ws ns at_ [] b xs vw/\v 0=txt (Za L s).1 | 2=>∃ w2,WayV w0 wS w2 bp c ad L (Za L s).2 k ws ns at_ [] b xs vw/\w1=(w2.alloc (.cells #[txt (Za L s).1] 9))/\v 1=.slice (some ⟨w2.heap.size,0,none⟩) 1 1 | _=>∃ vw',WayP w0 wS w1 bp c ad L (Za L s).2 k (ws++[(Za L s).1]) ns at_ [] b xs vw vw'/\v 2=vw') (fun x w'=>Way w0 wS w' bp c ad L (Za L s).2 k (ws++[(Za L s).1]) ns at_ [] b xs) rfl (by kernel_rfl) (by kernel_rfl) (by kernel_rfl) (by kernel_rfl) (by decide) (by decide) rfl hon (hG.grown (Below.refl _ _).drew) ?_ ?_ ?_ ?_ ?_
 ·intro q v v' w1 hv hW
  match q,hW with
  | 0,hW=>exact hW
  | 1,hW=>
   have e0:=hv 0 (by omega)
   simpa only [<- e0] using hW
  | 2,hW=>
   have e1:=hv 1 (by omega)
   simpa only [<- e1] using hW
  | q+3,hW=>
   have e2:=hv 2 (by omega)
   simpa only [<- e2] using hW
 ·intro i o hi him ho x ph w1 hp hW hd hq K' hK
  have hS:w1.cell? ⟨b,1,none⟩=some vw:=by
   have hc2:ph=0\/ph=1\/ph=2\/ph=3:=by dsimp only [List.length] at hp;omega
   rcases hc2 with rfl | rfl | rfl | rfl
   ·exact hW.cell
   ·exact hW.1.cell
   ·obtain ⟨w2,h1,rfl,_⟩:=hW
    have h2:=h1.grown (below_alloc1 w2 (.cells #[txt (Za L s).1] 9))
    exact h2.cell
   ·obtain ⟨vw',h1,_⟩:=hW
    exact h1.cell.1
  obtain q1:=hS
  clear hW hq hp
  have hc:i=0\/i=1\/i=2\/i=3\/i=4\/i=5\/i=6\/i=7\/i=8\/i=9\/i=10\/i=11\/i=12\/i=13\/i=14:=by omega
  clear hi
  rcases hc with rfl | rfl | rfl | rfl | rfl | rfl | rfl | rfl | rfl | rfl | rfl | rfl | rfl | rfl | rfl
  ·obtain rfl:ZjK B sb p=o:=Option.some.inj ho
   dsimp only [ZjK] at hK hd ⊢
   have y_sb:=(ZM (x:=x) (ZaL B) 0 a n_sb).trans h_sb
   refine Zi rfl (v:=brV b) (w2:=w1) ?_ (hK.out (brV b) rfl)
   simp only [execOp,y_sb]
   go_simp
  ·obtain rfl:ZjL B sb p=o:=Option.some.inj ho
   dsimp only [ZjL] at hK hd ⊢
   have y_sb:=(ZM (x:=x) (ZaL B) 0 a n_sb).trans h_sb
   refine Zi rfl (v:=brV b) (w2:=w1) ?_ (hK.out (brV b) rfl)
   simp only [execOp,y_sb]
   go_simp
  ·obtain rfl:ZjM B p=o:=Option.some.inj ho
   dsimp only [ZjM] at hK hd ⊢
   have y_1:=(Ze (x:=x) (ZaL B) 0 1 a hon rfl (show (B+1)<a.tmps.size by omega)).trans ((congrArg x (Nat.zero_add 1)).trans (show x 1=brV b from hd (Zf 1) (by simp) rfl (by decide)))
   refine Zi rfl (v:=brV b) (w2:=w1) ?_ (hK.out (brV b) rfl)
   simp only [execOp,y_1]
   go_simp
  ·obtain rfl:ZjN B p=o:=Option.some.inj ho
   dsimp only [ZjN] at hK hd ⊢
   have y_2:=(Ze (x:=x) (ZaL B) 0 2 a hon rfl (show (B+2)<a.tmps.size by omega)).trans ((congrArg x (Nat.zero_add 2)).trans (show x 2=brV b from hd (Zf 2) (by simp) rfl (by decide)))
   refine Zi rfl (v:=brV b) (w2:=w1) ?_ (hK.out (brV b) rfl)
   simp only [execOp,y_2]
   go_simp
  ·obtain rfl:ZjO B p=o:=Option.some.inj ho
   dsimp only [ZjO] at hK hd ⊢
   have y_3:=(Ze (x:=x) (ZaL B) 0 3 a hon rfl (show (B+3)<a.tmps.size by omega)).trans ((congrArg x (Nat.zero_add 3)).trans (show x 3=brV b from hd (Zf 3) (by simp) rfl (by decide)))
   refine Zi rfl (v:=(.pointer (some ⟨b,1,none⟩))) (w2:=w1) ?_ (hK.out ((.pointer (some ⟨b,1,none⟩))) rfl)
   simp only [execOp,y_3]
   go_simp
  ·obtain rfl:ZjP B p=o:=Option.some.inj ho
   dsimp only [ZjP] at hK hd ⊢
   have y_4:=(Ze (x:=x) (ZaL B) 0 4 a hon rfl (show (B+4)<a.tmps.size by omega)).trans ((congrArg x (Nat.zero_add 4)).trans (show x 4=(.pointer (some ⟨b,1,none⟩)) from hd (Zf 4) (by simp) rfl (by decide)))
   refine Zi rfl (v:=vw) (w2:=w1) ?_ (hK.out (vw) rfl)
   simp only [execOp,y_4]
   go_simp
  ·obtain rfl:ZjQ B sp p=o:=Option.some.inj ho
   dsimp only [ZjQ] at hK hd ⊢
   have y_sp:=(ZM (x:=x) (ZaL B) 0 a n_sp).trans h_sp
   refine Zi rfl (v:=pV bp) (w2:=w1) ?_ (hK.out (pV bp) rfl)
   simp only [execOp,y_sp]
   go_simp
  ·obtain rfl:ZjR B p=o:=Option.some.inj ho
   dsimp only [ZjR] at hK hd ⊢
   have y_6:=(Ze (x:=x) (ZaL B) 0 6 a hon rfl (show (B+6)<a.tmps.size by omega)).trans ((congrArg x (Nat.zero_add 6)).trans (show x 6=pV bp from hd (Zf 6) (by simp) rfl (by decide)))
   refine Zi rfl (v:=pV bp) (w2:=w1) ?_ (hK.out (pV bp) rfl)
   simp only [execOp,y_6]
   go_simp
  ·obtain rfl:ZjS B p=o:=Option.some.inj ho
   dsimp only [ZjS] at hK hd ⊢
   have y_7:=(Ze (x:=x) (ZaL B) 0 7 a hon rfl (show (B+7)<a.tmps.size by omega)).trans ((congrArg x (Nat.zero_add 7)).trans (show x 7=pV bp from hd (Zf 7) (by simp) rfl (by decide)))
   refine Zi rfl (v:=pV bp) (w2:=w1) ?_ (hK.out (pV bp) rfl)
   simp only [execOp,y_7]
   go_simp
  ·exact absurd (by decide) him
  ·exact absurd (by decide) him
  ·exact absurd (by decide) him
  ·obtain rfl:ZgM B p=o:=Option.some.inj ho
   dsimp only [ZgM] at hK hd ⊢
   have y_0:=(Ze (x:=x) (ZaL B) 0 0 a hon rfl (show B<a.tmps.size by omega)).trans ((congrArg x (Nat.zero_add 0)).trans (show x 0=brV b from hd (Zf 0) (by simp) rfl (by decide)))
   refine Zi rfl (v:=brV b) (w2:=w1) ?_ (hK.out (brV b) rfl)
   simp only [execOp,y_0]
   go_simp
  ·obtain rfl:ZgN B p=o:=Option.some.inj ho
   dsimp only [ZgN] at hK hd ⊢
   have y_12:=(Ze (x:=x) (ZaL B) 0 12 a hon rfl (show (B+12)<a.tmps.size by omega)).trans ((congrArg x (Nat.zero_add 12)).trans (show x 12=brV b from hd (Zf 12) (by simp) rfl (by decide)))
   refine Zi rfl (v:=brV b) (w2:=w1) ?_ (hK.out (brV b) rfl)
   simp only [execOp,y_12]
   go_simp
  ·obtain rfl:ZgO B p=o:=Option.some.inj ho
   dsimp only [ZgO] at hK hd ⊢
   have y_13:=(Ze (x:=x) (ZaL B) 0 13 a hon rfl (show (B+13)<a.tmps.size by omega)).trans ((congrArg x (Nat.zero_add 13)).trans (show x 13=brV b from hd (Zf 13) (by simp) rfl (by decide)))
   refine Zi rfl (v:=(.pointer (some ⟨b,1,none⟩))) (w2:=w1) ?_ (hK.out ((.pointer (some ⟨b,1,none⟩))) rfl)
   simp only [execOp,y_13]
   go_simp
 ·intro q m o hq ho x w1 hW hd K' hK
  have hc:q=0\/q=1\/q=2:=by have:=(List.getElem?_eq_some_iff.1 hq).1;dsimp only [List.length] at this;omega
  rcases hc with rfl | rfl | rfl
  ·obtain rfl:9=m:=Option.some.inj hq
   obtain rfl:ZjT F B p=o:=Option.some.inj ho
   dsimp only [ZjT] at hK hd ⊢
   have hF0:=hW.F
   have hPP:=hW.P
   have y_8:=(Ze (x:=x) (ZaL B) 0 8 a hon rfl (show (B+8)<a.tmps.size by omega)).trans ((congrArg x (Nat.zero_add 8)).trans (show x 8=pV bp from hd (Zf 8) (by simp) rfl (by decide)))
   refine Zba rfl (ZaP y_8) (hF _ _) ((hC1 w1 hPP).mono ?_)
   rintro e w2 ⟨hf,hok,hbd⟩
   by_cases z:(Za L s).2.err=0
   ·obtain ⟨v,rfl,hP,rfl⟩:=hok z
    exact hK.out _ _ ⟨hW.call hP hf,rfl⟩
   ·obtain rfl:=hbd z
    exact hbad1 z _ _ (Zap _ _ _) (hF0.trans hf)
  ·obtain rfl:10=m:=Option.some.inj hq
   obtain rfl:ZgK B p=o:=Option.some.inj ho
   dsimp only [ZgK] at hK hd ⊢
   obtain ⟨hW,hv0⟩:=hW
   have y_9:=(Ze (x:=x) (ZaL B) 0 9 a hon rfl (show (B+9)<a.tmps.size by omega)).trans ((congrArg x (Nat.zero_add 9)).trans (show x 9=txt (Za L s).1 from hv0))
   refine Zi rfl (v:=.slice (some ⟨w1.heap.size,0,none⟩) 1 1) (w2:=w1.alloc (.cells #[txt (Za L s).1] 9)) ?_ (hK.out _ _ ⟨w1,hW,rfl,rfl⟩)
   simp only [execOp,List.map_toArray,List.map_cons,List.map_nil,y_9]
   go_simp
  ·obtain rfl:11=m:=Option.some.inj hq
   obtain rfl:ZgL B p=o:=Option.some.inj ho
   dsimp only [ZgL] at hK hd ⊢
   obtain ⟨w2,hW1,rfl,hv1⟩:=hW
   have y_5:=(Ze (x:=x) (ZaL B) 0 5 a hon rfl (show (B+5)<a.tmps.size by omega)).trans ((congrArg x (Nat.zero_add 5)).trans (show x 5=vw from hd (Zf 5) (by simp) rfl (by decide)))
   have y_10:=(Ze (x:=x) (ZaL B) 0 10 a hon rfl (show (B+10)<a.tmps.size by omega)).trans ((congrArg x (Nat.zero_add 10)).trans (show x 10=.slice (some ⟨w2.heap.size,0,none⟩) 1 1 from hv1))
   have W2:=hW1.grown (below_alloc1 w2 (.cells #[txt (Za L s).1] 9))
   obtain ⟨iS,hS,zS0,zS1,zS2⟩:=info_parts ZdJ
   have hrow:=W2.row
   refine Zc3 rfl (.tmp (B+5)) (.tmp (B+10)) 29 rfl wS.heap.size 9 iS (.string ⟨#[]⟩) 1 16 Zeu hS zS0 zS1 zS2 rfl (by decide) vw ws.length (ws.map txt) y_5 hrow _ (some ⟨w2.heap.size,0,none⟩) 1 1 [txt (Za L s).1] y_10 (Zb3 (Zy.start w2 _ _).blk rfl) (fun u hu=>by simp only [List.mem_cons,List.not_mem_nil,or_false] at hu;subst hu;rfl) (by unfold maxLen;omega) (by omega) W2.F.size ?_
   intro v' w3 hown hgrow hat
   exact hK.out _ _ ⟨v',W2.append (ys:=[(Za L s).1]) rfl hown hgrow hat,rfl⟩
 ·intro o ho x w1 hW hd K' hK
  obtain rfl:ZgP B p=o:=Option.some.inj ho
  dsimp only [ZgP] at hK ⊢
  obtain ⟨vw',hW1,hv2⟩:=hW
  have y_14:=(Ze (x:=x) (ZaL B) 0 14 a hon rfl (show (B+14)<a.tmps.size by omega)).trans ((congrArg x (Nat.zero_add 14)).trans (show x 14=(.pointer (some ⟨b,1,none⟩)) from hd 14 (by decide) (by decide)))
  have y_11:=(Ze (x:=x) (ZaL B) 0 11 a hon rfl (show (B+11)<a.tmps.size by omega)).trans ((congrArg x (Nat.zero_add 11)).trans (show x 11=vw' from hv2))
  obtain ⟨_,_,_,_,_,_,hr0,_⟩:=hW1.X
  obtain ⟨A0,c0,rfl⟩:=Zbp hr0
  clear hr0
  obtain ⟨q1,q0⟩:=hW1.cell
  have HW:=zh hW1
  clear hW1
  refine ZbE rfl (w2:=w1.setCell ⟨b,1,none⟩ (.slice A0 _ c0)) ?_ (hK.out _ _ HW.out.store)
  simp only [execOp,y_14,y_11]
  go_simp
 ·exact fun x w1 hE=>h x w1 hE
def ZjU (B:Nat) (sb:Nat) (p:String):Oper:=⟨some B,.load 39 (.tmp sb),39,p,#[],none⟩
def ZjV (B:Nat) (sb:Nat) (p:String):Oper:=⟨some (B+1),.load 39 (.tmp sb),39,p,#[],none⟩
def ZjW (B:Nat) (p:String):Oper:=⟨some (B+2),.nilCheck (.tmp (B+1)),0,p,#[Zf 1],none⟩
def ZjX (B:Nat) (p:String):Oper:=⟨some (B+3),.fieldAddr 59 (.tmp (B+2)) 0,0,p,#[Zf 2],none⟩
def ZjY (B:Nat) (p:String):Oper:=⟨some (B+4),.fieldAddr 33 (.tmp (B+3)) 1,0,p,#[Zf 3],none⟩
def ZjZ (B:Nat) (p:String):Oper:=⟨some (B+5),.load 29 (.tmp (B+4)),29,p,#[Zf 4],none⟩
def Zj0 (B:Nat) (sp:Nat) (p:String):Oper:=⟨some (B+6),.load 63 (.tmp sp),63,p,#[],none⟩
def Zj1 (B:Nat) (p:String):Oper:=⟨some (B+7),.nilCheck (.tmp (B+6)),0,p,#[Zf 6],none⟩
def Zj2 (B:Nat) (p:String):Oper:=⟨some (B+8),.fieldAddr 54 (.tmp (B+7)) 0,0,p,#[Zf 7],none⟩
def Zj3 (F:Nat) (B:Nat) (p:String):Oper:=⟨some (B+9),.call ⟨.value (.func F),#[.tmp (B+8)],#[52]⟩,9,p,#[Zf 8],none⟩
def ZgQ (B:Nat) (sp:Nat) (p:String):Oper:=⟨some (B+10),.load 63 (.tmp sp),63,p,#[],none⟩
def ZgR (B:Nat) (p:String):Oper:=⟨some (B+11),.nilCheck (.tmp (B+10)),0,p,#[Zf 10],none⟩
def ZgS (B:Nat) (p:String):Oper:=⟨some (B+12),.fieldAddr 54 (.tmp (B+11)) 0,0,p,#[Zf 11],none⟩
def ZgT (F:Nat) (B:Nat) (p:String):Oper:=⟨some (B+13),.call ⟨.value (.func F),#[.tmp (B+12)],#[52]⟩,9,p,#[Zf 12,ZbT 9],none⟩
def ZgU (B:Nat) (p:String):Oper:=⟨some (B+14),.buildSlice 29 2 #[(0,.tmp (B+9)),(1,.tmp (B+13))],29,p,#[Zf 9,Zf 13],none⟩
def ZgV (B:Nat) (p:String):Oper:=⟨some (B+15),.call ⟨.builtin .append,#[.tmp (B+5),.tmp (B+14)],#[29,29]⟩,29,p,#[Zf 5,Zf 14,ZbT 13],none⟩
def ZgW (B:Nat) (p:String):Oper:=⟨some (B+16),.nilCheck (.tmp B),0,p,#[Zf 0,Zc 0,Zc 1,Zc 2,Zc 3,Zc 4,Zc 5,Zc 6,Zc 7,Zc 8,Zc 9,Zc 10,Zc 11,Zc 12,Zc 13,Zc 14,Zc 15],none⟩
def ZgX (B:Nat) (p:String):Oper:=⟨some (B+17),.fieldAddr 59 (.tmp (B+16)) 0,0,p,#[Zf 16,Zc 0,Zc 1,Zc 2,Zc 3,Zc 4,Zc 5,Zc 6,Zc 7,Zc 8,Zc 9,Zc 10,Zc 11,Zc 12,Zc 13,Zc 14,Zc 15],none⟩
def ZgY (B:Nat) (p:String):Oper:=⟨some (B+18),.fieldAddr 33 (.tmp (B+17)) 1,0,p,#[Zf 17,Zc 0,Zc 1,Zc 2,Zc 3,Zc 4,Zc 5,Zc 6,Zc 7,Zc 8,Zc 9,Zc 10,Zc 11,Zc 12,Zc 13,Zc 14,Zc 15],none⟩
def ZgZ (B:Nat) (p:String):Oper:=⟨none,.store 29 (.tmp (B+18)) (.tmp (B+15)),0,p,#[Zf 18,Zf 15,ZbT 15,Zc 0,Zc 1,Zc 2,Zc 3,Zc 4,Zc 5,Zc 6,Zc 7,Zc 8,Zc 9,Zc 10,Zc 11,Zc 12,Zc 13,Zc 14,Zc 15],none⟩
def ZmJ (F:Nat) (B:Nat) (sb:Nat) (sp:Nat) (p:String):Array Oper:=#[ZjU B sb p,ZjV B sb p,ZjW B p,ZjX B p,ZjY B p,ZjZ B p,Zj0 B sp p,Zj1 B p,Zj2 B p,Zj3 F B p,ZgQ B sp p,ZgR B p,ZgS B p,ZgT F B p,ZgU B p,ZgV B p,ZgW B p,ZgX B p,ZgY B p,ZgZ B p]
def ZaD (B:Nat):List (Option Nat):=[some B,some (B+1),some (B+2),some (B+3),some (B+4),some (B+5),some (B+6),some (B+7),some (B+8),some (B+9),some (B+10),some (B+11),some (B+12),some (B+13),some (B+14),some (B+15),some (B+16),some (B+17),some (B+18),none]
theorem ZmP {F:Nat} (hF:ZN F) (B sb sp:Nat) {p:String} {id:Nat} {Q:Exit->Act->World->Prop} {a:Act} {w0 wS w:World} {bp c:Nat} {ad:Addr} {L:List Tok} {s:PS} {k:Int} {ws:List Txt} {ns:List Int} {at_:Int} {b:Nat} {xs:List (Nat×TypeId×Array Value)} (hG0:Way w0 wS w bp c ad L s k ws ns at_ [] b xs) (hl:ws.length<=1000000) {px bx:Nat} (hbx:(bx,39,#[brV b])∈xs) (hpx:(px,63,#[pV bp])∈xs) (hC1:∀ w1,ParQ w0 w1 bp ad c L s->Calls Tryd.prog F #[pV bp] w1 (Zbv w0 w1 bp c ad L (Za L s) fun x v _=>v=txt x)) (hC2:∀ w1,ParQ w0 w1 bp ad c L (Za L s).2->Calls Tryd.prog F #[pV bp] w1 (Zbv w0 w1 bp c ad L (Za L (Za L s).2) fun x v _=>v=txt x)) (hbad1:Zcl wS bp Q a (Za L s).2) (hbad2:Zcl wS bp Q a (Za L (Za L s).2).2)
  (h:∀ x w',Way w0 wS w' bp c ad L (Za L (Za L s).2).2 k (ws++[(Za L s).1,(Za L (Za L s).2).1]) ns at_ [] b xs->Q .normal (ZE x 0 (ZaD B) a) w')
  (hB:Nat.blt (B+18) a.tmps.size=true:=by kernel_rfl) (n_sb:some sb ∉ ZaD B:=by decide) (n_sp:some sp ∉ ZaD B:=by decide) (hon:Zbc (ZaD B)=true:=by kernel_rfl) (h_sb:a.eval (.tmp sb)=pV bx:=by rfl) (h_sp:a.eval (.tmp sp)=pV px:=by rfl) :
  (Code.region id (ZmJ F B sb sp p) true).wp Tryd.prog Q a w:=by
 rw [Nat.blt_eq] at hB
 obtain ⟨vw,hG⟩:=hG0.words
 refine Zav 19 [9,13,14,15] (ZaD B) (fun i v=>match i with | 0=>v=brV b | 1=>v=brV b | 2=>v=brV b | 3=>v=brV b | 4=>v=(.pointer (some ⟨b,1,none⟩)) | 5=>v=vw | 6=>v=pV bp | 7=>v=pV bp | 8=>v=pV bp | 10=>v=pV bp | 11=>v=pV bp | 12=>v=pV bp | 16=>v=brV b | 17=>v=brV b | 18=>v=(.pointer (some ⟨b,1,none⟩)) | _=>True) (fun q v w1=>match q with | 0=>WayV w0 wS w1 bp c ad L s k ws ns at_ [] b xs vw | 1=>WayV w0 wS w1 bp c ad L (Za L s).2 k ws ns at_ [] b xs vw/\v 0=txt (Za L s).1 | 2=>WayV w0 wS w1 bp c ad L (Za L (Za L s).2).2 k ws ns at_ [] b xs vw/\v 0=txt (Za L s).1/\v 1=txt (Za L (Za L s).2).1 | 3=>∃ w2,WayV w0 wS w2 bp c ad L (Za L (Za L s).2).2 k ws ns at_ [] b xs vw/\w1=(w2.alloc (.cells #[txt (Za L s).1,txt (Za L (Za L s).2).1] 9))/\v 2=.slice (some ⟨w2.heap.size,0,none⟩) 2 2 | _=>∃ vw',WayP w0 wS w1 bp c ad L (Za L (Za L s).2).2 k (ws++[(Za L s).1,(Za L (Za L s).2).1]) ns at_ [] b xs vw vw'/\v 3=vw') (fun x w'=>Way w0 wS w' bp c ad L (Za L (Za L s).2).2 k (ws++[(Za L s).1,(Za L (Za L s).2).1]) ns at_ [] b xs) rfl (by kernel_rfl) (by kernel_rfl) (by kernel_rfl) (by kernel_rfl) (by decide) (by decide) rfl hon (hG.grown (Below.refl _ _).drew) ?_ ?_ ?_ ?_ ?_
 ·intro q v v' w1 hv hW
  match q,hW with
  | 0,hW=>exact hW
  | 1,hW=>
   have e0:=hv 0 (by omega)
   simpa only [<- e0] using hW
  | 2,hW=>
   have e0:=hv 0 (by omega)
   have e1:=hv 1 (by omega)
   simpa only [<- e0,<- e1] using hW
  | 3,hW=>
   have e2:=hv 2 (by omega)
   simpa only [<- e2] using hW
  | q+4,hW=>
   have e3:=hv 3 (by omega)
   simpa only [<- e3] using hW
 ·intro i o hi him ho x ph w1 hp hW hd hq K' hK
  have hS:w1.cell? ⟨bx,0,none⟩=some (brV b)/\w1.cell? ⟨px,0,none⟩=some (pV bp)/\w1.cell? ⟨b,1,none⟩=some vw:=by
   have hc2:ph=0\/ph=1\/ph=2\/ph=3\/ph=4:=by dsimp only [List.length] at hp;omega
   rcases hc2 with rfl | rfl | rfl | rfl | rfl
   ·exact ⟨hW.way.cell hbx,hW.way.cell hpx,hW.cell⟩
   ·exact ⟨hW.1.way.cell hbx,hW.1.way.cell hpx,hW.1.cell⟩
   ·exact ⟨hW.1.way.cell hbx,hW.1.way.cell hpx,hW.1.cell⟩
   ·obtain ⟨w2,h1,rfl,_⟩:=hW
    have h2:=h1.grown (below_alloc1 w2 (.cells #[txt (Za L s).1,txt (Za L (Za L s).2).1] 9))
    exact ⟨h2.way.cell hbx,h2.way.cell hpx,h2.cell⟩
   ·obtain ⟨vw',h1,_⟩:=hW
    exact ⟨h1.box hbx,h1.box hpx,h1.cell.1⟩
  obtain ⟨q1,q2,q3⟩:=hS
  clear hW hq hp
  have hc:i=0\/i=1\/i=2\/i=3\/i=4\/i=5\/i=6\/i=7\/i=8\/i=9\/i=10\/i=11\/i=12\/i=13\/i=14\/i=15\/i=16\/i=17\/i=18:=by omega
  clear hi
  rcases hc with rfl | rfl | rfl | rfl | rfl | rfl | rfl | rfl | rfl | rfl | rfl | rfl | rfl | rfl | rfl | rfl | rfl | rfl | rfl
  ·obtain rfl:ZjU B sb p=o:=Option.some.inj ho
   dsimp only [ZjU] at hK hd ⊢
   have y_sb:=(ZM (x:=x) (ZaD B) 0 a n_sb).trans h_sb
   refine Zi rfl (v:=brV b) (w2:=w1) ?_ (hK.out (brV b) rfl)
   simp only [execOp,y_sb]
   go_simp
  ·obtain rfl:ZjV B sb p=o:=Option.some.inj ho
   dsimp only [ZjV] at hK hd ⊢
   have y_sb:=(ZM (x:=x) (ZaD B) 0 a n_sb).trans h_sb
   refine Zi rfl (v:=brV b) (w2:=w1) ?_ (hK.out (brV b) rfl)
   simp only [execOp,y_sb]
   go_simp
  ·obtain rfl:ZjW B p=o:=Option.some.inj ho
   dsimp only [ZjW] at hK hd ⊢
   have y_1:=(Ze (x:=x) (ZaD B) 0 1 a hon rfl (show (B+1)<a.tmps.size by omega)).trans ((congrArg x (Nat.zero_add 1)).trans (show x 1=brV b from hd (Zf 1) (by simp) rfl (by decide)))
   refine Zi rfl (v:=brV b) (w2:=w1) ?_ (hK.out (brV b) rfl)
   simp only [execOp,y_1]
   go_simp
  ·obtain rfl:ZjX B p=o:=Option.some.inj ho
   dsimp only [ZjX] at hK hd ⊢
   have y_2:=(Ze (x:=x) (ZaD B) 0 2 a hon rfl (show (B+2)<a.tmps.size by omega)).trans ((congrArg x (Nat.zero_add 2)).trans (show x 2=brV b from hd (Zf 2) (by simp) rfl (by decide)))
   refine Zi rfl (v:=brV b) (w2:=w1) ?_ (hK.out (brV b) rfl)
   simp only [execOp,y_2]
   go_simp
  ·obtain rfl:ZjY B p=o:=Option.some.inj ho
   dsimp only [ZjY] at hK hd ⊢
   have y_3:=(Ze (x:=x) (ZaD B) 0 3 a hon rfl (show (B+3)<a.tmps.size by omega)).trans ((congrArg x (Nat.zero_add 3)).trans (show x 3=brV b from hd (Zf 3) (by simp) rfl (by decide)))
   refine Zi rfl (v:=(.pointer (some ⟨b,1,none⟩))) (w2:=w1) ?_ (hK.out ((.pointer (some ⟨b,1,none⟩))) rfl)
   simp only [execOp,y_3]
   go_simp
  ·obtain rfl:ZjZ B p=o:=Option.some.inj ho
   dsimp only [ZjZ] at hK hd ⊢
   have y_4:=(Ze (x:=x) (ZaD B) 0 4 a hon rfl (show (B+4)<a.tmps.size by omega)).trans ((congrArg x (Nat.zero_add 4)).trans (show x 4=(.pointer (some ⟨b,1,none⟩)) from hd (Zf 4) (by simp) rfl (by decide)))
   refine Zi rfl (v:=vw) (w2:=w1) ?_ (hK.out (vw) rfl)
   simp only [execOp,y_4]
   go_simp
  ·obtain rfl:Zj0 B sp p=o:=Option.some.inj ho
   dsimp only [Zj0] at hK hd ⊢
   have y_sp:=(ZM (x:=x) (ZaD B) 0 a n_sp).trans h_sp
   refine Zi rfl (v:=pV bp) (w2:=w1) ?_ (hK.out (pV bp) rfl)
   simp only [execOp,y_sp]
   go_simp
  ·obtain rfl:Zj1 B p=o:=Option.some.inj ho
   dsimp only [Zj1] at hK hd ⊢
   have y_6:=(Ze (x:=x) (ZaD B) 0 6 a hon rfl (show (B+6)<a.tmps.size by omega)).trans ((congrArg x (Nat.zero_add 6)).trans (show x 6=pV bp from hd (Zf 6) (by simp) rfl (by decide)))
   refine Zi rfl (v:=pV bp) (w2:=w1) ?_ (hK.out (pV bp) rfl)
   simp only [execOp,y_6]
   go_simp
  ·obtain rfl:Zj2 B p=o:=Option.some.inj ho
   dsimp only [Zj2] at hK hd ⊢
   have y_7:=(Ze (x:=x) (ZaD B) 0 7 a hon rfl (show (B+7)<a.tmps.size by omega)).trans ((congrArg x (Nat.zero_add 7)).trans (show x 7=pV bp from hd (Zf 7) (by simp) rfl (by decide)))
   refine Zi rfl (v:=pV bp) (w2:=w1) ?_ (hK.out (pV bp) rfl)
   simp only [execOp,y_7]
   go_simp
  ·exact absurd (by decide) him
  ·obtain rfl:ZgQ B sp p=o:=Option.some.inj ho
   dsimp only [ZgQ] at hK hd ⊢
   have y_sp:=(ZM (x:=x) (ZaD B) 0 a n_sp).trans h_sp
   refine Zi rfl (v:=pV bp) (w2:=w1) ?_ (hK.out (pV bp) rfl)
   simp only [execOp,y_sp]
   go_simp
  ·obtain rfl:ZgR B p=o:=Option.some.inj ho
   dsimp only [ZgR] at hK hd ⊢
   have y_10:=(Ze (x:=x) (ZaD B) 0 10 a hon rfl (show (B+10)<a.tmps.size by omega)).trans ((congrArg x (Nat.zero_add 10)).trans (show x 10=pV bp from hd (Zf 10) (by simp) rfl (by decide)))
   refine Zi rfl (v:=pV bp) (w2:=w1) ?_ (hK.out (pV bp) rfl)
   simp only [execOp,y_10]
   go_simp
  ·obtain rfl:ZgS B p=o:=Option.some.inj ho
   dsimp only [ZgS] at hK hd ⊢
   have y_11:=(Ze (x:=x) (ZaD B) 0 11 a hon rfl (show (B+11)<a.tmps.size by omega)).trans ((congrArg x (Nat.zero_add 11)).trans (show x 11=pV bp from hd (Zf 11) (by simp) rfl (by decide)))
   refine Zi rfl (v:=pV bp) (w2:=w1) ?_ (hK.out (pV bp) rfl)
   simp only [execOp,y_11]
   go_simp
  ·exact absurd (by decide) him
  ·exact absurd (by decide) him
  ·exact absurd (by decide) him
  ·obtain rfl:ZgW B p=o:=Option.some.inj ho
   dsimp only [ZgW] at hK hd ⊢
   have y_0:=(Ze (x:=x) (ZaD B) 0 0 a hon rfl (show B<a.tmps.size by omega)).trans ((congrArg x (Nat.zero_add 0)).trans (show x 0=brV b from hd (Zf 0) (by simp) rfl (by decide)))
   refine Zi rfl (v:=brV b) (w2:=w1) ?_ (hK.out (brV b) rfl)
   simp only [execOp,y_0]
   go_simp
  ·obtain rfl:ZgX B p=o:=Option.some.inj ho
   dsimp only [ZgX] at hK hd ⊢
   have y_16:=(Ze (x:=x) (ZaD B) 0 16 a hon rfl (show (B+16)<a.tmps.size by omega)).trans ((congrArg x (Nat.zero_add 16)).trans (show x 16=brV b from hd (Zf 16) (by simp) rfl (by decide)))
   refine Zi rfl (v:=brV b) (w2:=w1) ?_ (hK.out (brV b) rfl)
   simp only [execOp,y_16]
   go_simp
  ·obtain rfl:ZgY B p=o:=Option.some.inj ho
   dsimp only [ZgY] at hK hd ⊢
   have y_17:=(Ze (x:=x) (ZaD B) 0 17 a hon rfl (show (B+17)<a.tmps.size by omega)).trans ((congrArg x (Nat.zero_add 17)).trans (show x 17=brV b from hd (Zf 17) (by simp) rfl (by decide)))
   refine Zi rfl (v:=(.pointer (some ⟨b,1,none⟩))) (w2:=w1) ?_ (hK.out ((.pointer (some ⟨b,1,none⟩))) rfl)
   simp only [execOp,y_17]
   go_simp
 ·intro q m o hq ho x w1 hW hd K' hK
  have hc:q=0\/q=1\/q=2\/q=3:=by have:=(List.getElem?_eq_some_iff.1 hq).1;dsimp only [List.length] at this;omega
  rcases hc with rfl | rfl | rfl | rfl
  ·obtain rfl:9=m:=Option.some.inj hq
   obtain rfl:Zj3 F B p=o:=Option.some.inj ho
   dsimp only [Zj3] at hK hd ⊢
   have hF0:=hW.F
   have hPP:=hW.P
   have y_8:=(Ze (x:=x) (ZaD B) 0 8 a hon rfl (show (B+8)<a.tmps.size by omega)).trans ((congrArg x (Nat.zero_add 8)).trans (show x 8=pV bp from hd (Zf 8) (by simp) rfl (by decide)))
   refine Zba rfl (ZaP y_8) (hF _ _) ((hC1 w1 hPP).mono ?_)
   rintro e w2 ⟨hf,hok,hbd⟩
   by_cases z:(Za L s).2.err=0
   ·obtain ⟨v,rfl,hP,rfl⟩:=hok z
    exact hK.out _ _ ⟨hW.call hP hf,rfl⟩
   ·obtain rfl:=hbd z
    exact hbad1 z _ _ (Zap _ _ _) (hF0.trans hf)
  ·obtain rfl:13=m:=Option.some.inj hq
   obtain rfl:ZgT F B p=o:=Option.some.inj ho
   dsimp only [ZgT] at hK hd ⊢
   obtain ⟨hW,hv0⟩:=hW
   have hF0:=hW.F
   have hPP:=hW.P
   have y_12:=(Ze (x:=x) (ZaD B) 0 12 a hon rfl (show (B+12)<a.tmps.size by omega)).trans ((congrArg x (Nat.zero_add 12)).trans (show x 12=pV bp from hd (Zf 12) (by simp) rfl (by decide)))
   refine Zba rfl (ZaP y_12) (hF _ _) ((hC2 w1 hPP).mono ?_)
   rintro e w2 ⟨hf,hok,hbd⟩
   by_cases z:(Za L (Za L s).2).2.err=0
   ·obtain ⟨v,rfl,hP,rfl⟩:=hok z
    exact hK.out _ _ ⟨hW.call hP hf,hv0,rfl⟩
   ·obtain rfl:=hbd z
    exact hbad2 z _ _ (Zap _ _ _) (hF0.trans hf)
  ·obtain rfl:14=m:=Option.some.inj hq
   obtain rfl:ZgU B p=o:=Option.some.inj ho
   dsimp only [ZgU] at hK hd ⊢
   obtain ⟨hW,hv0,hv1⟩:=hW
   have y_9:=(Ze (x:=x) (ZaD B) 0 9 a hon rfl (show (B+9)<a.tmps.size by omega)).trans ((congrArg x (Nat.zero_add 9)).trans (show x 9=txt (Za L s).1 from hv0))
   have y_13:=(Ze (x:=x) (ZaD B) 0 13 a hon rfl (show (B+13)<a.tmps.size by omega)).trans ((congrArg x (Nat.zero_add 13)).trans (show x 13=txt (Za L (Za L s).2).1 from hv1))
   refine Zi rfl (v:=.slice (some ⟨w1.heap.size,0,none⟩) 2 2) (w2:=w1.alloc (.cells #[txt (Za L s).1,txt (Za L (Za L s).2).1] 9)) ?_ (hK.out _ _ ⟨w1,hW,rfl,rfl⟩)
   simp only [execOp,List.map_toArray,List.map_cons,List.map_nil,y_9,y_13]
   go_simp
  ·obtain rfl:15=m:=Option.some.inj hq
   obtain rfl:ZgV B p=o:=Option.some.inj ho
   dsimp only [ZgV] at hK hd ⊢
   obtain ⟨w2,hW1,rfl,hv2⟩:=hW
   have y_5:=(Ze (x:=x) (ZaD B) 0 5 a hon rfl (show (B+5)<a.tmps.size by omega)).trans ((congrArg x (Nat.zero_add 5)).trans (show x 5=vw from hd (Zf 5) (by simp) rfl (by decide)))
   have y_14:=(Ze (x:=x) (ZaD B) 0 14 a hon rfl (show (B+14)<a.tmps.size by omega)).trans ((congrArg x (Nat.zero_add 14)).trans (show x 14=.slice (some ⟨w2.heap.size,0,none⟩) 2 2 from hv2))
   have W2:=hW1.grown (below_alloc1 w2 (.cells #[txt (Za L s).1,txt (Za L (Za L s).2).1] 9))
   obtain ⟨iS,hS,zS0,zS1,zS2⟩:=info_parts ZdJ
   have hrow:=W2.row
   refine Zc3 rfl (.tmp (B+5)) (.tmp (B+14)) 29 rfl wS.heap.size 9 iS (.string ⟨#[]⟩) 1 16 Zeu hS zS0 zS1 zS2 rfl (by decide) vw ws.length (ws.map txt) y_5 hrow _ (some ⟨w2.heap.size,0,none⟩) 2 2 [txt (Za L s).1,txt (Za L (Za L s).2).1] y_14 (Zb3 (Zy.start w2 _ _).blk rfl) (fun u hu=>by simp only [List.mem_cons,List.not_mem_nil,or_false] at hu;rcases hu with rfl | rfl<;>rfl) (by unfold maxLen;omega) (by omega) W2.F.size ?_
   intro v' w3 hown hgrow hat
   exact hK.out _ _ ⟨v',W2.append (ys:=[(Za L s).1,(Za L (Za L s).2).1]) rfl hown hgrow hat,rfl⟩
 ·intro o ho x w1 hW hd K' hK
  obtain rfl:ZgZ B p=o:=Option.some.inj ho
  dsimp only [ZgZ] at hK ⊢
  obtain ⟨vw',hW1,hv3⟩:=hW
  have y_18:=(Ze (x:=x) (ZaD B) 0 18 a hon rfl (show (B+18)<a.tmps.size by omega)).trans ((congrArg x (Nat.zero_add 18)).trans (show x 18=(.pointer (some ⟨b,1,none⟩)) from hd 18 (by decide) (by decide)))
  have y_15:=(Ze (x:=x) (ZaD B) 0 15 a hon rfl (show (B+15)<a.tmps.size by omega)).trans ((congrArg x (Nat.zero_add 15)).trans (show x 15=vw' from hv3))
  obtain ⟨_,_,_,_,_,_,hr0,_⟩:=hW1.X
  obtain ⟨A0,c0,rfl⟩:=Zbp hr0
  clear hr0
  obtain ⟨q1,q0⟩:=hW1.cell
  have HW:=zh hW1
  clear hW1
  refine ZbE rfl (w2:=w1.setCell ⟨b,1,none⟩ (.slice A0 _ c0)) ?_ (hK.out _ _ HW.out.store)
  simp only [execOp,y_18,y_15]
  go_simp
 ·exact fun x w1 hE=>h x w1 hE
end
end Go.Proofs.YtfdgeijnkkdplaaDoor
