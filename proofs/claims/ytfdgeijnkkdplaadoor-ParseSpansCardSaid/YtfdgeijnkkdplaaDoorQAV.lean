import Derived.Test.YtfdgeijnkkdplaaDoorQAU
set_option maxRecDepth 100000
set_option maxHeartbeats 8000000
namespace Go.Proofs.YtfdgeijnkkdplaaDoor
section
open Go Go.RowKit
def Zjg (B:Nat) (sb:Nat) (p:String):Oper:=⟨some B,.load 39 (.tmp sb),39,p,#[],none⟩
def Zjh (B:Nat) (sp:Nat) (p:String):Oper:=⟨some (B+1),.load 63 (.tmp sp),63,p,#[],none⟩
def Zji (B:Nat) (p:String):Oper:=⟨some (B+2),.nilCheck (.tmp (B+1)),0,p,#[Zf 1],none⟩
def Zjj (B:Nat) (p:String):Oper:=⟨some (B+3),.fieldAddr 54 (.tmp (B+2)) 0,0,p,#[Zf 2],none⟩
def Zjk (F:Nat) (B:Nat) (p:String):Oper:=⟨some (B+4),.call ⟨.value (.func F),#[.tmp (B+3)],#[52]⟩,9,p,#[Zf 3],none⟩
def Zjl (B:Nat) (p:String):Oper:=⟨some (B+5),.buildSlice 29 1 #[(0,.tmp (B+4))],29,p,#[Zf 4],none⟩
def Zjm (B:Nat) (p:String):Oper:=⟨some (B+6),.nilCheck (.tmp B),0,p,#[Zf 0,Zc 0,Zc 1,Zc 2,Zc 3,Zc 4,Zc 5],none⟩
def Zjn (B:Nat) (p:String):Oper:=⟨some (B+7),.fieldAddr 59 (.tmp (B+6)) 0,0,p,#[Zf 6,Zc 0,Zc 1,Zc 2,Zc 3,Zc 4,Zc 5],none⟩
def Zjo (B:Nat) (p:String):Oper:=⟨some (B+8),.fieldAddr 33 (.tmp (B+7)) 1,0,p,#[Zf 7,Zc 0,Zc 1,Zc 2,Zc 3,Zc 4,Zc 5],none⟩
def Zjp (B:Nat) (p:String):Oper:=⟨none,.store 29 (.tmp (B+8)) (.tmp (B+5)),0,p,#[Zf 8,Zf 5,Zb2 4,Zc 0,Zc 1,Zc 2,Zc 3,Zc 4,Zc 5],none⟩
def ZmU (F:Nat) (B:Nat) (sp:Nat) (sb:Nat) (p:String):Array Oper:=#[Zjg B sb p,Zjh B sp p,Zji B p,Zjj B p,Zjk F B p,Zjl B p,Zjm B p,Zjn B p,Zjo B p,Zjp B p]
def ZaW (B:Nat):List (Option Nat):=[some B,some (B+1),some (B+2),some (B+3),some (B+4),some (B+5),some (B+6),some (B+7),some (B+8),none]
theorem Zcv {F:Nat} (hF:ZR F) (B sp sb:Nat) {p:String} {id:Nat} {Q:Exit->Act->World->Prop} {a:Act} {w0 wS w:World} {bp c:Nat} {ad:Addr} {L:List Tok} {s:PS} {k:Int} {ws:List Txt} {ns:List Int} {at_:Int} {kids:List Tr} {b:Nat} {xs:List (Nat×TypeId×Array Value)} {px bx:Nat} {r:Txt×PS} (hG:Way w0 wS w bp c ad L s k ws ns at_ kids b xs) (hbx:(bx,39,#[brV b])∈xs) (hpx:(px,63,#[pV bp])∈xs)
  (hC:∀ w1,ParQ w0 w1 bp ad c L s->Calls Tryd.prog F #[pV bp] w1 (ZbJ w0 w1 bp c ad L r fun x v _=>v=txt x))
  (hbad:Zcw wS bp Q a r.2) (h:∀ x w',Way w0 wS w' bp c ad L r.2 k [r.1] ns at_ kids b xs->Q .normal (ZG x 0 (ZaW B) a) w')
  (hB:Nat.blt (B+8) a.tmps.size=true:=by kernel_rfl) (n_sp:some sp ∉ ZaW B:=by decide) (n_sb:some sb ∉ ZaW B:=by decide) (hon:Zbj (ZaW B)=true:=by kernel_rfl) (h_sp:a.eval (.tmp sp)=pV px:=by rfl) (h_sb:a.eval (.tmp sb)=pV bx:=by rfl) :
  (Code.region id (ZmU F B sp sb p) true).wp Tryd.prog Q a w:=by
 rw [Nat.blt_eq] at hB
 refine ZaC 9 [4,5] (ZaW B) (fun i v=>match i with | 0=>v=brV b | 1=>v=pV bp | 2=>v=pV bp | 3=>v=pV bp | 6=>v=brV b | 7=>v=brV b | 8=>v=(.pointer (some ⟨b,1,none⟩)) | _=>True) (fun p v w1=>match p with | 0=>Way w0 wS w1 bp c ad L s k ws ns at_ kids b xs | 1=>Way w0 wS w1 bp c ad L r.2 k ws ns at_ kids b xs/\v 0=txt r.1 | _=>∃ w2,Way w0 wS w2 bp c ad L r.2 k ws ns at_ kids b xs/\w1=(w2.alloc (.cells #[txt r.1] 9))/\v 1=.slice (some ⟨w2.heap.size,0,none⟩) 1 1) (fun _ w'=>Way w0 wS w' bp c ad L r.2 k [r.1] ns at_ kids b xs) rfl (by kernel_rfl) (by kernel_rfl) (by kernel_rfl) (by kernel_rfl) (by decide) (by decide) rfl hon hG.drew ?_ ?_ ?_ ?_ ?_
 ·intro p v v' w1 hv hW
  match p,hW with
  | 0,hW=>exact hW
  | 1,hW=>exact ⟨hW.1,(hv 0 (by omega)).symm.trans hW.2⟩
  | p+2,hW=>
   obtain ⟨w2,h1,h2,h3⟩:=hW
   exact ⟨w2,h1,h2,(hv 1 (by omega)).symm.trans h3⟩
 ·intro i o hi him ho x ph w1 hp hW hd hq K' hK
  have hS:w1.cell? ⟨bx,0,none⟩=some (brV b)/\w1.cell? ⟨px,0,none⟩=some (pV bp):=by
   have hc2:ph=0\/ph=1\/ph=2:=by dsimp only [List.length] at hp;omega
   rcases hc2 with rfl | rfl | rfl
   ·exact ⟨hW.cell hbx,hW.cell hpx⟩
   ·exact ⟨hW.1.cell hbx,hW.1.cell hpx⟩
   ·obtain ⟨w2,h1,rfl,_⟩:=hW
    have h2:=h1.grown (below_alloc1 w2 (.cells #[txt r.1] 9))
    exact ⟨h2.cell hbx,h2.cell hpx⟩
  obtain ⟨q1,q2⟩:=hS
  clear hW hq hp
  have hc:i=0\/i=1\/i=2\/i=3\/i=4\/i=5\/i=6\/i=7\/i=8:=by omega
  clear hi
  rcases hc with rfl | rfl | rfl | rfl | rfl | rfl | rfl | rfl | rfl
  ·obtain rfl:Zjg B sb p=o:=Option.some.inj ho
   dsimp only [Zjg] at hK hd ⊢
   have y_sb:=(ZO (x:=x) (ZaW B) 0 a n_sb).trans h_sb
   refine Zh rfl (v:=brV b) (w2:=w1) ?_ (hK.out (brV b) rfl)
   simp only [execOp,y_sb]
   go_simp
  ·obtain rfl:Zjh B sp p=o:=Option.some.inj ho
   dsimp only [Zjh] at hK hd ⊢
   have y_sp:=(ZO (x:=x) (ZaW B) 0 a n_sp).trans h_sp
   refine Zh rfl (v:=pV bp) (w2:=w1) ?_ (hK.out (pV bp) rfl)
   simp only [execOp,y_sp]
   go_simp
  ·obtain rfl:Zji B p=o:=Option.some.inj ho
   dsimp only [Zji] at hK hd ⊢
   have y_1:=(Ze (x:=x) (ZaW B) 0 1 a hon rfl (show (B+1)<a.tmps.size by omega)).trans ((congrArg x (Nat.zero_add 1)).trans (show x 1=pV bp from hd (Zf 1) (by simp) rfl (by decide)))
   refine Zh rfl (v:=pV bp) (w2:=w1) ?_ (hK.out (pV bp) rfl)
   simp only [execOp,y_1]
   go_simp
  ·obtain rfl:Zjj B p=o:=Option.some.inj ho
   dsimp only [Zjj] at hK hd ⊢
   have y_2:=(Ze (x:=x) (ZaW B) 0 2 a hon rfl (show (B+2)<a.tmps.size by omega)).trans ((congrArg x (Nat.zero_add 2)).trans (show x 2=pV bp from hd (Zf 2) (by simp) rfl (by decide)))
   refine Zh rfl (v:=pV bp) (w2:=w1) ?_ (hK.out (pV bp) rfl)
   simp only [execOp,y_2]
   go_simp
  ·exact absurd (by decide) him
  ·exact absurd (by decide) him
  ·obtain rfl:Zjm B p=o:=Option.some.inj ho
   dsimp only [Zjm] at hK hd ⊢
   have y_0:=(Ze (x:=x) (ZaW B) 0 0 a hon rfl (show B<a.tmps.size by omega)).trans ((congrArg x (Nat.zero_add 0)).trans (show x 0=brV b from hd (Zf 0) (by simp) rfl (by decide)))
   refine Zh rfl (v:=brV b) (w2:=w1) ?_ (hK.out (brV b) rfl)
   simp only [execOp,y_0]
   go_simp
  ·obtain rfl:Zjn B p=o:=Option.some.inj ho
   dsimp only [Zjn] at hK hd ⊢
   have y_6:=(Ze (x:=x) (ZaW B) 0 6 a hon rfl (show (B+6)<a.tmps.size by omega)).trans ((congrArg x (Nat.zero_add 6)).trans (show x 6=brV b from hd (Zf 6) (by simp) rfl (by decide)))
   refine Zh rfl (v:=brV b) (w2:=w1) ?_ (hK.out (brV b) rfl)
   simp only [execOp,y_6]
   go_simp
  ·obtain rfl:Zjo B p=o:=Option.some.inj ho
   dsimp only [Zjo] at hK hd ⊢
   have y_7:=(Ze (x:=x) (ZaW B) 0 7 a hon rfl (show (B+7)<a.tmps.size by omega)).trans ((congrArg x (Nat.zero_add 7)).trans (show x 7=brV b from hd (Zf 7) (by simp) rfl (by decide)))
   refine Zh rfl (v:=(.pointer (some ⟨b,1,none⟩))) (w2:=w1) ?_ (hK.out ((.pointer (some ⟨b,1,none⟩))) rfl)
   simp only [execOp,y_7]
   go_simp
 ·intro q m o hq ho x w1 hW hd K' hK
  have hc:q=0\/q=1:=by have:=(List.getElem?_eq_some_iff.1 hq).1;dsimp only [List.length] at this;omega
  rcases hc with rfl | rfl
  ·obtain rfl:4=m:=Option.some.inj hq
   obtain rfl:Zjk F B p=o:=Option.some.inj ho
   dsimp only [Zjk] at hK hd ⊢
   have y_3:=(Ze (x:=x) (ZaW B) 0 3 a hon rfl (show (B+3)<a.tmps.size by omega)).trans ((congrArg x (Nat.zero_add 3)).trans (show x 3=pV bp from hd (Zf 3) (by simp) rfl (by decide)))
   refine Zbg rfl (ZaV y_3) (hF _ _) ((hC w1 hW.P).mono ?_)
   rintro e w2 ⟨hf,hok,hbd⟩
   by_cases z:r.2.err=0
   ·obtain ⟨v,rfl,hP,rfl⟩:=hok z
    exact hK.out _ _ ⟨hW.call hP hf,rfl⟩
   ·obtain rfl:=hbd z
    exact hbad z _ _ (Zax _ _ _) (hW.F.trans hf)
  ·obtain rfl:5=m:=Option.some.inj hq
   obtain rfl:Zjl B p=o:=Option.some.inj ho
   dsimp only [Zjl] at hK hd ⊢
   obtain ⟨hW1,hv0⟩:=hW
   have y_4:=(Ze (x:=x) (ZaW B) 0 4 a hon rfl (show (B+4)<a.tmps.size by omega)).trans ((congrArg x (Nat.zero_add 4)).trans (show x 4=txt r.1 from hv0))
   refine Zh rfl (v:=.slice (some ⟨w1.heap.size,0,none⟩) 1 1) (w2:=(w1.alloc (.cells #[txt r.1] 9))) ?_ (hK.out _ _ ⟨w1,hW1,rfl,rfl⟩)
   simp only [execOp,List.map_toArray,List.map_cons,List.map_nil,y_4]
   go_simp
 ·intro o ho x w1 hW hd K' hK
  obtain rfl:Zjp B p=o:=Option.some.inj ho
  dsimp only [Zjp] at hK ⊢
  obtain ⟨w2,hW1,rfl,hv1⟩:=hW
  have y_8:=(Ze (x:=x) (ZaW B) 0 8 a hon rfl (show (B+8)<a.tmps.size by omega)).trans ((congrArg x (Nat.zero_add 8)).trans (show x 8=(.pointer (some ⟨b,1,none⟩)) from hd 8 (by decide) (by decide)))
  have y_5:=(Ze (x:=x) (ZaW B) 0 5 a hon rfl (show (B+5)<a.tmps.size by omega)).trans ((congrArg x (Nat.zero_add 5)).trans (show x 5=.slice (some ⟨w2.heap.size,0,none⟩) 1 1 from hv1))
  have W2:=hW1.grown (below_alloc1 w2 (.cells #[txt r.1] 9))
  have q0:=W2.free 1
  obtain ⟨vw,vn,vk,bs,KK,X⟩:=W2.X
  have q1:=X.box.blk.cell 1
  simp only [List.getElem?_toArray,List.getElem?_cons_zero,List.getElem?_cons_succ] at q1
  have HW:=zh hW1
  clear W2 X hW1
  refine ZbR rfl (w2:=((w2.alloc (.cells #[txt r.1] 9))).setCell ⟨b,1,none⟩ (.slice (some ⟨w2.heap.size,0,none⟩) 1 1)) ?_ (hK.out _ _ (HW.out.words1 r.1))
  simp only [execOp,y_8,y_5]
  go_simp
 ·exact fun x w1 hE=>h x w1 hE
def Zir (B:Nat) (sb:Nat) (p:String):Oper:=⟨some B,.load 39 (.tmp sb),39,p,#[],none⟩
def Zis (B:Nat) (sp:Nat) (p:String):Oper:=⟨some (B+1),.load 63 (.tmp sp),63,p,#[],none⟩
def Zit (B:Nat) (p:String):Oper:=⟨some (B+2),.nilCheck (.tmp (B+1)),0,p,#[Zf 1],none⟩
def Ziu (B:Nat) (p:String):Oper:=⟨some (B+3),.fieldAddr 54 (.tmp (B+2)) 0,0,p,#[Zf 2],none⟩
def Ziv (F:Nat) (B:Nat) (p:String):Oper:=⟨some (B+4),.call ⟨.value (.func F),#[.tmp (B+3),.const (.int .i64 0)],#[52,2]⟩,2,p,#[Zf 3],none⟩
def Ziw (B:Nat) (p:String):Oper:=⟨some (B+5),.buildSlice 30 1 #[(0,.tmp (B+4))],30,p,#[Zf 4],none⟩
def Zix (B:Nat) (p:String):Oper:=⟨some (B+6),.nilCheck (.tmp B),0,p,#[Zf 0,Zc 0,Zc 1,Zc 2,Zc 3,Zc 4,Zc 5],none⟩
def Ziy (B:Nat) (p:String):Oper:=⟨some (B+7),.fieldAddr 59 (.tmp (B+6)) 0,0,p,#[Zf 6,Zc 0,Zc 1,Zc 2,Zc 3,Zc 4,Zc 5],none⟩
def Ziz (B:Nat) (p:String):Oper:=⟨some (B+8),.fieldAddr 33 (.tmp (B+7)) 2,0,p,#[Zf 7,Zc 0,Zc 1,Zc 2,Zc 3,Zc 4,Zc 5],none⟩
def ZiA (B:Nat) (p:String):Oper:=⟨none,.store 30 (.tmp (B+8)) (.tmp (B+5)),0,p,#[Zf 8,Zf 5,Zb2 4,Zc 0,Zc 1,Zc 2,Zc 3,Zc 4,Zc 5],none⟩
def ZmJ (F:Nat) (B:Nat) (sp:Nat) (sb:Nat) (p:String):Array Oper:=#[Zir B sb p,Zis B sp p,Zit B p,Ziu B p,Ziv F B p,Ziw B p,Zix B p,Ziy B p,Ziz B p,ZiA B p]
def ZbC (B:Nat):List (Option Nat):=[some B,some (B+1),some (B+2),some (B+3),some (B+4),some (B+5),some (B+6),some (B+7),some (B+8),none]
theorem Zm1 {F:Nat} (hF:ZR F) (B sp sb:Nat) {p:String} {id:Nat} {Q:Exit->Act->World->Prop} {a:Act} {w0 wS w:World} {bp c:Nat} {ad:Addr} {L:List Tok} {s:PS} {k:Int} {ws:List Txt} {ns:List Int} {at_:Int} {kids:List Tr} {b:Nat} {xs:List (Nat×TypeId×Array Value)} {px bx:Nat} {r:Int×PS} (hG:Way w0 wS w bp c ad L s k ws ns at_ kids b xs) (hbx:(bx,39,#[brV b])∈xs) (hpx:(px,63,#[pV bp])∈xs)
  (hC:∀ w1,ParQ w0 w1 bp ad c L s->Calls Tryd.prog F #[pV bp,.int .i64 0] w1 (ZbJ w0 w1 bp c ad L r fun x v _=>v=.int .i64 x))
  (hbad:Zcw wS bp Q a r.2) (h:∀ x w',Way w0 wS w' bp c ad L r.2 k ws [r.1] at_ kids b xs->Q .normal (ZG x 0 (ZbC B) a) w')
  (hB:Nat.blt (B+8) a.tmps.size=true:=by kernel_rfl) (n_sp:some sp ∉ ZbC B:=by decide) (n_sb:some sb ∉ ZbC B:=by decide) (hon:Zbj (ZbC B)=true:=by kernel_rfl) (h_sp:a.eval (.tmp sp)=pV px:=by rfl) (h_sb:a.eval (.tmp sb)=pV bx:=by rfl) :
  (Code.region id (ZmJ F B sp sb p) true).wp Tryd.prog Q a w:=by
 rw [Nat.blt_eq] at hB
 refine ZaC 9 [4,5] (ZbC B) (fun i v=>match i with | 0=>v=brV b | 1=>v=pV bp | 2=>v=pV bp | 3=>v=pV bp | 6=>v=brV b | 7=>v=brV b | 8=>v=(.pointer (some ⟨b,2,none⟩)) | _=>True) (fun p v w1=>match p with | 0=>Way w0 wS w1 bp c ad L s k ws ns at_ kids b xs | 1=>Way w0 wS w1 bp c ad L r.2 k ws ns at_ kids b xs/\v 0=.int .i64 r.1 | _=>∃ w2,Way w0 wS w2 bp c ad L r.2 k ws ns at_ kids b xs/\w1=(w2.alloc (.cells #[.int .i64 r.1] 2))/\v 1=.slice (some ⟨w2.heap.size,0,none⟩) 1 1) (fun _ w'=>Way w0 wS w' bp c ad L r.2 k ws [r.1] at_ kids b xs) rfl (by kernel_rfl) (by kernel_rfl) (by kernel_rfl) (by kernel_rfl) (by decide) (by decide) rfl hon hG.drew ?_ ?_ ?_ ?_ ?_
 ·intro p v v' w1 hv hW
  match p,hW with
  | 0,hW=>exact hW
  | 1,hW=>exact ⟨hW.1,(hv 0 (by omega)).symm.trans hW.2⟩
  | p+2,hW=>
   obtain ⟨w2,h1,h2,h3⟩:=hW
   exact ⟨w2,h1,h2,(hv 1 (by omega)).symm.trans h3⟩
 ·intro i o hi him ho x ph w1 hp hW hd hq K' hK
  have hS:w1.cell? ⟨bx,0,none⟩=some (brV b)/\w1.cell? ⟨px,0,none⟩=some (pV bp):=by
   have hc2:ph=0\/ph=1\/ph=2:=by dsimp only [List.length] at hp;omega
   rcases hc2 with rfl | rfl | rfl
   ·exact ⟨hW.cell hbx,hW.cell hpx⟩
   ·exact ⟨hW.1.cell hbx,hW.1.cell hpx⟩
   ·obtain ⟨w2,h1,rfl,_⟩:=hW
    have h2:=h1.grown (below_alloc1 w2 (.cells #[.int .i64 r.1] 2))
    exact ⟨h2.cell hbx,h2.cell hpx⟩
  obtain ⟨q1,q2⟩:=hS
  clear hW hq hp
  have hc:i=0\/i=1\/i=2\/i=3\/i=4\/i=5\/i=6\/i=7\/i=8:=by omega
  clear hi
  rcases hc with rfl | rfl | rfl | rfl | rfl | rfl | rfl | rfl | rfl
  ·obtain rfl:Zir B sb p=o:=Option.some.inj ho
   dsimp only [Zir] at hK hd ⊢
   have y_sb:=(ZO (x:=x) (ZbC B) 0 a n_sb).trans h_sb
   refine Zh rfl (v:=brV b) (w2:=w1) ?_ (hK.out (brV b) rfl)
   simp only [execOp,y_sb]
   go_simp
  ·obtain rfl:Zis B sp p=o:=Option.some.inj ho
   dsimp only [Zis] at hK hd ⊢
   have y_sp:=(ZO (x:=x) (ZbC B) 0 a n_sp).trans h_sp
   refine Zh rfl (v:=pV bp) (w2:=w1) ?_ (hK.out (pV bp) rfl)
   simp only [execOp,y_sp]
   go_simp
  ·obtain rfl:Zit B p=o:=Option.some.inj ho
   dsimp only [Zit] at hK hd ⊢
   have y_1:=(Ze (x:=x) (ZbC B) 0 1 a hon rfl (show (B+1)<a.tmps.size by omega)).trans ((congrArg x (Nat.zero_add 1)).trans (show x 1=pV bp from hd (Zf 1) (by simp) rfl (by decide)))
   refine Zh rfl (v:=pV bp) (w2:=w1) ?_ (hK.out (pV bp) rfl)
   simp only [execOp,y_1]
   go_simp
  ·obtain rfl:Ziu B p=o:=Option.some.inj ho
   dsimp only [Ziu] at hK hd ⊢
   have y_2:=(Ze (x:=x) (ZbC B) 0 2 a hon rfl (show (B+2)<a.tmps.size by omega)).trans ((congrArg x (Nat.zero_add 2)).trans (show x 2=pV bp from hd (Zf 2) (by simp) rfl (by decide)))
   refine Zh rfl (v:=pV bp) (w2:=w1) ?_ (hK.out (pV bp) rfl)
   simp only [execOp,y_2]
   go_simp
  ·exact absurd (by decide) him
  ·exact absurd (by decide) him
  ·obtain rfl:Zix B p=o:=Option.some.inj ho
   dsimp only [Zix] at hK hd ⊢
   have y_0:=(Ze (x:=x) (ZbC B) 0 0 a hon rfl (show B<a.tmps.size by omega)).trans ((congrArg x (Nat.zero_add 0)).trans (show x 0=brV b from hd (Zf 0) (by simp) rfl (by decide)))
   refine Zh rfl (v:=brV b) (w2:=w1) ?_ (hK.out (brV b) rfl)
   simp only [execOp,y_0]
   go_simp
  ·obtain rfl:Ziy B p=o:=Option.some.inj ho
   dsimp only [Ziy] at hK hd ⊢
   have y_6:=(Ze (x:=x) (ZbC B) 0 6 a hon rfl (show (B+6)<a.tmps.size by omega)).trans ((congrArg x (Nat.zero_add 6)).trans (show x 6=brV b from hd (Zf 6) (by simp) rfl (by decide)))
   refine Zh rfl (v:=brV b) (w2:=w1) ?_ (hK.out (brV b) rfl)
   simp only [execOp,y_6]
   go_simp
  ·obtain rfl:Ziz B p=o:=Option.some.inj ho
   dsimp only [Ziz] at hK hd ⊢
   have y_7:=(Ze (x:=x) (ZbC B) 0 7 a hon rfl (show (B+7)<a.tmps.size by omega)).trans ((congrArg x (Nat.zero_add 7)).trans (show x 7=brV b from hd (Zf 7) (by simp) rfl (by decide)))
   refine Zh rfl (v:=(.pointer (some ⟨b,2,none⟩))) (w2:=w1) ?_ (hK.out ((.pointer (some ⟨b,2,none⟩))) rfl)
   simp only [execOp,y_7]
   go_simp
 ·intro q m o hq ho x w1 hW hd K' hK
  have hc:q=0\/q=1:=by have:=(List.getElem?_eq_some_iff.1 hq).1;dsimp only [List.length] at this;omega
  rcases hc with rfl | rfl
  ·obtain rfl:4=m:=Option.some.inj hq
   obtain rfl:Ziv F B p=o:=Option.some.inj ho
   dsimp only [Ziv] at hK hd ⊢
   have y_3:=(Ze (x:=x) (ZbC B) 0 3 a hon rfl (show (B+3)<a.tmps.size by omega)).trans ((congrArg x (Nat.zero_add 3)).trans (show x 3=pV bp from hd (Zf 3) (by simp) rfl (by decide)))
   refine Zbg rfl (Zh5 y_3) (hF _ _) ((hC w1 hW.P).mono ?_)
   rintro e w2 ⟨hf,hok,hbd⟩
   by_cases z:r.2.err=0
   ·obtain ⟨v,rfl,hP,rfl⟩:=hok z
    exact hK.out _ _ ⟨hW.call hP hf,rfl⟩
   ·obtain rfl:=hbd z
    exact hbad z _ _ (Zax _ _ _) (hW.F.trans hf)
  ·obtain rfl:5=m:=Option.some.inj hq
   obtain rfl:Ziw B p=o:=Option.some.inj ho
   dsimp only [Ziw] at hK hd ⊢
   obtain ⟨hW1,hv0⟩:=hW
   have y_4:=(Ze (x:=x) (ZbC B) 0 4 a hon rfl (show (B+4)<a.tmps.size by omega)).trans ((congrArg x (Nat.zero_add 4)).trans (show x 4=.int .i64 r.1 from hv0))
   refine Zh rfl (v:=.slice (some ⟨w1.heap.size,0,none⟩) 1 1) (w2:=(w1.alloc (.cells #[.int .i64 r.1] 2))) ?_ (hK.out _ _ ⟨w1,hW1,rfl,rfl⟩)
   simp only [execOp,List.map_toArray,List.map_cons,List.map_nil,y_4]
   go_simp
 ·intro o ho x w1 hW hd K' hK
  obtain rfl:ZiA B p=o:=Option.some.inj ho
  dsimp only [ZiA] at hK ⊢
  obtain ⟨w2,hW1,rfl,hv1⟩:=hW
  have y_8:=(Ze (x:=x) (ZbC B) 0 8 a hon rfl (show (B+8)<a.tmps.size by omega)).trans ((congrArg x (Nat.zero_add 8)).trans (show x 8=(.pointer (some ⟨b,2,none⟩)) from hd 8 (by decide) (by decide)))
  have y_5:=(Ze (x:=x) (ZbC B) 0 5 a hon rfl (show (B+5)<a.tmps.size by omega)).trans ((congrArg x (Nat.zero_add 5)).trans (show x 5=.slice (some ⟨w2.heap.size,0,none⟩) 1 1 from hv1))
  have W2:=hW1.grown (below_alloc1 w2 (.cells #[.int .i64 r.1] 2))
  have q0:=W2.free 2
  obtain ⟨vw,vn,vk,bs,KK,X⟩:=W2.X
  have q1:=X.box.blk.cell 2
  simp only [List.getElem?_toArray,List.getElem?_cons_zero,List.getElem?_cons_succ] at q1
  have HW:=zh hW1
  clear W2 X hW1
  refine ZbR rfl (w2:=((w2.alloc (.cells #[.int .i64 r.1] 2))).setCell ⟨b,2,none⟩ (.slice (some ⟨w2.heap.size,0,none⟩) 1 1)) ?_ (hK.out _ _ (HW.out.nums1 r.1))
  simp only [execOp,y_8,y_5]
  go_simp
 ·exact fun x w1 hE=>h x w1 hE
end
end Go.Proofs.YtfdgeijnkkdplaaDoor
