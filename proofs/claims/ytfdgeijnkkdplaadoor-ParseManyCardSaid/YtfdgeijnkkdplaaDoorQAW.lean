import Derived.Test.YtfdgeijnkkdplaaDoorQAV
set_option maxRecDepth 100000
set_option maxHeartbeats 8000000
namespace Go.Proofs.YtfdgeijnkkdplaaDoor
section
open Go Go.RowKit
def Zi6 (B:Nat) (sb:Nat) (p:String):Oper:=⟨some B,.load 39 (.tmp sb),39,p,#[],none⟩
def Zi7 (B:Nat) (sp:Nat) (p:String):Oper:=⟨some (B+1),.load 63 (.tmp sp),63,p,#[],none⟩
def Zi8 (B:Nat) (p:String):Oper:=⟨some (B+2),.nilCheck (.tmp (B+1)),0,p,#[Zf 1],none⟩
def Zi9 (B:Nat) (p:String):Oper:=⟨some (B+3),.fieldAddr 54 (.tmp (B+2)) 0,0,p,#[Zf 2],none⟩
def Zja (F:Nat) (B:Nat) (p:String):Oper:=⟨some (B+4),.call ⟨.value (.func F),#[.tmp (B+3)],#[52]⟩,9,p,#[Zf 3],none⟩
def Zjb (B:Nat) (p:String):Oper:=⟨some (B+5),.buildSlice 29 1 #[(0,.tmp (B+4))],29,p,#[Zf 4],none⟩
def Zjc (B:Nat) (p:String):Oper:=⟨some (B+6),.nilCheck (.tmp B),0,p,#[Zf 0,Zc 0,Zc 1,Zc 2,Zc 3,Zc 4,Zc 5],none⟩
def Zjd (B:Nat) (p:String):Oper:=⟨some (B+7),.fieldAddr 59 (.tmp (B+6)) 0,0,p,#[Zf 6,Zc 0,Zc 1,Zc 2,Zc 3,Zc 4,Zc 5],none⟩
def Zje (B:Nat) (p:String):Oper:=⟨some (B+8),.fieldAddr 33 (.tmp (B+7)) 1,0,p,#[Zf 7,Zc 0,Zc 1,Zc 2,Zc 3,Zc 4,Zc 5],none⟩
def Zjf (B:Nat) (p:String):Oper:=⟨none,.store 29 (.tmp (B+8)) (.tmp (B+5)),0,p,#[Zf 8,Zf 5,ZbT 4,Zc 0,Zc 1,Zc 2,Zc 3,Zc 4,Zc 5],none⟩
def ZmE (F:Nat) (B:Nat) (sp:Nat) (sb:Nat) (p:String):Array Oper:=#[Zi6 B sb p,Zi7 B sp p,Zi8 B p,Zi9 B p,Zja F B p,Zjb B p,Zjc B p,Zjd B p,Zje B p,Zjf B p]
def ZaQ (B:Nat):List (Option Nat):=[some B,some (B+1),some (B+2),some (B+3),some (B+4),some (B+5),some (B+6),some (B+7),some (B+8),none]
theorem Zck {F:Nat} (hF:ZN F) (B sp sb:Nat) {p:String} {id:Nat} {Q:Exit->Act->World->Prop} {a:Act} {w0 wS w:World} {bp c:Nat} {ad:Addr} {L:List Tok} {s:PS} {k:Int} {ws:List Txt} {ns:List Int} {at_:Int} {kids:List Tr} {b:Nat} {xs:List (Nat×TypeId×Array Value)} {px bx:Nat} {r:Txt×PS} (hG:Way w0 wS w bp c ad L s k ws ns at_ kids b xs) (hbx:(bx,39,#[brV b])∈xs) (hpx:(px,63,#[pV bp])∈xs)
  (hC:∀ w1,ParQ w0 w1 bp ad c L s->Calls Tryd.prog F #[pV bp] w1 (Zbv w0 w1 bp c ad L r fun x v _=>v=txt x))
  (hbad:Zcl wS bp Q a r.2) (h:∀ x w',Way w0 wS w' bp c ad L r.2 k [r.1] ns at_ kids b xs->Q .normal (ZE x 0 (ZaQ B) a) w')
  (hB:Nat.blt (B+8) a.tmps.size=true:=by kernel_rfl) (n_sp:some sp ∉ ZaQ B:=by decide) (n_sb:some sb ∉ ZaQ B:=by decide) (hon:Zbc (ZaQ B)=true:=by kernel_rfl) (h_sp:a.eval (.tmp sp)=pV px:=by rfl) (h_sb:a.eval (.tmp sb)=pV bx:=by rfl) :
  (Code.region id (ZmE F B sp sb p) true).wp Tryd.prog Q a w:=by
 rw [Nat.blt_eq] at hB
 refine Zav 9 [4,5] (ZaQ B) (fun i v=>match i with | 0=>v=brV b | 1=>v=pV bp | 2=>v=pV bp | 3=>v=pV bp | 6=>v=brV b | 7=>v=brV b | 8=>v=(.pointer (some ⟨b,1,none⟩)) | _=>True) (fun p v w1=>match p with | 0=>Way w0 wS w1 bp c ad L s k ws ns at_ kids b xs | 1=>Way w0 wS w1 bp c ad L r.2 k ws ns at_ kids b xs/\v 0=txt r.1 | _=>∃ w2,Way w0 wS w2 bp c ad L r.2 k ws ns at_ kids b xs/\w1=(w2.alloc (.cells #[txt r.1] 9))/\v 1=.slice (some ⟨w2.heap.size,0,none⟩) 1 1) (fun _ w'=>Way w0 wS w' bp c ad L r.2 k [r.1] ns at_ kids b xs) rfl (by kernel_rfl) (by kernel_rfl) (by kernel_rfl) (by kernel_rfl) (by decide) (by decide) rfl hon hG.drew ?_ ?_ ?_ ?_ ?_
 ·intro p v v' w1 hv hW
  match p,hW with
  | 0,hW=>exact hW
  | 1,hW=>exact ⟨hW.1,(hv 0 (by omega)).symm.trans hW.2⟩
  | p+2,hW=>
   obtain ⟨w2,h1,h2,h3⟩:=hW
   exact ⟨w2,h1,h2,(hv 1 (by omega)).symm.trans h3⟩
 ·intro i o hi him ho x ph w1 hp hW hd hq K' hK
  have hS:w1.cell? ⟨bx,0,none⟩=some (brV b)/\w1.cell? ⟨px,0,none⟩=some (pV bp):=by
   have hc2:ph=0\/ph=1\/ph=2:=by dsimp only [List.length] at hp;omega
   rcases hc2 with rfl | rfl | rfl
   ·exact ⟨hW.cell hbx,hW.cell hpx⟩
   ·exact ⟨hW.1.cell hbx,hW.1.cell hpx⟩
   ·obtain ⟨w2,h1,rfl,_⟩:=hW
    have h2:=h1.grown (below_alloc1 w2 (.cells #[txt r.1] 9))
    exact ⟨h2.cell hbx,h2.cell hpx⟩
  obtain ⟨q1,q2⟩:=hS
  clear hW hq hp
  have hc:i=0\/i=1\/i=2\/i=3\/i=4\/i=5\/i=6\/i=7\/i=8:=by omega
  clear hi
  rcases hc with rfl | rfl | rfl | rfl | rfl | rfl | rfl | rfl | rfl
  ·obtain rfl:Zi6 B sb p=o:=Option.some.inj ho
   dsimp only [Zi6] at hK hd ⊢
   have y_sb:=(ZM (x:=x) (ZaQ B) 0 a n_sb).trans h_sb
   refine Zi rfl (v:=brV b) (w2:=w1) ?_ (hK.out (brV b) rfl)
   simp only [execOp,y_sb]
   go_simp
  ·obtain rfl:Zi7 B sp p=o:=Option.some.inj ho
   dsimp only [Zi7] at hK hd ⊢
   have y_sp:=(ZM (x:=x) (ZaQ B) 0 a n_sp).trans h_sp
   refine Zi rfl (v:=pV bp) (w2:=w1) ?_ (hK.out (pV bp) rfl)
   simp only [execOp,y_sp]
   go_simp
  ·obtain rfl:Zi8 B p=o:=Option.some.inj ho
   dsimp only [Zi8] at hK hd ⊢
   have y_1:=(Ze (x:=x) (ZaQ B) 0 1 a hon rfl (show (B+1)<a.tmps.size by omega)).trans ((congrArg x (Nat.zero_add 1)).trans (show x 1=pV bp from hd (Zf 1) (by simp) rfl (by decide)))
   refine Zi rfl (v:=pV bp) (w2:=w1) ?_ (hK.out (pV bp) rfl)
   simp only [execOp,y_1]
   go_simp
  ·obtain rfl:Zi9 B p=o:=Option.some.inj ho
   dsimp only [Zi9] at hK hd ⊢
   have y_2:=(Ze (x:=x) (ZaQ B) 0 2 a hon rfl (show (B+2)<a.tmps.size by omega)).trans ((congrArg x (Nat.zero_add 2)).trans (show x 2=pV bp from hd (Zf 2) (by simp) rfl (by decide)))
   refine Zi rfl (v:=pV bp) (w2:=w1) ?_ (hK.out (pV bp) rfl)
   simp only [execOp,y_2]
   go_simp
  ·exact absurd (by decide) him
  ·exact absurd (by decide) him
  ·obtain rfl:Zjc B p=o:=Option.some.inj ho
   dsimp only [Zjc] at hK hd ⊢
   have y_0:=(Ze (x:=x) (ZaQ B) 0 0 a hon rfl (show B<a.tmps.size by omega)).trans ((congrArg x (Nat.zero_add 0)).trans (show x 0=brV b from hd (Zf 0) (by simp) rfl (by decide)))
   refine Zi rfl (v:=brV b) (w2:=w1) ?_ (hK.out (brV b) rfl)
   simp only [execOp,y_0]
   go_simp
  ·obtain rfl:Zjd B p=o:=Option.some.inj ho
   dsimp only [Zjd] at hK hd ⊢
   have y_6:=(Ze (x:=x) (ZaQ B) 0 6 a hon rfl (show (B+6)<a.tmps.size by omega)).trans ((congrArg x (Nat.zero_add 6)).trans (show x 6=brV b from hd (Zf 6) (by simp) rfl (by decide)))
   refine Zi rfl (v:=brV b) (w2:=w1) ?_ (hK.out (brV b) rfl)
   simp only [execOp,y_6]
   go_simp
  ·obtain rfl:Zje B p=o:=Option.some.inj ho
   dsimp only [Zje] at hK hd ⊢
   have y_7:=(Ze (x:=x) (ZaQ B) 0 7 a hon rfl (show (B+7)<a.tmps.size by omega)).trans ((congrArg x (Nat.zero_add 7)).trans (show x 7=brV b from hd (Zf 7) (by simp) rfl (by decide)))
   refine Zi rfl (v:=(.pointer (some ⟨b,1,none⟩))) (w2:=w1) ?_ (hK.out ((.pointer (some ⟨b,1,none⟩))) rfl)
   simp only [execOp,y_7]
   go_simp
 ·intro q m o hq ho x w1 hW hd K' hK
  have hc:q=0\/q=1:=by have:=(List.getElem?_eq_some_iff.1 hq).1;dsimp only [List.length] at this;omega
  rcases hc with rfl | rfl
  ·obtain rfl:4=m:=Option.some.inj hq
   obtain rfl:Zja F B p=o:=Option.some.inj ho
   dsimp only [Zja] at hK hd ⊢
   have y_3:=(Ze (x:=x) (ZaQ B) 0 3 a hon rfl (show (B+3)<a.tmps.size by omega)).trans ((congrArg x (Nat.zero_add 3)).trans (show x 3=pV bp from hd (Zf 3) (by simp) rfl (by decide)))
   refine Zba rfl (ZaP y_3) (hF _ _) ((hC w1 hW.P).mono ?_)
   rintro e w2 ⟨hf,hok,hbd⟩
   by_cases z:r.2.err=0
   ·obtain ⟨v,rfl,hP,rfl⟩:=hok z
    exact hK.out _ _ ⟨hW.call hP hf,rfl⟩
   ·obtain rfl:=hbd z
    exact hbad z _ _ (Zap _ _ _) (hW.F.trans hf)
  ·obtain rfl:5=m:=Option.some.inj hq
   obtain rfl:Zjb B p=o:=Option.some.inj ho
   dsimp only [Zjb] at hK hd ⊢
   obtain ⟨hW1,hv0⟩:=hW
   have y_4:=(Ze (x:=x) (ZaQ B) 0 4 a hon rfl (show (B+4)<a.tmps.size by omega)).trans ((congrArg x (Nat.zero_add 4)).trans (show x 4=txt r.1 from hv0))
   refine Zi rfl (v:=.slice (some ⟨w1.heap.size,0,none⟩) 1 1) (w2:=(w1.alloc (.cells #[txt r.1] 9))) ?_ (hK.out _ _ ⟨w1,hW1,rfl,rfl⟩)
   simp only [execOp,List.map_toArray,List.map_cons,List.map_nil,y_4]
   go_simp
 ·intro o ho x w1 hW hd K' hK
  obtain rfl:Zjf B p=o:=Option.some.inj ho
  dsimp only [Zjf] at hK ⊢
  obtain ⟨w2,hW1,rfl,hv1⟩:=hW
  have y_8:=(Ze (x:=x) (ZaQ B) 0 8 a hon rfl (show (B+8)<a.tmps.size by omega)).trans ((congrArg x (Nat.zero_add 8)).trans (show x 8=(.pointer (some ⟨b,1,none⟩)) from hd 8 (by decide) (by decide)))
  have y_5:=(Ze (x:=x) (ZaQ B) 0 5 a hon rfl (show (B+5)<a.tmps.size by omega)).trans ((congrArg x (Nat.zero_add 5)).trans (show x 5=.slice (some ⟨w2.heap.size,0,none⟩) 1 1 from hv1))
  have W2:=hW1.grown (below_alloc1 w2 (.cells #[txt r.1] 9))
  have q0:=W2.free 1
  obtain ⟨vw,vn,vk,bs,KK,X⟩:=W2.X
  have q1:=X.box.blk.cell 1
  simp only [List.getElem?_toArray,List.getElem?_cons_zero,List.getElem?_cons_succ] at q1
  have HW:=zh hW1
  clear W2 X hW1
  refine ZbE rfl (w2:=((w2.alloc (.cells #[txt r.1] 9))).setCell ⟨b,1,none⟩ (.slice (some ⟨w2.heap.size,0,none⟩) 1 1)) ?_ (hK.out _ _ (HW.out.words1 r.1))
  simp only [execOp,y_8,y_5]
  go_simp
 ·exact fun x w1 hE=>h x w1 hE
def Zij (B:Nat) (sb:Nat) (p:String):Oper:=⟨some B,.load 39 (.tmp sb),39,p,#[],none⟩
def Zik (B:Nat) (sp:Nat) (p:String):Oper:=⟨some (B+1),.load 63 (.tmp sp),63,p,#[],none⟩
def Zil (B:Nat) (p:String):Oper:=⟨some (B+2),.nilCheck (.tmp (B+1)),0,p,#[Zf 1],none⟩
def Zim (B:Nat) (p:String):Oper:=⟨some (B+3),.fieldAddr 54 (.tmp (B+2)) 0,0,p,#[Zf 2],none⟩
def Zin (F:Nat) (B:Nat) (p:String):Oper:=⟨some (B+4),.call ⟨.value (.func F),#[.tmp (B+3),.const (.int .i64 0)],#[52,2]⟩,2,p,#[Zf 3],none⟩
def Zio (B:Nat) (p:String):Oper:=⟨some (B+5),.buildSlice 30 1 #[(0,.tmp (B+4))],30,p,#[Zf 4],none⟩
def Zip (B:Nat) (p:String):Oper:=⟨some (B+6),.nilCheck (.tmp B),0,p,#[Zf 0,Zc 0,Zc 1,Zc 2,Zc 3,Zc 4,Zc 5],none⟩
def Ziq (B:Nat) (p:String):Oper:=⟨some (B+7),.fieldAddr 59 (.tmp (B+6)) 0,0,p,#[Zf 6,Zc 0,Zc 1,Zc 2,Zc 3,Zc 4,Zc 5],none⟩
def Zir (B:Nat) (p:String):Oper:=⟨some (B+8),.fieldAddr 33 (.tmp (B+7)) 2,0,p,#[Zf 7,Zc 0,Zc 1,Zc 2,Zc 3,Zc 4,Zc 5],none⟩
def Zis (B:Nat) (p:String):Oper:=⟨none,.store 30 (.tmp (B+8)) (.tmp (B+5)),0,p,#[Zf 8,Zf 5,ZbT 4,Zc 0,Zc 1,Zc 2,Zc 3,Zc 4,Zc 5],none⟩
def Zmu (F:Nat) (B:Nat) (sp:Nat) (sb:Nat) (p:String):Array Oper:=#[Zij B sb p,Zik B sp p,Zil B p,Zim B p,Zin F B p,Zio B p,Zip B p,Ziq B p,Zir B p,Zis B p]
def Zbo (B:Nat):List (Option Nat):=[some B,some (B+1),some (B+2),some (B+3),some (B+4),some (B+5),some (B+6),some (B+7),some (B+8),none]
theorem ZmL {F:Nat} (hF:ZN F) (B sp sb:Nat) {p:String} {id:Nat} {Q:Exit->Act->World->Prop} {a:Act} {w0 wS w:World} {bp c:Nat} {ad:Addr} {L:List Tok} {s:PS} {k:Int} {ws:List Txt} {ns:List Int} {at_:Int} {kids:List Tr} {b:Nat} {xs:List (Nat×TypeId×Array Value)} {px bx:Nat} {r:Int×PS} (hG:Way w0 wS w bp c ad L s k ws ns at_ kids b xs) (hbx:(bx,39,#[brV b])∈xs) (hpx:(px,63,#[pV bp])∈xs)
  (hC:∀ w1,ParQ w0 w1 bp ad c L s->Calls Tryd.prog F #[pV bp,.int .i64 0] w1 (Zbv w0 w1 bp c ad L r fun x v _=>v=.int .i64 x))
  (hbad:Zcl wS bp Q a r.2) (h:∀ x w',Way w0 wS w' bp c ad L r.2 k ws [r.1] at_ kids b xs->Q .normal (ZE x 0 (Zbo B) a) w')
  (hB:Nat.blt (B+8) a.tmps.size=true:=by kernel_rfl) (n_sp:some sp ∉ Zbo B:=by decide) (n_sb:some sb ∉ Zbo B:=by decide) (hon:Zbc (Zbo B)=true:=by kernel_rfl) (h_sp:a.eval (.tmp sp)=pV px:=by rfl) (h_sb:a.eval (.tmp sb)=pV bx:=by rfl) :
  (Code.region id (Zmu F B sp sb p) true).wp Tryd.prog Q a w:=by
 rw [Nat.blt_eq] at hB
 refine Zav 9 [4,5] (Zbo B) (fun i v=>match i with | 0=>v=brV b | 1=>v=pV bp | 2=>v=pV bp | 3=>v=pV bp | 6=>v=brV b | 7=>v=brV b | 8=>v=(.pointer (some ⟨b,2,none⟩)) | _=>True) (fun p v w1=>match p with | 0=>Way w0 wS w1 bp c ad L s k ws ns at_ kids b xs | 1=>Way w0 wS w1 bp c ad L r.2 k ws ns at_ kids b xs/\v 0=.int .i64 r.1 | _=>∃ w2,Way w0 wS w2 bp c ad L r.2 k ws ns at_ kids b xs/\w1=(w2.alloc (.cells #[.int .i64 r.1] 2))/\v 1=.slice (some ⟨w2.heap.size,0,none⟩) 1 1) (fun _ w'=>Way w0 wS w' bp c ad L r.2 k ws [r.1] at_ kids b xs) rfl (by kernel_rfl) (by kernel_rfl) (by kernel_rfl) (by kernel_rfl) (by decide) (by decide) rfl hon hG.drew ?_ ?_ ?_ ?_ ?_
 ·intro p v v' w1 hv hW
  match p,hW with
  | 0,hW=>exact hW
  | 1,hW=>exact ⟨hW.1,(hv 0 (by omega)).symm.trans hW.2⟩
  | p+2,hW=>
   obtain ⟨w2,h1,h2,h3⟩:=hW
   exact ⟨w2,h1,h2,(hv 1 (by omega)).symm.trans h3⟩
 ·intro i o hi him ho x ph w1 hp hW hd hq K' hK
  have hS:w1.cell? ⟨bx,0,none⟩=some (brV b)/\w1.cell? ⟨px,0,none⟩=some (pV bp):=by
   have hc2:ph=0\/ph=1\/ph=2:=by dsimp only [List.length] at hp;omega
   rcases hc2 with rfl | rfl | rfl
   ·exact ⟨hW.cell hbx,hW.cell hpx⟩
   ·exact ⟨hW.1.cell hbx,hW.1.cell hpx⟩
   ·obtain ⟨w2,h1,rfl,_⟩:=hW
    have h2:=h1.grown (below_alloc1 w2 (.cells #[.int .i64 r.1] 2))
    exact ⟨h2.cell hbx,h2.cell hpx⟩
  obtain ⟨q1,q2⟩:=hS
  clear hW hq hp
  have hc:i=0\/i=1\/i=2\/i=3\/i=4\/i=5\/i=6\/i=7\/i=8:=by omega
  clear hi
  rcases hc with rfl | rfl | rfl | rfl | rfl | rfl | rfl | rfl | rfl
  ·obtain rfl:Zij B sb p=o:=Option.some.inj ho
   dsimp only [Zij] at hK hd ⊢
   have y_sb:=(ZM (x:=x) (Zbo B) 0 a n_sb).trans h_sb
   refine Zi rfl (v:=brV b) (w2:=w1) ?_ (hK.out (brV b) rfl)
   simp only [execOp,y_sb]
   go_simp
  ·obtain rfl:Zik B sp p=o:=Option.some.inj ho
   dsimp only [Zik] at hK hd ⊢
   have y_sp:=(ZM (x:=x) (Zbo B) 0 a n_sp).trans h_sp
   refine Zi rfl (v:=pV bp) (w2:=w1) ?_ (hK.out (pV bp) rfl)
   simp only [execOp,y_sp]
   go_simp
  ·obtain rfl:Zil B p=o:=Option.some.inj ho
   dsimp only [Zil] at hK hd ⊢
   have y_1:=(Ze (x:=x) (Zbo B) 0 1 a hon rfl (show (B+1)<a.tmps.size by omega)).trans ((congrArg x (Nat.zero_add 1)).trans (show x 1=pV bp from hd (Zf 1) (by simp) rfl (by decide)))
   refine Zi rfl (v:=pV bp) (w2:=w1) ?_ (hK.out (pV bp) rfl)
   simp only [execOp,y_1]
   go_simp
  ·obtain rfl:Zim B p=o:=Option.some.inj ho
   dsimp only [Zim] at hK hd ⊢
   have y_2:=(Ze (x:=x) (Zbo B) 0 2 a hon rfl (show (B+2)<a.tmps.size by omega)).trans ((congrArg x (Nat.zero_add 2)).trans (show x 2=pV bp from hd (Zf 2) (by simp) rfl (by decide)))
   refine Zi rfl (v:=pV bp) (w2:=w1) ?_ (hK.out (pV bp) rfl)
   simp only [execOp,y_2]
   go_simp
  ·exact absurd (by decide) him
  ·exact absurd (by decide) him
  ·obtain rfl:Zip B p=o:=Option.some.inj ho
   dsimp only [Zip] at hK hd ⊢
   have y_0:=(Ze (x:=x) (Zbo B) 0 0 a hon rfl (show B<a.tmps.size by omega)).trans ((congrArg x (Nat.zero_add 0)).trans (show x 0=brV b from hd (Zf 0) (by simp) rfl (by decide)))
   refine Zi rfl (v:=brV b) (w2:=w1) ?_ (hK.out (brV b) rfl)
   simp only [execOp,y_0]
   go_simp
  ·obtain rfl:Ziq B p=o:=Option.some.inj ho
   dsimp only [Ziq] at hK hd ⊢
   have y_6:=(Ze (x:=x) (Zbo B) 0 6 a hon rfl (show (B+6)<a.tmps.size by omega)).trans ((congrArg x (Nat.zero_add 6)).trans (show x 6=brV b from hd (Zf 6) (by simp) rfl (by decide)))
   refine Zi rfl (v:=brV b) (w2:=w1) ?_ (hK.out (brV b) rfl)
   simp only [execOp,y_6]
   go_simp
  ·obtain rfl:Zir B p=o:=Option.some.inj ho
   dsimp only [Zir] at hK hd ⊢
   have y_7:=(Ze (x:=x) (Zbo B) 0 7 a hon rfl (show (B+7)<a.tmps.size by omega)).trans ((congrArg x (Nat.zero_add 7)).trans (show x 7=brV b from hd (Zf 7) (by simp) rfl (by decide)))
   refine Zi rfl (v:=(.pointer (some ⟨b,2,none⟩))) (w2:=w1) ?_ (hK.out ((.pointer (some ⟨b,2,none⟩))) rfl)
   simp only [execOp,y_7]
   go_simp
 ·intro q m o hq ho x w1 hW hd K' hK
  have hc:q=0\/q=1:=by have:=(List.getElem?_eq_some_iff.1 hq).1;dsimp only [List.length] at this;omega
  rcases hc with rfl | rfl
  ·obtain rfl:4=m:=Option.some.inj hq
   obtain rfl:Zin F B p=o:=Option.some.inj ho
   dsimp only [Zin] at hK hd ⊢
   have y_3:=(Ze (x:=x) (Zbo B) 0 3 a hon rfl (show (B+3)<a.tmps.size by omega)).trans ((congrArg x (Nat.zero_add 3)).trans (show x 3=pV bp from hd (Zf 3) (by simp) rfl (by decide)))
   refine Zba rfl (ZhV y_3) (hF _ _) ((hC w1 hW.P).mono ?_)
   rintro e w2 ⟨hf,hok,hbd⟩
   by_cases z:r.2.err=0
   ·obtain ⟨v,rfl,hP,rfl⟩:=hok z
    exact hK.out _ _ ⟨hW.call hP hf,rfl⟩
   ·obtain rfl:=hbd z
    exact hbad z _ _ (Zap _ _ _) (hW.F.trans hf)
  ·obtain rfl:5=m:=Option.some.inj hq
   obtain rfl:Zio B p=o:=Option.some.inj ho
   dsimp only [Zio] at hK hd ⊢
   obtain ⟨hW1,hv0⟩:=hW
   have y_4:=(Ze (x:=x) (Zbo B) 0 4 a hon rfl (show (B+4)<a.tmps.size by omega)).trans ((congrArg x (Nat.zero_add 4)).trans (show x 4=.int .i64 r.1 from hv0))
   refine Zi rfl (v:=.slice (some ⟨w1.heap.size,0,none⟩) 1 1) (w2:=(w1.alloc (.cells #[.int .i64 r.1] 2))) ?_ (hK.out _ _ ⟨w1,hW1,rfl,rfl⟩)
   simp only [execOp,List.map_toArray,List.map_cons,List.map_nil,y_4]
   go_simp
 ·intro o ho x w1 hW hd K' hK
  obtain rfl:Zis B p=o:=Option.some.inj ho
  dsimp only [Zis] at hK ⊢
  obtain ⟨w2,hW1,rfl,hv1⟩:=hW
  have y_8:=(Ze (x:=x) (Zbo B) 0 8 a hon rfl (show (B+8)<a.tmps.size by omega)).trans ((congrArg x (Nat.zero_add 8)).trans (show x 8=(.pointer (some ⟨b,2,none⟩)) from hd 8 (by decide) (by decide)))
  have y_5:=(Ze (x:=x) (Zbo B) 0 5 a hon rfl (show (B+5)<a.tmps.size by omega)).trans ((congrArg x (Nat.zero_add 5)).trans (show x 5=.slice (some ⟨w2.heap.size,0,none⟩) 1 1 from hv1))
  have W2:=hW1.grown (below_alloc1 w2 (.cells #[.int .i64 r.1] 2))
  have q0:=W2.free 2
  obtain ⟨vw,vn,vk,bs,KK,X⟩:=W2.X
  have q1:=X.box.blk.cell 2
  simp only [List.getElem?_toArray,List.getElem?_cons_zero,List.getElem?_cons_succ] at q1
  have HW:=zh hW1
  clear W2 X hW1
  refine ZbE rfl (w2:=((w2.alloc (.cells #[.int .i64 r.1] 2))).setCell ⟨b,2,none⟩ (.slice (some ⟨w2.heap.size,0,none⟩) 1 1)) ?_ (hK.out _ _ (HW.out.nums1 r.1))
  simp only [execOp,y_8,y_5]
  go_simp
 ·exact fun x w1 hE=>h x w1 hE
end
end Go.Proofs.YtfdgeijnkkdplaaDoor
