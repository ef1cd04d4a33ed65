import Derived.Test.YtfdgeijnkkdplaaDoorQAX
set_option maxRecDepth 100000
set_option maxHeartbeats 8000000
namespace Go.Proofs.YtfdgeijnkkdplaaDoor
section
open Go Go.RowKit
theorem ZhT:ZN 23:=fun _ _=>by kernel_rfl
theorem ZfS:ZN 21:=fun _ _=>by kernel_rfl
def Zbl:List (List UInt8):=[[97,116],[116,111],[105,110]]
def Zic (B:Nat) (sb:Nat) (p:String):Oper:=⟨some B,.load 39 (.tmp sb),39,p,#[],none⟩
def Zid (B:Nat) (sp:Nat) (p:String):Oper:=⟨some (B+1),.load 63 (.tmp sp),63,p,#[],none⟩
def Zie (F:Nat) (B:Nat) (p:String):Oper:=⟨some (B+2),.call ⟨.value (.func F),#[.tmp (B+1)],#[63]⟩,39,p,#[Zf 1],none⟩
def Zif (B:Nat) (p:String):Oper:=⟨some (B+3),.buildSlice 57 1 #[(0,.tmp (B+2))],57,p,#[Zf 2],none⟩
def Zig (B:Nat) (p:String):Oper:=⟨some (B+4),.call ⟨.value (.func 23),#[.tmp B,.tmp (B+3)],#[39,57]⟩,0,p,#[Zf 0,Zf 3,ZbT 2],none⟩
def Zmo (F:Nat) (B:Nat) (sp:Nat) (sb:Nat) (p:String):Array Oper:=#[Zic B sb p,Zid B sp p,Zie F B p,Zif B p,Zig B p]
def Zca (B:Nat):List (Option Nat):=[some B,some (B+1),some (B+2),some (B+3),some (B+4)]
theorem ZcW {F:Nat} (hF:ZN F) (B sp sb:Nat) {p:String} {id:Nat} {Q:Exit->Act->World->Prop} {a:Act} {w0 wS w:World} {bp c:Nat} {ad:Addr} {L:List Tok} {s:PS} {k:Int} {ws:List Txt} {ns:List Int} {at_:Int} {kids:List Tr} {b:Nat} {xs:List (Nat×TypeId×Array Value)} (hG:Way w0 wS w bp c ad L s k ws ns at_ kids b xs) {px bx:Nat} (hbx:(bx,39,#[brV b])∈xs) (hpx:(px,63,#[pV bp])∈xs) {Dom:PS->Prop} {r:Tr×PS} (hn:kids.length<=200000) (hC:∀ w1,ParQ w0 w1 bp ad c L s->Calls Tryd.prog F #[pV bp] w1 (Zl w0 w1 bp c ad L Dom s r)) (hbad:Zcl wS bp Q a r.2)
  (h:∀ x w',Way w0 wS w' bp c ad L r.2 k ws ns at_ (kids++[r.1]) b xs/\Dom r.2/\s.at_<r.2.at_->Q .normal (ZE x 0 (Zca B) a) w')
  (hB:Nat.blt (B+4) a.tmps.size=true:=by kernel_rfl) (n_sp:some sp ∉ Zca B:=by decide) (n_sb:some sb ∉ Zca B:=by decide) (hon:Zbc (Zca B)=true:=by kernel_rfl) (h_sp:a.eval (.tmp sp)=pV px:=by rfl) (h_sb:a.eval (.tmp sb)=pV bx:=by rfl) :
  (Code.region id (Zmo F B sp sb p) true).wp Tryd.prog Q a w:=by
 rw [Nat.blt_eq] at hB
 refine Zav 4 [2,3] (Zca B) (fun i v=>match i with | 0=>v=brV b | 1=>v=pV bp | _=>True) (fun q v w1=>match q with | 0=>Way w0 wS w1 bp c ad L s k ws ns at_ kids b xs | 1=>∃ g,WayK w0 wS w1 bp c ad L r.2 k ws ns at_ kids b xs [r.1] [g]/\v 0=brV g/\Dom r.2/\s.at_<r.2.at_ | _=>∃ w2 g,WayK w0 wS w2 bp c ad L r.2 k ws ns at_ kids b xs [r.1] [g]/\w1=(w2.alloc (.cells #[brV g] 39))/\v 1=.slice (some ⟨w2.heap.size,0,none⟩) 1 1/\Dom r.2/\s.at_<r.2.at_) (fun x w'=>Way w0 wS w' bp c ad L r.2 k ws ns at_ (kids++[r.1]) b xs/\Dom r.2/\s.at_<r.2.at_) rfl (by kernel_rfl) (by kernel_rfl) (by kernel_rfl) (by kernel_rfl) (by decide) (by decide) rfl hon hG.drew ?_ ?_ ?_ ?_ ?_
 ·intro q v v' w1 hv hW
  match q,hW with
  | 0,hW=>exact hW
  | 1,hW=>
   have e0:=hv 0 (by omega)
   simpa only [<- e0] using hW
  | q+2,hW=>
   have e1:=hv 1 (by omega)
   simpa only [<- e1] using hW
 ·intro i o hi him ho x ph w1 hp hW hd hq K' hK
  have hS:w1.cell? ⟨bx,0,none⟩=some (brV b)/\w1.cell? ⟨px,0,none⟩=some (pV bp):=by
   have hc2:ph=0\/ph=1\/ph=2:=by dsimp only [List.length] at hp;omega
   rcases hc2 with rfl | rfl | rfl
   ·exact ⟨hW.cell hbx,hW.cell hpx⟩
   ·obtain ⟨g,h1,_⟩:=hW
    exact ⟨h1.way.cell hbx,h1.way.cell hpx⟩
   ·obtain ⟨w2,g,h1,rfl,_⟩:=hW
    have h2:=h1.way.grown (below_alloc1 w2 (.cells #[brV g] 39))
    exact ⟨h2.cell hbx,h2.cell hpx⟩
  obtain ⟨q1,q2⟩:=hS
  clear hW hq hp
  have hc:i=0\/i=1\/i=2\/i=3:=by omega
  clear hi
  rcases hc with rfl | rfl | rfl | rfl
  ·obtain rfl:Zic B sb p=o:=Option.some.inj ho
   dsimp only [Zic] at hK hd ⊢
   have y_sb:=(ZM (x:=x) (Zca B) 0 a n_sb).trans h_sb
   refine Zi rfl (v:=brV b) (w2:=w1) ?_ (hK.out (brV b) rfl)
   simp only [execOp,y_sb]
   go_simp
  ·obtain rfl:Zid B sp p=o:=Option.some.inj ho
   dsimp only [Zid] at hK hd ⊢
   have y_sp:=(ZM (x:=x) (Zca B) 0 a n_sp).trans h_sp
   refine Zi rfl (v:=pV bp) (w2:=w1) ?_ (hK.out (pV bp) rfl)
   simp only [execOp,y_sp]
   go_simp
  ·exact absurd (by decide) him
  ·exact absurd (by decide) him
 ·intro q m o hq ho x w1 hW hd K' hK
  have hc:q=0\/q=1:=by have:=(List.getElem?_eq_some_iff.1 hq).1;dsimp only [List.length] at this;omega
  rcases hc with rfl | rfl
  ·obtain rfl:2=m:=Option.some.inj hq
   obtain rfl:Zie F B p=o:=Option.some.inj ho
   dsimp only [Zie] at hK hd ⊢
   have hF0:=hW.F
   have y_1:=(Ze (x:=x) (Zca B) 0 1 a hon rfl (show (B+1)<a.tmps.size by omega)).trans ((congrArg x (Nat.zero_add 1)).trans (show x 1=pV bp from hd (Zf 1) (by simp) rfl (by decide)))
   refine Zba rfl (ZaP y_1) (hF _ _) ((hC w1 hW.P).mono ?_)
   rintro e w2 ⟨hf,hok,hbd⟩
   by_cases z:r.2.err=0
   ·obtain ⟨g,rfl,hP,hD,hat,hT⟩:=hok z
    exact hK.out _ _ ⟨g,(WayK.of hW).got hP hf hT,rfl,hD,hat⟩
   ·obtain rfl:=hbd z
    exact hbad z _ _ (Zap _ _ _) (hF0.trans hf)
  ·obtain rfl:3=m:=Option.some.inj hq
   obtain rfl:Zif B p=o:=Option.some.inj ho
   dsimp only [Zif] at hK hd ⊢
   obtain ⟨g,hW,hv0,hD,hat⟩:=hW
   have y_2:=(Ze (x:=x) (Zca B) 0 2 a hon rfl (show (B+2)<a.tmps.size by omega)).trans ((congrArg x (Nat.zero_add 2)).trans (show x 2=brV g from hv0))
   refine Zi rfl (v:=.slice (some ⟨w1.heap.size,0,none⟩) 1 1) (w2:=w1.alloc (.cells #[brV g] 39)) ?_ (hK.out _ _ ⟨w1,g,hW,rfl,rfl,hD,hat⟩)
   simp only [execOp,List.map_toArray,List.map_cons,List.map_nil,y_2]
   go_simp
 ·intro o ho x w1 hW hd K' hK
  obtain rfl:Zig B p=o:=Option.some.inj ho
  dsimp only [Zig] at hK ⊢
  obtain ⟨w2,g,hW,rfl,hv1,hD,hat⟩:=hW
  have y_0:=(Ze (x:=x) (Zca B) 0 0 a hon rfl (show B<a.tmps.size by omega)).trans ((congrArg x (Nat.zero_add 0)).trans (show x 0=brV b from hd 0 (by decide) (by decide)))
  have y_3:=(Ze (x:=x) (Zca B) 0 3 a hon rfl (show (B+3)<a.tmps.size by omega)).trans ((congrArg x (Nat.zero_add 3)).trans (show x 3=.slice (some ⟨w2.heap.size,0,none⟩) 1 1 from hv1))
  refine Zba rfl (ZeA y_0 y_3) (ZhT _ _) ((hW.add hn (m:=1) rfl (by decide)).mono ?_)
  rintro e w3 ⟨rfl,hW3⟩
  exact hK.out _ _ ⟨hW3,hD,hat⟩
 ·exact fun x w1 hE=>h x w1 hE
def Zit (B:Nat) (sp:Nat) (p:String):Oper:=⟨some B,.load 63 (.tmp sp),63,p,#[],none⟩
def Ziu (B:Nat) (p:String):Oper:=⟨some (B+1),.nilCheck (.tmp B),0,p,#[Zf 0],none⟩
def Ziv (B:Nat) (p:String):Oper:=⟨some (B+2),.fieldAddr 54 (.tmp (B+1)) 0,0,p,#[Zf 1],none⟩
def Ziw (B:Nat) (si:Nat) (p:String):Oper:=⟨some (B+3),.move (.tmp si),3,p,#[],none⟩
def Zix (B:Nat) (p:String):Oper:=⟨some (B+4),.indexAddr 83 (.global 2) (.tmp (B+3)),0,p,#[Zf 3],none⟩
def Ziy (B:Nat) (p:String):Oper:=⟨some (B+5),.load 9 (.tmp (B+4)),9,p,#[Zf 4],none⟩
def Ziz (B:Nat) (p:String):Oper:=⟨some (B+6),.call ⟨.value (.func 21),#[.tmp (B+2),.tmp (B+5)],#[52,9]⟩,4,p,#[Zf 2,Zf 5],none⟩
def ZiA (B:Nat) (p:String):Oper:=⟨some (B+7),.unOp .not 4 (.tmp (B+6)),4,p,#[Zf 6],none⟩
def Zmv (B:Nat) (si:Nat) (sp:Nat) (p:String):Array Oper:=#[Zit B sp p,Ziu B p,Ziv B p,Ziw B si p,Zix B p,Ziy B p,Ziz B p,ZiA B p]
def Zbz (B:Nat):List (Option Nat):=[some B,some (B+1),some (B+2),some (B+3),some (B+4),some (B+5),some (B+6),some (B+7)]
theorem Zk2 (B si sp:Nat) {p:String} {id:Nat} {Q:Exit->Act->World->Prop} {a:Act} {w0 wS w:World} {bp c:Nat} {ad:Addr} {L:List Tok} {s:PS} {k:Int} {ws:List Txt} {ns:List Int} {at_:Int} {kids:List Tr} {b:Nat} {xs:List (Nat×TypeId×Array Value)} (hG:Way w0 wS w bp c ad L s k ws ns at_ kids b xs) {px ii:Nat} {nm:Txt} (hpx:(px,63,#[pV bp])∈xs) (ht:Zaf w0 2 Zbl) (hii:Zbl[ii]? = some nm) (hx:PW nm)
  (h:∀ x w',Way w0 wS w' bp c ad L (Zad L nm s).2 k ws ns at_ kids b xs/\x 7=.bool (!(Zad L nm s).1)->Q .normal (ZE x 0 (Zbz B) a) w')
  (hB:Nat.blt (B+7) a.tmps.size=true:=by kernel_rfl) (n_si:some si ∉ Zbz B:=by decide) (n_sp:some sp ∉ Zbz B:=by decide) (hon:Zbc (Zbz B)=true:=by kernel_rfl) (h_si:a.eval (.tmp si)=.int .i64 ii:=by rfl) (h_sp:a.eval (.tmp sp)=pV px:=by rfl) :
  (Code.region id (Zmv  B si sp p) true).wp Tryd.prog Q a w:=by
 rw [Nat.blt_eq] at hB
 have HT:=zh ht
 clear ht
 have i3:ii<3:=(List.getElem?_eq_some_iff.1 hii).1
 have i0:(0:Int)<=(ii:Int):=by omega
 have i1:(ii:Int)<3:=by omega
 refine Zav 7 [6] (Zbz B) (fun i v=>match i with | 0=>v=pV bp | 1=>v=pV bp | 2=>v=pV bp | 3=>v=(.int .i64 ii) | 4=>v=(.pointer (some ⟨2,ii,none⟩)) | 5=>v=txt nm | _=>True) (fun q v w1=>match q with | 0=>Way w0 wS w1 bp c ad L s k ws ns at_ kids b xs | _=>Way w0 wS w1 bp c ad L (Zad L nm s).2 k ws ns at_ kids b xs/\v 0=.bool (Zad L nm s).1) (fun x w'=>Way w0 wS w' bp c ad L (Zad L nm s).2 k ws ns at_ kids b xs/\x 7=.bool (!(Zad L nm s).1)) rfl (by kernel_rfl) (by kernel_rfl) (by kernel_rfl) (by kernel_rfl) (by decide) (by decide) rfl hon hG.drew ?_ ?_ ?_ ?_ ?_
 ·intro q v v' w1 hv hW
  match q,hW with
  | 0,hW=>exact hW
  | q+1,hW=>
   have e0:=hv 0 (by omega)
   simpa only [<- e0] using hW
 ·intro i o hi him ho x ph w1 hp hW hd hq K' hK
  have hS:w1.cell? ⟨px,0,none⟩=some (pV bp)/\w1.cell? ⟨2,ii,none⟩=some (txt nm):=by
   have hc2:ph=0\/ph=1:=by dsimp only [List.length] at hp;omega
   rcases hc2 with rfl | rfl
   ·exact ⟨hW.cell hpx,ZcE (HT.out.below hW.P.below) hii⟩
   ·exact ⟨hW.1.cell hpx,ZcE (HT.out.below hW.1.P.below) hii⟩
  obtain ⟨q1,q2⟩:=hS
  clear hW hq hp
  have hc:i=0\/i=1\/i=2\/i=3\/i=4\/i=5\/i=6:=by omega
  clear hi
  rcases hc with rfl | rfl | rfl | rfl | rfl | rfl | rfl
  ·obtain rfl:Zit B sp p=o:=Option.some.inj ho
   dsimp only [Zit] at hK hd ⊢
   have y_sp:=(ZM (x:=x) (Zbz B) 0 a n_sp).trans h_sp
   refine Zi rfl (v:=pV bp) (w2:=w1) ?_ (hK.out (pV bp) rfl)
   simp only [execOp,y_sp]
   go_simp
  ·obtain rfl:Ziu B p=o:=Option.some.inj ho
   dsimp only [Ziu] at hK hd ⊢
   have y_0:=(Ze (x:=x) (Zbz B) 0 0 a hon rfl (show B<a.tmps.size by omega)).trans ((congrArg x (Nat.zero_add 0)).trans (show x 0=pV bp from hd (Zf 0) (by simp) rfl (by decide)))
   refine Zi rfl (v:=pV bp) (w2:=w1) ?_ (hK.out (pV bp) rfl)
   simp only [execOp,y_0]
   go_simp
  ·obtain rfl:Ziv B p=o:=Option.some.inj ho
   dsimp only [Ziv] at hK hd ⊢
   have y_1:=(Ze (x:=x) (Zbz B) 0 1 a hon rfl (show (B+1)<a.tmps.size by omega)).trans ((congrArg x (Nat.zero_add 1)).trans (show x 1=pV bp from hd (Zf 1) (by simp) rfl (by decide)))
   refine Zi rfl (v:=pV bp) (w2:=w1) ?_ (hK.out (pV bp) rfl)
   simp only [execOp,y_1]
   go_simp
  ·obtain rfl:Ziw B si p=o:=Option.some.inj ho
   dsimp only [Ziw] at hK hd ⊢
   have y_si:=(ZM (x:=x) (Zbz B) 0 a n_si).trans h_si
   refine Zi rfl (v:=(.int .i64 ii)) (w2:=w1) ?_ (hK.out ((.int .i64 ii)) rfl)
   simp only [execOp,y_si]
   go_simp
  ·obtain rfl:Zix B p=o:=Option.some.inj ho
   dsimp only [Zix] at hK hd ⊢
   have y_3:=(Ze (x:=x) (Zbz B) 0 3 a hon rfl (show (B+3)<a.tmps.size by omega)).trans ((congrArg x (Nat.zero_add 3)).trans (show x 3=(.int .i64 ii) from hd (Zf 3) (by simp) rfl (by decide)))
   refine Zi rfl (v:=(.pointer (some ⟨2,ii,none⟩))) (w2:=w1) ?_ (hK.out ((.pointer (some ⟨2,ii,none⟩))) rfl)
   simp only [execOp,y_3]
   go_simp
  ·obtain rfl:Ziy B p=o:=Option.some.inj ho
   dsimp only [Ziy] at hK hd ⊢
   have y_4:=(Ze (x:=x) (Zbz B) 0 4 a hon rfl (show (B+4)<a.tmps.size by omega)).trans ((congrArg x (Nat.zero_add 4)).trans (show x 4=(.pointer (some ⟨2,ii,none⟩)) from hd (Zf 4) (by simp) rfl (by decide)))
   refine Zi rfl (v:=txt nm) (w2:=w1) ?_ (hK.out (txt nm) rfl)
   simp only [execOp,y_4]
   go_simp
  ·exact absurd (by decide) him
 ·intro q m o hq ho x w1 hW hd K' hK
  have hc:q=0:=by have:=(List.getElem?_eq_some_iff.1 hq).1;dsimp only [List.length] at this;omega
  subst hc
  ·obtain rfl:6=m:=Option.some.inj hq
   obtain rfl:Ziz B p=o:=Option.some.inj ho
   dsimp only [Ziz] at hK hd ⊢
   have y_2:=(Ze (x:=x) (Zbz B) 0 2 a hon rfl (show (B+2)<a.tmps.size by omega)).trans ((congrArg x (Nat.zero_add 2)).trans (show x 2=pV bp from hd (Zf 2) (by simp) rfl (by decide)))
   have y_5:=(Ze (x:=x) (Zbz B) 0 5 a hon rfl (show (B+5)<a.tmps.size by omega)).trans ((congrArg x (Nat.zero_add 5)).trans (show x 5=txt nm from hd (Zf 5) (by simp) rfl (by decide)))
   refine Zba rfl (ZeA y_2 y_5) (ZfS _ _) ((Zg w0 w1 bp c ad L s hW.P nm hx).mono ?_)
   rintro e w2 ⟨rfl,hP,hf⟩
   exact hK.out _ _ ⟨hW.call hP hf,rfl⟩
 ·intro o ho x w1 hW hd K' hK
  obtain rfl:ZiA B p=o:=Option.some.inj ho
  dsimp only [ZiA] at hK ⊢
  obtain ⟨hW,hv0⟩:=hW
  have y_6:=(Ze (x:=x) (Zbz B) 0 6 a hon rfl (show (B+6)<a.tmps.size by omega)).trans ((congrArg x (Nat.zero_add 6)).trans (show x 6=.bool (Zad L nm s).1 from hv0))
  refine Zi rfl (v:=.bool (!(Zad L nm s).1)) (w2:=w1) ?_ (hK.out _ _ ⟨hW,Zda _ _ _⟩)
  simp only [execOp,y_6]
  go_simp
 ·exact fun x w1 hE=>h x w1 hE
def Zj4 (B:Nat) (sb:Nat) (p:String):Oper:=⟨some B,.load 39 (.tmp sb),39,p,#[],none⟩
def Zj5 (B:Nat) (sp:Nat) (p:String):Oper:=⟨some (B+1),.load 63 (.tmp sp),63,p,#[],none⟩
def Zj6 (B:Nat) (p:String):Oper:=⟨some (B+2),.nilCheck (.tmp (B+1)),0,p,#[Zf 1],none⟩
def Zj7 (B:Nat) (p:String):Oper:=⟨some (B+3),.fieldAddr 54 (.tmp (B+2)) 0,0,p,#[Zf 2],none⟩
def Zj8 (F:Nat) (B:Nat) (p:String):Oper:=⟨some (B+4),.call ⟨.value (.func F),#[.tmp (B+3)],#[52]⟩,9,p,#[Zf 3],none⟩
def Zj9 (B:Nat) (sb:Nat) (p:String):Oper:=⟨some (B+5),.load 39 (.tmp sb),39,p,#[],none⟩
def Zka (B:Nat) (p:String):Oper:=⟨some (B+6),.nilCheck (.tmp (B+5)),0,p,#[Zf 5],none⟩
def Zkb (B:Nat) (p:String):Oper:=⟨some (B+7),.fieldAddr 59 (.tmp (B+6)) 0,0,p,#[Zf 6],none⟩
def Zkc (B:Nat) (p:String):Oper:=⟨some (B+8),.fieldAddr 33 (.tmp (B+7)) 1,0,p,#[Zf 7],none⟩
def Zkd (B:Nat) (p:String):Oper:=⟨some (B+9),.load 29 (.tmp (B+8)),29,p,#[Zf 8],none⟩
def Zg0 (B:Nat) (p:String):Oper:=⟨some (B+10),.indexAddr 29 (.tmp (B+9)) (.const (.int .i64 0)),0,p,#[Zf 9],none⟩
def Zg1 (B:Nat) (p:String):Oper:=⟨some (B+11),.load 9 (.tmp (B+10)),9,p,#[Zf 10],none⟩
def Zg2 (B:Nat) (p:String):Oper:=⟨some (B+12),.buildSlice 29 2 #[(0,.tmp (B+4)),(1,.tmp (B+11))],29,p,#[Zf 4,Zf 11],none⟩
def Zg3 (B:Nat) (p:String):Oper:=⟨some (B+13),.nilCheck (.tmp B),0,p,#[Zf 0,Zc 0,Zc 1,Zc 2,Zc 3,Zc 4,Zc 5,Zc 6,Zc 7,Zc 8,Zc 9,Zc 10,Zc 11,Zc 12],none⟩
def Zg4 (B:Nat) (p:String):Oper:=⟨some (B+14),.fieldAddr 59 (.tmp (B+13)) 0,0,p,#[Zf 13,Zc 0,Zc 1,Zc 2,Zc 3,Zc 4,Zc 5,Zc 6,Zc 7,Zc 8,Zc 9,Zc 10,Zc 11,Zc 12],none⟩
def Zg5 (B:Nat) (p:String):Oper:=⟨some (B+15),.fieldAddr 33 (.tmp (B+14)) 1,0,p,#[Zf 14,Zc 0,Zc 1,Zc 2,Zc 3,Zc 4,Zc 5,Zc 6,Zc 7,Zc 8,Zc 9,Zc 10,Zc 11,Zc 12],none⟩
def Zg6 (B:Nat) (p:String):Oper:=⟨none,.store 29 (.tmp (B+15)) (.tmp (B+12)),0,p,#[Zf 15,Zf 12,ZbT 4,Zc 0,Zc 1,Zc 2,Zc 3,Zc 4,Zc 5,Zc 6,Zc 7,Zc 8,Zc 9,Zc 10,Zc 11,Zc 12],none⟩
def ZmK (F:Nat) (B:Nat) (sp:Nat) (sb:Nat) (p:String):Array Oper:=#[Zj4 B sb p,Zj5 B sp p,Zj6 B p,Zj7 B p,Zj8 F B p,Zj9 B sb p,Zka B p,Zkb B p,Zkc B p,Zkd B p,Zg0 B p,Zg1 B p,Zg2 B p,Zg3 B p,Zg4 B p,Zg5 B p,Zg6 B p]
def ZaS (B:Nat):List (Option Nat):=[some B,some (B+1),some (B+2),some (B+3),some (B+4),some (B+5),some (B+6),some (B+7),some (B+8),some (B+9),some (B+10),some (B+11),some (B+12),some (B+13),some (B+14),some (B+15),none]
theorem ZmQ {F:Nat} (hF:ZN F) (B sp sb:Nat) {p:String} {id:Nat} {Q:Exit->Act->World->Prop} {a:Act} {w0 wS w:World} {bp c:Nat} {ad:Addr} {L:List Tok} {s:PS} {k:Int} {ns:List Int} {at_:Int} {kids:List Tr} {b:Nat} {xs:List (Nat×TypeId×Array Value)} {y0:Txt} (hG0:Way w0 wS w bp c ad L s k [y0] ns at_ kids b xs) {px bx:Nat} (hbx:(bx,39,#[brV b])∈xs) (hpx:(px,63,#[pV bp])∈xs) (hC:∀ w1,ParQ w0 w1 bp ad c L s->Calls Tryd.prog F #[pV bp] w1 (Zbv w0 w1 bp c ad L (Za L s) fun x v _=>v=txt x)) (hbad:Zcl wS bp Q a (Za L s).2)
  (h:∀ x w',Way w0 wS w' bp c ad L (Za L s).2 k [(Za L s).1,y0] ns at_ kids b xs->Q .normal (ZE x 0 (ZaS B) a) w')
  (hB:Nat.blt (B+15) a.tmps.size=true:=by kernel_rfl) (n_sp:some sp ∉ ZaS B:=by decide) (n_sb:some sb ∉ ZaS B:=by decide) (hon:Zbc (ZaS B)=true:=by kernel_rfl) (h_sp:a.eval (.tmp sp)=pV px:=by rfl) (h_sb:a.eval (.tmp sb)=pV bx:=by rfl) :
  (Code.region id (ZmK F B sp sb p) true).wp Tryd.prog Q a w:=by
 rw [Nat.blt_eq] at hB
 obtain ⟨vw,hG⟩:=hG0.words
 obtain ⟨g,cn,rfl⟩:=hG.form
 refine Zav 16 [4,12] (ZaS B) (fun i v=>match i with | 0=>v=brV b | 1=>v=pV bp | 2=>v=pV bp | 3=>v=pV bp | 5=>v=brV b | 6=>v=brV b | 7=>v=brV b | 8=>v=(.pointer (some ⟨b,1,none⟩)) | 9=>v=(.slice (some ⟨g,0,none⟩) 1 cn) | 10=>v=(.pointer (some ⟨g,0,none⟩)) | 11=>v=txt y0 | 13=>v=brV b | 14=>v=brV b | 15=>v=(.pointer (some ⟨b,1,none⟩)) | _=>True) (fun q v w1=>match q with | 0=>WayV w0 wS w1 bp c ad L s k [y0] ns at_ kids b xs (.slice (some ⟨g,0,none⟩) 1 cn) | 1=>WayV w0 wS w1 bp c ad L (Za L s).2 k [y0] ns at_ kids b xs (.slice (some ⟨g,0,none⟩) 1 cn)/\v 0=txt (Za L s).1 | _=>∃ w2,WayV w0 wS w2 bp c ad L (Za L s).2 k [y0] ns at_ kids b xs (.slice (some ⟨g,0,none⟩) 1 cn)/\w1=(w2.alloc (.cells #[txt (Za L s).1,txt y0] 9))/\v 1=.slice (some ⟨w2.heap.size,0,none⟩) 2 2) (fun x w'=>Way w0 wS w' bp c ad L (Za L s).2 k [(Za L s).1,y0] ns at_ kids b xs) rfl (by kernel_rfl) (by kernel_rfl) (by kernel_rfl) (by kernel_rfl) (by decide) (by decide) rfl hon (hG.grown (Below.refl _ _).drew) ?_ ?_ ?_ ?_ ?_
 ·intro q v v' w1 hv hW
  match q,hW with
  | 0,hW=>exact hW
  | 1,hW=>
   have e0:=hv 0 (by omega)
   simpa only [<- e0] using hW
  | q+2,hW=>
   have e1:=hv 1 (by omega)
   simpa only [<- e1] using hW
 ·intro i o hi him ho x ph w1 hp hW hd hq K' hK
  have hS:w1.cell? ⟨bx,0,none⟩=some (brV b)/\w1.cell? ⟨px,0,none⟩=some (pV bp)/\w1.cell? ⟨b,1,none⟩=some (.slice (some ⟨g,0,none⟩) 1 cn)/\w1.cell? ⟨g,0,none⟩=some (txt y0):=by
   have hc2:ph=0\/ph=1\/ph=2:=by dsimp only [List.length] at hp;omega
   rcases hc2 with rfl | rfl | rfl
   ·exact ⟨hW.way.cell hbx,hW.way.cell hpx,hW.cell,hW.at0⟩
   ·exact ⟨hW.1.way.cell hbx,hW.1.way.cell hpx,hW.1.cell,hW.1.at0⟩
   ·obtain ⟨w2,h1,rfl,_⟩:=hW
    have h2:=h1.grown (below_alloc1 w2 (.cells #[txt (Za L s).1,txt y0] 9))
    exact ⟨h2.way.cell hbx,h2.way.cell hpx,h2.cell,h2.at0⟩
  obtain ⟨q1,q2,q3,q4⟩:=hS
  clear hW hq hp
  have hc:i=0\/i=1\/i=2\/i=3\/i=4\/i=5\/i=6\/i=7\/i=8\/i=9\/i=10\/i=11\/i=12\/i=13\/i=14\/i=15:=by omega
  clear hi
  rcases hc with rfl | rfl | rfl | rfl | rfl | rfl | rfl | rfl | rfl | rfl | rfl | rfl | rfl | rfl | rfl | rfl
  ·obtain rfl:Zj4 B sb p=o:=Option.some.inj ho
   dsimp only [Zj4] at hK hd ⊢
   have y_sb:=(ZM (x:=x) (ZaS B) 0 a n_sb).trans h_sb
   refine Zi rfl (v:=brV b) (w2:=w1) ?_ (hK.out (brV b) rfl)
   simp only [execOp,y_sb]
   go_simp
  ·obtain rfl:Zj5 B sp p=o:=Option.some.inj ho
   dsimp only [Zj5] at hK hd ⊢
   have y_sp:=(ZM (x:=x) (ZaS B) 0 a n_sp).trans h_sp
   refine Zi rfl (v:=pV bp) (w2:=w1) ?_ (hK.out (pV bp) rfl)
   simp only [execOp,y_sp]
   go_simp
  ·obtain rfl:Zj6 B p=o:=Option.some.inj ho
   dsimp only [Zj6] at hK hd ⊢
   have y_1:=(Ze (x:=x) (ZaS B) 0 1 a hon rfl (show (B+1)<a.tmps.size by omega)).trans ((congrArg x (Nat.zero_add 1)).trans (show x 1=pV bp from hd (Zf 1) (by simp) rfl (by decide)))
   refine Zi rfl (v:=pV bp) (w2:=w1) ?_ (hK.out (pV bp) rfl)
   simp only [execOp,y_1]
   go_simp
  ·obtain rfl:Zj7 B p=o:=Option.some.inj ho
   dsimp only [Zj7] at hK hd ⊢
   have y_2:=(Ze (x:=x) (ZaS B) 0 2 a hon rfl (show (B+2)<a.tmps.size by omega)).trans ((congrArg x (Nat.zero_add 2)).trans (show x 2=pV bp from hd (Zf 2) (by simp) rfl (by decide)))
   refine Zi rfl (v:=pV bp) (w2:=w1) ?_ (hK.out (pV bp) rfl)
   simp only [execOp,y_2]
   go_simp
  ·exact absurd (by decide) him
  ·obtain rfl:Zj9 B sb p=o:=Option.some.inj ho
   dsimp only [Zj9] at hK hd ⊢
   have y_sb:=(ZM (x:=x) (ZaS B) 0 a n_sb).trans h_sb
   refine Zi rfl (v:=brV b) (w2:=w1) ?_ (hK.out (brV b) rfl)
   simp only [execOp,y_sb]
   go_simp
  ·obtain rfl:Zka B p=o:=Option.some.inj ho
   dsimp only [Zka] at hK hd ⊢
   have y_5:=(Ze (x:=x) (ZaS B) 0 5 a hon rfl (show (B+5)<a.tmps.size by omega)).trans ((congrArg x (Nat.zero_add 5)).trans (show x 5=brV b from hd (Zf 5) (by simp) rfl (by decide)))
   refine Zi rfl (v:=brV b) (w2:=w1) ?_ (hK.out (brV b) rfl)
   simp only [execOp,y_5]
   go_simp
  ·obtain rfl:Zkb B p=o:=Option.some.inj ho
   dsimp only [Zkb] at hK hd ⊢
   have y_6:=(Ze (x:=x) (ZaS B) 0 6 a hon rfl (show (B+6)<a.tmps.size by omega)).trans ((congrArg x (Nat.zero_add 6)).trans (show x 6=brV b from hd (Zf 6) (by simp) rfl (by decide)))
   refine Zi rfl (v:=brV b) (w2:=w1) ?_ (hK.out (brV b) rfl)
   simp only [execOp,y_6]
   go_simp
  ·obtain rfl:Zkc B p=o:=Option.some.inj ho
   dsimp only [Zkc] at hK hd ⊢
   have y_7:=(Ze (x:=x) (ZaS B) 0 7 a hon rfl (show (B+7)<a.tmps.size by omega)).trans ((congrArg x (Nat.zero_add 7)).trans (show x 7=brV b from hd (Zf 7) (by simp) rfl (by decide)))
   refine Zi rfl (v:=(.pointer (some ⟨b,1,none⟩))) (w2:=w1) ?_ (hK.out ((.pointer (some ⟨b,1,none⟩))) rfl)
   simp only [execOp,y_7]
   go_simp
  ·obtain rfl:Zkd B p=o:=Option.some.inj ho
   dsimp only [Zkd] at hK hd ⊢
   have y_8:=(Ze (x:=x) (ZaS B) 0 8 a hon rfl (show (B+8)<a.tmps.size by omega)).trans ((congrArg x (Nat.zero_add 8)).trans (show x 8=(.pointer (some ⟨b,1,none⟩)) from hd (Zf 8) (by simp) rfl (by decide)))
   refine Zi rfl (v:=(.slice (some ⟨g,0,none⟩) 1 cn)) (w2:=w1) ?_ (hK.out ((.slice (some ⟨g,0,none⟩) 1 cn)) rfl)
   simp only [execOp,y_8]
   go_simp
  ·obtain rfl:Zg0 B p=o:=Option.some.inj ho
   dsimp only [Zg0] at hK hd ⊢
   have y_9:=(Ze (x:=x) (ZaS B) 0 9 a hon rfl (show (B+9)<a.tmps.size by omega)).trans ((congrArg x (Nat.zero_add 9)).trans (show x 9=(.slice (some ⟨g,0,none⟩) 1 cn) from hd (Zf 9) (by simp) rfl (by decide)))
   refine Zi rfl (v:=(.pointer (some ⟨g,0,none⟩))) (w2:=w1) ?_ (hK.out ((.pointer (some ⟨g,0,none⟩))) rfl)
   simp only [execOp,y_9]
   go_simp
  ·obtain rfl:Zg1 B p=o:=Option.some.inj ho
   dsimp only [Zg1] at hK hd ⊢
   have y_10:=(Ze (x:=x) (ZaS B) 0 10 a hon rfl (show (B+10)<a.tmps.size by omega)).trans ((congrArg x (Nat.zero_add 10)).trans (show x 10=(.pointer (some ⟨g,0,none⟩)) from hd (Zf 10) (by simp) rfl (by decide)))
   refine Zi rfl (v:=txt y0) (w2:=w1) ?_ (hK.out (txt y0) rfl)
   simp only [execOp,y_10]
   go_simp
  ·exact absurd (by decide) him
  ·obtain rfl:Zg3 B p=o:=Option.some.inj ho
   dsimp only [Zg3] at hK hd ⊢
   have y_0:=(Ze (x:=x) (ZaS B) 0 0 a hon rfl (show B<a.tmps.size by omega)).trans ((congrArg x (Nat.zero_add 0)).trans (show x 0=brV b from hd (Zf 0) (by simp) rfl (by decide)))
   refine Zi rfl (v:=brV b) (w2:=w1) ?_ (hK.out (brV b) rfl)
   simp only [execOp,y_0]
   go_simp
  ·obtain rfl:Zg4 B p=o:=Option.some.inj ho
   dsimp only [Zg4] at hK hd ⊢
   have y_13:=(Ze (x:=x) (ZaS B) 0 13 a hon rfl (show (B+13)<a.tmps.size by omega)).trans ((congrArg x (Nat.zero_add 13)).trans (show x 13=brV b from hd (Zf 13) (by simp) rfl (by decide)))
   refine Zi rfl (v:=brV b) (w2:=w1) ?_ (hK.out (brV b) rfl)
   simp only [execOp,y_13]
   go_simp
  ·obtain rfl:Zg5 B p=o:=Option.some.inj ho
   dsimp only [Zg5] at hK hd ⊢
   have y_14:=(Ze (x:=x) (ZaS B) 0 14 a hon rfl (show (B+14)<a.tmps.size by omega)).trans ((congrArg x (Nat.zero_add 14)).trans (show x 14=brV b from hd (Zf 14) (by simp) rfl (by decide)))
   refine Zi rfl (v:=(.pointer (some ⟨b,1,none⟩))) (w2:=w1) ?_ (hK.out ((.pointer (some ⟨b,1,none⟩))) rfl)
   simp only [execOp,y_14]
   go_simp
 ·intro q m o hq ho x w1 hW hd K' hK
  have hc:q=0\/q=1:=by have:=(List.getElem?_eq_some_iff.1 hq).1;dsimp only [List.length] at this;omega
  rcases hc with rfl | rfl
  ·obtain rfl:4=m:=Option.some.inj hq
   obtain rfl:Zj8 F B p=o:=Option.some.inj ho
   dsimp only [Zj8] at hK hd ⊢
   have hF0:=hW.F
   have y_3:=(Ze (x:=x) (ZaS B) 0 3 a hon rfl (show (B+3)<a.tmps.size by omega)).trans ((congrArg x (Nat.zero_add 3)).trans (show x 3=pV bp from hd (Zf 3) (by simp) rfl (by decide)))
   refine Zba rfl (ZaP y_3) (hF _ _) ((hC w1 hW.P).mono ?_)
   rintro e w2 ⟨hf,hok,hbd⟩
   by_cases z:(Za L s).2.err=0
   ·obtain ⟨v,rfl,hP,rfl⟩:=hok z
    exact hK.out _ _ ⟨hW.call hP hf,rfl⟩
   ·obtain rfl:=hbd z
    exact hbad z _ _ (Zap _ _ _) (hF0.trans hf)
  ·obtain rfl:12=m:=Option.some.inj hq
   obtain rfl:Zg2 B p=o:=Option.some.inj ho
   dsimp only [Zg2] at hK hd ⊢
   obtain ⟨hW,hv0⟩:=hW
   have y_4:=(Ze (x:=x) (ZaS B) 0 4 a hon rfl (show (B+4)<a.tmps.size by omega)).trans ((congrArg x (Nat.zero_add 4)).trans (show x 4=txt (Za L s).1 from hv0))
   have y_11:=(Ze (x:=x) (ZaS B) 0 11 a hon rfl (show (B+11)<a.tmps.size by omega)).trans ((congrArg x (Nat.zero_add 11)).trans (show x 11=txt y0 from hd (Zf 11) (by simp) rfl (by decide)))
   refine Zi rfl (v:=.slice (some ⟨w1.heap.size,0,none⟩) 2 2) (w2:=w1.alloc (.cells #[txt (Za L s).1,txt y0] 9)) ?_ (hK.out _ _ ⟨w1,hW,rfl,rfl⟩)
   simp only [execOp,List.map_toArray,List.map_cons,List.map_nil,y_4,y_11]
   go_simp
 ·intro o ho x w1 hW hd K' hK
  obtain rfl:Zg6 B p=o:=Option.some.inj ho
  dsimp only [Zg6] at hK ⊢
  obtain ⟨w2,hW1,rfl,hv1⟩:=hW
  have y_15:=(Ze (x:=x) (ZaS B) 0 15 a hon rfl (show (B+15)<a.tmps.size by omega)).trans ((congrArg x (Nat.zero_add 15)).trans (show x 15=(.pointer (some ⟨b,1,none⟩)) from hd 15 (by decide) (by decide)))
  have y_12:=(Ze (x:=x) (ZaS B) 0 12 a hon rfl (show (B+12)<a.tmps.size by omega)).trans ((congrArg x (Nat.zero_add 12)).trans (show x 12=.slice (some ⟨w2.heap.size,0,none⟩) 2 2 from hv1))
  have W2:=hW1.grown (below_alloc1 w2 (.cells #[txt (Za L s).1,txt y0] 9))
  have q0:=W2.way.free 1
  have q1:=W2.cell
  have HW:=zh hW1
  clear W2 hW1
  refine ZbE rfl (w2:=((w2.alloc (.cells #[txt (Za L s).1,txt y0] 9))).setCell ⟨b,1,none⟩ (.slice (some ⟨w2.heap.size,0,none⟩) 2 2)) ?_ (hK.out _ _ (HW.out.way.words2 (Za L s).1 y0))
  simp only [execOp,y_15,y_12]
  go_simp
 ·exact fun x w1 hE=>h x w1 hE
def Zh0 (B:Nat) (sb:Nat) (p:String):Oper:=⟨some (B+1),.move (.tmp sb),39,p,#[],none⟩
def Zh1 (B:Nat) (p:String):Oper:=⟨some (B+2),.nilCheck (.tmp (B+1)),0,p,#[Zf 0],none⟩
def Zh2 (B:Nat) (p:String):Oper:=⟨some (B+3),.fieldAddr 59 (.tmp (B+2)) 0,0,p,#[Zf 1],none⟩
def Zh3 (B:Nat) (p:String):Oper:=⟨some (B+4),.fieldAddr 33 (.tmp (B+3)) 2,0,p,#[Zf 2],none⟩
def Zh4 (B:Nat) (p:String):Oper:=⟨some (B+5),.load 30 (.tmp (B+4)),30,p,#[Zf 3],none⟩
def Zh5 (B:Nat) (sb:Nat) (p:String):Oper:=⟨some (B+6),.move (.tmp sb),39,p,#[],none⟩
def Zh6 (B:Nat) (p:String):Oper:=⟨some (B+7),.nilCheck (.tmp (B+6)),0,p,#[Zf 5],none⟩
def Zh7 (B:Nat) (p:String):Oper:=⟨some (B+8),.fieldAddr 59 (.tmp (B+7)) 0,0,p,#[Zf 6],none⟩
def Zh8 (B:Nat) (p:String):Oper:=⟨some (B+9),.fieldAddr 33 (.tmp (B+8)) 2,0,p,#[Zf 7],none⟩
def Zh9 (B:Nat) (p:String):Oper:=⟨some (B+10),.load 30 (.tmp (B+9)),30,p,#[Zf 8],none⟩
def ZfU (B:Nat) (sp:Nat) (p:String):Oper:=⟨some (B+11),.move (.tmp sp),63,p,#[],none⟩
def ZfV (F:Nat) (B:Nat) (p:String):Oper:=⟨some (B+12),.call ⟨.value (.func F),#[.tmp (B+11)],#[63]⟩,81,p,#[Zf 10],none⟩
def ZeC (B:Nat) (p:String):Oper:=⟨some B,.move (.tmp (B+12)),81,p,#[Zf 11],none⟩
def ZfW (B:Nat) (p:String):Oper:=⟨some (B+13),.extract (.tmp B) 0,2,p,#[Zf 12],none⟩
def ZfX (B:Nat) (p:String):Oper:=⟨some (B+14),.extract (.tmp B) 1,2,p,#[Zf 12,⟨16,.gcOnly .lateStores⟩],none⟩
def ZfY (B:Nat) (p:String):Oper:=⟨some (B+15),.indexAddr 30 (.tmp (B+5)) (.const (.int .i64 1)),0,p,#[Zf 4,Zc 0,Zc 1,Zc 2,Zc 3,Zc 4,⟨5,.textOnly .lateStores⟩,⟨6,.textOnly .lateStoresUnsure⟩,⟨7,.textOnly .lateStoresUnsure⟩,⟨8,.textOnly .lateStoresUnsure⟩,Zc 9,Zc 10,Zc 11,Zc 12,Zc 13,⟨14,.textOnly .lateStores⟩],none⟩
def ZfZ (B:Nat) (p:String):Oper:=⟨none,.store 2 (.tmp (B+15)) (.tmp (B+13)),0,p,#[Zf 15,Zf 13,ZbT 11,Zc 0,Zc 1,Zc 2,Zc 3,Zc 4,⟨5,.textOnly .lateStores⟩,⟨6,.textOnly .lateStoresUnsure⟩,⟨7,.textOnly .lateStoresUnsure⟩,⟨8,.textOnly .lateStoresUnsure⟩,Zc 9,Zc 10,Zc 11,Zc 12,Zc 13,⟨14,.textOnly .lateStores⟩],none⟩
def Zf0 (B:Nat) (p:String):Oper:=⟨some (B+16),.indexAddr 30 (.tmp (B+10)) (.const (.int .i64 2)),0,p,#[Zf 9,Zc 0,Zc 1,Zc 2,Zc 3,Zc 4,Zc 5,Zc 6,Zc 7,Zc 8,Zc 9,Zc 10,Zc 11,Zc 12,Zc 13,Zc 14,Zc 15,Zc 16],none⟩
def Zf1 (B:Nat) (p:String):Oper:=⟨none,.store 2 (.tmp (B+16)) (.tmp (B+14)),0,p,#[Zf 17,Zf 14,ZbT 16,Zc 0,Zc 1,Zc 2,Zc 3,Zc 4,Zc 5,Zc 6,Zc 7,Zc 8,Zc 9,Zc 10,Zc 11,Zc 12,Zc 13,Zc 14,Zc 15,Zc 16],none⟩
def Zmm (F:Nat) (B:Nat) (sp:Nat) (sb:Nat) (p:String):Array Oper:=#[Zh0 B sb p,Zh1 B p,Zh2 B p,Zh3 B p,Zh4 B p,Zh5 B sb p,Zh6 B p,Zh7 B p,Zh8 B p,Zh9 B p,ZfU B sp p,ZfV F B p,ZeC B p,ZfW B p,ZfX B p,ZfY B p,ZfZ B p,Zf0 B p,Zf1 B p]
def Zaz (B:Nat):List (Option Nat):=[some (B+1),some (B+2),some (B+3),some (B+4),some (B+5),some (B+6),some (B+7),some (B+8),some (B+9),some (B+10),some (B+11),some (B+12),some B,some (B+13),some (B+14),some (B+15),none,some (B+16),none]
theorem Zk1 {F:Nat} (hF:ZN F) (B sp sb:Nat) {p:String} {id:Nat} {Q:Exit->Act->World->Prop} {a:Act} {w0 wS w:World} {bp c:Nat} {ad:Addr} {L:List Tok} {s:PS} {k:Int} {ws:List Txt} {at_:Int} {b:Nat} {xs:List (Nat×TypeId×Array Value)} {k0:Int} {r:(Int×Int)×PS} (hG0:Way w0 wS w bp c ad L s k ws [k0,0,0] at_ [] b xs) (hC:∀ w1,ParQ w0 w1 bp ad c L s->Calls Tryd.prog F #[pV bp] w1 (Zbv w0 w1 bp c ad L r fun x v _=>v=.tuple #[.int .i64 x.1,.int .i64 x.2])) (hbad:Zcl wS bp Q a r.2)
  (h:∀ x w',Way w0 wS w' bp c ad L r.2 k ws [k0,r.1.1,r.1.2] at_ [] b xs->Q .normal (ZE x 0 (Zaz B) a) w')
  (hB:Nat.blt (B+16) a.tmps.size=true:=by kernel_rfl) (n_sp:some sp ∉ Zaz B:=by decide) (n_sb:some sb ∉ Zaz B:=by decide) (hon:Zbc (Zaz B)=true:=by kernel_rfl) (h_sp:a.eval (.tmp sp)=pV bp:=by rfl) (h_sb:a.eval (.tmp sb)=brV b:=by rfl) :
  (Code.region id (Zmm F B sp sb p) true).wp Tryd.prog Q a w:=by
 rw [Nat.blt_eq] at hB
 obtain ⟨g,cn,hG⟩:=hG0.nums
 refine Zav 18 [11,16] (Zaz B) (fun i v=>match i with | 0=>v=brV b | 1=>v=brV b | 2=>v=brV b | 3=>v=(.pointer (some ⟨b,2,none⟩)) | 4=>v=(.slice (some ⟨g,0,none⟩) 3 cn) | 5=>v=brV b | 6=>v=brV b | 7=>v=brV b | 8=>v=(.pointer (some ⟨b,2,none⟩)) | 9=>v=(.slice (some ⟨g,0,none⟩) 3 cn) | 10=>v=pV bp | 12=>v=(.tuple #[.int .i64 r.1.1,.int .i64 r.1.2]) | 13=>v=(.int .i64 r.1.1) | 14=>v=(.int .i64 r.1.2) | 15=>v=(.pointer (some ⟨g,1,none⟩)) | 17=>v=(.pointer (some ⟨g,2,none⟩)) | _=>True) (fun q v w1=>match q with | 0=>WayN w0 wS w1 bp c ad L s k ws [k0,0,0] at_ b xs g cn | 1=>WayN w0 wS w1 bp c ad L r.2 k ws [k0,0,0] at_ b xs g cn/\v 0=.tuple #[.int .i64 r.1.1,.int .i64 r.1.2] | _=>WayN w0 wS w1 bp c ad L r.2 k ws [k0,r.1.1,0] at_ b xs g cn/\v 0=.tuple #[.int .i64 r.1.1,.int .i64 r.1.2]) (fun x w'=>Way w0 wS w' bp c ad L r.2 k ws [k0,r.1.1,r.1.2] at_ [] b xs) rfl (by kernel_rfl) (by kernel_rfl) (by kernel_rfl) (by kernel_rfl) (by decide) (by decide) rfl hon hG.drew ?_ ?_ ?_ ?_ ?_
 ·intro q v v' w1 hv hW
  match q,hW with
  | 0,hW=>exact hW
  | 1,hW=>
   have e0:=hv 0 (by omega)
   simpa only [<- e0] using hW
  | q+2,hW=>
   have e0:=hv 0 (by omega)
   simpa only [<- e0] using hW
 ·intro i o hi him ho x ph w1 hp hW hd hq K' hK
  have hS:w1.cell? ⟨b,2,none⟩=some (.slice (some ⟨g,0,none⟩) 3 cn)/\(0<ph->x 11=.tuple #[.int .i64 r.1.1,.int .i64 r.1.2]):=by
   have hc2:ph=0\/ph=1\/ph=2:=by dsimp only [List.length] at hp;omega
   rcases hc2 with rfl | rfl | rfl
   ·exact ⟨hW.cell,fun h=>absurd h (Nat.lt_irrefl _)⟩
   ·exact ⟨hW.1.cell,fun _=>hW.2⟩
   ·exact ⟨hW.1.cell,fun _=>hW.2⟩
  obtain ⟨q1,q2⟩:=hS
  have HQ:=zh hq
  clear hW hq hp
  have hc:i=0\/i=1\/i=2\/i=3\/i=4\/i=5\/i=6\/i=7\/i=8\/i=9\/i=10\/i=11\/i=12\/i=13\/i=14\/i=15\/i=16\/i=17:=by omega
  clear hi
  rcases hc with rfl | rfl | rfl | rfl | rfl | rfl | rfl | rfl | rfl | rfl | rfl | rfl | rfl | rfl | rfl | rfl | rfl | rfl
  ·obtain rfl:Zh0 B sb p=o:=Option.some.inj ho
   dsimp only [Zh0] at hK hd ⊢
   have y_sb:=(ZM (x:=x) (Zaz B) 0 a n_sb).trans h_sb
   refine Zi rfl (v:=brV b) (w2:=w1) ?_ (hK.out (brV b) rfl)
   simp only [execOp,y_sb]
   go_simp
  ·obtain rfl:Zh1 B p=o:=Option.some.inj ho
   dsimp only [Zh1] at hK hd ⊢
   have y_0:=(Ze (x:=x) (Zaz B) 0 0 a hon rfl (show (B+1)<a.tmps.size by omega)).trans ((congrArg x (Nat.zero_add 0)).trans (show x 0=brV b from hd (Zf 0) (by simp) rfl (by decide)))
   refine Zi rfl (v:=brV b) (w2:=w1) ?_ (hK.out (brV b) rfl)
   simp only [execOp,y_0]
   go_simp
  ·obtain rfl:Zh2 B p=o:=Option.some.inj ho
   dsimp only [Zh2] at hK hd ⊢
   have y_1:=(Ze (x:=x) (Zaz B) 0 1 a hon rfl (show (B+2)<a.tmps.size by omega)).trans ((congrArg x (Nat.zero_add 1)).trans (show x 1=brV b from hd (Zf 1) (by simp) rfl (by decide)))
   refine Zi rfl (v:=brV b) (w2:=w1) ?_ (hK.out (brV b) rfl)
   simp only [execOp,y_1]
   go_simp
  ·obtain rfl:Zh3 B p=o:=Option.some.inj ho
   dsimp only [Zh3] at hK hd ⊢
   have y_2:=(Ze (x:=x) (Zaz B) 0 2 a hon rfl (show (B+3)<a.tmps.size by omega)).trans ((congrArg x (Nat.zero_add 2)).trans (show x 2=brV b from hd (Zf 2) (by simp) rfl (by decide)))
   refine Zi rfl (v:=(.pointer (some ⟨b,2,none⟩))) (w2:=w1) ?_ (hK.out ((.pointer (some ⟨b,2,none⟩))) rfl)
   simp only [execOp,y_2]
   go_simp
  ·obtain rfl:Zh4 B p=o:=Option.some.inj ho
   dsimp only [Zh4] at hK hd ⊢
   have y_3:=(Ze (x:=x) (Zaz B) 0 3 a hon rfl (show (B+4)<a.tmps.size by omega)).trans ((congrArg x (Nat.zero_add 3)).trans (show x 3=(.pointer (some ⟨b,2,none⟩)) from hd (Zf 3) (by simp) rfl (by decide)))
   refine Zi rfl (v:=(.slice (some ⟨g,0,none⟩) 3 cn)) (w2:=w1) ?_ (hK.out ((.slice (some ⟨g,0,none⟩) 3 cn)) rfl)
   simp only [execOp,y_3]
   go_simp
  ·obtain rfl:Zh5 B sb p=o:=Option.some.inj ho
   dsimp only [Zh5] at hK hd ⊢
   have y_sb:=(ZM (x:=x) (Zaz B) 0 a n_sb).trans h_sb
   refine Zi rfl (v:=brV b) (w2:=w1) ?_ (hK.out (brV b) rfl)
   simp only [execOp,y_sb]
   go_simp
  ·obtain rfl:Zh6 B p=o:=Option.some.inj ho
   dsimp only [Zh6] at hK hd ⊢
   have y_5:=(Ze (x:=x) (Zaz B) 0 5 a hon rfl (show (B+6)<a.tmps.size by omega)).trans ((congrArg x (Nat.zero_add 5)).trans (show x 5=brV b from hd (Zf 5) (by simp) rfl (by decide)))
   refine Zi rfl (v:=brV b) (w2:=w1) ?_ (hK.out (brV b) rfl)
   simp only [execOp,y_5]
   go_simp
  ·obtain rfl:Zh7 B p=o:=Option.some.inj ho
   dsimp only [Zh7] at hK hd ⊢
   have y_6:=(Ze (x:=x) (Zaz B) 0 6 a hon rfl (show (B+7)<a.tmps.size by omega)).trans ((congrArg x (Nat.zero_add 6)).trans (show x 6=brV b from hd (Zf 6) (by simp) rfl (by decide)))
   refine Zi rfl (v:=brV b) (w2:=w1) ?_ (hK.out (brV b) rfl)
   simp only [execOp,y_6]
   go_simp
  ·obtain rfl:Zh8 B p=o:=Option.some.inj ho
   dsimp only [Zh8] at hK hd ⊢
   have y_7:=(Ze (x:=x) (Zaz B) 0 7 a hon rfl (show (B+8)<a.tmps.size by omega)).trans ((congrArg x (Nat.zero_add 7)).trans (show x 7=brV b from hd (Zf 7) (by simp) rfl (by decide)))
   refine Zi rfl (v:=(.pointer (some ⟨b,2,none⟩))) (w2:=w1) ?_ (hK.out ((.pointer (some ⟨b,2,none⟩))) rfl)
   simp only [execOp,y_7]
   go_simp
  ·obtain rfl:Zh9 B p=o:=Option.some.inj ho
   dsimp only [Zh9] at hK hd ⊢
   have y_8:=(Ze (x:=x) (Zaz B) 0 8 a hon rfl (show (B+9)<a.tmps.size by omega)).trans ((congrArg x (Nat.zero_add 8)).trans (show x 8=(.pointer (some ⟨b,2,none⟩)) from hd (Zf 8) (by simp) rfl (by decide)))
   refine Zi rfl (v:=(.slice (some ⟨g,0,none⟩) 3 cn)) (w2:=w1) ?_ (hK.out ((.slice (some ⟨g,0,none⟩) 3 cn)) rfl)
   simp only [execOp,y_8]
   go_simp
  ·obtain rfl:ZfU B sp p=o:=Option.some.inj ho
   dsimp only [ZfU] at hK hd ⊢
   have y_sp:=(ZM (x:=x) (Zaz B) 0 a n_sp).trans h_sp
   refine Zi rfl (v:=pV bp) (w2:=w1) ?_ (hK.out (pV bp) rfl)
   simp only [execOp,y_sp]
   go_simp
  ·exact absurd (by decide) him
  ·obtain rfl:ZeC B p=o:=Option.some.inj ho
   dsimp only [ZeC] at hK hd ⊢
   have y_11:=(Ze (x:=x) (Zaz B) 0 11 a hon rfl (show (B+12)<a.tmps.size by omega)).trans ((congrArg x (Nat.zero_add 11)).trans (show x 11=(.tuple #[.int .i64 r.1.1,.int .i64 r.1.2]) from q2 (HQ.out (Zf 11) (by simp [ZeC]) rfl 0 rfl)))
   refine Zi rfl (v:=(.tuple #[.int .i64 r.1.1,.int .i64 r.1.2])) (w2:=w1) ?_ (hK.out ((.tuple #[.int .i64 r.1.1,.int .i64 r.1.2])) rfl)
   simp only [execOp,y_11]
   go_simp
  ·obtain rfl:ZfW B p=o:=Option.some.inj ho
   dsimp only [ZfW] at hK hd ⊢
   have y_12:=(Ze (x:=x) (Zaz B) 0 12 a hon rfl (show B<a.tmps.size by omega)).trans ((congrArg x (Nat.zero_add 12)).trans (show x 12=(.tuple #[.int .i64 r.1.1,.int .i64 r.1.2]) from hd (Zf 12) (by simp) rfl (by decide)))
   refine Zi rfl (v:=(.int .i64 r.1.1)) (w2:=w1) ?_ (hK.out ((.int .i64 r.1.1)) rfl)
   simp only [execOp,y_12]
   go_simp
  ·obtain rfl:ZfX B p=o:=Option.some.inj ho
   dsimp only [ZfX] at hK hd ⊢
   have y_12:=(Ze (x:=x) (Zaz B) 0 12 a hon rfl (show B<a.tmps.size by omega)).trans ((congrArg x (Nat.zero_add 12)).trans (show x 12=(.tuple #[.int .i64 r.1.1,.int .i64 r.1.2]) from hd (Zf 12) (by simp) rfl (by decide)))
   refine Zi rfl (v:=(.int .i64 r.1.2)) (w2:=w1) ?_ (hK.out ((.int .i64 r.1.2)) rfl)
   simp only [execOp,y_12]
   go_simp
  ·obtain rfl:ZfY B p=o:=Option.some.inj ho
   dsimp only [ZfY] at hK hd ⊢
   have y_4:=(Ze (x:=x) (Zaz B) 0 4 a hon rfl (show (B+5)<a.tmps.size by omega)).trans ((congrArg x (Nat.zero_add 4)).trans (show x 4=(.slice (some ⟨g,0,none⟩) 3 cn) from hd (Zf 4) (by simp) rfl (by decide)))
   refine Zi rfl (v:=(.pointer (some ⟨g,1,none⟩))) (w2:=w1) ?_ (hK.out ((.pointer (some ⟨g,1,none⟩))) rfl)
   simp only [execOp,y_4]
   go_simp
  ·exact absurd (by decide) him
  ·obtain rfl:Zf0 B p=o:=Option.some.inj ho
   dsimp only [Zf0] at hK hd ⊢
   have y_9:=(Ze (x:=x) (Zaz B) 0 9 a hon rfl (show (B+10)<a.tmps.size by omega)).trans ((congrArg x (Nat.zero_add 9)).trans (show x 9=(.slice (some ⟨g,0,none⟩) 3 cn) from hd (Zf 9) (by simp) rfl (by decide)))
   refine Zi rfl (v:=(.pointer (some ⟨g,2,none⟩))) (w2:=w1) ?_ (hK.out ((.pointer (some ⟨g,2,none⟩))) rfl)
   simp only [execOp,y_9]
   go_simp
 ·intro q m o hq ho x w1 hW hd K' hK
  have hc:q=0\/q=1:=by have:=(List.getElem?_eq_some_iff.1 hq).1;dsimp only [List.length] at this;omega
  rcases hc with rfl | rfl
  ·obtain rfl:11=m:=Option.some.inj hq
   obtain rfl:ZfV F B p=o:=Option.some.inj ho
   dsimp only [ZfV] at hK hd ⊢
   have hF0:=hW.F
   have y_10:=(Ze (x:=x) (Zaz B) 0 10 a hon rfl (show (B+11)<a.tmps.size by omega)).trans ((congrArg x (Nat.zero_add 10)).trans (show x 10=pV bp from hd (Zf 10) (by simp) rfl (by decide)))
   refine Zba rfl (ZaP y_10) (hF _ _) ((hC w1 hW.P).mono ?_)
   rintro e w2 ⟨hf,hok,hbd⟩
   by_cases z:r.2.err=0
   ·obtain ⟨v,rfl,hP,rfl⟩:=hok z
    exact hK.out _ _ ⟨hW.call hP hf,rfl⟩
   ·obtain rfl:=hbd z
    exact hbad z _ _ (Zap _ _ _) (hF0.trans hf)
  ·obtain rfl:16=m:=Option.some.inj hq
   obtain rfl:ZfZ B p=o:=Option.some.inj ho
   dsimp only [ZfZ] at hK hd ⊢
   obtain ⟨hW,hv0⟩:=hW
   have y_15:=(Ze (x:=x) (Zaz B) 0 15 a hon rfl (show (B+15)<a.tmps.size by omega)).trans ((congrArg x (Nat.zero_add 15)).trans (show x 15=(.pointer (some ⟨g,1,none⟩)) from hd (Zf 15) (by simp) rfl (by decide)))
   have y_13:=(Ze (x:=x) (Zaz B) 0 13 a hon rfl (show (B+13)<a.tmps.size by omega)).trans ((congrArg x (Nat.zero_add 13)).trans (show x 13=(.int .i64 r.1.1) from hd (Zf 13) (by simp) rfl (by decide)))
   obtain ⟨u0,q1⟩:=hW.slot 1 (by decide)
   have q0:=hW.free 1
   have HW:=zh hW
   clear hW
   refine ZbE rfl (w2:=w1.setCell ⟨g,1,none⟩ (.int .i64 r.1.1)) ?_ (hK.out undef _ ⟨HW.out.put 1 r.1.1,hv0⟩)
   simp only [execOp,y_15,y_13]
   go_simp
 ·intro o ho x w1 hW hd K' hK
  obtain rfl:Zf1 B p=o:=Option.some.inj ho
  dsimp only [Zf1] at hK ⊢
  obtain ⟨hW,hv0⟩:=hW
  have y_17:=(Ze (x:=x) (Zaz B) 0 17 a hon rfl (show (B+16)<a.tmps.size by omega)).trans ((congrArg x (Nat.zero_add 17)).trans (show x 17=(.pointer (some ⟨g,2,none⟩)) from hd 17 (by decide) (by decide)))
  have y_14:=(Ze (x:=x) (Zaz B) 0 14 a hon rfl (show (B+14)<a.tmps.size by omega)).trans ((congrArg x (Nat.zero_add 14)).trans (show x 14=(.int .i64 r.1.2) from hd 14 (by decide) (by decide)))
  obtain ⟨u0,q1⟩:=hW.slot 2 (by decide)
  have q0:=hW.free 2
  have HW:=zh hW
  clear hW
  refine ZbE rfl (w2:=w1.setCell ⟨g,2,none⟩ (.int .i64 r.1.2)) ?_ (hK.out undef _ (HW.out.put 2 r.1.2).way)
  simp only [execOp,y_17,y_14]
  go_simp
 ·exact fun x w1 hE=>h x w1 hE
end
end Go.Proofs.YtfdgeijnkkdplaaDoor
