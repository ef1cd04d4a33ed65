import Derived.Test.YtfdgeijnkkdplaaDoorQAW
set_option maxRecDepth 100000
set_option maxHeartbeats 8000000
namespace Go.Proofs.YtfdgeijnkkdplaaDoor
section
open Go Go.RowKit
theorem Zh3:ZR 23:=fun _ _=>by kernel_rfl
theorem Zf2:ZR 21:=fun _ _=>by kernel_rfl
def ZbA:List (List UInt8):=[[97,116],[116,111],[105,110]]
def Zil (B:Nat) (sb:Nat) (p:String):Oper:=⟨some B,.load 39 (.tmp sb),39,p,#[],none⟩
def Zim (B:Nat) (sp:Nat) (p:String):Oper:=⟨some (B+1),.load 63 (.tmp sp),63,p,#[],none⟩
def Zin (F:Nat) (B:Nat) (p:String):Oper:=⟨some (B+2),.call ⟨.value (.func F),#[.tmp (B+1)],#[63]⟩,39,p,#[Zf 1],none⟩
def Zio (B:Nat) (p:String):Oper:=⟨some (B+3),.buildSlice 57 1 #[(0,.tmp (B+2))],57,p,#[Zf 2],none⟩
def Zip (B:Nat) (p:String):Oper:=⟨some (B+4),.call ⟨.value (.func 23),#[.tmp B,.tmp (B+3)],#[39,57]⟩,0,p,#[Zf 0,Zf 3,Zb2 2],none⟩
def ZmE (F:Nat) (B:Nat) (sp:Nat) (sb:Nat) (p:String):Array Oper:=#[Zil B sb p,Zim B sp p,Zin F B p,Zio B p,Zip B p]
def Zcj (B:Nat):List (Option Nat):=[some B,some (B+1),some (B+2),some (B+3),some (B+4)]
theorem Zc5 {F:Nat} (hF:ZR F) (B sp sb:Nat) {p:String} {id:Nat} {Q:Exit->Act->World->Prop} {a:Act} {w0 wS w:World} {bp c:Nat} {ad:Addr} {L:List Tok} {s:PS} {k:Int} {ws:List Txt} {ns:List Int} {at_:Int} {kids:List Tr} {b:Nat} {xs:List (Nat×TypeId×Array Value)} (hG:Way w0 wS w bp c ad L s k ws ns at_ kids b xs) {px bx:Nat} (hbx:(bx,39,#[brV b])∈xs) (hpx:(px,63,#[pV bp])∈xs) {Dom:PS->Prop} {r:Tr×PS} (hn:kids.length<=200000) (hC:∀ w1,ParQ w0 w1 bp ad c L s->Calls Tryd.prog F #[pV bp] w1 (Zo w0 w1 bp c ad L Dom s r)) (hbad:Zcw wS bp Q a r.2)
  (h:∀ x w',Way w0 wS w' bp c ad L r.2 k ws ns at_ (kids++[r.1]) b xs/\Dom r.2/\s.at_<r.2.at_->Q .normal (ZG x 0 (Zcj B) a) w')
  (hB:Nat.blt (B+4) a.tmps.size=true:=by kernel_rfl) (n_sp:some sp ∉ Zcj B:=by decide) (n_sb:some sb ∉ Zcj B:=by decide) (hon:Zbj (Zcj B)=true:=by kernel_rfl) (h_sp:a.eval (.tmp sp)=pV px:=by rfl) (h_sb:a.eval (.tmp sb)=pV bx:=by rfl) :
  (Code.region id (ZmE F B sp sb p) true).wp Tryd.prog Q a w:=by
 rw [Nat.blt_eq] at hB
 refine ZaC 4 [2,3] (Zcj B) (fun i v=>match i with | 0=>v=brV b | 1=>v=pV bp | _=>True) (fun q v w1=>match q with | 0=>Way w0 wS w1 bp c ad L s k ws ns at_ kids b xs | 1=>∃ g,WayK w0 wS w1 bp c ad L r.2 k ws ns at_ kids b xs [r.1] [g]/\v 0=brV g/\Dom r.2/\s.at_<r.2.at_ | _=>∃ w2 g,WayK w0 wS w2 bp c ad L r.2 k ws ns at_ kids b xs [r.1] [g]/\w1=(w2.alloc (.cells #[brV g] 39))/\v 1=.slice (some ⟨w2.heap.size,0,none⟩) 1 1/\Dom r.2/\s.at_<r.2.at_) (fun x w'=>Way w0 wS w' bp c ad L r.2 k ws ns at_ (kids++[r.1]) b xs/\Dom r.2/\s.at_<r.2.at_) rfl (by kernel_rfl) (by kernel_rfl) (by kernel_rfl) (by kernel_rfl) (by decide) (by decide) rfl hon hG.drew ?_ ?_ ?_ ?_ ?_
 ·intro q v v' w1 hv hW
  match q,hW with
  | 0,hW=>exact hW
  | 1,hW=>
   have e0:=hv 0 (by omega)
   simpa only [<- e0] using hW
  | q+2,hW=>
   have e1:=hv 1 (by omega)
   simpa only [<- e1] using hW
 ·intro i o hi him ho x ph w1 hp hW hd hq K' hK
  have hS:w1.cell? ⟨bx,0,none⟩=some (brV b)/\w1.cell? ⟨px,0,none⟩=some (pV bp):=by
   have hc2:ph=0\/ph=1\/ph=2:=by dsimp only [List.length] at hp;omega
   rcases hc2 with rfl | rfl | rfl
   ·exact ⟨hW.cell hbx,hW.cell hpx⟩
   ·obtain ⟨g,h1,_⟩:=hW
    exact ⟨h1.way.cell hbx,h1.way.cell hpx⟩
   ·obtain ⟨w2,g,h1,rfl,_⟩:=hW
    have h2:=h1.way.grown (below_alloc1 w2 (.cells #[brV g] 39))
    exact ⟨h2.cell hbx,h2.cell hpx⟩
  obtain ⟨q1,q2⟩:=hS
  clear hW hq hp
  have hc:i=0\/i=1\/i=2\/i=3:=by omega
  clear hi
  rcases hc with rfl | rfl | rfl | rfl
  ·obtain rfl:Zil B sb p=o:=Option.some.inj ho
   dsimp only [Zil] at hK hd ⊢
   have y_sb:=(ZO (x:=x) (Zcj B) 0 a n_sb).trans h_sb
   refine Zh rfl (v:=brV b) (w2:=w1) ?_ (hK.out (brV b) rfl)
   simp only [execOp,y_sb]
   go_simp
  ·obtain rfl:Zim B sp p=o:=Option.some.inj ho
   dsimp only [Zim] at hK hd ⊢
   have y_sp:=(ZO (x:=x) (Zcj B) 0 a n_sp).trans h_sp
   refine Zh rfl (v:=pV bp) (w2:=w1) ?_ (hK.out (pV bp) rfl)
   simp only [execOp,y_sp]
   go_simp
  ·exact absurd (by decide) him
  ·exact absurd (by decide) him
 ·intro q m o hq ho x w1 hW hd K' hK
  have hc:q=0\/q=1:=by have:=(List.getElem?_eq_some_iff.1 hq).1;dsimp only [List.length] at this;omega
  rcases hc with rfl | rfl
  ·obtain rfl:2=m:=Option.some.inj hq
   obtain rfl:Zin F B p=o:=Option.some.inj ho
   dsimp only [Zin] at hK hd ⊢
   have hF0:=hW.F
   have y_1:=(Ze (x:=x) (Zcj B) 0 1 a hon rfl (show (B+1)<a.tmps.size by omega)).trans ((congrArg x (Nat.zero_add 1)).trans (show x 1=pV bp from hd (Zf 1) (by simp) rfl (by decide)))
   refine Zbg rfl (ZaV y_1) (hF _ _) ((hC w1 hW.P).mono ?_)
   rintro e w2 ⟨hf,hok,hbd⟩
   by_cases z:r.2.err=0
   ·obtain ⟨g,rfl,hP,hD,hat,hT⟩:=hok z
    exact hK.out _ _ ⟨g,(WayK.of hW).got hP hf hT,rfl,hD,hat⟩
   ·obtain rfl:=hbd z
    exact hbad z _ _ (Zax _ _ _) (hF0.trans hf)
  ·obtain rfl:3=m:=Option.some.inj hq
   obtain rfl:Zio B p=o:=Option.some.inj ho
   dsimp only [Zio] at hK hd ⊢
   obtain ⟨g,hW,hv0,hD,hat⟩:=hW
   have y_2:=(Ze (x:=x) (Zcj B) 0 2 a hon rfl (show (B+2)<a.tmps.size by omega)).trans ((congrArg x (Nat.zero_add 2)).trans (show x 2=brV g from hv0))
   refine Zh rfl (v:=.slice (some ⟨w1.heap.size,0,none⟩) 1 1) (w2:=w1.alloc (.cells #[brV g] 39)) ?_ (hK.out _ _ ⟨w1,g,hW,rfl,rfl,hD,hat⟩)
   simp only [execOp,List.map_toArray,List.map_cons,List.map_nil,y_2]
   go_simp
 ·intro o ho x w1 hW hd K' hK
  obtain rfl:Zip B p=o:=Option.some.inj ho
  dsimp only [Zip] at hK ⊢
  obtain ⟨w2,g,hW,rfl,hv1,hD,hat⟩:=hW
  have y_0:=(Ze (x:=x) (Zcj B) 0 0 a hon rfl (show B<a.tmps.size by omega)).trans ((congrArg x (Nat.zero_add 0)).trans (show x 0=brV b from hd 0 (by decide) (by decide)))
  have y_3:=(Ze (x:=x) (Zcj B) 0 3 a hon rfl (show (B+3)<a.tmps.size by omega)).trans ((congrArg x (Nat.zero_add 3)).trans (show x 3=.slice (some ⟨w2.heap.size,0,none⟩) 1 1 from hv1))
  refine Zbg rfl (ZeU y_0 y_3) (Zh3 _ _) ((hW.add hn (m:=1) rfl (by decide)).mono ?_)
  rintro e w3 ⟨rfl,hW3⟩
  exact hK.out _ _ ⟨hW3,hD,hat⟩
 ·exact fun x w1 hE=>h x w1 hE
def ZiB (B:Nat) (sp:Nat) (p:String):Oper:=⟨some B,.load 63 (.tmp sp),63,p,#[],none⟩
def ZiC (B:Nat) (p:String):Oper:=⟨some (B+1),.nilCheck (.tmp B),0,p,#[Zf 0],none⟩
def ZiD (B:Nat) (p:String):Oper:=⟨some (B+2),.fieldAddr 54 (.tmp (B+1)) 0,0,p,#[Zf 1],none⟩
def ZiE (B:Nat) (si:Nat) (p:String):Oper:=⟨some (B+3),.move (.tmp si),3,p,#[],none⟩
def ZiF (B:Nat) (p:String):Oper:=⟨some (B+4),.indexAddr 83 (.global 2) (.tmp (B+3)),0,p,#[Zf 3],none⟩
def ZiG (B:Nat) (p:String):Oper:=⟨some (B+5),.load 9 (.tmp (B+4)),9,p,#[Zf 4],none⟩
def ZiH (B:Nat) (p:String):Oper:=⟨some (B+6),.call ⟨.value (.func 21),#[.tmp (B+2),.tmp (B+5)],#[52,9]⟩,4,p,#[Zf 2,Zf 5],none⟩
def ZiI (B:Nat) (p:String):Oper:=⟨some (B+7),.unOp .not 4 (.tmp (B+6)),4,p,#[Zf 6],none⟩
def ZmK (B:Nat) (si:Nat) (sp:Nat) (p:String):Array Oper:=#[ZiB B sp p,ZiC B p,ZiD B p,ZiE B si p,ZiF B p,ZiG B p,ZiH B p,ZiI B p]
def ZbM (B:Nat):List (Option Nat):=[some B,some (B+1),some (B+2),some (B+3),some (B+4),some (B+5),some (B+6),some (B+7)]
theorem Zla (B si sp:Nat) {p:String} {id:Nat} {Q:Exit->Act->World->Prop} {a:Act} {w0 wS w:World} {bp c:Nat} {ad:Addr} {L:List Tok} {s:PS} {k:Int} {ws:List Txt} {ns:List Int} {at_:Int} {kids:List Tr} {b:Nat} {xs:List (Nat×TypeId×Array Value)} (hG:Way w0 wS w bp c ad L s k ws ns at_ kids b xs) {px ii:Nat} {nm:Txt} (hpx:(px,63,#[pV bp])∈xs) (ht:Zaf w0 2 ZbA) (hii:ZbA[ii]? = some nm) (hx:PW nm)
  (h:∀ x w',Way w0 wS w' bp c ad L (Zae L nm s).2 k ws ns at_ kids b xs/\x 7=.bool (!(Zae L nm s).1)->Q .normal (ZG x 0 (ZbM B) a) w')
  (hB:Nat.blt (B+7) a.tmps.size=true:=by kernel_rfl) (n_si:some si ∉ ZbM B:=by decide) (n_sp:some sp ∉ ZbM B:=by decide) (hon:Zbj (ZbM B)=true:=by kernel_rfl) (h_si:a.eval (.tmp si)=.int .i64 ii:=by rfl) (h_sp:a.eval (.tmp sp)=pV px:=by rfl) :
  (Code.region id (ZmK  B si sp p) true).wp Tryd.prog Q a w:=by
 rw [Nat.blt_eq] at hB
 have HT:=zh ht
 clear ht
 have i3:ii<3:=(List.getElem?_eq_some_iff.1 hii).1
 have i0:(0:Int)<=(ii:Int):=by omega
 have i1:(ii:Int)<3:=by omega
 refine ZaC 7 [6] (ZbM B) (fun i v=>match i with | 0=>v=pV bp | 1=>v=pV bp | 2=>v=pV bp | 3=>v=(.int .i64 ii) | 4=>v=(.pointer (some ⟨2,ii,none⟩)) | 5=>v=txt nm | _=>True) (fun q v w1=>match q with | 0=>Way w0 wS w1 bp c ad L s k ws ns at_ kids b xs | _=>Way w0 wS w1 bp c ad L (Zae L nm s).2 k ws ns at_ kids b xs/\v 0=.bool (Zae L nm s).1) (fun x w'=>Way w0 wS w' bp c ad L (Zae L nm s).2 k ws ns at_ kids b xs/\x 7=.bool (!(Zae L nm s).1)) rfl (by kernel_rfl) (by kernel_rfl) (by kernel_rfl) (by kernel_rfl) (by decide) (by decide) rfl hon hG.drew ?_ ?_ ?_ ?_ ?_
 ·intro q v v' w1 hv hW
  match q,hW with
  | 0,hW=>exact hW
  | q+1,hW=>
   have e0:=hv 0 (by omega)
   simpa only [<- e0] using hW
 ·intro i o hi him ho x ph w1 hp hW hd hq K' hK
  have hS:w1.cell? ⟨px,0,none⟩=some (pV bp)/\w1.cell? ⟨2,ii,none⟩=some (txt nm):=by
   have hc2:ph=0\/ph=1:=by dsimp only [List.length] at hp;omega
   rcases hc2 with rfl | rfl
   ·exact ⟨hW.cell hpx,ZcN (HT.out.below hW.P.below) hii⟩
   ·exact ⟨hW.1.cell hpx,ZcN (HT.out.below hW.1.P.below) hii⟩
  obtain ⟨q1,q2⟩:=hS
  clear hW hq hp
  have hc:i=0\/i=1\/i=2\/i=3\/i=4\/i=5\/i=6:=by omega
  clear hi
  rcases hc with rfl | rfl | rfl | rfl | rfl | rfl | rfl
  ·obtain rfl:ZiB B sp p=o:=Option.some.inj ho
   dsimp only [ZiB] at hK hd ⊢
   have y_sp:=(ZO (x:=x) (ZbM B) 0 a n_sp).trans h_sp
   refine Zh rfl (v:=pV bp) (w2:=w1) ?_ (hK.out (pV bp) rfl)
   simp only [execOp,y_sp]
   go_simp
  ·obtain rfl:ZiC B p=o:=Option.some.inj ho
   dsimp only [ZiC] at hK hd ⊢
   have y_0:=(Ze (x:=x) (ZbM B) 0 0 a hon rfl (show B<a.tmps.size by omega)).trans ((congrArg x (Nat.zero_add 0)).trans (show x 0=pV bp from hd (Zf 0) (by simp) rfl (by decide)))
   refine Zh rfl (v:=pV bp) (w2:=w1) ?_ (hK.out (pV bp) rfl)
   simp only [execOp,y_0]
   go_simp
  ·obtain rfl:ZiD B p=o:=Option.some.inj ho
   dsimp only [ZiD] at hK hd ⊢
   have y_1:=(Ze (x:=x) (ZbM B) 0 1 a hon rfl (show (B+1)<a.tmps.size by omega)).trans ((congrArg x (Nat.zero_add 1)).trans (show x 1=pV bp from hd (Zf 1) (by simp) rfl (by decide)))
   refine Zh rfl (v:=pV bp) (w2:=w1) ?_ (hK.out (pV bp) rfl)
   simp only [execOp,y_1]
   go_simp
  ·obtain rfl:ZiE B si p=o:=Option.some.inj ho
   dsimp only [ZiE] at hK hd ⊢
   have y_si:=(ZO (x:=x) (ZbM B) 0 a n_si).trans h_si
   refine Zh rfl (v:=(.int .i64 ii)) (w2:=w1) ?_ (hK.out ((.int .i64 ii)) rfl)
   simp only [execOp,y_si]
   go_simp
  ·obtain rfl:ZiF B p=o:=Option.some.inj ho
   dsimp only [ZiF] at hK hd ⊢
   have y_3:=(Ze (x:=x) (ZbM B) 0 3 a hon rfl (show (B+3)<a.tmps.size by omega)).trans ((congrArg x (Nat.zero_add 3)).trans (show x 3=(.int .i64 ii) from hd (Zf 3) (by simp) rfl (by decide)))
   refine Zh rfl (v:=(.pointer (some ⟨2,ii,none⟩))) (w2:=w1) ?_ (hK.out ((.pointer (some ⟨2,ii,none⟩))) rfl)
   simp only [execOp,y_3]
   go_simp
  ·obtain rfl:ZiG B p=o:=Option.some.inj ho
   dsimp only [ZiG] at hK hd ⊢
   have y_4:=(Ze (x:=x) (ZbM B) 0 4 a hon rfl (show (B+4)<a.tmps.size by omega)).trans ((congrArg x (Nat.zero_add 4)).trans (show x 4=(.pointer (some ⟨2,ii,none⟩)) from hd (Zf 4) (by simp) rfl (by decide)))
   refine Zh rfl (v:=txt nm) (w2:=w1) ?_ (hK.out (txt nm) rfl)
   simp only [execOp,y_4]
   go_simp
  ·exact absurd (by decide) him
 ·intro q m o hq ho x w1 hW hd K' hK
  have hc:q=0:=by have:=(List.getElem?_eq_some_iff.1 hq).1;dsimp only [List.length] at this;omega
  subst hc
  ·obtain rfl:6=m:=Option.some.inj hq
   obtain rfl:ZiH B p=o:=Option.some.inj ho
   dsimp only [ZiH] at hK hd ⊢
   have y_2:=(Ze (x:=x) (ZbM B) 0 2 a hon rfl (show (B+2)<a.tmps.size by omega)).trans ((congrArg x (Nat.zero_add 2)).trans (show x 2=pV bp from hd (Zf 2) (by simp) rfl (by decide)))
   have y_5:=(Ze (x:=x) (ZbM B) 0 5 a hon rfl (show (B+5)<a.tmps.size by omega)).trans ((congrArg x (Nat.zero_add 5)).trans (show x 5=txt nm from hd (Zf 5) (by simp) rfl (by decide)))
   refine Zbg rfl (ZeU y_2 y_5) (Zf2 _ _) ((Zg w0 w1 bp c ad L s hW.P nm hx).mono ?_)
   rintro e w2 ⟨rfl,hP,hf⟩
   exact hK.out _ _ ⟨hW.call hP hf,rfl⟩
 ·intro o ho x w1 hW hd K' hK
  obtain rfl:ZiI B p=o:=Option.some.inj ho
  dsimp only [ZiI] at hK ⊢
  obtain ⟨hW,hv0⟩:=hW
  have y_6:=(Ze (x:=x) (ZbM B) 0 6 a hon rfl (show (B+6)<a.tmps.size by omega)).trans ((congrArg x (Nat.zero_add 6)).trans (show x 6=.bool (Zae L nm s).1 from hv0))
  refine Zh rfl (v:=.bool (!(Zae L nm s).1)) (w2:=w1) ?_ (hK.out _ _ ⟨hW,Zdi _ _ _⟩)
  simp only [execOp,y_6]
  go_simp
 ·exact fun x w1 hE=>h x w1 hE
def Zke (B:Nat) (sb:Nat) (p:String):Oper:=⟨some B,.load 39 (.tmp sb),39,p,#[],none⟩
def Zkf (B:Nat) (sp:Nat) (p:String):Oper:=⟨some (B+1),.load 63 (.tmp sp),63,p,#[],none⟩
def Zkg (B:Nat) (p:String):Oper:=⟨some (B+2),.nilCheck (.tmp (B+1)),0,p,#[Zf 1],none⟩
def Zkh (B:Nat) (p:String):Oper:=⟨some (B+3),.fieldAddr 54 (.tmp (B+2)) 0,0,p,#[Zf 2],none⟩
def Zki (F:Nat) (B:Nat) (p:String):Oper:=⟨some (B+4),.call ⟨.value (.func F),#[.tmp (B+3)],#[52]⟩,9,p,#[Zf 3],none⟩
def Zkj (B:Nat) (sb:Nat) (p:String):Oper:=⟨some (B+5),.load 39 (.tmp sb),39,p,#[],none⟩
def Zkk (B:Nat) (p:String):Oper:=⟨some (B+6),.nilCheck (.tmp (B+5)),0,p,#[Zf 5],none⟩
def Zkl (B:Nat) (p:String):Oper:=⟨some (B+7),.fieldAddr 59 (.tmp (B+6)) 0,0,p,#[Zf 6],none⟩
def Zkm (B:Nat) (p:String):Oper:=⟨some (B+8),.fieldAddr 33 (.tmp (B+7)) 1,0,p,#[Zf 7],none⟩
def Zkn (B:Nat) (p:String):Oper:=⟨some (B+9),.load 29 (.tmp (B+8)),29,p,#[Zf 8],none⟩
def Zg9 (B:Nat) (p:String):Oper:=⟨some (B+10),.indexAddr 29 (.tmp (B+9)) (.const (.int .i64 0)),0,p,#[Zf 9],none⟩
def Zha (B:Nat) (p:String):Oper:=⟨some (B+11),.load 9 (.tmp (B+10)),9,p,#[Zf 10],none⟩
def Zhb (B:Nat) (p:String):Oper:=⟨some (B+12),.buildSlice 29 2 #[(0,.tmp (B+4)),(1,.tmp (B+11))],29,p,#[Zf 4,Zf 11],none⟩
def Zhc (B:Nat) (p:String):Oper:=⟨some (B+13),.nilCheck (.tmp B),0,p,#[Zf 0,Zc 0,Zc 1,Zc 2,Zc 3,Zc 4,Zc 5,Zc 6,Zc 7,Zc 8,Zc 9,Zc 10,Zc 11,Zc 12],none⟩
def Zhd (B:Nat) (p:String):Oper:=⟨some (B+14),.fieldAddr 59 (.tmp (B+13)) 0,0,p,#[Zf 13,Zc 0,Zc 1,Zc 2,Zc 3,Zc 4,Zc 5,Zc 6,Zc 7,Zc 8,Zc 9,Zc 10,Zc 11,Zc 12],none⟩
def Zhe (B:Nat) (p:String):Oper:=⟨some (B+15),.fieldAddr 33 (.tmp (B+14)) 1,0,p,#[Zf 14,Zc 0,Zc 1,Zc 2,Zc 3,Zc 4,Zc 5,Zc 6,Zc 7,Zc 8,Zc 9,Zc 10,Zc 11,Zc 12],none⟩
def Zhf (B:Nat) (p:String):Oper:=⟨none,.store 29 (.tmp (B+15)) (.tmp (B+12)),0,p,#[Zf 15,Zf 12,Zb2 4,Zc 0,Zc 1,Zc 2,Zc 3,Zc 4,Zc 5,Zc 6,Zc 7,Zc 8,Zc 9,Zc 10,Zc 11,Zc 12],none⟩
def Zm0 (F:Nat) (B:Nat) (sp:Nat) (sb:Nat) (p:String):Array Oper:=#[Zke B sb p,Zkf B sp p,Zkg B p,Zkh B p,Zki F B p,Zkj B sb p,Zkk B p,Zkl B p,Zkm B p,Zkn B p,Zg9 B p,Zha B p,Zhb B p,Zhc B p,Zhd B p,Zhe B p,Zhf B p]
def ZaY (B:Nat):List (Option Nat):=[some B,some (B+1),some (B+2),some (B+3),some (B+4),some (B+5),some (B+6),some (B+7),some (B+8),some (B+9),some (B+10),some (B+11),some (B+12),some (B+13),some (B+14),some (B+15),none]
theorem Zm6 {F:Nat} (hF:ZR F) (B sp sb:Nat) {p:String} {id:Nat} {Q:Exit->Act->World->Prop} {a:Act} {w0 wS w:World} {bp c:Nat} {ad:Addr} {L:List Tok} {s:PS} {k:Int} {ns:List Int} {at_:Int} {kids:List Tr} {b:Nat} {xs:List (Nat×TypeId×Array Value)} {y0:Txt} (hG0:Way w0 wS w bp c ad L s k [y0] ns at_ kids b xs) {px bx:Nat} (hbx:(bx,39,#[brV b])∈xs) (hpx:(px,63,#[pV bp])∈xs) (hC:∀ w1,ParQ w0 w1 bp ad c L s->Calls Tryd.prog F #[pV bp] w1 (ZbJ w0 w1 bp c ad L (Za L s) fun x v _=>v=txt x)) (hbad:Zcw wS bp Q a (Za L s).2)
  (h:∀ x w',Way w0 wS w' bp c ad L (Za L s).2 k [(Za L s).1,y0] ns at_ kids b xs->Q .normal (ZG x 0 (ZaY B) a) w')
  (hB:Nat.blt (B+15) a.tmps.size=true:=by kernel_rfl) (n_sp:some sp ∉ ZaY B:=by decide) (n_sb:some sb ∉ ZaY B:=by decide) (hon:Zbj (ZaY B)=true:=by kernel_rfl) (h_sp:a.eval (.tmp sp)=pV px:=by rfl) (h_sb:a.eval (.tmp sb)=pV bx:=by rfl) :
  (Code.region id (Zm0 F B sp sb p) true).wp Tryd.prog Q a w:=by
 rw [Nat.blt_eq] at hB
 obtain ⟨vw,hG⟩:=hG0.words
 obtain ⟨g,cn,rfl⟩:=hG.form
 refine ZaC 16 [4,12] (ZaY B) (fun i v=>match i with | 0=>v=brV b | 1=>v=pV bp | 2=>v=pV bp | 3=>v=pV bp | 5=>v=brV b | 6=>v=brV b | 7=>v=brV b | 8=>v=(.pointer (some ⟨b,1,none⟩)) | 9=>v=(.slice (some ⟨g,0,none⟩) 1 cn) | 10=>v=(.pointer (some ⟨g,0,none⟩)) | 11=>v=txt y0 | 13=>v=brV b | 14=>v=brV b | 15=>v=(.pointer (some ⟨b,1,none⟩)) | _=>True) (fun q v w1=>match q with | 0=>WayV w0 wS w1 bp c ad L s k [y0] ns at_ kids b xs (.slice (some ⟨g,0,none⟩) 1 cn) | 1=>WayV w0 wS w1 bp c ad L (Za L s).2 k [y0] ns at_ kids b xs (.slice (some ⟨g,0,none⟩) 1 cn)/\v 0=txt (Za L s).1 | _=>∃ w2,WayV w0 wS w2 bp c ad L (Za L s).2 k [y0] ns at_ kids b xs (.slice (some ⟨g,0,none⟩) 1 cn)/\w1=(w2.alloc (.cells #[txt (Za L s).1,txt y0] 9))/\v 1=.slice (some ⟨w2.heap.size,0,none⟩) 2 2) (fun x w'=>Way w0 wS w' bp c ad L (Za L s).2 k [(Za L s).1,y0] ns at_ kids b xs) rfl (by kernel_rfl) (by kernel_rfl) (by kernel_rfl) (by kernel_rfl) (by decide) (by decide) rfl hon (hG.grown (Below.refl _ _).drew) ?_ ?_ ?_ ?_ ?_
 ·intro q v v' w1 hv hW
  match q,hW with
  | 0,hW=>exact hW
  | 1,hW=>
   have e0:=hv 0 (by omega)
   simpa only [<- e0] using hW
  | q+2,hW=>
   have e1:=hv 1 (by omega)
   simpa only [<- e1] using hW
 ·intro i o hi him ho x ph w1 hp hW hd hq K' hK
  have hS:w1.cell? ⟨bx,0,none⟩=some (brV b)/\w1.cell? ⟨px,0,none⟩=some (pV bp)/\w1.cell? ⟨b,1,none⟩=some (.slice (some ⟨g,0,none⟩) 1 cn)/\w1.cell? ⟨g,0,none⟩=some (txt y0):=by
   have hc2:ph=0\/ph=1\/ph=2:=by dsimp only [List.length] at hp;omega
   rcases hc2 with rfl | rfl | rfl
   ·exact ⟨hW.way.cell hbx,hW.way.cell hpx,hW.cell,hW.at0⟩
   ·exact ⟨hW.1.way.cell hbx,hW.1.way.cell hpx,hW.1.cell,hW.1.at0⟩
   ·obtain ⟨w2,h1,rfl,_⟩:=hW
    have h2:=h1.grown (below_alloc1 w2 (.cells #[txt (Za L s).1,txt y0] 9))
    exact ⟨h2.way.cell hbx,h2.way.cell hpx,h2.cell,h2.at0⟩
  obtain ⟨q1,q2,q3,q4⟩:=hS
  clear hW hq hp
  have hc:i=0\/i=1\/i=2\/i=3\/i=4\/i=5\/i=6\/i=7\/i=8\/i=9\/i=10\/i=11\/i=12\/i=13\/i=14\/i=15:=by omega
  clear hi
  rcases hc with rfl | rfl | rfl | rfl | rfl | rfl | rfl | rfl | rfl | rfl | rfl | rfl | rfl | rfl | rfl | rfl
  ·obtain rfl:Zke B sb p=o:=Option.some.inj ho
   dsimp only [Zke] at hK hd ⊢
   have y_sb:=(ZO (x:=x) (ZaY B) 0 a n_sb).trans h_sb
   refine Zh rfl (v:=brV b) (w2:=w1) ?_ (hK.out (brV b) rfl)
   simp only [execOp,y_sb]
   go_simp
  ·obtain rfl:Zkf B sp p=o:=Option.some.inj ho
   dsimp only [Zkf] at hK hd ⊢
   have y_sp:=(ZO (x:=x) (ZaY B) 0 a n_sp).trans h_sp
   refine Zh rfl (v:=pV bp) (w2:=w1) ?_ (hK.out (pV bp) rfl)
   simp only [execOp,y_sp]
   go_simp
  ·obtain rfl:Zkg B p=o:=Option.some.inj ho
   dsimp only [Zkg] at hK hd ⊢
   have y_1:=(Ze (x:=x) (ZaY B) 0 1 a hon rfl (show (B+1)<a.tmps.size by omega)).trans ((congrArg x (Nat.zero_add 1)).trans (show x 1=pV bp from hd (Zf 1) (by simp) rfl (by decide)))
   refine Zh rfl (v:=pV bp) (w2:=w1) ?_ (hK.out (pV bp) rfl)
   simp only [execOp,y_1]
   go_simp
  ·obtain rfl:Zkh B p=o:=Option.some.inj ho
   dsimp only [Zkh] at hK hd ⊢
   have y_2:=(Ze (x:=x) (ZaY B) 0 2 a hon rfl (show (B+2)<a.tmps.size by omega)).trans ((congrArg x (Nat.zero_add 2)).trans (show x 2=pV bp from hd (Zf 2) (by simp) rfl (by decide)))
   refine Zh rfl (v:=pV bp) (w2:=w1) ?_ (hK.out (pV bp) rfl)
   simp only [execOp,y_2]
   go_simp
  ·exact absurd (by decide) him
  ·obtain rfl:Zkj B sb p=o:=Option.some.inj ho
   dsimp only [Zkj] at hK hd ⊢
   have y_sb:=(ZO (x:=x) (ZaY B) 0 a n_sb).trans h_sb
   refine Zh rfl (v:=brV b) (w2:=w1) ?_ (hK.out (brV b) rfl)
   simp only [execOp,y_sb]
   go_simp
  ·obtain rfl:Zkk B p=o:=Option.some.inj ho
   dsimp only [Zkk] at hK hd ⊢
   have y_5:=(Ze (x:=x) (ZaY B) 0 5 a hon rfl (show (B+5)<a.tmps.size by omega)).trans ((congrArg x (Nat.zero_add 5)).trans (show x 5=brV b from hd (Zf 5) (by simp) rfl (by decide)))
   refine Zh rfl (v:=brV b) (w2:=w1) ?_ (hK.out (brV b) rfl)
   simp only [execOp,y_5]
   go_simp
  ·obtain rfl:Zkl B p=o:=Option.some.inj ho
   dsimp only [Zkl] at hK hd ⊢
   have y_6:=(Ze (x:=x) (ZaY B) 0 6 a hon rfl (show (B+6)<a.tmps.size by omega)).trans ((congrArg x (Nat.zero_add 6)).trans (show x 6=brV b from hd (Zf 6) (by simp) rfl (by decide)))
   refine Zh rfl (v:=brV b) (w2:=w1) ?_ (hK.out (brV b) rfl)
   simp only [execOp,y_6]
   go_simp
  ·obtain rfl:Zkm B p=o:=Option.some.inj ho
   dsimp only [Zkm] at hK hd ⊢
   have y_7:=(Ze (x:=x) (ZaY B) 0 7 a hon rfl (show (B+7)<a.tmps.size by omega)).trans ((congrArg x (Nat.zero_add 7)).trans (show x 7=brV b from hd (Zf 7) (by simp) rfl (by decide)))
   refine Zh rfl (v:=(.pointer (some ⟨b,1,none⟩))) (w2:=w1) ?_ (hK.out ((.pointer (some ⟨b,1,none⟩))) rfl)
   simp only [execOp,y_7]
   go_simp
  ·obtain rfl:Zkn B p=o:=Option.some.inj ho
   dsimp only [Zkn] at hK hd ⊢
   have y_8:=(Ze (x:=x) (ZaY B) 0 8 a hon rfl (show (B+8)<a.tmps.size by omega)).trans ((congrArg x (Nat.zero_add 8)).trans (show x 8=(.pointer (some ⟨b,1,none⟩)) from hd (Zf 8) (by simp) rfl (by decide)))
   refine Zh rfl (v:=(.slice (some ⟨g,0,none⟩) 1 cn)) (w2:=w1) ?_ (hK.out ((.slice (some ⟨g,0,none⟩) 1 cn)) rfl)
   simp only [execOp,y_8]
   go_simp
  ·obtain rfl:Zg9 B p=o:=Option.some.inj ho
   dsimp only [Zg9] at hK hd ⊢
   have y_9:=(Ze (x:=x) (ZaY B) 0 9 a hon rfl (show (B+9)<a.tmps.size by omega)).trans ((congrArg x (Nat.zero_add 9)).trans (show x 9=(.slice (some ⟨g,0,none⟩) 1 cn) from hd (Zf 9) (by simp) rfl (by decide)))
   refine Zh rfl (v:=(.pointer (some ⟨g,0,none⟩))) (w2:=w1) ?_ (hK.out ((.pointer (some ⟨g,0,none⟩))) rfl)
   simp only [execOp,y_9]
   go_simp
  ·obtain rfl:Zha B p=o:=Option.some.inj ho
   dsimp only [Zha] at hK hd ⊢
   have y_10:=(Ze (x:=x) (ZaY B) 0 10 a hon rfl (show (B+10)<a.tmps.size by omega)).trans ((congrArg x (Nat.zero_add 10)).trans (show x 10=(.pointer (some ⟨g,0,none⟩)) from hd (Zf 10) (by simp) rfl (by decide)))
   refine Zh rfl (v:=txt y0) (w2:=w1) ?_ (hK.out (txt y0) rfl)
   simp only [execOp,y_10]
   go_simp
  ·exact absurd (by decide) him
  ·obtain rfl:Zhc B p=o:=Option.some.inj ho
   dsimp only [Zhc] at hK hd ⊢
   have y_0:=(Ze (x:=x) (ZaY B) 0 0 a hon rfl (show B<a.tmps.size by omega)).trans ((congrArg x (Nat.zero_add 0)).trans (show x 0=brV b from hd (Zf 0) (by simp) rfl (by decide)))
   refine Zh rfl (v:=brV b) (w2:=w1) ?_ (hK.out (brV b) rfl)
   simp only [execOp,y_0]
   go_simp
  ·obtain rfl:Zhd B p=o:=Option.some.inj ho
   dsimp only [Zhd] at hK hd ⊢
   have y_13:=(Ze (x:=x) (ZaY B) 0 13 a hon rfl (show (B+13)<a.tmps.size by omega)).trans ((congrArg x (Nat.zero_add 13)).trans (show x 13=brV b from hd (Zf 13) (by simp) rfl (by decide)))
   refine Zh rfl (v:=brV b) (w2:=w1) ?_ (hK.out (brV b) rfl)
   simp only [execOp,y_13]
   go_simp
  ·obtain rfl:Zhe B p=o:=Option.some.inj ho
   dsimp only [Zhe] at hK hd ⊢
   have y_14:=(Ze (x:=x) (ZaY B) 0 14 a hon rfl (show (B+14)<a.tmps.size by omega)).trans ((congrArg x (Nat.zero_add 14)).trans (show x 14=brV b from hd (Zf 14) (by simp) rfl (by decide)))
   refine Zh rfl (v:=(.pointer (some ⟨b,1,none⟩))) (w2:=w1) ?_ (hK.out ((.pointer (some ⟨b,1,none⟩))) rfl)
   simp only [execOp,y_14]
   go_simp
 ·intro q m o hq ho x w1 hW hd K' hK
  have hc:q=0\/q=1:=by have:=(List.getElem?_eq_some_iff.1 hq).1;dsimp only [List.length] at this;omega
  rcases hc with rfl | rfl
  ·obtain rfl:4=m:=Option.some.inj hq
   obtain rfl:Zki F B p=o:=Option.some.inj ho
   dsimp only [Zki] at hK hd ⊢
   have hF0:=hW.F
   have y_3:=(Ze (x:=x) (ZaY B) 0 3 a hon rfl (show (B+3)<a.tmps.size by omega)).trans ((congrArg x (Nat.zero_add 3)).trans (show x 3=pV bp from hd (Zf 3) (by simp) rfl (by decide)))
   refine Zbg rfl (ZaV y_3) (hF _ _) ((hC w1 hW.P).mono ?_)
   rintro e w2 ⟨hf,hok,hbd⟩
   by_cases z:(Za L s).2.err=0
   ·obtain ⟨v,rfl,hP,rfl⟩:=hok z
    exact hK.out _ _ ⟨hW.call hP hf,rfl⟩
   ·obtain rfl:=hbd z
    exact hbad z _ _ (Zax _ _ _) (hF0.trans hf)
  ·obtain rfl:12=m:=Option.some.inj hq
   obtain rfl:Zhb B p=o:=Option.some.inj ho
   dsimp only [Zhb] at hK hd ⊢
   obtain ⟨hW,hv0⟩:=hW
   have y_4:=(Ze (x:=x) (ZaY B) 0 4 a hon rfl (show (B+4)<a.tmps.size by omega)).trans ((congrArg x (Nat.zero_add 4)).trans (show x 4=txt (Za L s).1 from hv0))
   have y_11:=(Ze (x:=x) (ZaY B) 0 11 a hon rfl (show (B+11)<a.tmps.size by omega)).trans ((congrArg x (Nat.zero_add 11)).trans (show x 11=txt y0 from hd (Zf 11) (by simp) rfl (by decide)))
   refine Zh rfl (v:=.slice (some ⟨w1.heap.size,0,none⟩) 2 2) (w2:=w1.alloc (.cells #[txt (Za L s).1,txt y0] 9)) ?_ (hK.out _ _ ⟨w1,hW,rfl,rfl⟩)
   simp only [execOp,List.map_toArray,List.map_cons,List.map_nil,y_4,y_11]
   go_simp
 ·intro o ho x w1 hW hd K' hK
  obtain rfl:Zhf B p=o:=Option.some.inj ho
  dsimp only [Zhf] at hK ⊢
  obtain ⟨w2,hW1,rfl,hv1⟩:=hW
  have y_15:=(Ze (x:=x) (ZaY B) 0 15 a hon rfl (show (B+15)<a.tmps.size by omega)).trans ((congrArg x (Nat.zero_add 15)).trans (show x 15=(.pointer (some ⟨b,1,none⟩)) from hd 15 (by decide) (by decide)))
  have y_12:=(Ze (x:=x) (ZaY B) 0 12 a hon rfl (show (B+12)<a.tmps.size by omega)).trans ((congrArg x (Nat.zero_add 12)).trans (show x 12=.slice (some ⟨w2.heap.size,0,none⟩) 2 2 from hv1))
  have W2:=hW1.grown (below_alloc1 w2 (.cells #[txt (Za L s).1,txt y0] 9))
  have q0:=W2.way.free 1
  have q1:=W2.cell
  have HW:=zh hW1
  clear W2 hW1
  refine ZbR rfl (w2:=((w2.alloc (.cells #[txt (Za L s).1,txt y0] 9))).setCell ⟨b,1,none⟩ (.slice (some ⟨w2.heap.size,0,none⟩) 2 2)) ?_ (hK.out _ _ (HW.out.way.words2 (Za L s).1 y0))
  simp only [execOp,y_15,y_12]
  go_simp
 ·exact fun x w1 hE=>h x w1 hE
def Zh9 (B:Nat) (sb:Nat) (p:String):Oper:=⟨some (B+1),.move (.tmp sb),39,p,#[],none⟩
def Zia (B:Nat) (p:String):Oper:=⟨some (B+2),.nilCheck (.tmp (B+1)),0,p,#[Zf 0],none⟩
def Zib (B:Nat) (p:String):Oper:=⟨some (B+3),.fieldAddr 59 (.tmp (B+2)) 0,0,p,#[Zf 1],none⟩
def Zic (B:Nat) (p:String):Oper:=⟨some (B+4),.fieldAddr 33 (.tmp (B+3)) 2,0,p,#[Zf 2],none⟩
def Zid (B:Nat) (p:String):Oper:=⟨some (B+5),.load 30 (.tmp (B+4)),30,p,#[Zf 3],none⟩
def Zie (B:Nat) (sb:Nat) (p:String):Oper:=⟨some (B+6),.move (.tmp sb),39,p,#[],none⟩
def Zif (B:Nat) (p:String):Oper:=⟨some (B+7),.nilCheck (.tmp (B+6)),0,p,#[Zf 5],none⟩
def Zig (B:Nat) (p:String):Oper:=⟨some (B+8),.fieldAddr 59 (.tmp (B+7)) 0,0,p,#[Zf 6],none⟩
def Zih (B:Nat) (p:String):Oper:=⟨some (B+9),.fieldAddr 33 (.tmp (B+8)) 2,0,p,#[Zf 7],none⟩
def Zii (B:Nat) (p:String):Oper:=⟨some (B+10),.load 30 (.tmp (B+9)),30,p,#[Zf 8],none⟩
def Zf3 (B:Nat) (sp:Nat) (p:String):Oper:=⟨some (B+11),.move (.tmp sp),63,p,#[],none⟩
def Zf4 (F:Nat) (B:Nat) (p:String):Oper:=⟨some (B+12),.call ⟨.value (.func F),#[.tmp (B+11)],#[63]⟩,81,p,#[Zf 10],none⟩
def ZeW (B:Nat) (p:String):Oper:=⟨some B,.move (.tmp (B+12)),81,p,#[Zf 11],none⟩
def Zf5 (B:Nat) (p:String):Oper:=⟨some (B+13),.extract (.tmp B) 0,2,p,#[Zf 12],none⟩
def Zf6 (B:Nat) (p:String):Oper:=⟨some (B+14),.extract (.tmp B) 1,2,p,#[Zf 12,⟨16,.gcOnly .lateStores⟩],none⟩
def Zf7 (B:Nat) (p:String):Oper:=⟨some (B+15),.indexAddr 30 (.tmp (B+5)) (.const (.int .i64 1)),0,p,#[Zf 4,Zc 0,Zc 1,Zc 2,Zc 3,Zc 4,⟨5,.textOnly .lateStores⟩,⟨6,.textOnly .lateStoresUnsure⟩,⟨7,.textOnly .lateStoresUnsure⟩,⟨8,.textOnly .lateStoresUnsure⟩,Zc 9,Zc 10,Zc 11,Zc 12,Zc 13,⟨14,.textOnly .lateStores⟩],none⟩
def Zf8 (B:Nat) (p:String):Oper:=⟨none,.store 2 (.tmp (B+15)) (.tmp (B+13)),0,p,#[Zf 15,Zf 13,Zb2 11,Zc 0,Zc 1,Zc 2,Zc 3,Zc 4,⟨5,.textOnly .lateStores⟩,⟨6,.textOnly .lateStoresUnsure⟩,⟨7,.textOnly .lateStoresUnsure⟩,⟨8,.textOnly .lateStoresUnsure⟩,Zc 9,Zc 10,Zc 11,Zc 12,Zc 13,⟨14,.textOnly .lateStores⟩],none⟩
def Zf9 (B:Nat) (p:String):Oper:=⟨some (B+16),.indexAddr 30 (.tmp (B+10)) (.const (.int .i64 2)),0,p,#[Zf 9,Zc 0,Zc 1,Zc 2,Zc 3,Zc 4,Zc 5,Zc 6,Zc 7,Zc 8,Zc 9,Zc 10,Zc 11,Zc 12,Zc 13,Zc 14,Zc 15,Zc 16],none⟩
def Zga (B:Nat) (p:String):Oper:=⟨none,.store 2 (.tmp (B+16)) (.tmp (B+14)),0,p,#[Zf 17,Zf 14,Zb2 16,Zc 0,Zc 1,Zc 2,Zc 3,Zc 4,Zc 5,Zc 6,Zc 7,Zc 8,Zc 9,Zc 10,Zc 11,Zc 12,Zc 13,Zc 14,Zc 15,Zc 16],none⟩
def ZmC (F:Nat) (B:Nat) (sp:Nat) (sb:Nat) (p:String):Array Oper:=#[Zh9 B sb p,Zia B p,Zib B p,Zic B p,Zid B p,Zie B sb p,Zif B p,Zig B p,Zih B p,Zii B p,Zf3 B sp p,Zf4 F B p,ZeW B p,Zf5 B p,Zf6 B p,Zf7 B p,Zf8 B p,Zf9 B p,Zga B p]
def ZaD (B:Nat):List (Option Nat):=[some (B+1),some (B+2),some (B+3),some (B+4),some (B+5),some (B+6),some (B+7),some (B+8),some (B+9),some (B+10),some (B+11),some (B+12),some B,some (B+13),some (B+14),some (B+15),none,some (B+16),none]
theorem Zk9 {F:Nat} (hF:ZR F) (B sp sb:Nat) {p:String} {id:Nat} {Q:Exit->Act->World->Prop} {a:Act} {w0 wS w:World} {bp c:Nat} {ad:Addr} {L:List Tok} {s:PS} {k:Int} {ws:List Txt} {at_:Int} {b:Nat} {xs:List (Nat×TypeId×Array Value)} {k0:Int} {r:(Int×Int)×PS} (hG0:Way w0 wS w bp c ad L s k ws [k0,0,0] at_ [] b xs) (hC:∀ w1,ParQ w0 w1 bp ad c L s->Calls Tryd.prog F #[pV bp] w1 (ZbJ w0 w1 bp c ad L r fun x v _=>v=.tuple #[.int .i64 x.1,.int .i64 x.2])) (hbad:Zcw wS bp Q a r.2)
  (h:∀ x w',Way w0 wS w' bp c ad L r.2 k ws [k0,r.1.1,r.1.2] at_ [] b xs->Q .normal (ZG x 0 (ZaD B) a) w')
  (hB:Nat.blt (B+16) a.tmps.size=true:=by kernel_rfl) (n_sp:some sp ∉ ZaD B:=by decide) (n_sb:some sb ∉ ZaD B:=by decide) (hon:Zbj (ZaD B)=true:=by kernel_rfl) (h_sp:a.eval (.tmp sp)=pV bp:=by rfl) (h_sb:a.eval (.tmp sb)=brV b:=by rfl) :
  (Code.region id (ZmC F B sp sb p) true).wp Tryd.prog Q a w:=by
 rw [Nat.blt_eq] at hB
 obtain ⟨g,cn,hG⟩:=hG0.nums
 refine ZaC 18 [11,16] (ZaD B) (fun i v=>match i with | 0=>v=brV b | 1=>v=brV b | 2=>v=brV b | 3=>v=(.pointer (some ⟨b,2,none⟩)) | 4=>v=(.slice (some ⟨g,0,none⟩) 3 cn) | 5=>v=brV b | 6=>v=brV b | 7=>v=brV b | 8=>v=(.pointer (some ⟨b,2,none⟩)) | 9=>v=(.slice (some ⟨g,0,none⟩) 3 cn) | 10=>v=pV bp | 12=>v=(.tuple #[.int .i64 r.1.1,.int .i64 r.1.2]) | 13=>v=(.int .i64 r.1.1) | 14=>v=(.int .i64 r.1.2) | 15=>v=(.pointer (some ⟨g,1,none⟩)) | 17=>v=(.pointer (some ⟨g,2,none⟩)) | _=>True) (fun q v w1=>match q with | 0=>WayN w0 wS w1 bp c ad L s k ws [k0,0,0] at_ b xs g cn | 1=>WayN w0 wS w1 bp c ad L r.2 k ws [k0,0,0] at_ b xs g cn/\v 0=.tuple #[.int .i64 r.1.1,.int .i64 r.1.2] | _=>WayN w0 wS w1 bp c ad L r.2 k ws [k0,r.1.1,0] at_ b xs g cn/\v 0=.tuple #[.int .i64 r.1.1,.int .i64 r.1.2]) (fun x w'=>Way w0 wS w' bp c ad L r.2 k ws [k0,r.1.1,r.1.2] at_ [] b xs) rfl (by kernel_rfl) (by kernel_rfl) (by kernel_rfl) (by kernel_rfl) (by decide) (by decide) rfl hon hG.drew ?_ ?_ ?_ ?_ ?_
 ·intro q v v' w1 hv hW
  match q,hW with
  | 0,hW=>exact hW
  | 1,hW=>
   have e0:=hv 0 (by omega)
   simpa only [<- e0] using hW
  | q+2,hW=>
   have e0:=hv 0 (by omega)
   simpa only [<- e0] using hW
 ·intro i o hi him ho x ph w1 hp hW hd hq K' hK
  have hS:w1.cell? ⟨b,2,none⟩=some (.slice (some ⟨g,0,none⟩) 3 cn)/\(0<ph->x 11=.tuple #[.int .i64 r.1.1,.int .i64 r.1.2]):=by
   have hc2:ph=0\/ph=1\/ph=2:=by dsimp only [List.length] at hp;omega
   rcases hc2 with rfl | rfl | rfl
   ·exact ⟨hW.cell,fun h=>absurd h (Nat.lt_irrefl _)⟩
   ·exact ⟨hW.1.cell,fun _=>hW.2⟩
   ·exact ⟨hW.1.cell,fun _=>hW.2⟩
  obtain ⟨q1,q2⟩:=hS
  have HQ:=zh hq
  clear hW hq hp
  have hc:i=0\/i=1\/i=2\/i=3\/i=4\/i=5\/i=6\/i=7\/i=8\/i=9\/i=10\/i=11\/i=12\/i=13\/i=14\/i=15\/i=16\/i=17:=by omega
  clear hi
  rcases hc with rfl | rfl | rfl | rfl | rfl | rfl | rfl | rfl | rfl | rfl | rfl | rfl | rfl | rfl | rfl | rfl | rfl | rfl
  ·obtain rfl:Zh9 B sb p=o:=Option.some.inj ho
   dsimp only [Zh9] at hK hd ⊢
   have y_sb:=(ZO (x:=x) (ZaD B) 0 a n_sb).trans h_sb
   refine Zh rfl (v:=brV b) (w2:=w1) ?_ (hK.out (brV b) rfl)
   simp only [execOp,y_sb]
   go_simp
  ·obtain rfl:Zia B p=o:=Option.some.inj ho
   dsimp only [Zia] at hK hd ⊢
   have y_0:=(Ze (x:=x) (ZaD B) 0 0 a hon rfl (show (B+1)<a.tmps.size by omega)).trans ((congrArg x (Nat.zero_add 0)).trans (show x 0=brV b from hd (Zf 0) (by simp) rfl (by decide)))
   refine Zh rfl (v:=brV b) (w2:=w1) ?_ (hK.out (brV b) rfl)
   simp only [execOp,y_0]
   go_simp
  ·obtain rfl:Zib B p=o:=Option.some.inj ho
   dsimp only [Zib] at hK hd ⊢
   have y_1:=(Ze (x:=x) (ZaD B) 0 1 a hon rfl (show (B+2)<a.tmps.size by omega)).trans ((congrArg x (Nat.zero_add 1)).trans (show x 1=brV b from hd (Zf 1) (by simp) rfl (by decide)))
   refine Zh rfl (v:=brV b) (w2:=w1) ?_ (hK.out (brV b) rfl)
   simp only [execOp,y_1]
   go_simp
  ·obtain rfl:Zic B p=o:=Option.some.inj ho
   dsimp only [Zic] at hK hd ⊢
   have y_2:=(Ze (x:=x) (ZaD B) 0 2 a hon rfl (show (B+3)<a.tmps.size by omega)).trans ((congrArg x (Nat.zero_add 2)).trans (show x 2=brV b from hd (Zf 2) (by simp) rfl (by decide)))
   refine Zh rfl (v:=(.pointer (some ⟨b,2,none⟩))) (w2:=w1) ?_ (hK.out ((.pointer (some ⟨b,2,none⟩))) rfl)
   simp only [execOp,y_2]
   go_simp
  ·obtain rfl:Zid B p=o:=Option.some.inj ho
   dsimp only [Zid] at hK hd ⊢
   have y_3:=(Ze (x:=x) (ZaD B) 0 3 a hon rfl (show (B+4)<a.tmps.size by omega)).trans ((congrArg x (Nat.zero_add 3)).trans (show x 3=(.pointer (some ⟨b,2,none⟩)) from hd (Zf 3) (by simp) rfl (by decide)))
   refine Zh rfl (v:=(.slice (some ⟨g,0,none⟩) 3 cn)) (w2:=w1) ?_ (hK.out ((.slice (some ⟨g,0,none⟩) 3 cn)) rfl)
   simp only [execOp,y_3]
   go_simp
  ·obtain rfl:Zie B sb p=o:=Option.some.inj ho
   dsimp only [Zie] at hK hd ⊢
   have y_sb:=(ZO (x:=x) (ZaD B) 0 a n_sb).trans h_sb
   refine Zh rfl (v:=brV b) (w2:=w1) ?_ (hK.out (brV b) rfl)
   simp only [execOp,y_sb]
   go_simp
  ·obtain rfl:Zif B p=o:=Option.some.inj ho
   dsimp only [Zif] at hK hd ⊢
   have y_5:=(Ze (x:=x) (ZaD B) 0 5 a hon rfl (show (B+6)<a.tmps.size by omega)).trans ((congrArg x (Nat.zero_add 5)).trans (show x 5=brV b from hd (Zf 5) (by simp) rfl (by decide)))
   refine Zh rfl (v:=brV b) (w2:=w1) ?_ (hK.out (brV b) rfl)
   simp only [execOp,y_5]
   go_simp
  ·obtain rfl:Zig B p=o:=Option.some.inj ho
   dsimp only [Zig] at hK hd ⊢
   have y_6:=(Ze (x:=x) (ZaD B) 0 6 a hon rfl (show (B+7)<a.tmps.size by omega)).trans ((congrArg x (Nat.zero_add 6)).trans (show x 6=brV b from hd (Zf 6) (by simp) rfl (by decide)))
   refine Zh rfl (v:=brV b) (w2:=w1) ?_ (hK.out (brV b) rfl)
   simp only [execOp,y_6]
   go_simp
  ·obtain rfl:Zih B p=o:=Option.some.inj ho
   dsimp only [Zih] at hK hd ⊢
   have y_7:=(Ze (x:=x) (ZaD B) 0 7 a hon rfl (show (B+8)<a.tmps.size by omega)).trans ((congrArg x (Nat.zero_add 7)).trans (show x 7=brV b from hd (Zf 7) (by simp) rfl (by decide)))
   refine Zh rfl (v:=(.pointer (some ⟨b,2,none⟩))) (w2:=w1) ?_ (hK.out ((.pointer (some ⟨b,2,none⟩))) rfl)
   simp only [execOp,y_7]
   go_simp
  ·obtain rfl:Zii B p=o:=Option.some.inj ho
   dsimp only [Zii] at hK hd ⊢
   have y_8:=(Ze (x:=x) (ZaD B) 0 8 a hon rfl (show (B+9)<a.tmps.size by omega)).trans ((congrArg x (Nat.zero_add 8)).trans (show x 8=(.pointer (some ⟨b,2,none⟩)) from hd (Zf 8) (by simp) rfl (by decide)))
   refine Zh rfl (v:=(.slice (some ⟨g,0,none⟩) 3 cn)) (w2:=w1) ?_ (hK.out ((.slice (some ⟨g,0,none⟩) 3 cn)) rfl)
   simp only [execOp,y_8]
   go_simp
  ·obtain rfl:Zf3 B sp p=o:=Option.some.inj ho
   dsimp only [Zf3] at hK hd ⊢
   have y_sp:=(ZO (x:=x) (ZaD B) 0 a n_sp).trans h_sp
   refine Zh rfl (v:=pV bp) (w2:=w1) ?_ (hK.out (pV bp) rfl)
   simp only [execOp,y_sp]
   go_simp
  ·exact absurd (by decide) him
  ·obtain rfl:ZeW B p=o:=Option.some.inj ho
   dsimp only [ZeW] at hK hd ⊢
   have y_11:=(Ze (x:=x) (ZaD B) 0 11 a hon rfl (show (B+12)<a.tmps.size by omega)).trans ((congrArg x (Nat.zero_add 11)).trans (show x 11=(.tuple #[.int .i64 r.1.1,.int .i64 r.1.2]) from q2 (HQ.out (Zf 11) (by simp [ZeW]) rfl 0 rfl)))
   refine Zh rfl (v:=(.tuple #[.int .i64 r.1.1,.int .i64 r.1.2])) (w2:=w1) ?_ (hK.out ((.tuple #[.int .i64 r.1.1,.int .i64 r.1.2])) rfl)
   simp only [execOp,y_11]
   go_simp
  ·obtain rfl:Zf5 B p=o:=Option.some.inj ho
   dsimp only [Zf5] at hK hd ⊢
   have y_12:=(Ze (x:=x) (ZaD B) 0 12 a hon rfl (show B<a.tmps.size by omega)).trans ((congrArg x (Nat.zero_add 12)).trans (show x 12=(.tuple #[.int .i64 r.1.1,.int .i64 r.1.2]) from hd (Zf 12) (by simp) rfl (by decide)))
   refine Zh rfl (v:=(.int .i64 r.1.1)) (w2:=w1) ?_ (hK.out ((.int .i64 r.1.1)) rfl)
   simp only [execOp,y_12]
   go_simp
  ·obtain rfl:Zf6 B p=o:=Option.some.inj ho
   dsimp only [Zf6] at hK hd ⊢
   have y_12:=(Ze (x:=x) (ZaD B) 0 12 a hon rfl (show B<a.tmps.size by omega)).trans ((congrArg x (Nat.zero_add 12)).trans (show x 12=(.tuple #[.int .i64 r.1.1,.int .i64 r.1.2]) from hd (Zf 12) (by simp) rfl (by decide)))
   refine Zh rfl (v:=(.int .i64 r.1.2)) (w2:=w1) ?_ (hK.out ((.int .i64 r.1.2)) rfl)
   simp only [execOp,y_12]
   go_simp
  ·obtain rfl:Zf7 B p=o:=Option.some.inj ho
   dsimp only [Zf7] at hK hd ⊢
   have y_4:=(Ze (x:=x) (ZaD B) 0 4 a hon rfl (show (B+5)<a.tmps.size by omega)).trans ((congrArg x (Nat.zero_add 4)).trans (show x 4=(.slice (some ⟨g,0,none⟩) 3 cn) from hd (Zf 4) (by simp) rfl (by decide)))
   refine Zh rfl (v:=(.pointer (some ⟨g,1,none⟩))) (w2:=w1) ?_ (hK.out ((.pointer (some ⟨g,1,none⟩))) rfl)
   simp only [execOp,y_4]
   go_simp
  ·exact absurd (by decide) him
  ·obtain rfl:Zf9 B p=o:=Option.some.inj ho
   dsimp only [Zf9] at hK hd ⊢
   have y_9:=(Ze (x:=x) (ZaD B) 0 9 a hon rfl (show (B+10)<a.tmps.size by omega)).trans ((congrArg x (Nat.zero_add 9)).trans (show x 9=(.slice (some ⟨g,0,none⟩) 3 cn) from hd (Zf 9) (by simp) rfl (by decide)))
   refine Zh rfl (v:=(.pointer (some ⟨g,2,none⟩))) (w2:=w1) ?_ (hK.out ((.pointer (some ⟨g,2,none⟩))) rfl)
   simp only [execOp,y_9]
   go_simp
 ·intro q m o hq ho x w1 hW hd K' hK
  have hc:q=0\/q=1:=by have:=(List.getElem?_eq_some_iff.1 hq).1;dsimp only [List.length] at this;omega
  rcases hc with rfl | rfl
  ·obtain rfl:11=m:=Option.some.inj hq
   obtain rfl:Zf4 F B p=o:=Option.some.inj ho
   dsimp only [Zf4] at hK hd ⊢
   have hF0:=hW.F
   have y_10:=(Ze (x:=x) (ZaD B) 0 10 a hon rfl (show (B+11)<a.tmps.size by omega)).trans ((congrArg x (Nat.zero_add 10)).trans (show x 10=pV bp from hd (Zf 10) (by simp) rfl (by decide)))
   refine Zbg rfl (ZaV y_10) (hF _ _) ((hC w1 hW.P).mono ?_)
   rintro e w2 ⟨hf,hok,hbd⟩
   by_cases z:r.2.err=0
   ·obtain ⟨v,rfl,hP,rfl⟩:=hok z
    exact hK.out _ _ ⟨hW.call hP hf,rfl⟩
   ·obtain rfl:=hbd z
    exact hbad z _ _ (Zax _ _ _) (hF0.trans hf)
  ·obtain rfl:16=m:=Option.some.inj hq
   obtain rfl:Zf8 B p=o:=Option.some.inj ho
   dsimp only [Zf8] at hK hd ⊢
   obtain ⟨hW,hv0⟩:=hW
   have y_15:=(Ze (x:=x) (ZaD B) 0 15 a hon rfl (show (B+15)<a.tmps.size by omega)).trans ((congrArg x (Nat.zero_add 15)).trans (show x 15=(.pointer (some ⟨g,1,none⟩)) from hd (Zf 15) (by simp) rfl (by decide)))
   have y_13:=(Ze (x:=x) (ZaD B) 0 13 a hon rfl (show (B+13)<a.tmps.size by omega)).trans ((congrArg x (Nat.zero_add 13)).trans (show x 13=(.int .i64 r.1.1) from hd (Zf 13) (by simp) rfl (by decide)))
   obtain ⟨u0,q1⟩:=hW.slot 1 (by decide)
   have q0:=hW.free 1
   have HW:=zh hW
   clear hW
   refine ZbR rfl (w2:=w1.setCell ⟨g,1,none⟩ (.int .i64 r.1.1)) ?_ (hK.out undef _ ⟨HW.out.put 1 r.1.1,hv0⟩)
   simp only [execOp,y_15,y_13]
   go_simp
 ·intro o ho x w1 hW hd K' hK
  obtain rfl:Zga B p=o:=Option.some.inj ho
  dsimp only [Zga] at hK ⊢
  obtain ⟨hW,hv0⟩:=hW
  have y_17:=(Ze (x:=x) (ZaD B) 0 17 a hon rfl (show (B+16)<a.tmps.size by omega)).trans ((congrArg x (Nat.zero_add 17)).trans (show x 17=(.pointer (some ⟨g,2,none⟩)) from hd 17 (by decide) (by decide)))
  have y_14:=(Ze (x:=x) (ZaD B) 0 14 a hon rfl (show (B+14)<a.tmps.size by omega)).trans ((congrArg x (Nat.zero_add 14)).trans (show x 14=(.int .i64 r.1.2) from hd 14 (by decide) (by decide)))
  obtain ⟨u0,q1⟩:=hW.slot 2 (by decide)
  have q0:=hW.free 2
  have HW:=zh hW
  clear hW
  refine ZbR rfl (w2:=w1.setCell ⟨g,2,none⟩ (.int .i64 r.1.2)) ?_ (hK.out undef _ (HW.out.put 2 r.1.2).way)
  simp only [execOp,y_17,y_14]
  go_simp
 ·exact fun x w1 hE=>h x w1 hE
end
end Go.Proofs.YtfdgeijnkkdplaaDoor
