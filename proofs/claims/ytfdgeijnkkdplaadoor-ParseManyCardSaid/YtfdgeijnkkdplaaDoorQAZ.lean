import Derived.Test.YtfdgeijnkkdplaaDoorQAY
set_option maxRecDepth 100000
set_option maxHeartbeats 8000000
namespace Go.Proofs.YtfdgeijnkkdplaaDoor
section
open Go Go.RowKit
structure WayR (wS w:World) (bp:Nat) (k:Int) (ws:List Txt) (ns:List Int) (at_:Int) (kids:List Tr) (b:Nat) (xs:List (Nat×TypeId×Array Value)):Prop where
 F:FrP wS w bp
 X:BrW w wS.heap.size k ws ns at_ kids b xs
 lt:bp<wS.heap.size
section
variable {w0 wS w:World} {bp c:Nat} {ad:Addr} {L:List Tok} {s:PS} {k:Int} {ws:List Txt} {ns:List Int} {at_:Int} {kids:List Tr} {b:Nat} {xs:List (Nat×TypeId×Array Value)}
theorem Way.rest (h:Way w0 wS w bp c ad L s k ws ns at_ kids b xs):WayR wS w bp k ws ns at_ kids b xs:=⟨h.F,h.X,h.lt⟩
theorem WayR.way (h:WayR wS w bp k ws ns at_ kids b xs) (hP:ParQ w0 w bp ad c L s):Way w0 wS w bp c ad L s k ws ns at_ kids b xs:=⟨hP,h.F,h.X,h.lt⟩
theorem WayR.call (h:WayR wS w bp k ws ns at_ kids b xs) {w':World} (hF:FrP w w' bp):WayR wS w' bp k ws ns at_ kids b xs:=by
 obtain ⟨vw,vn,vk,bs,K,X⟩:=h.X
 exact ⟨h.F.trans hF,⟨vw,vn,vk,bs,K,X.call hF h.lt⟩,h.lt⟩
abbrev ZbU (wS:World) (bp:Nat):Nat->Prop:=fun j=>j=bp\/wS.heap.size<=j
theorem FrP.frz {w':World} (h:FrP wS w bp) (hz:FrZ (ZbU wS bp) w w'):FrP wS w' bp:=
 ⟨hz.os.trans h.os,hz.tape.trans h.tape,hz.output.trans h.output,hz.low _ bp rfl h.size,fun j hj hn=>(hz.block j (Nat.lt_of_lt_of_le hj h.size) (fun e=>e.elim (fun e=>hn (by rw [e])) (fun e=>by omega))).trans (h.block j hj hn)⟩
theorem ZaG {w':World} (hlt:bp<wS.heap.size) (h:FrP wS w bp) (h':FrP wS w' bp):FrZ (ZbU wS bp) w w':=by
 refine ⟨h'.os.trans h.os.symm,h'.tape.trans h.tape.symm,h'.output.trans h.output.symm,fun z b e q=>?_,fun j _ hn=>?_⟩
 ·have e1:=(congrFun e bp).mp (Or.inl rfl)
  have e2:=(congrFun e wS.heap.size).mp (Or.inr (Nat.le_refl _))
  have:=h'.size
  omega
 have h1:j≠bp:=fun e=>hn (Or.inl e)
 have h2:j<wS.heap.size:=Nat.lt_of_not_le fun e=>hn (Or.inr e)
 exact (h'.block j h2 (fun e=>by injection e with e;exact h1 (by first | exact e | exact e.symm))).trans (h.block j h2 (fun e=>by injection e with e;exact h1 (by first | exact e | exact e.symm))).symm
end
def ZdY (F X:Nat):Prop:=∀ (w0 wS:World) (bp c:Nat) (ad:Addr) (L:List Tok) (k:Int) (ws:List Txt) (ns:List Int) (at_:Int) (b:Nat) (xs:List (Nat×TypeId×Array Value)) (px bx:Nat) (Dom:PS->Prop) (M:PS->Tr×PS),
 (bx,39,#[brV b])∈xs->(px,63,#[pV bp])∈xs->Zw w0 bp c ad L X #[pV bp] Dom M->L.length<=100000 ->
 ZhF w0 bp c ad L F #[pV bx,pV px] (ZbU wS bp) Dom (fun w l=>WayR wS w bp k ws ns at_ l b xs) M
end
section
open Go Go.RowKit
theorem ZfM:ZdY 35 36:=by
 intro w0 wS bp c ad L k ws ns at_ b xs px bx Dom M hbx hpx hE hL w s l hP hD hl hR
 have EC:=zh (fun w1 h1=>hE w1 s h1 hD)
 have HB:=zh (zi hbx hpx)
 have HR:=zh (hR.way hP)
 have HL:=zh (show l.length<=200000 by have:=hP.lt;omega)
 clear hbx hpx hE hR hl hL hP hD
 go_enter Tryd.func35,Tryd.ntmps35
 refine ZcW (fun _ _=>by kernel_rfl) 2 1 0 HR.out HB.out.1 HB.out.2 HL.out EC.out ?bad ?good
 case bad=>
  intro z a' w' hd hF
  exact ⟨hd,ZaG HR.out.lt HR.out.F hF,fun e=>absurd e z,fun _=>rfl⟩
 case good=>
  rintro x w' ⟨hW,hD,hat⟩
  go_wp2_with fail
  go_end0
  exact ⟨ZaG HR.out.lt HR.out.F hW.F,fun _=>⟨rfl,hW.P,hD,hat,hW.rest⟩,fun e=>absurd hW.P.err e⟩
theorem Zkg:ZdY 38 39:=by
 intro w0 wS bp c ad L k ws ns at_ b xs px bx Dom M hbx hpx hE hL w s l hP hD hl hR
 have EC:=zh (fun w1 h1=>hE w1 s h1 hD)
 have HB:=zh (zi hbx hpx)
 have HR:=zh (hR.way hP)
 have HL:=zh (show l.length<=200000 by have:=hP.lt;omega)
 clear hbx hpx hE hR hl hL hP hD
 go_enter Tryd.func38,Tryd.ntmps38
 refine ZcW (fun _ _=>by kernel_rfl) 2 1 0 HR.out HB.out.1 HB.out.2 HL.out EC.out ?bad ?good
 case bad=>
  intro z a' w' hd hF
  exact ⟨hd,ZaG HR.out.lt HR.out.F hF,fun e=>absurd e z,fun _=>rfl⟩
 case good=>
  rintro x w' ⟨hW,hD,hat⟩
  go_wp2_with fail
  go_end0
  exact ⟨ZaG HR.out.lt HR.out.F hW.F,fun _=>⟨rfl,hW.P,hD,hat,hW.rest⟩,fun e=>absurd hW.P.err e⟩
theorem ZeR:ZdY 51 52:=by
 intro w0 wS bp c ad L k ws ns at_ b xs px bx Dom M hbx hpx hE hL w s l hP hD hl hR
 have EC:=zh (fun w1 h1=>hE w1 s h1 hD)
 have HB:=zh (zi hbx hpx)
 have HR:=zh (hR.way hP)
 have HL:=zh (show l.length<=200000 by have:=hP.lt;omega)
 clear hbx hpx hE hR hl hL hP hD
 go_enter Tryd.func51,Tryd.ntmps51
 refine ZcW (fun _ _=>by kernel_rfl) 2 1 0 HR.out HB.out.1 HB.out.2 HL.out EC.out ?bad ?good
 case bad=>
  intro z a' w' hd hF
  exact ⟨hd,ZaG HR.out.lt HR.out.F hF,fun e=>absurd e z,fun _=>rfl⟩
 case good=>
  rintro x w' ⟨hW,hD,hat⟩
  go_wp2_with fail
  go_end0
  exact ⟨ZaG HR.out.lt HR.out.F hW.F,fun _=>⟨rfl,hW.P,hD,hat,hW.rest⟩,fun e=>absurd hW.P.err e⟩
theorem Zkf:ZdY 64 65:=by
 intro w0 wS bp c ad L k ws ns at_ b xs px bx Dom M hbx hpx hE hL w s l hP hD hl hR
 have EC:=zh (fun w1 h1=>hE w1 s h1 hD)
 have HB:=zh (zi hbx hpx)
 have HR:=zh (hR.way hP)
 have HL:=zh (show l.length<=200000 by have:=hP.lt;omega)
 clear hbx hpx hE hR hl hL hP hD
 go_enter Tryd.func64,Tryd.ntmps64
 refine ZcW (fun _ _=>by kernel_rfl) 2 1 0 HR.out HB.out.1 HB.out.2 HL.out EC.out ?bad ?good
 case bad=>
  intro z a' w' hd hF
  exact ⟨hd,ZaG HR.out.lt HR.out.F hF,fun e=>absurd e z,fun _=>rfl⟩
 case good=>
  rintro x w' ⟨hW,hD,hat⟩
  go_wp2_with fail
  go_end0
  exact ⟨ZaG HR.out.lt HR.out.F hW.F,fun _=>⟨rfl,hW.P,hD,hat,hW.rest⟩,fun e=>absurd hW.P.err e⟩
theorem Zd6:ZdY 66 67:=by
 intro w0 wS bp c ad L k ws ns at_ b xs px bx Dom M hbx hpx hE hL w s l hP hD hl hR
 have EC:=zh (fun w1 h1=>hE w1 s h1 hD)
 have HB:=zh (zi hbx hpx)
 have HR:=zh (hR.way hP)
 have HL:=zh (show l.length<=200000 by have:=hP.lt;omega)
 clear hbx hpx hE hR hl hL hP hD
 go_enter Tryd.func66,Tryd.ntmps66
 refine ZcW (fun _ _=>by kernel_rfl) 2 1 0 HR.out HB.out.1 HB.out.2 HL.out EC.out ?bad ?good
 case bad=>
  intro z a' w' hd hF
  exact ⟨hd,ZaG HR.out.lt HR.out.F hF,fun e=>absurd e z,fun _=>rfl⟩
 case good=>
  rintro x w' ⟨hW,hD,hat⟩
  go_wp2_with fail
  go_end0
  exact ⟨ZaG HR.out.lt HR.out.F hW.F,fun _=>⟨rfl,hW.P,hD,hat,hW.rest⟩,fun e=>absurd hW.P.err e⟩
theorem Zha:ZdY 86 80:=by
 intro w0 wS bp c ad L k ws ns at_ b xs px bx Dom M hbx hpx hE hL w s l hP hD hl hR
 have EC:=zh (fun w1 h1=>hE w1 s h1 hD)
 have HB:=zh (zi hbx hpx)
 have HR:=zh (hR.way hP)
 have HL:=zh (show l.length<=200000 by have:=hP.lt;omega)
 clear hbx hpx hE hR hl hL hP hD
 go_enter Tryd.func86,Tryd.ntmps86
 refine ZcW (fun _ _=>by kernel_rfl) 2 1 0 HR.out HB.out.1 HB.out.2 HL.out EC.out ?bad ?good
 case bad=>
  intro z a' w' hd hF
  exact ⟨hd,ZaG HR.out.lt HR.out.F hF,fun e=>absurd e z,fun _=>rfl⟩
 case good=>
  rintro x w' ⟨hW,hD,hat⟩
  go_wp2_with fail
  go_end0
  exact ⟨ZaG HR.out.lt HR.out.F hW.F,fun _=>⟨rfl,hW.P,hD,hat,hW.rest⟩,fun e=>absurd hW.P.err e⟩
end
end Go.Proofs.YtfdgeijnkkdplaaDoor
