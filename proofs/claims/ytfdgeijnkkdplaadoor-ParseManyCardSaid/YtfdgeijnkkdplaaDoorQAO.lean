import Derived.Deep.LoopGhost
import Derived.Test.YtfdgeijnkkdplaaDoorQAF
import Derived.Test.YtfdgeijnkkdplaaDoorQAK
import Derived.Test.YtfdgeijnkkdplaaDoorQAN
set_option maxRecDepth 100000
set_option maxHeartbeats 8000000
namespace Go.Proofs.YtfdgeijnkkdplaaDoor
section
open Go.RowKit
theorem Zec {L:List Tok} {k:Nat} (h:LexL L) (hk:k<L.length) (e:(Zx L k).2.1≠[]):k+1<L.length:=by
 rcases Nat.lt_or_ge (k+1) L.length with q | q
 ·exact q
 ·exfalso
  obtain ⟨a,ha⟩:=h.end_
  have hl:L.length=L.dropLast.length+1:=by
   have:=congrArg List.length ha
   simpa using this
  have e1:L[k]? = some (3,[],a):=by
   have:=congrArg (fun l=>l[k]?) ha
   rw [this,List.getElem?_append_right (by omega),show k-L.dropLast.length=0 by omega]
   rfl
  apply e
  unfold Zx
  rw [e1]
  rfl
theorem ParQ.small {w0 w:World} {bp c:Nat} {ad:Addr} {L:List Tok} {s:PS} (h:ParQ w0 w bp ad c L s):(Zx L s.at_).2.1.length<=100000:=by
 obtain ⟨t,ht⟩:∃ t,L[s.at_]? = some t:=⟨_,List.getElem?_eq_getElem h.lt⟩
 unfold Zx
 rw [ht]
 exact h.few.2.2 t (List.mem_of_getElem? ht)
theorem ZR (w0 w:World) (bp c:Nat) (ad:Addr) (L:List Tok) (s:PS) (h:ParQ w0 w bp ad c L s) (ht:Zaf w0 3 Zs) :
  Calls Tryd.prog 32 #[.pointer (some ⟨bp,0,none⟩)] w (Zbv w0 w bp c ad L (Za L s) fun x v _=>v=txt x):=by
 have NX:=zh (fun (w':World) (hb:Below w.heap.size w w')=>Zbq w0 w' bp c ad L s (h.keep hb))
 have hfd:∀ (w:World) (a b c:Value),(Instr.field 47 (.agg #[a,b,c]) 1).run Tryd.prog w=.ok b w:=fun _ _ _ _=>by kernel_rfl
 have hn:=Zii h.few.2.1 h.err h.lt
 have hnow:Zak L s=Zx L s.at_:=by unfold Zak;rw [if_neg (by simp [h.err])]
 have H:=zh h
 have NM:=zh (fun (w':World) (hb:Below w.heap.size w w')=>Zlb ⟨(Zx L s.at_).2.1.toArray⟩ w' (by have:=h.small;show (Zx L s.at_).2.1.toArray.size<=maxLen;rw [List.size_toArray];unfold maxLen;omega) (ht.below (h.below.trans (hb.mono h.below.size))))
 have e0:(⟨(Zx L s.at_).2.1.toArray⟩:ByteArray).data.toList=(Zx L s.at_).2.1:=rfl
 rw [e0] at NM
 clear e0 ht
 cases q:Zbn (Zx L s.at_).2.1 with
 | true=>
  have hr:Za L s=((Zx L s.at_).2.1,Zb s):=by unfold Za;rw [if_pos (by rw [hn];exact q),hnow]
  rw [hr]
  have hne:(Zx L s.at_).2.1≠[]:=fun e=>by rw [e] at q;cases q
  have TK:=zh (fun (w':World) (hb:Below w.heap.size w w')=>ZdQ w0 w' bp c ad L s (H.out.keep hb) (Zec H.out.few.2.1 H.out.lt hne))
  rw [q] at NM
  clear hn hnow h q hr hne
  go_enter Tryd.func32,Tryd.ntmps32
  go_wp2_with (first
   | (go_at_call 20;(with_reducible refine (NX.out _ (Below.refl _ _)).mono ?_);rintro e1 w1 ⟨rfl,hb⟩)
   | (go_at_call 42;(refine (NM.out _ hb).mono ?_);rintro e2 w2 ⟨rfl,rfl⟩)
   | (go_at_call 31;(refine (TK.out _ hb).mono ?_);rintro e3 w3 ⟨rfl,hP,hF⟩))
  exact bodyPost_ret (v:=txt (Zx L s.at_).2.1) (by simp [results,Tryd.results32,go_sem]) rfl ⟨(FrP.of_below bp hb).trans hF,fun _=>⟨_,rfl,hP,rfl⟩,fun e=>absurd hP.err e⟩
 | false=>
  have hf:ZL L 11 s={ s with err:=11,fat:=(Zx L s.at_).2.2 }:=by unfold ZL;rw [if_pos h.err]
  have hr:Za L s=([],{ s with err:=11,fat:=(Zx L s.at_).2.2 }):=by unfold Za;rw [if_neg (by rw [hn,q];simp),hf]
  rw [hr]
  have FL:=zh (fun (w':World) (hb:Below w.heap.size w w')=>Zcw w0 w' bp c ad L s (H.out.keep hb) 11)
  rw [q] at NM
  clear hn hnow h q hr hf
  go_enter Tryd.func32,Tryd.ntmps32
  go_wp2_with (first
   | (go_at_call 20;(with_reducible refine (NX.out _ (Below.refl _ _)).mono ?_);rintro e1 w1 ⟨rfl,hb⟩)
   | (go_at_call 42;(refine (NM.out _ hb).mono ?_);rintro e2 w2 ⟨rfl,rfl⟩)
   | (go_at_call 43;(refine (FL.out _ hb).mono ?_);rintro e3 w3 ⟨rfl,hb3⟩))
  exact ⟨rfl,FrP.of_below bp (hb.trans (hb3.mono hb.size)),fun e=>absurd e (show ¬ (11:Int)=0 by decide),fun _=>rfl⟩
theorem ZK (w0 w:World) (bp c:Nat) (ad:Addr) (L:List Tok) (s:PS) (h:ParQ w0 w bp ad c L s) (k:Int) :
  Calls Tryd.prog 19 #[.pointer (some ⟨bp,0,none⟩),.int .i64 k] w fun r w'=>∃ b,r=.returned (.pointer (some ⟨b,0,none⟩))/\Zy w' b 59 #[.int .i64 k,.slice none 0 0,.slice none 0 0,.slice none 0 0,.int .i64 (Zx L s.at_).2.2,.slice none 0 0]/\w.heap.size<=b/\Below w.heap.size w w':=by
 have NX:=zh (Zbq w0 w bp c ad L s h)
 have hfd:∀ (w:World) (a b:Value) (c:Int),(Instr.field 47 (.agg #[a,b,.int .i64 c]) 2).run Tryd.prog w=.ok (.int .i64 c) w:=fun _ _ _ _=>by kernel_rfl
 clear h
 go_enter Tryd.func19,Tryd.ntmps19
 go_wp2_with (go_at_call 20;(with_reducible refine NX.out.mono ?_);rintro e1 w1 ⟨rfl,hb⟩)
 exact bodyPost_ret (v:=.pointer (some ⟨w1.heap.size,0,none⟩)) (by simp [results,Tryd.results19,go_sem]) rfl ⟨_,rfl,Zy.start w1 _ _,hb.size,hb.trans ((below_alloc1 w1 _).mono hb.size)⟩
end
section
open Go.RowKit
def Zd3:List (List UInt8):=[ZaX 0,ZaX 1,ZaX 2,ZaX 3,ZaX 4]
theorem ZlZ:∀ j:Nat,j<5->PW (ZaX (j:Int)):=fun j hj=>by
 have:∀ j:Nat,j<5->ZaX (j:Int)≠[]/\isKey (ZaX (j:Int))=true:=by decide
 exact ⟨(this j hj).1,.inl (this j hj).2⟩
theorem ZcE {w:World} {l:List (List UInt8)} {g k:Nat} {s:List UInt8} (h:Zaf w g l) (hk:l[k]? = some s):w.cell? ⟨g,k,none⟩=some (txt s):=by
 obtain ⟨t,fr,e⟩:=h
 simp [World.cell?,e,hk]
theorem Zk9:∀ j:Nat,j<5->Zd3[j]? = some (ZaX (j:Int)):=by decide
theorem Zea (L:List Tok) (s:PS):∀ j:Nat,j<5->Zz L (Zo j) s=if isM L (ZaX (j:Int)) s then ((j:Int),Zb s) else Zz L (Zo (j+1)) s:=by
 intro j hj
 have:j=0\/j=1\/j=2\/j=3\/j=4:=by omega
 rcases this with rfl | rfl | rfl | rfl | rfl<;>rfl
def kiR (bp jj:Nat):Nat->Value->World->Prop
 | 0,v,_=>v=.pointer (some ⟨bp,0,none⟩)
 | 1,v,_=>v=.pointer (some ⟨bp,0,none⟩)
 | 2,v,_=>v=.pointer (some ⟨bp,0,none⟩)
 | 3,v,_=>v=.int .i64 jj
 | 4,v,_=>v=.pointer (some ⟨1,jj,none⟩)
 | 5,v,_=>v=txt (ZaX jj)
 | _,_,_=>True
theorem Zk8 (bp jj:Nat):∀ j v w1 w2,Below w1.heap.size w1 w2->kiR bp jj j v w1->kiR bp jj j v w2
 | 0,_,_,_,_,h=>h
 | 1,_,_,_,_,h=>h
 | 2,_,_,_,_,h=>h
 | 3,_,_,_,_,h=>h
 | 4,_,_,_,_,h=>h
 | 5,_,_,_,_,h=>h
 | _+6,_,_,_,_,_=>trivial
theorem ZdP (w0 wS:World) (bp c:Nat) (ad:Addr) (L:List Tok) (s:PS) (h:ParQ w0 wS bp ad c L s) (ht:Zaf w0 1 Zd3) (m:Nat) (hm:m<5) :
  Calls Tryd.prog 46 #[.pointer (some ⟨bp,0,none⟩),.int .i64 m] wS (Zbv w0 wS bp c ad L (Zz L (Zo m) s) fun x v _=>v=.int .i64 x):=by
 have H:=zh h
 have HT:=zh ht
 have HM:=zh hm
 clear h ht hm
 go_enter Tryd.func46,Tryd.ntmps46
 go_upto_region 2 with fail
 go_loopg [5] (5-m) (fun g v5 wr=>∃ j:Nat,v5=.int .i64 j/\j<5/\g=5-j/\Zz L (Zo m) s=Zz L (Zo j) s/\ParQ w0 wr bp ad c L s/\FrP wS wr bp)
 case atStart=>exact ⟨m,rfl,HM.out,rfl,rfl,H.out,FrP.refl _ _⟩
 case round=>
  obtain ⟨j,rfl,hj,hg,hk,hP,hF⟩:=hrel
  have i0:(0:Int)<=(j:Int):=by omega
  have i1:(j:Int)<5:=by omega
  have HP:=zh hP
  have HF:=zh hF
  have HJ:=zh (zi hj (zi hk hg))
  clear hP hF hj hk hg
  have KC:=zh (fun (w':World) (hb:Below wr.heap.size wr w')=>ZcE ((HT.out.below HP.out.below).below hb) (Zk9 j HJ.out.1))
  go_upto_region 2 with fail
  refine Ze5 6 (fun x=>{ tmps:=#[.pointer (some ⟨bp,0,none⟩),.int .i64 m,undef,undef,.int .i64 0,.int .i64 j,.int .i64 m,x 0,x 1,x 2,x 3,x 4,x 5,x 6,x 7,u15,u16,u17,u18,u19,u20,u21,u22,undef],defers:=[] }) (fun i=>[u7,u8,u9,u10,u11,u12,u13,u14].getD i undef) (kiR bp j) (fun x w=>∃ b:Bool,x 6=.bool b/\b=(Zad L (ZaX j) s).1/\ParQ w0 w bp ad c L (Zad L (ZaX j) s).2/\FrP wS w bp) (fun x w=>∃ b:Bool,x 6=.bool b/\x 7=.bool (!b)/\b=(Zad L (ZaX j) s).1/\ParQ w0 w bp ad c L (Zad L (ZaX j) s).2/\FrP wS w bp) rfl (by kernel_rfl) (by kernel_rfl) (by kernel_rfl) (by kernel_rfl) (by rfl) ?_ (Zk8 bp j) ?_ ?_ ?_ ?_
  ·intro i o ho x v
   have hi:i<8:=(Array.getElem?_eq_some_iff.1 ho).1
   have hc:i=0\/i=1\/i=2\/i=3\/i=4\/i=5\/i=6\/i=7:=by omega
   rcases hc with rfl | rfl | rfl | rfl | rfl | rfl | rfl | rfl <;>
   ·have e:=Option.some.inj ho
    subst e
    rfl
  ·intro i o hik ho x w1 hz hb hd K' hK
   have hc:i=0\/i=1\/i=2\/i=3\/i=4\/i=5:=by omega
   rcases hc with rfl | rfl | rfl | rfl | rfl | rfl<;>(have e:=Option.some.inj ho;subst e)
   ·clear hz
    go_simp
    exact hK.out _ _ (Below.refl _ _) rfl
   ·clear hz
    have d0:=hd ⟨0,.data⟩ (by simp) rfl
    dsimp only [kiR] at d0
    generalize x 0=z0 at *
    subst d0
    go_simp
    exact hK.out _ _ (Below.refl _ _) rfl
   ·clear hz
    have d1:=hd ⟨1,.data⟩ (by simp) rfl
    dsimp only [kiR] at d1
    generalize x 1=z1 at *
    subst d1
    go_simp
    exact hK.out _ _ (Below.refl _ _) rfl
   ·clear hz
    go_simp
    exact hK.out _ _ (Below.refl _ _) rfl
   ·clear hz
    have d3:=hd ⟨3,.data⟩ (by simp) rfl
    dsimp only [kiR] at d3
    generalize x 3=z3 at *
    subst d3
    go_simp
    exact hK.out _ _ (Below.refl _ _) rfl
   ·clear hz
    have d4:=hd ⟨4,.data⟩ (by simp) rfl
    dsimp only [kiR] at d4
    generalize x 4=z4 at *
    subst d4
    have q0:=KC.out w1 hb
    go_simp
    exact hK.out _ _ (Below.refl _ _) rfl
  ·intro o ho x w1 hz hb hx K' hK
   clear hz
   have e:=Option.some.inj ho
   subst e
   have d2:=hx 2 (by decide)
   have d5:=hx 5 (by decide)
   dsimp only [kiR] at d2 d5
   generalize x 2=z2 at *
   generalize x 5=z5 at *
   subst d2 d5
   go_simp
   go_at_call 21
   refine (Zg w0 w1 bp c ad L s (HP.out.keep hb) (ZaX j) (ZlZ j HJ.out.1)).mono ?_
   rintro e' w2 ⟨rfl,hP2,hF2⟩
   go_wp2_with fail
   exact hK.out _ _ ⟨_,rfl,rfl,hP2,HF.out.trans ((FrP.of_below bp hb).trans hF2)⟩
  ·intro o ho x w1 hE K' hK
   have e:=Option.some.inj ho
   subst e
   obtain ⟨b,e6,eb,hP2,hF2⟩:=hE
   generalize hg:x 6=z6 at *
   subst e6
   have EB:=zh eb
   have HG:=zh hg
   clear eb hg
   go_simp
   exact hK.out _ _ ⟨b,HG.out,rfl,EB.out,hP2,hF2⟩
  ·intro x w1 hF
   obtain ⟨b,e6,e7,eb,hP2,hF2⟩:=hF
   generalize x 0=y0 at *
   generalize x 1=y1 at *
   generalize x 2=y2 at *
   generalize x 3=y3 at *
   generalize x 4=y4 at *
   generalize x 5=y5 at *
   generalize x 6=y6 at *
   generalize x 7=y7 at *
   subst e6 e7
   cases hi:isM L (ZaX j) s with
   | true=>
    have ht:Zad L (ZaX j) s=(true,Zb s):=by unfold Zad;rw [if_pos hi]
    rw [ht] at eb hP2
    have hr:Zz L (Zo m) s=((j:Int),Zb s):=by rw [HJ.out.2.1,Zea L s j HJ.out.1,if_pos hi]
    subst eb
    have HR:=zh hr
    have FIN:=zh (zi hP2 hF2)
    clear hr ht hP2 hF2 hi
    go_wp2_with fail
    go_ret
    rw [HR.out]
    exact ⟨FIN.out.2,fun _=>⟨_,rfl,FIN.out.1,rfl⟩,fun e=>absurd FIN.out.1.err e⟩
   | false=>
    have ht:Zad L (ZaX j) s=(false,s):=by unfold Zad;rw [if_neg (by simp [hi])]
    rw [ht] at eb hP2
    have hr:Zz L (Zo m) s=Zz L (Zo (j+1)) s:=by rw [HJ.out.2.1,Zea L s j HJ.out.1,hi];rfl
    subst eb
    have wj:IntKind.i64.wrap ((j:Int)+1)=(j:Int)+1:=IntWalk.i64_in _ (by have:=HJ.out.1;omega)
    have FIN:=zh (zi hP2 (zi hF2 hr))
    clear ht hr
    by_cases h5:j+1=5
    ·have e5:((j:Int)+1==5)=true:=by simp;omega
     have FX:=zh (Zcw w0 _ bp c ad L s hP2 11)
     have hf:ZL L 11 s={ s with err:=11,fat:=(Zx L s.at_).2.2 }:=by unfold ZL;rw [if_pos hP2.err]
     have hr:Zz L (Zo m) s=(0,{ s with err:=11,fat:=(Zx L s.at_).2.2 }):=by rw [FIN.out.2.2,h5];show (0,ZL L 11 s)=_;rw [hf]
     have HR:=zh hr
     clear hr hf hP2 hF2 hi h5
     go_wp2_with (go_at_call 43;(refine FX.out.mono ?_);rintro e2 w3 ⟨rfl,hb3⟩)
     refine ⟨rfl,?_⟩
     rw [HR.out]
     exact ⟨FIN.out.2.1.trans (FrP.of_below bp hb3),fun e=>absurd e (show ¬ (11:Int)=0 by decide),fun _=>rfl⟩
    ·have e5:((j:Int)+1==5)=false:=by simp;omega
     have HX:=zh h5
     clear hP2 hF2 hi h5
     go_wp2_with fail
     go_roundg (5-(j+1))
     case measure=>have:=HJ.out;have:=HX.out;omega
     case rel=>exact ⟨j+1,by push_cast;rfl,by have:=HJ.out.1;have:=HX.out;omega,rfl,FIN.out.2.2,FIN.out.1,FIN.out.2.1⟩
end
end Go.Proofs.YtfdgeijnkkdplaaDoor
