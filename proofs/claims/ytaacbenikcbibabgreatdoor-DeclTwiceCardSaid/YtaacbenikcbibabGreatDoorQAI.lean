import Derived.Test.YtaacbenikcbibabGreatDoorQAH
set_option maxRecDepth 100000
set_option maxHeartbeats 8000000
namespace Go.Proofs.YtaacbenikcbibabGreatDoor
section
open Go.RowKit
def Zy (p:Pro):Int×Int:=
 if p.states.length=0\/16<p.states.length then (1,0)
 else if 0<=ZH (Zb8 p.states) p.states.length then (1,ZH (Zb8 p.states) p.states.length)
 else if 0<=ZX (ZZ p.states.length) p.moves then (2,ZX (ZZ p.states.length) p.moves)
 else if 0<=ZH (Zb7 p.moves) p.moves.length then (3,ZH (Zb7 p.moves) p.moves.length)
 else if 0<=ZX (Zbu p.states) p.moves then (4,ZX (Zbu p.states) p.moves)
 else if 0<=ZH (ZaZ p) p.states.length then (5,ZH (ZaZ p) p.states.length)
 else (0,0)
theorem ZhB {α:Type} {f:α->Bool} {l:List α} (h:¬ 0<=ZX f l):∀ x∈l,f x=false:=by
 unfold ZX at h
 cases q:l.findIdx? f with
 | none=>rw [List.findIdx?_eq_none_iff] at q;exact q
 | some k=>rw [q] at h;exact absurd (Int.natCast_nonneg k) h
theorem Zdy {p:Pro} (h:¬ 0<=ZX (ZZ p.states.length) p.moves):Fits p:=by
 have ha:=ZhB h
 have nb:∀ {n:Nat} {x:Int},Za1 n x=false->0<=x/\x<(n:Int):=by
  intro n x q
  unfold Za1 at q
  rw [Bool.or_eq_false_iff,decide_eq_false_iff_not,decide_eq_false_iff_not] at q
  omega
 refine ⟨fun m hm=>?_,fun m hm o ho=>?_⟩
 ·have:=ha m hm
  unfold ZZ at this
  rw [Bool.or_eq_false_iff,Bool.or_eq_false_iff] at this
  exact nb this.1.1
 ·have:=ha m hm
  unfold ZZ at this
  rw [Bool.or_eq_false_iff,Bool.or_eq_false_iff,List.any_eq_false] at this
  refine nb ?_
  have:=this.2 o ho
  simpa using this
theorem Zd0 (w:World) (vs vm:Value) (p:Pro) (h:ProAt w vs vm p) (hml:p.moves.length<1000000) (hol:∀ m∈p.moves,m.outs.length<1000000) :
  Calls Tryz.prog 32 #[ZaF vs vm p] w fun e w'=>e=.returned (.tuple #[.int .i64 (Zy p).1,.int .i64 (Zy p).2])/\Below w.heap.size w w':=by
 obtain ⟨As,cs,rfl,hls⟩:=h.states.len
 have a1:=Za w (.cells #[txt p.name,.slice As p.states.length cs,vm] 41)
 have B1:=Blk.start w #[txt p.name,.slice As p.states.length cs,vm] 41
 have c1:=B1.cell 1
 simp only [List.getElem?_toArray,List.getElem?_cons_zero,List.getElem?_cons_succ] at c1
 have HA:=Lib.hid (And.intro a1 B1)
 by_cases hbad:p.states.length=0\/16<p.states.length
 ·have hw:Zy p=(1,0):=by unfold Zy;rw [if_pos hbad]
  rw [hw]
  have HP:=Lib.hid h
  clear h a1 B1 hml hol hw
  rcases hbad with q | q
  ·have i1:((p.states.length:Int)==0)=true:=by rw [q];rfl
   have HQ:=Lib.hid q
   clear q
   go_enter Tryz.func32,Tryz.ntmps32
   go_wp2_with fail
   exact bodyPost_ret (v:=.tuple #[.int .i64 1,.int .i64 0]) (by simp [results,Tryz.results32,go_sem]) rfl ⟨rfl,HA.out.1⟩
  ·have i1:((p.states.length:Int)==0)=false:=by rw [beq_eq_false_iff_ne];omega
   have i2:(16:Int)<(p.states.length:Int):=by omega
   have i3:16<p.states.length:=q
   have HQ:=Lib.hid q
   clear q
   go_enter Tryz.func32,Tryz.ntmps32
   go_wp2_with fail
   exact bodyPost_ret (v:=.tuple #[.int .i64 1,.int .i64 0]) (by simp [results,Tryz.results32,go_sem]) rfl ⟨rfl,HA.out.1⟩
 ·have hn:p.states.length<=16:=by omega
  have hn0:¬ p.states.length=0:=by omega
  have HW:Zy p=(if 0<=ZH (Zb8 p.states) p.states.length then (1,ZH (Zb8 p.states) p.states.length) else if 0<=ZX (ZZ p.states.length) p.moves then (2,ZX (ZZ p.states.length) p.moves) else if 0<=ZH (Zb7 p.moves) p.moves.length then (3,ZH (Zb7 p.moves) p.moves.length) else if 0<=ZX (Zbu p.states) p.moves then (4,ZX (Zbu p.states) p.moves) else if 0<=ZH (ZaZ p) p.states.length then (5,ZH (ZaZ p) p.states.length) else (0,0)):=by unfold Zy;rw [if_neg hbad]
  have C0:=Lib.hid (fun (wr:World) (hb:Below w.heap.size w wr)=>Zh2 wr _ vm p (h.below hb) hn)
  have C1:=Lib.hid (fun (wr:World) (hb:Below w.heap.size w wr)=>ZfT wr _ vm p (h.below hb))
  have C2:=Lib.hid (fun (wr:World) (hb:Below w.heap.size w wr) (hf:¬ 0<=ZX (ZZ p.states.length) p.moves)=>Zhm wr _ vm p (h.below hb) (Zdy hf) hn hml hol)
  have C3:=Lib.hid (fun (wr:World) (hb:Below w.heap.size w wr) (hf:¬ 0<=ZX (ZZ p.states.length) p.moves)=>Zd3 wr _ vm p (h.below hb) (Zdy hf))
  have C4:=Lib.hid (fun (wr:World) (hb:Below w.heap.size w wr) (hf:¬ 0<=ZX (ZZ p.states.length) p.moves)=>Zhh wr _ vm p (h.below hb) (Zdy hf) hn)
  generalize ZH (Zb8 p.states) p.states.length=z0 at *
  generalize ZX (ZZ p.states.length) p.moves=z1 at *
  generalize ZH (Zb7 p.moves) p.moves.length=z2 at *
  generalize ZX (Zbu p.states) p.moves=z3 at *
  generalize ZH (ZaZ p) p.states.length=z4 at *
  generalize Zy p=r at *
  have RW:=Lib.hid HW
  clear HW h hml hol a1 B1 hbad
  have i1:((p.states.length:Int)==0)=false:=by rw [beq_eq_false_iff_ne];omega
  have i2:decide (16<p.states.length)=false:=decide_eq_false (by omega)
  have i3:decide ((16:Int)<(p.states.length:Int))=false:=decide_eq_false (by omega)
  have i4:¬ (16:Int)<(p.states.length:Int):=by omega
  have HN:=Lib.hid (And.intro hn hn0)
  clear hn hn0
  go_enter Tryz.func32,Tryz.ntmps32
  go_wp2_with fail
  go_loopg [18] 5 (fun g v18 wr=>∃ k:Nat,v18=.int .i64 k/\k<=5/\g=5-k/\Blk wr w.heap.size #[txt p.name,.slice As p.states.length cs,vm]/\Below w.heap.size w wr/\(0<k->¬ 0<=z0)/\(1<k->¬ 0<=z1)/\(2<k->¬ 0<=z2)/\(3<k->¬ 0<=z3)/\(4<k->¬ 0<=z4))
  case atStart=>exact ⟨0,rfl,by omega,rfl,HA.out.2,HA.out.1,(fun h=>by omega),(fun h=>by omega),(fun h=>by omega),(fun h=>by omega),(fun h=>by omega)⟩
  case round=>
   obtain ⟨k,rfl,hk,hg,hB,hb,n0,n1,n2,n3,n4⟩:=hrel
   have e0:=hB.cell 0
   have e1:=hB.cell 1
   have e2:=hB.cell 2
   simp only [List.getElem?_toArray,List.getElem?_cons_zero,List.getElem?_cons_succ] at e0 e1 e2
   have HE:=Lib.hid (And.intro hB hb)
   have hk6:k=0\/k=1\/k=2\/k=3\/k=4\/k=5:=by omega
   have H5:=Lib.hid hg
   clear hB hb hg hk
   rcases hk6 with rfl | rfl | rfl | rfl | rfl | rfl
   ·have NN:=Lib.hid True.intro
    clear n0 n1 n2 n3 n4
    by_cases q:0<=z0
    ·have hix:(Instr.index 104 (.agg #[.func (.func 47) #[] #[],.func (.func 48) #[] #[],.func (.func 49) #[] #[],.func (.func 50) #[] #[],.func (.func 51) #[] #[]]) (.int .i64 0)).run Tryz.prog wr=.ok (.func (.func 47) #[] #[]) wr:=by kernel_rfl
     go_wp2_with (go_at_call 47;(refine (C0.out _ HE.out.2).mono ?_);rintro e w1 ⟨rfl,hb1⟩;have H1:=Lib.hid hb1;clear hb1)
     refine bodyPost_ret (v:=.tuple #[.int .i64 1,.int .i64 z0]) (by simp [results,Tryz.results32,go_sem]) rfl ⟨?_,HE.out.2.trans (H1.out.mono HE.out.2.size)⟩
     rw [RW.out,if_pos q]
    ·have q':decide (0<=z0)=false:=decide_eq_false q
     have HQ:=Lib.hid q
     clear q
     have hix:(Instr.index 104 (.agg #[.func (.func 47) #[] #[],.func (.func 48) #[] #[],.func (.func 49) #[] #[],.func (.func 50) #[] #[],.func (.func 51) #[] #[]]) (.int .i64 0)).run Tryz.prog wr=.ok (.func (.func 47) #[] #[]) wr:=by kernel_rfl
     go_wp2_with (go_at_call 47;(refine (C0.out _ HE.out.2).mono ?_);rintro e w1 ⟨rfl,hb1⟩;have H1:=Lib.hid hb1;clear hb1)
     go_roundg (5-1)
     case measure=>have:=H5.out;omega
     case rel=>exact ⟨1,rfl,by omega,rfl,HE.out.1.keep H1.out,HE.out.2.trans (H1.out.mono HE.out.2.size),(fun _=>HQ.out),(fun h=>by omega),(fun h=>by omega),(fun h=>by omega),(fun h=>by omega)⟩
   ·have NN:=Lib.hid (n0 (by omega))
    clear n0 n1 n2 n3 n4
    by_cases q:0<=z1
    ·have hix:(Instr.index 104 (.agg #[.func (.func 47) #[] #[],.func (.func 48) #[] #[],.func (.func 49) #[] #[],.func (.func 50) #[] #[],.func (.func 51) #[] #[]]) (.int .i64 1)).run Tryz.prog wr=.ok (.func (.func 48) #[] #[]) wr:=by kernel_rfl
     go_wp2_with (go_at_call 48;(refine (C1.out _ HE.out.2).mono ?_);rintro e w1 ⟨rfl,hb1⟩;have H1:=Lib.hid hb1;clear hb1)
     refine bodyPost_ret (v:=.tuple #[.int .i64 2,.int .i64 z1]) (by simp [results,Tryz.results32,go_sem]) rfl ⟨?_,HE.out.2.trans (H1.out.mono HE.out.2.size)⟩
     rw [RW.out,if_neg (show ¬ 0<=z0 by have:=NN.out;omega),if_pos q]
    ·have q':decide (0<=z1)=false:=decide_eq_false q
     have HQ:=Lib.hid q
     clear q
     have hix:(Instr.index 104 (.agg #[.func (.func 47) #[] #[],.func (.func 48) #[] #[],.func (.func 49) #[] #[],.func (.func 50) #[] #[],.func (.func 51) #[] #[]]) (.int .i64 1)).run Tryz.prog wr=.ok (.func (.func 48) #[] #[]) wr:=by kernel_rfl
     go_wp2_with (go_at_call 48;(refine (C1.out _ HE.out.2).mono ?_);rintro e w1 ⟨rfl,hb1⟩;have H1:=Lib.hid hb1;clear hb1)
     go_roundg (5-2)
     case measure=>have:=H5.out;omega
     case rel=>exact ⟨2,rfl,by omega,rfl,HE.out.1.keep H1.out,HE.out.2.trans (H1.out.mono HE.out.2.size),(fun _=>NN.out),(fun _=>HQ.out),(fun h=>by omega),(fun h=>by omega),(fun h=>by omega)⟩
   ·have NN:=Lib.hid (And.intro (n0 (by omega)) (n1 (by omega)))
    clear n0 n1 n2 n3 n4
    by_cases q:0<=z2
    ·have hix:(Instr.index 104 (.agg #[.func (.func 47) #[] #[],.func (.func 48) #[] #[],.func (.func 49) #[] #[],.func (.func 50) #[] #[],.func (.func 51) #[] #[]]) (.int .i64 2)).run Tryz.prog wr=.ok (.func (.func 49) #[] #[]) wr:=by kernel_rfl
     go_wp2_with (go_at_call 49;(refine (C2.out _ HE.out.2 NN.out.2).mono ?_);rintro e w1 ⟨rfl,hb1⟩;have H1:=Lib.hid hb1;clear hb1)
     refine bodyPost_ret (v:=.tuple #[.int .i64 3,.int .i64 z2]) (by simp [results,Tryz.results32,go_sem]) rfl ⟨?_,HE.out.2.trans (H1.out.mono HE.out.2.size)⟩
     rw [RW.out,if_neg (show ¬ 0<=z0 by have:=NN.out.1;omega),if_neg (show ¬ 0<=z1 by have:=NN.out.2;omega),if_pos q]
    ·have q':decide (0<=z2)=false:=decide_eq_false q
     have HQ:=Lib.hid q
     clear q
     have hix:(Instr.index 104 (.agg #[.func (.func 47) #[] #[],.func (.func 48) #[] #[],.func (.func 49) #[] #[],.func (.func 50) #[] #[],.func (.func 51) #[] #[]]) (.int .i64 2)).run Tryz.prog wr=.ok (.func (.func 49) #[] #[]) wr:=by kernel_rfl
     go_wp2_with (go_at_call 49;(refine (C2.out _ HE.out.2 NN.out.2).mono ?_);rintro e w1 ⟨rfl,hb1⟩;have H1:=Lib.hid hb1;clear hb1)
     go_roundg (5-3)
     case measure=>have:=H5.out;omega
     case rel=>exact ⟨3,rfl,by omega,rfl,HE.out.1.keep H1.out,HE.out.2.trans (H1.out.mono HE.out.2.size),(fun _=>NN.out.1),(fun _=>NN.out.2),(fun _=>HQ.out),(fun h=>by omega),(fun h=>by omega)⟩
   ·have NN:=Lib.hid (And.intro (n0 (by omega)) (And.intro (n1 (by omega)) (n2 (by omega))))
    clear n0 n1 n2 n3 n4
    by_cases q:0<=z3
    ·have hix:(Instr.index 104 (.agg #[.func (.func 47) #[] #[],.func (.func 48) #[] #[],.func (.func 49) #[] #[],.func (.func 50) #[] #[],.func (.func 51) #[] #[]]) (.int .i64 3)).run Tryz.prog wr=.ok (.func (.func 50) #[] #[]) wr:=by kernel_rfl
     go_wp2_with (go_at_call 50;(refine (C3.out _ HE.out.2 NN.out.2.1).mono ?_);rintro e w1 ⟨rfl,hb1⟩;have H1:=Lib.hid hb1;clear hb1)
     refine bodyPost_ret (v:=.tuple #[.int .i64 4,.int .i64 z3]) (by simp [results,Tryz.results32,go_sem]) rfl ⟨?_,HE.out.2.trans (H1.out.mono HE.out.2.size)⟩
     rw [RW.out,if_neg (show ¬ 0<=z0 by have:=NN.out.1;omega),if_neg (show ¬ 0<=z1 by have:=NN.out.2.1;omega),if_neg (show ¬ 0<=z2 by have:=NN.out.2.2;omega),if_pos q]
    ·have q':decide (0<=z3)=false:=decide_eq_false q
     have HQ:=Lib.hid q
     clear q
     have hix:(Instr.index 104 (.agg #[.func (.func 47) #[] #[],.func (.func 48) #[] #[],.func (.func 49) #[] #[],.func (.func 50) #[] #[],.func (.func 51) #[] #[]]) (.int .i64 3)).run Tryz.prog wr=.ok (.func (.func 50) #[] #[]) wr:=by kernel_rfl
     go_wp2_with (go_at_call 50;(refine (C3.out _ HE.out.2 NN.out.2.1).mono ?_);rintro e w1 ⟨rfl,hb1⟩;have H1:=Lib.hid hb1;clear hb1)
     go_roundg (5-4)
     case measure=>have:=H5.out;omega
     case rel=>exact ⟨4,rfl,by omega,rfl,HE.out.1.keep H1.out,HE.out.2.trans (H1.out.mono HE.out.2.size),(fun _=>NN.out.1),(fun _=>NN.out.2.1),(fun _=>NN.out.2.2),(fun _=>HQ.out),(fun h=>by omega)⟩
   ·have NN:=Lib.hid (And.intro (n0 (by omega)) (And.intro (n1 (by omega)) (And.intro (n2 (by omega)) (n3 (by omega)))))
    clear n0 n1 n2 n3 n4
    by_cases q:0<=z4
    ·have hix:(Instr.index 104 (.agg #[.func (.func 47) #[] #[],.func (.func 48) #[] #[],.func (.func 49) #[] #[],.func (.func 50) #[] #[],.func (.func 51) #[] #[]]) (.int .i64 4)).run Tryz.prog wr=.ok (.func (.func 51) #[] #[]) wr:=by kernel_rfl
     go_wp2_with (go_at_call 51;(refine (C4.out _ HE.out.2 NN.out.2.1).mono ?_);rintro e w1 ⟨rfl,hb1⟩;have H1:=Lib.hid hb1;clear hb1)
     refine bodyPost_ret (v:=.tuple #[.int .i64 5,.int .i64 z4]) (by simp [results,Tryz.results32,go_sem]) rfl ⟨?_,HE.out.2.trans (H1.out.mono HE.out.2.size)⟩
     rw [RW.out,if_neg (show ¬ 0<=z0 by have:=NN.out.1;omega),if_neg (show ¬ 0<=z1 by have:=NN.out.2.1;omega),if_neg (show ¬ 0<=z2 by have:=NN.out.2.2.1;omega),if_neg (show ¬ 0<=z3 by have:=NN.out.2.2.2;omega),if_pos q]
    ·have q':decide (0<=z4)=false:=decide_eq_false q
     have HQ:=Lib.hid q
     clear q
     have hix:(Instr.index 104 (.agg #[.func (.func 47) #[] #[],.func (.func 48) #[] #[],.func (.func 49) #[] #[],.func (.func 50) #[] #[],.func (.func 51) #[] #[]]) (.int .i64 4)).run Tryz.prog wr=.ok (.func (.func 51) #[] #[]) wr:=by kernel_rfl
     go_wp2_with (go_at_call 51;(refine (C4.out _ HE.out.2 NN.out.2.1).mono ?_);rintro e w1 ⟨rfl,hb1⟩;have H1:=Lib.hid hb1;clear hb1)
     go_roundg (5-5)
     case measure=>have:=H5.out;omega
     case rel=>exact ⟨5,rfl,by omega,rfl,HE.out.1.keep H1.out,HE.out.2.trans (H1.out.mono HE.out.2.size),(fun _=>NN.out.1),(fun _=>NN.out.2.1),(fun _=>NN.out.2.2.1),(fun _=>NN.out.2.2.2),(fun _=>HQ.out)⟩
   ·have NN:=Lib.hid (And.intro (n0 (by omega)) (And.intro (n1 (by omega)) (And.intro (n2 (by omega)) (And.intro (n3 (by omega)) (n4 (by omega))))))
    clear n0 n1 n2 n3 n4
    go_wp2_with fail
    refine bodyPost_ret (v:=.tuple #[.int .i64 0,.int .i64 0]) (by simp [results,Tryz.results32,go_sem]) rfl ⟨?_,HE.out.2⟩
    rw [RW.out,if_neg (show ¬ 0<=z0 by have:=NN.out.1;omega),if_neg (show ¬ 0<=z1 by have:=NN.out.2.1;omega),if_neg (show ¬ 0<=z2 by have:=NN.out.2.2.1;omega),if_neg (show ¬ 0<=z3 by have:=NN.out.2.2.2.1;omega),if_neg (show ¬ 0<=z4 by have:=NN.out.2.2.2.2;omega)]
end
end Go.Proofs.YtaacbenikcbibabGreatDoor
