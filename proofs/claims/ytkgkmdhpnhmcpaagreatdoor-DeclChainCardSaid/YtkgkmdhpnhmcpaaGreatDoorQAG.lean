import Derived.Test.YtkgkmdhpnhmcpaaGreatDoorQAF
set_option maxRecDepth 100000
set_option maxHeartbeats 8000000
namespace Go.Proofs.YtkgkmdhpnhmcpaaGreatDoor
section
open Go.RowKit
def Zy (p:Pro):Int×Int:=
 if p.states.length=0\/16<p.states.length then (1,0)
 else if 0<=ZE (Zcc p.states) p.states.length then (1,ZE (Zcc p.states) p.states.length)
 else if 0<=ZT (ZW p.states.length) p.moves then (2,ZT (ZW p.states.length) p.moves)
 else if 0<=ZE (Zcb p.moves) p.moves.length then (3,ZE (Zcb p.moves) p.moves.length)
 else if 0<=ZT (Zbu p.states) p.moves then (4,ZT (Zbu p.states) p.moves)
 else if 0<=ZE (ZaZ p) p.states.length then (5,ZE (ZaZ p) p.states.length)
 else (0,0)
theorem ZhS {α:Type} {f:α->Bool} {l:List α} (h:¬ 0<=ZT f l):∀ x∈l,f x=false:=by
 unfold ZT at h
 cases q:l.findIdx? f with
 | none=>rw [List.findIdx?_eq_none_iff] at q;exact q
 | some k=>rw [q] at h;exact absurd (Int.natCast_nonneg k) h
theorem ZdE {p:Pro} (h:¬ 0<=ZT (ZW p.states.length) p.moves):Fits p:=by
 have ha:=ZhS h
 have nb:∀ {n:Nat} {x:Int},Za1 n x=false->0<=x/\x<(n:Int):=by
  intro n x q
  unfold Za1 at q
  rw [Bool.or_eq_false_iff,decide_eq_false_iff_not,decide_eq_false_iff_not] at q
  omega
 refine ⟨fun m hm=>?_,fun m hm o ho=>?_⟩
 ·have:=ha m hm
  unfold ZW at this
  rw [Bool.or_eq_false_iff,Bool.or_eq_false_iff] at this
  exact nb this.1.1
 ·have:=ha m hm
  unfold ZW at this
  rw [Bool.or_eq_false_iff,Bool.or_eq_false_iff,List.any_eq_false] at this
  refine nb ?_
  have:=this.2 o ho
  simpa using this
theorem Zd6 (w:World) (vs vm:Value) (p:Pro) (h:ProAt w vs vm p) (hml:p.moves.length<1000000) (hol:∀ m∈p.moves,m.outs.length<1000000) :
  Calls Tryz.prog 50 #[ZaH vs vm p] w fun e w'=>e=.returned (.tuple #[.int .i64 (Zy p).1,.int .i64 (Zy p).2])/\Below w.heap.size w w':=by
 obtain ⟨As,cs,rfl,hls⟩:=h.states.len
 have a1:=below_alloc1 w (.cells #[txt p.name,.slice As p.states.length cs,vm] 51)
 have B1:=Blk.start w #[txt p.name,.slice As p.states.length cs,vm] 51
 have c1:=B1.cell 1
 simp only [List.getElem?_toArray,List.getElem?_cons_zero,List.getElem?_cons_succ] at c1
 have HA:=zh (zi a1 B1)
 by_cases hbad:p.states.length=0\/16<p.states.length
 ·have hw:Zy p=(1,0):=by unfold Zy;rw [if_pos hbad]
  rw [hw]
  have HP:=zh h
  clear h a1 B1 hml hol hw
  rcases hbad with q | q
  ·have i1:((p.states.length:Int)==0)=true:=by rw [q];rfl
   have HQ:=zh q
   clear q
   go_enter Tryz.func50,Tryz.ntmps50
   go_wp2_with fail
   exact bodyPost_ret (v:=.tuple #[.int .i64 1,.int .i64 0]) (by simp [results,Tryz.results50,go_sem]) rfl ⟨rfl,HA.out.1⟩
  ·have i1:((p.states.length:Int)==0)=false:=by rw [beq_eq_false_iff_ne];omega
   have i2:(16:Int)<(p.states.length:Int):=by omega
   have i3:16<p.states.length:=q
   have HQ:=zh q
   clear q
   go_enter Tryz.func50,Tryz.ntmps50
   go_wp2_with fail
   exact bodyPost_ret (v:=.tuple #[.int .i64 1,.int .i64 0]) (by simp [results,Tryz.results50,go_sem]) rfl ⟨rfl,HA.out.1⟩
 ·have hn:p.states.length<=16:=by omega
  have hn0:¬ p.states.length=0:=by omega
  have HW:Zy p=(if 0<=ZE (Zcc p.states) p.states.length then (1,ZE (Zcc p.states) p.states.length) else if 0<=ZT (ZW p.states.length) p.moves then (2,ZT (ZW p.states.length) p.moves) else if 0<=ZE (Zcb p.moves) p.moves.length then (3,ZE (Zcb p.moves) p.moves.length) else if 0<=ZT (Zbu p.states) p.moves then (4,ZT (Zbu p.states) p.moves) else if 0<=ZE (ZaZ p) p.states.length then (5,ZE (ZaZ p) p.states.length) else (0,0)):=by unfold Zy;rw [if_neg hbad]
  have C0:=zh (fun (wr:World) (hb:Below w.heap.size w wr)=>Zik wr _ vm p (h.below hb) hn)
  have C1:=zh (fun (wr:World) (hb:Below w.heap.size w wr)=>ZfZ wr _ vm p (h.below hb))
  have C2:=zh (fun (wr:World) (hb:Below w.heap.size w wr) (hf:¬ 0<=ZT (ZW p.states.length) p.moves)=>Zhv wr _ vm p (h.below hb) (ZdE hf) hn hml hol)
  have C3:=zh (fun (wr:World) (hb:Below w.heap.size w wr) (hf:¬ 0<=ZT (ZW p.states.length) p.moves)=>Zd9 wr _ vm p (h.below hb) (ZdE hf))
  have C4:=zh (fun (wr:World) (hb:Below w.heap.size w wr) (hf:¬ 0<=ZT (ZW p.states.length) p.moves)=>Zhs wr _ vm p (h.below hb) (ZdE hf) hn)
  generalize ZE (Zcc p.states) p.states.length=z0 at *
  generalize ZT (ZW p.states.length) p.moves=z1 at *
  generalize ZE (Zcb p.moves) p.moves.length=z2 at *
  generalize ZT (Zbu p.states) p.moves=z3 at *
  generalize ZE (ZaZ p) p.states.length=z4 at *
  generalize Zy p=r at *
  have RW:=zh HW
  clear HW h hml hol a1 B1 hbad
  have i1:((p.states.length:Int)==0)=false:=by rw [beq_eq_false_iff_ne];omega
  have i2:decide (16<p.states.length)=false:=decide_eq_false (by omega)
  have i3:decide ((16:Int)<(p.states.length:Int))=false:=decide_eq_false (by omega)
  have i4:¬ (16:Int)<(p.states.length:Int):=by omega
  have HN:=zh (zi hn hn0)
  clear hn hn0
  go_enter Tryz.func50,Tryz.ntmps50
  go_wp2_with fail
  go_loopg [18] 5 (fun g v18 wr=>∃ k:Nat,v18=.int .i64 k/\k<=5/\g=5-k/\Blk wr w.heap.size #[txt p.name,.slice As p.states.length cs,vm]/\Below w.heap.size w wr/\(0<k->¬ 0<=z0)/\(1<k->¬ 0<=z1)/\(2<k->¬ 0<=z2)/\(3<k->¬ 0<=z3)/\(4<k->¬ 0<=z4))
  case atStart=>exact ⟨0,rfl,by omega,rfl,HA.out.2,HA.out.1,(fun h=>by omega),(fun h=>by omega),(fun h=>by omega),(fun h=>by omega),(fun h=>by omega)⟩
  case round=>
   obtain ⟨k,rfl,hk,hg,hB,hb,n0,n1,n2,n3,n4⟩:=hrel
   have e0:=hB.cell 0
   have e1:=hB.cell 1
   have e2:=hB.cell 2
   simp only [List.getElem?_toArray,List.getElem?_cons_zero,List.getElem?_cons_succ] at e0 e1 e2
   have HE:=zh (zi hB hb)
   have hk6:k=0\/k=1\/k=2\/k=3\/k=4\/k=5:=by omega
   have H5:=zh hg
   clear hB hb hg hk
   rcases hk6 with rfl | rfl | rfl | rfl | rfl | rfl
   ·have NN:=zh True.intro
    clear n0 n1 n2 n3 n4
    by_cases q:0<=z0
    ·have hix:(Instr.index 131 (.agg #[.func (.func 79) #[] #[],.func (.func 80) #[] #[],.func (.func 81) #[] #[],.func (.func 82) #[] #[],.func (.func 83) #[] #[]]) (.int .i64 0)).run Tryz.prog wr=.ok (.func (.func 79) #[] #[]) wr:=by kernel_rfl
     go_wp2_with (go_at_call 79;(refine (C0.out _ HE.out.2).mono ?_);rintro e w1 ⟨rfl,hb1⟩;have H1:=zh hb1;clear hb1)
     refine bodyPost_ret (v:=.tuple #[.int .i64 1,.int .i64 z0]) (by simp [results,Tryz.results50,go_sem]) rfl ⟨?_,HE.out.2.trans (H1.out.mono HE.out.2.size)⟩
     rw [RW.out,if_pos q]
    ·have q':decide (0<=z0)=false:=decide_eq_false q
     have HQ:=zh q
     clear q
     have hix:(Instr.index 131 (.agg #[.func (.func 79) #[] #[],.func (.func 80) #[] #[],.func (.func 81) #[] #[],.func (.func 82) #[] #[],.func (.func 83) #[] #[]]) (.int .i64 0)).run Tryz.prog wr=.ok (.func (.func 79) #[] #[]) wr:=by kernel_rfl
     go_wp2_with (go_at_call 79;(refine (C0.out _ HE.out.2).mono ?_);rintro e w1 ⟨rfl,hb1⟩;have H1:=zh hb1;clear hb1)
     go_roundg (5-1)
     case measure=>have:=H5.out;omega
     case rel=>exact ⟨1,rfl,by omega,rfl,HE.out.1.keep H1.out,HE.out.2.trans (H1.out.mono HE.out.2.size),(fun _=>HQ.out),(fun h=>by omega),(fun h=>by omega),(fun h=>by omega),(fun h=>by omega)⟩
   ·have NN:=zh (n0 (by omega))
    clear n0 n1 n2 n3 n4
    by_cases q:0<=z1
    ·have hix:(Instr.index 131 (.agg #[.func (.func 79) #[] #[],.func (.func 80) #[] #[],.func (.func 81) #[] #[],.func (.func 82) #[] #[],.func (.func 83) #[] #[]]) (.int .i64 1)).run Tryz.prog wr=.ok (.func (.func 80) #[] #[]) wr:=by kernel_rfl
     go_wp2_with (go_at_call 80;(refine (C1.out _ HE.out.2).mono ?_);rintro e w1 ⟨rfl,hb1⟩;have H1:=zh hb1;clear hb1)
     refine bodyPost_ret (v:=.tuple #[.int .i64 2,.int .i64 z1]) (by simp [results,Tryz.results50,go_sem]) rfl ⟨?_,HE.out.2.trans (H1.out.mono HE.out.2.size)⟩
     rw [RW.out,if_neg (show ¬ 0<=z0 by have:=NN.out;omega),if_pos q]
    ·have q':decide (0<=z1)=false:=decide_eq_false q
     have HQ:=zh q
     clear q
     have hix:(Instr.index 131 (.agg #[.func (.func 79) #[] #[],.func (.func 80) #[] #[],.func (.func 81) #[] #[],.func (.func 82) #[] #[],.func (.func 83) #[] #[]]) (.int .i64 1)).run Tryz.prog wr=.ok (.func (.func 80) #[] #[]) wr:=by kernel_rfl
     go_wp2_with (go_at_call 80;(refine (C1.out _ HE.out.2).mono ?_);rintro e w1 ⟨rfl,hb1⟩;have H1:=zh hb1;clear hb1)
     go_roundg (5-2)
     case measure=>have:=H5.out;omega
     case rel=>exact ⟨2,rfl,by omega,rfl,HE.out.1.keep H1.out,HE.out.2.trans (H1.out.mono HE.out.2.size),(fun _=>NN.out),(fun _=>HQ.out),(fun h=>by omega),(fun h=>by omega),(fun h=>by omega)⟩
   ·have NN:=zh (zi (n0 (by omega)) (n1 (by omega)))
    clear n0 n1 n2 n3 n4
    by_cases q:0<=z2
    ·have hix:(Instr.index 131 (.agg #[.func (.func 79) #[] #[],.func (.func 80) #[] #[],.func (.func 81) #[] #[],.func (.func 82) #[] #[],.func (.func 83) #[] #[]]) (.int .i64 2)).run Tryz.prog wr=.ok (.func (.func 81) #[] #[]) wr:=by kernel_rfl
     go_wp2_with (go_at_call 81;(refine (C2.out _ HE.out.2 NN.out.2).mono ?_);rintro e w1 ⟨rfl,hb1⟩;have H1:=zh hb1;clear hb1)
     refine bodyPost_ret (v:=.tuple #[.int .i64 3,.int .i64 z2]) (by simp [results,Tryz.results50,go_sem]) rfl ⟨?_,HE.out.2.trans (H1.out.mono HE.out.2.size)⟩
     rw [RW.out,if_neg (show ¬ 0<=z0 by have:=NN.out.1;omega),if_neg (show ¬ 0<=z1 by have:=NN.out.2;omega),if_pos q]
    ·have q':decide (0<=z2)=false:=decide_eq_false q
     have HQ:=zh q
     clear q
     have hix:(Instr.index 131 (.agg #[.func (.func 79) #[] #[],.func (.func 80) #[] #[],.func (.func 81) #[] #[],.func (.func 82) #[] #[],.func (.func 83) #[] #[]]) (.int .i64 2)).run Tryz.prog wr=.ok (.func (.func 81) #[] #[]) wr:=by kernel_rfl
     go_wp2_with (go_at_call 81;(refine (C2.out _ HE.out.2 NN.out.2).mono ?_);rintro e w1 ⟨rfl,hb1⟩;have H1:=zh hb1;clear hb1)
     go_roundg (5-3)
     case measure=>have:=H5.out;omega
     case rel=>exact ⟨3,rfl,by omega,rfl,HE.out.1.keep H1.out,HE.out.2.trans (H1.out.mono HE.out.2.size),(fun _=>NN.out.1),(fun _=>NN.out.2),(fun _=>HQ.out),(fun h=>by omega),(fun h=>by omega)⟩
   ·have NN:=zh (zi (n0 (by omega)) (zi (n1 (by omega)) (n2 (by omega))))
    clear n0 n1 n2 n3 n4
    by_cases q:0<=z3
    ·have hix:(Instr.index 131 (.agg #[.func (.func 79) #[] #[],.func (.func 80) #[] #[],.func (.func 81) #[] #[],.func (.func 82) #[] #[],.func (.func 83) #[] #[]]) (.int .i64 3)).run Tryz.prog wr=.ok (.func (.func 82) #[] #[]) wr:=by kernel_rfl
     go_wp2_with (go_at_call 82;(refine (C3.out _ HE.out.2 NN.out.2.1).mono ?_);rintro e w1 ⟨rfl,hb1⟩;have H1:=zh hb1;clear hb1)
     refine bodyPost_ret (v:=.tuple #[.int .i64 4,.int .i64 z3]) (by simp [results,Tryz.results50,go_sem]) rfl ⟨?_,HE.out.2.trans (H1.out.mono HE.out.2.size)⟩
     rw [RW.out,if_neg (show ¬ 0<=z0 by have:=NN.out.1;omega),if_neg (show ¬ 0<=z1 by have:=NN.out.2.1;omega),if_neg (show ¬ 0<=z2 by have:=NN.out.2.2;omega),if_pos q]
    ·have q':decide (0<=z3)=false:=decide_eq_false q
     have HQ:=zh q
     clear q
     have hix:(Instr.index 131 (.agg #[.func (.func 79) #[] #[],.func (.func 80) #[] #[],.func (.func 81) #[] #[],.func (.func 82) #[] #[],.func (.func 83) #[] #[]]) (.int .i64 3)).run Tryz.prog wr=.ok (.func (.func 82) #[] #[]) wr:=by kernel_rfl
     go_wp2_with (go_at_call 82;(refine (C3.out _ HE.out.2 NN.out.2.1).mono ?_);rintro e w1 ⟨rfl,hb1⟩;have H1:=zh hb1;clear hb1)
     go_roundg (5-4)
     case measure=>have:=H5.out;omega
     case rel=>exact ⟨4,rfl,by omega,rfl,HE.out.1.keep H1.out,HE.out.2.trans (H1.out.mono HE.out.2.size),(fun _=>NN.out.1),(fun _=>NN.out.2.1),(fun _=>NN.out.2.2),(fun _=>HQ.out),(fun h=>by omega)⟩
   ·have NN:=zh (zi (n0 (by omega)) (zi (n1 (by omega)) (zi (n2 (by omega)) (n3 (by omega)))))
    clear n0 n1 n2 n3 n4
    by_cases q:0<=z4
    ·have hix:(Instr.index 131 (.agg #[.func (.func 79) #[] #[],.func (.func 80) #[] #[],.func (.func 81) #[] #[],.func (.func 82) #[] #[],.func (.func 83) #[] #[]]) (.int .i64 4)).run Tryz.prog wr=.ok (.func (.func 83) #[] #[]) wr:=by kernel_rfl
     go_wp2_with (go_at_call 83;(refine (C4.out _ HE.out.2 NN.out.2.1).mono ?_);rintro e w1 ⟨rfl,hb1⟩;have H1:=zh hb1;clear hb1)
     refine bodyPost_ret (v:=.tuple #[.int .i64 5,.int .i64 z4]) (by simp [results,Tryz.results50,go_sem]) rfl ⟨?_,HE.out.2.trans (H1.out.mono HE.out.2.size)⟩
     rw [RW.out,if_neg (show ¬ 0<=z0 by have:=NN.out.1;omega),if_neg (show ¬ 0<=z1 by have:=NN.out.2.1;omega),if_neg (show ¬ 0<=z2 by have:=NN.out.2.2.1;omega),if_neg (show ¬ 0<=z3 by have:=NN.out.2.2.2;omega),if_pos q]
    ·have q':decide (0<=z4)=false:=decide_eq_false q
     have HQ:=zh q
     clear q
     have hix:(Instr.index 131 (.agg #[.func (.func 79) #[] #[],.func (.func 80) #[] #[],.func (.func 81) #[] #[],.func (.func 82) #[] #[],.func (.func 83) #[] #[]]) (.int .i64 4)).run Tryz.prog wr=.ok (.func (.func 83) #[] #[]) wr:=by kernel_rfl
     go_wp2_with (go_at_call 83;(refine (C4.out _ HE.out.2 NN.out.2.1).mono ?_);rintro e w1 ⟨rfl,hb1⟩;have H1:=zh hb1;clear hb1)
     go_roundg (5-5)
     case measure=>have:=H5.out;omega
     case rel=>exact ⟨5,rfl,by omega,rfl,HE.out.1.keep H1.out,HE.out.2.trans (H1.out.mono HE.out.2.size),(fun _=>NN.out.1),(fun _=>NN.out.2.1),(fun _=>NN.out.2.2.1),(fun _=>NN.out.2.2.2),(fun _=>HQ.out)⟩
   ·have NN:=zh (zi (n0 (by omega)) (zi (n1 (by omega)) (zi (n2 (by omega)) (zi (n3 (by omega)) (n4 (by omega))))))
    clear n0 n1 n2 n3 n4
    go_wp2_with fail
    refine bodyPost_ret (v:=.tuple #[.int .i64 0,.int .i64 0]) (by simp [results,Tryz.results50,go_sem]) rfl ⟨?_,HE.out.2⟩
    rw [RW.out,if_neg (show ¬ 0<=z0 by have:=NN.out.1;omega),if_neg (show ¬ 0<=z1 by have:=NN.out.2.1;omega),if_neg (show ¬ 0<=z2 by have:=NN.out.2.2.1;omega),if_neg (show ¬ 0<=z3 by have:=NN.out.2.2.2.1;omega),if_neg (show ¬ 0<=z4 by have:=NN.out.2.2.2.2;omega)]
end
end Go.Proofs.YtkgkmdhpnhmcpaaGreatDoor
