import Derived.Test.YtkgkmdhpnhmcpaaGreatDoorQAV
set_option maxRecDepth 100000
set_option maxHeartbeats 8000000
namespace Go.Proofs.YtkgkmdhpnhmcpaaGreatDoor
section
open Go.RowKit
theorem Zg0 (f:Mov->Bool) (l:List (Value×Mov)):ZT (fun x:Value×Mov=>f x.2) l=ZT f (l.map (·.2)):=by
 unfold ZT
 rw [List.findIdx?_map]
 rfl
theorem Zhz {p:Pro} (h:(Zy p).1≠0) (hs:p.states.length≠0):(((Zy p).1=1\/(Zy p).1=5)->0<=(Zy p).2/\(Zy p).2<p.states.length)/\(¬ ((Zy p).1=1\/(Zy p).1=5)->0<=(Zy p).2/\(Zy p).2<p.moves.length):=by
 unfold Zy at h ⊢
 by_cases q:p.states.length=0\/16<p.states.length
 ·rw [if_pos q]
  exact ⟨fun _=>⟨Int.le_refl _,by show (0:Int)<_;omega⟩,fun k=>absurd (.inl rfl) k⟩
 rw [if_neg q] at h ⊢
 split
 ·rename_i z
  exact ⟨fun _=>⟨z,ZdF.1⟩,fun k=>absurd (.inl rfl) k⟩
 rename_i z1
 rw [if_neg z1] at h
 split
 ·rename_i z
  exact ⟨fun k=>by simp at k,fun _=>⟨z,ZdG.1⟩⟩
 rename_i z2
 rw [if_neg z2] at h
 split
 ·rename_i z
  exact ⟨fun k=>by simp at k,fun _=>⟨z,ZdF.1⟩⟩
 rename_i z3
 rw [if_neg z3] at h
 split
 ·rename_i z
  exact ⟨fun k=>by simp at k,fun _=>⟨z,ZdG.1⟩⟩
 rename_i z4
 rw [if_neg z4] at h
 split
 ·rename_i z
  exact ⟨fun _=>⟨z,ZdF.1⟩,fun k=>absurd (.inr rfl) k⟩
 rename_i z5
 rw [if_neg z5] at h
 exact absurd rfl h
theorem Zf8 (w:World) (vs vm va vo:Value) (d:Dcl) (used:Bool) (h:ProAt w vs vm d.pro) (hs:ZH w va d.sts) (ho:ZH w vo d.ops) (l1:d.sts.length=d.pro.states.length) (l2:d.ops.length=d.pro.moves.length) (hml:d.pro.moves.length<1000000) (hol:∀ m∈d.pro.moves,m.outs.length<1000000) :
  Calls Tryz.prog 24 #[.agg #[txt d.pro.name,vs,vm,.int .i64 d.at_,va,vo],.bool used] w fun e w'=>e=.returned (.tuple #[.int .i64 (ZaC used d).1,.int .i64 (ZaC used d).2])/\Below w.heap.size w w':=by
 have hP:=h
 obtain ⟨rs,hm,hM⟩:=h.moves
 obtain ⟨As,cs,rfl,hsl⟩:=h.states.len
 have hrl:rs.length=d.pro.moves.length:=by rw [<- hm,List.length_map]
 obtain ⟨Am,cm,rfl,hm2,hm3,_⟩:=id hM
 obtain ⟨Aa,ca,rfl,ha1,ha2,hA⟩:=hs
 obtain ⟨Ao,co,rfl,ho1,ho2,hO⟩:=ho
 have a1:=below_alloc1 w (.cells #[txt d.pro.name,.slice As d.pro.states.length cs,.slice Am rs.length cm,.int .i64 d.at_,.slice Aa d.sts.length ca,.slice Ao d.ops.length co] 66)
 have B1:=Zd.start w #[txt d.pro.name,.slice As d.pro.states.length cs,.slice Am rs.length cm,.int .i64 d.at_,.slice Aa d.sts.length ca,.slice Ao d.ops.length co] 66
 have IX:=zh (ZiS _ _ _ rs (fun k=>match rs[k]? with | some x=>ZbN x.2 | none=>false) (fun _ _=>True) (Zak.below (fun _ _ _ h hb=>⟨h.1,h.2.below hb⟩) hM a1) (Below.refl _ _) trivial (fun k x wr hx hb _=>by
  obtain ⟨_,_,_,_,_,_,hall⟩:=Zak.below (fun _ _ _ h hb=>⟨h.1,Zaj.below h.2 hb⟩) hM a1
  exact (Zh4 wr x.1 x.2 ((hall x (List.mem_of_getElem? hx)).2.below hb)).mono fun e w' ⟨he,hb'⟩=>⟨by rw [he,hx],hb.trans (hb'.mono hb.size),trivial⟩))
 rw [ZcD (f:=fun x:Value×Mov=>ZbN x.2) (fun k x hx=>by rw [hx]),Zg0 ZbN rs,hm] at IX
 have WR:=zh (fun (V:World) (hb:Below w.heap.size w V)=>Zd6 V _ _ d.pro (hP.below hb) hml hol)
 have AT1:=zh (fun (V:World) (hb:Below w.heap.size w V) (k:Nat) (u:Int) (hu:d.ops[k]? = some u)=>ints_at hO hb hu (by have:=(List.getElem?_eq_some_iff.1 hu).1;omega))
 have AT2:=zh (fun (V:World) (hb:Below w.heap.size w V) (k:Nat) (u:Int) (hu:d.sts[k]? = some u)=>ints_at hA hb hu (by have:=(List.getElem?_eq_some_iff.1 hu).1;omega))
 have HH:=zh (zi a1 (zi B1 (zi hrl (zi l1 (zi l2 (zi ho1 (zi ho2 (zi ha1 ha2))))))))
 clear hP h hM hm hA hO a1 l1 l2 hml hol ho1 ho2 ha1 ha2 hsl hm2 hm3 hrl
 generalize hz:ZT ZbN d.pro.moves=z at *
 have hz1:z<d.pro.moves.length:=by rw [<- hz];exact ZdG.1
 have c0:=B1.blk.cell 0
 have c1:=B1.blk.cell 1
 have c2:=B1.blk.cell 2
 have c3:=B1.blk.cell 3
 have c4:=B1.blk.cell 4
 have c5:=B1.blk.cell 5
 simp only [List.getElem?_toArray,List.getElem?_cons_zero,List.getElem?_cons_succ] at c0 c1 c2 c3 c4 c5
 clear B1
 by_cases qu:used=true
 ·subst qu
  clear IX WR AT1 AT2
  go_enter Tryz.func24,Tryz.ntmps24
  go_wp2_with fail
  go_region
  go_wp2_with fail
  exact bodyPost_ret (v:=.tuple #[.int .i64 2,.int .i64 d.at_]) (by simp [results,Tryz.results24,go_sem]) rfl ⟨rfl,HH.out.1.drew⟩
 have qf:used=false:=by simpa using qu
 subst qf
 clear qu
 by_cases qz:0<=z
 ·obtain ⟨k,rfl⟩:=Int.eq_ofNat_of_zero_le qz
  have kl:k<d.ops.length:=by have:=HH.out.2.2.2.2.1;omega
  obtain ⟨u,hu⟩:∃ u,d.ops[k]? = some u:=⟨_,List.getElem?_eq_getElem kl⟩
  have eW:ZaC false d=(3,u):=by
   unfold ZaC
   rw [if_neg (by decide),hz,if_pos qz,Int.toNat_natCast,hu]
   rfl
  rw [eW]
  have i1:(k:Int)<(d.ops.length:Int):=by omega
  have i2:(0:Int)<=(k:Int):=by omega
  have AT:=zh (fun (V:World) (hb:Below w.heap.size w V)=>AT1.out V hb k u hu)
  clear WR AT1 AT2 hz hz1 qz eW hu kl
  go_enter Tryz.func24,Tryz.ntmps24
  go_upto_region 5 with (go_at_call 48;(with_reducible refine IX.out.mono ?_);rintro e w1 ⟨rfl,hb1,_⟩;have b1:=HH.out.1.trans (hb1.mono HH.out.1.size);have X1:=HH.out.2.1.keep hb1;have H1:=zh b1;have e0:=X1.blk.cell 0;have e1:=X1.blk.cell 1;have e2:=X1.blk.cell 2;have e3:=X1.blk.cell 3;have e4:=X1.blk.cell 4;have e5:=X1.blk.cell 5;simp only [List.getElem?_toArray,List.getElem?_cons_zero,List.getElem?_cons_succ] at e0 e1 e2 e3 e4 e5;have HX1:=zh X1;clear hb1 b1 X1)
  obtain ⟨ad,rfl,r0⟩:=AT.out w1 H1.out
  go_region
  go_wp2_with fail
  exact bodyPost_ret (v:=.tuple #[.int .i64 3,.int .i64 u]) (by simp [results,Tryz.results24,go_sem]) rfl ⟨rfl,H1.out.drew⟩
 have tz:decide (0<=z)=false:=decide_eq_false qz
 have eW0:ZaC false d=(if (Zy d.pro).1=0 then (0,0) else if d.pro.states.length=0 then (1,d.at_) else if (Zy d.pro).1=1\/(Zy d.pro).1=5 then (1,(d.sts[(Zy d.pro).2.toNat]?).getD 0) else (1,(d.ops[(Zy d.pro).2.toNat]?).getD 0)):=by
  unfold ZaC
  rw [if_neg (by decide),hz,if_neg qz]
 rw [eW0]
 have WA:=fun h0 hs=>Zhz (p:=d.pro) h0 hs
 generalize Zy d.pro=r at *
 obtain ⟨rr,ri⟩:=r
 dsimp only at WR WA ⊢
 clear hz eW0 hz1
 by_cases q0:rr=0
 ·subst q0
  rw [if_pos rfl]
  clear AT1 AT2 WA
  go_enter Tryz.func24,Tryz.ntmps24
  go_wp2_with (first
   | (go_at_call 48;(with_reducible refine IX.out.mono ?_);rintro e w1 ⟨rfl,hb1,_⟩;have b1:=HH.out.1.trans (hb1.mono HH.out.1.size);have X1:=HH.out.2.1.keep hb1;have H1:=zh b1;have e0:=X1.blk.cell 0;have e1:=X1.blk.cell 1;have e2:=X1.blk.cell 2;have e3:=X1.blk.cell 3;have e4:=X1.blk.cell 4;have e5:=X1.blk.cell 5;simp only [List.getElem?_toArray,List.getElem?_cons_zero,List.getElem?_cons_succ] at e0 e1 e2 e3 e4 e5;have HX1:=zh X1;clear hb1 b1 X1)
   | (go_at_call 50;(refine (WR.out _ H1.out).mono ?_);rintro e w2 ⟨rfl,hb2⟩;have X2:=HX1.out.keep hb2;have H2:=zh (H1.out.trans (hb2.mono H1.out.size));have g0:=X2.blk.cell 0;have g1:=X2.blk.cell 1;have g2:=X2.blk.cell 2;have g3:=X2.blk.cell 3;have g4:=X2.blk.cell 4;have g5:=X2.blk.cell 5;simp only [List.getElem?_toArray,List.getElem?_cons_zero,List.getElem?_cons_succ] at g0 g1 g2 g3 g4 g5;clear hb2 X2))
  exact bodyPost_ret (v:=.tuple #[.int .i64 0,.int .i64 0]) (by simp [results,Tryz.results24,go_sem]) rfl ⟨rfl,H2.out⟩
 rw [if_neg q0]
 have t0:(rr==0)=false:=beq_eq_false_iff_ne.mpr q0
 by_cases qs:d.pro.states.length=0
 ·rw [if_pos qs]
  have t1:((d.pro.states.length:Int)==0)=true:=by simp [qs]
  clear AT1 AT2 WA q0 qs
  go_enter Tryz.func24,Tryz.ntmps24
  go_upto_region 11 with (first
   | (go_at_call 48;(with_reducible refine IX.out.mono ?_);rintro e w1 ⟨rfl,hb1,_⟩;have b1:=HH.out.1.trans (hb1.mono HH.out.1.size);have X1:=HH.out.2.1.keep hb1;have H1:=zh b1;have e0:=X1.blk.cell 0;have e1:=X1.blk.cell 1;have e2:=X1.blk.cell 2;have e3:=X1.blk.cell 3;have e4:=X1.blk.cell 4;have e5:=X1.blk.cell 5;simp only [List.getElem?_toArray,List.getElem?_cons_zero,List.getElem?_cons_succ] at e0 e1 e2 e3 e4 e5;have HX1:=zh X1;clear hb1 b1 X1)
   | (go_at_call 50;(refine (WR.out _ H1.out).mono ?_);rintro e w2 ⟨rfl,hb2⟩;have X2:=HX1.out.keep hb2;have H2:=zh (H1.out.trans (hb2.mono H1.out.size));have g0:=X2.blk.cell 0;have g1:=X2.blk.cell 1;have g2:=X2.blk.cell 2;have g3:=X2.blk.cell 3;have g4:=X2.blk.cell 4;have g5:=X2.blk.cell 5;simp only [List.getElem?_toArray,List.getElem?_cons_zero,List.getElem?_cons_succ] at g0 g1 g2 g3 g4 g5;clear hb2 X2))
  go_region
  go_wp2_with fail
  exact bodyPost_ret (v:=.tuple #[.int .i64 1,.int .i64 d.at_]) (by simp [results,Tryz.results24,go_sem]) rfl ⟨rfl,H2.out.drew⟩
 rw [if_neg qs]
 have t1:((d.pro.states.length:Int)==0)=false:=by rw [beq_eq_false_iff_ne];omega
 obtain ⟨wa1,wa2⟩:=WA q0 qs
 by_cases q5:rr=1\/rr=5
 ·rw [if_pos q5]
  obtain ⟨k0,k1⟩:=wa1 q5
  obtain ⟨k,rfl⟩:=Int.eq_ofNat_of_zero_le k0
  have kl:k<d.sts.length:=by have:=HH.out.2.2.2.1;omega
  obtain ⟨u,hu⟩:∃ u,d.sts[k]? = some u:=⟨_,List.getElem?_eq_getElem kl⟩
  rw [Int.toNat_natCast,hu]
  show Calls _ _ _ _ fun e w'=>e=.returned (.tuple #[.int .i64 1,.int .i64 u])/\_
  have i1:(k:Int)<(d.sts.length:Int):=by omega
  have i2:(0:Int)<=(k:Int):=by omega
  have AT:=zh (fun (V:World) (hb:Below w.heap.size w V)=>AT2.out V hb k u hu)
  clear AT1 AT2 WA wa1 wa2 k0 k1 hu kl q0 qs
  rcases q5 with rfl | rfl
  ·go_enter Tryz.func24,Tryz.ntmps24
   go_upto_region 13 with (first
    | (go_at_call 48;(with_reducible refine IX.out.mono ?_);rintro e w1 ⟨rfl,hb1,_⟩;have b1:=HH.out.1.trans (hb1.mono HH.out.1.size);have X1:=HH.out.2.1.keep hb1;have H1:=zh b1;have e0:=X1.blk.cell 0;have e1:=X1.blk.cell 1;have e2:=X1.blk.cell 2;have e3:=X1.blk.cell 3;have e4:=X1.blk.cell 4;have e5:=X1.blk.cell 5;simp only [List.getElem?_toArray,List.getElem?_cons_zero,List.getElem?_cons_succ] at e0 e1 e2 e3 e4 e5;have HX1:=zh X1;clear hb1 b1 X1)
    | (go_at_call 50;(refine (WR.out _ H1.out).mono ?_);rintro e w2 ⟨rfl,hb2⟩;have X2:=HX1.out.keep hb2;have H2:=zh (H1.out.trans (hb2.mono H1.out.size));have g0:=X2.blk.cell 0;have g1:=X2.blk.cell 1;have g2:=X2.blk.cell 2;have g3:=X2.blk.cell 3;have g4:=X2.blk.cell 4;have g5:=X2.blk.cell 5;simp only [List.getElem?_toArray,List.getElem?_cons_zero,List.getElem?_cons_succ] at g0 g1 g2 g3 g4 g5;clear hb2 X2))
   obtain ⟨ad,rfl,r0⟩:=AT.out w2 H2.out
   go_region
   go_wp2_with fail
   exact bodyPost_ret (v:=.tuple #[.int .i64 1,.int .i64 u]) (by simp [results,Tryz.results24,go_sem]) rfl ⟨rfl,H2.out.drew⟩
  ·go_enter Tryz.func24,Tryz.ntmps24
   go_upto_region 13 with (first
    | (go_at_call 48;(with_reducible refine IX.out.mono ?_);rintro e w1 ⟨rfl,hb1,_⟩;have b1:=HH.out.1.trans (hb1.mono HH.out.1.size);have X1:=HH.out.2.1.keep hb1;have H1:=zh b1;have e0:=X1.blk.cell 0;have e1:=X1.blk.cell 1;have e2:=X1.blk.cell 2;have e3:=X1.blk.cell 3;have e4:=X1.blk.cell 4;have e5:=X1.blk.cell 5;simp only [List.getElem?_toArray,List.getElem?_cons_zero,List.getElem?_cons_succ] at e0 e1 e2 e3 e4 e5;have HX1:=zh X1;clear hb1 b1 X1)
    | (go_at_call 50;(refine (WR.out _ H1.out).mono ?_);rintro e w2 ⟨rfl,hb2⟩;have X2:=HX1.out.keep hb2;have H2:=zh (H1.out.trans (hb2.mono H1.out.size));have g0:=X2.blk.cell 0;have g1:=X2.blk.cell 1;have g2:=X2.blk.cell 2;have g3:=X2.blk.cell 3;have g4:=X2.blk.cell 4;have g5:=X2.blk.cell 5;simp only [List.getElem?_toArray,List.getElem?_cons_zero,List.getElem?_cons_succ] at g0 g1 g2 g3 g4 g5;clear hb2 X2))
   obtain ⟨ad,rfl,r0⟩:=AT.out w2 H2.out
   go_region
   go_wp2_with fail
   exact bodyPost_ret (v:=.tuple #[.int .i64 1,.int .i64 u]) (by simp [results,Tryz.results24,go_sem]) rfl ⟨rfl,H2.out.drew⟩
 ·rw [if_neg q5]
  obtain ⟨k0,k1⟩:=wa2 q5
  obtain ⟨k,rfl⟩:=Int.eq_ofNat_of_zero_le k0
  have kl:k<d.ops.length:=by have:=HH.out.2.2.2.2.1;omega
  obtain ⟨u,hu⟩:∃ u,d.ops[k]? = some u:=⟨_,List.getElem?_eq_getElem kl⟩
  rw [Int.toNat_natCast,hu]
  show Calls _ _ _ _ fun e w'=>e=.returned (.tuple #[.int .i64 1,.int .i64 u])/\_
  have i1:(k:Int)<(d.ops.length:Int):=by omega
  have i2:(0:Int)<=(k:Int):=by omega
  have t5:(rr==1)=false:=beq_eq_false_iff_ne.mpr (fun e=>q5 (.inl e))
  have t6:(rr==5)=false:=beq_eq_false_iff_ne.mpr (fun e=>q5 (.inr e))
  have AT:=zh (fun (V:World) (hb:Below w.heap.size w V)=>AT1.out V hb k u hu)
  clear AT1 AT2 WA wa1 wa2 k0 k1 hu kl q0 qs q5
  go_enter Tryz.func24,Tryz.ntmps24
  go_upto_region 7 with (first
   | (go_at_call 48;(with_reducible refine IX.out.mono ?_);rintro e w1 ⟨rfl,hb1,_⟩;have b1:=HH.out.1.trans (hb1.mono HH.out.1.size);have X1:=HH.out.2.1.keep hb1;have H1:=zh b1;have e0:=X1.blk.cell 0;have e1:=X1.blk.cell 1;have e2:=X1.blk.cell 2;have e3:=X1.blk.cell 3;have e4:=X1.blk.cell 4;have e5:=X1.blk.cell 5;simp only [List.getElem?_toArray,List.getElem?_cons_zero,List.getElem?_cons_succ] at e0 e1 e2 e3 e4 e5;have HX1:=zh X1;clear hb1 b1 X1)
   | (go_at_call 50;(refine (WR.out _ H1.out).mono ?_);rintro e w2 ⟨rfl,hb2⟩;have X2:=HX1.out.keep hb2;have H2:=zh (H1.out.trans (hb2.mono H1.out.size));have g0:=X2.blk.cell 0;have g1:=X2.blk.cell 1;have g2:=X2.blk.cell 2;have g3:=X2.blk.cell 3;have g4:=X2.blk.cell 4;have g5:=X2.blk.cell 5;simp only [List.getElem?_toArray,List.getElem?_cons_zero,List.getElem?_cons_succ] at g0 g1 g2 g3 g4 g5;clear hb2 X2))
  obtain ⟨ad,rfl,r0⟩:=AT.out w2 H2.out
  go_region
  go_wp2_with fail
  exact bodyPost_ret (v:=.tuple #[.int .i64 1,.int .i64 u]) (by simp [results,Tryz.results24,go_sem]) rfl ⟨rfl,H2.out.drew⟩
end
end Go.Proofs.YtkgkmdhpnhmcpaaGreatDoor
