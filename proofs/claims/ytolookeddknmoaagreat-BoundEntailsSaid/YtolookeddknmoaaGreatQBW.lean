import Derived.Test.YtolookeddknmoaaGreatQAR
import Derived.Test.YtolookeddknmoaaGreatQBK
import Derived.Test.YtolookeddknmoaaGreatQBU
import Derived.Test.YtolookeddknmoaaGreatQBV
set_option maxRecDepth 100000
set_option maxHeartbeats 8000000
namespace Go.Proofs.YtolookeddknmoaaGreat
section
open Go.RowKit
theorem Zqs (w:World) (x y:Int×Int) (hx:OkR x) (hy:OkR y) :
  Calls Tryz.prog 32 #[.int .i64 1,Ze x.1 x.2,Ze y.1 y.2] w fun r w2=>r=.returned (.tuple #[Ze (Zo x (ZA y)).1.1 (Zo x (ZA y)).1.2,.int .i64 (Zo x (ZA y)).2])/\Below w.heap.size w w2:=by
 obtain ⟨d,e,v⟩:=hx
 obtain ⟨d',e',v'⟩:=hy
 have:=ZqZ v v' w
 rw [ZpT] at this
 unfold Zo Zcr ZA
 dsimp only
 rw [e,e',Int.neg_mul,<- Int.sub_eq_add_neg]
 exact this
theorem Zpy {w w':World} {r:Option (Int×Int)} {e:Ending} (h:Zfq w r e w'):∃ x y b,e=.returned (.tuple #[Ze x y,.bool b])/\Below w.heap.size w w':=by
 obtain ⟨h,hb⟩:=h
 cases r with
 | none=>obtain ⟨z,h⟩:=h;exact ⟨_,_,_,h,hb⟩
 | some x=>exact ⟨_,_,_,h,hb⟩
theorem ZjP {w w':World} {r:Option (Int×Int)} {e:Ending} (h:Zfq w r e w') (hr:r=none):∃ x y,e=.returned (.tuple #[Ze x y,.bool false])/\Below w.heap.size w w':=by
 subst hr
 obtain ⟨⟨z,h⟩,hb⟩:=h
 exact ⟨_,_,h,hb⟩
theorem ZjQ {w w':World} {r:Option (Int×Int)} {x:Int×Int} {e:Ending} (h:Zfq w r e w') (hr:r=some x):e=.returned (.tuple #[Ze x.1 x.2,.bool true])/\Below w.heap.size w w':=by
 subst hr
 exact h
structure ChoS (W wr:World) (v1 v2:Value):Prop where
 P:Blk wr W.heap.size #[v1,v2]
 R:Blk wr (W.heap.size+1) #[.int .i64 0,.int .i64 0]
 below:Below W.heap.size W wr
theorem ChoS.keep {W wr w2:World} {v1 v2:Value} (h:ChoS W wr v1 v2) (hb:Below wr.heap.size wr w2):ChoS W w2 v1 v2:=⟨h.P.keep hb,h.R.keep hb,h.below.trans (hb.mono h.below.size)⟩
theorem Zl7 (w:World) (v1 v2 vb:Value) (m:List (Int×Int)) (lo up:List Rw) (h1:ZD w v1 lo) (h2:ZD w v2 up) (hw1:∀ r∈lo,Zv r.2.1/\Bd r.2.2) (hw2:∀ r∈up,Zv r.2.1/\Bd r.2.2) (hb:Zb w vb m) (hm:Zv m) (hc1:lo.length<=1000) (hc2:up.length<=1000) :
  Calls Tryz.prog 107 #[.agg #[v1,v2],vb] w (Zkw w (Zdx lo up m)):=by
 obtain ⟨A1,c1,rfl⟩:∃ A c,v1=.slice A lo.length c:=by obtain ⟨A,c,_,e,_⟩:=h1;exact ⟨A,c,e⟩
 obtain ⟨A2,c2,rfl⟩:∃ A c,v2=.slice A up.length c:=by obtain ⟨A,c,_,e,_⟩:=h2;exact ⟨A,c,e⟩
 obtain ⟨Ab,cb,rfl⟩:=Zd hb
 have D0:ChoS w ((w.alloc (.cells #[.slice A1 lo.length c1,.slice A2 up.length c2] 115)).alloc (.cells #[.int .i64 0,.int .i64 0] 25)) (.slice A1 lo.length c1) (.slice A2 up.length c2):=by
  have B1:=Blk.start (w.alloc (.cells #[.slice A1 lo.length c1,.slice A2 up.length c2] 115)) #[.int .i64 0,.int .i64 0] 25
  rw [World.size_alloc] at B1
  exact ⟨(Blk.start w _ _).keep (Za _ _),B1,ZI _ _ _⟩
 have DD:=Lib.hid D0
 have hO:Zdx lo up m=(Zba lo m lo.length).bind fun b=>(Zba up m up.length).bind fun t=>if lo.length=0 then (if up.length=0 then some (0,1) else okO (Zo t (ZA (1,1)))) else if up.length=0 then okO (Zo (ZA b) (1,1)) else (okO (Zo (ZA b) t)).bind fun s=>okO (ZT s (1,2)):=rfl
 generalize Zdx lo up m=Z at *
 have lk1:=ZdR hw1 hm lo.length
 have lk2:=ZdR hw2 hm up.length
 have L1':=fun (w':World) (q:Below w.heap.size w w')=>Znt w' (.slice A1 lo.length c1) (.slice Ab m.length cb) lo m (h1.below q) hw1 (hb.below q) hm
 have L2':=fun (w':World) (q:Below w.heap.size w w')=>Zns w' (.slice A2 up.length c2) (.slice Ab m.length cb) up m (h2.below q) hw2 (hb.below q) hm
 have wl:IntKind.i64.wrap ((lo.length:Int)+(up.length:Int))=(lo.length:Int)+(up.length:Int):=IntWalk.i64_in _ (by omega)
 cases e1:Zba lo m lo.length with
 | none=>
  rw [e1,Option.bind_none] at hO
  subst hO
  have L1:=Lib.hid (fun (w':World) (q:Below w.heap.size w w')=>(L1' w' q).mono fun e w2 h=>ZjP h (by rw [e1];rfl))
  have L2:=Lib.hid (fun (w':World) (q:Below w.heap.size w w')=>(L2' w' q).mono fun e w2 h=>Zpy h)
  clear e1 lk1 lk2 h1 h2 hw1 hw2 hb hm D0 L1' L2' wl hc1 hc2
  generalize lo.length=n1 at *
  generalize up.length=n2 at *
  generalize m.length=nm at *
  go_enter Tryz.func107,Tryz.ntmps107
  go_upto_region 1 with fail
  generalize (w.alloc (.cells #[.slice A1 n1 c1,.slice A2 n2 c2] 115)).alloc (.cells #[.int .i64 0,.int .i64 0] 25)=w1 at *
  have p0:=DD.out.P.cell 0
  go_upto_region 2 with (go_at_call 118;(with_reducible refine (L1.out _ DD.out.below).mono ?_);rintro e5 w2 ⟨bn,bd,rfl,hb2⟩)
  have a2:=Za w2 (.cells #[.int .i64 bn,.int .i64 bd] 25)
  have T6:=Lib.hid (Blk.start w2 #[.int .i64 bn,.int .i64 bd] 25)
  have DD:=Lib.hid ((DD.out.keep hb2).keep a2)
  clear hb2 a2 p0
  generalize w2.heap.size=b6 at *
  generalize w2.alloc (.cells #[.int .i64 bn,.int .i64 bd] 25)=w3 at *
  have p1:=DD.out.P.cell 1
  go_upto_region 3 with (go_at_call 118;(with_reducible refine (L2.out _ DD.out.below).mono ?_);rintro e6 w4 ⟨tn,td,tb,rfl,hb4⟩)
  have a4:=Za w4 (.cells #[.int .i64 tn,.int .i64 td] 25)
  have T6:=Lib.hid ((T6.out.keep hb4).keep a4)
  have T8:=Lib.hid (Blk.start w4 #[.int .i64 tn,.int .i64 td] 25)
  have DD:=Lib.hid ((DD.out.keep hb4).keep a4)
  clear hb4 a4 p1
  generalize w4.heap.size=b8 at *
  generalize w4.alloc (.cells #[.int .i64 tn,.int .i64 td] 25)=w5 at *
  go_upto_region 4 with fail
  have a5:=Za w5 (.cells #[.int .i64 1,.int .i64 1] 25)
  have T6:=Lib.hid (T6.out.keep a5)
  have T8:=Lib.hid (T8.out.keep a5)
  have T0:=Lib.hid (Blk.start w5 #[.int .i64 1,.int .i64 1] 25)
  have DD:=Lib.hid (DD.out.keep a5)
  clear a5
  generalize w5.heap.size=b10 at *
  generalize w5.alloc (.cells #[.int .i64 1,.int .i64 1] 25)=w6 at *
  have o0:=T0.out.cell 0
  have o1:=T0.out.cell 1
  have r0:=DD.out.R.cell 0
  have r1:=DD.out.R.cell 1
  have q0:=DD.out.R.free 0
  have q1:=DD.out.R.free 1
  go_wp2_with fail
  have B9:=(DD.out.R.set 0 (.int .i64 (1))).set 1 (.int .i64 (1))
  have z0:=B9.cell 0
  have z1:=B9.cell 1
  exact bodyPost_ret (v:=.tuple #[Ze (1) (1),.int .i64 (3)]) (by simp [results,Tryz.results107,go_sem,z0,z1]) rfl ⟨⟨1,1,3,rfl,.inr ⟨by decide,rfl⟩⟩,(DD.out.below.setCell (p:=⟨w.heap.size+1,0,none⟩) (by show w.heap.size<=w.heap.size+1;omega) _).setCell (p:=⟨w.heap.size+1,1,none⟩) (by show w.heap.size<=w.heap.size+1;omega) _⟩
 | some b=>
  have lk1:=lk1 b e1
  have L1:=Lib.hid (fun (w':World) (q:Below w.heap.size w w')=>(L1' w' q).mono fun e w2 h=>ZjQ (x:=ZA b) h (by rw [e1];rfl))
  rw [e1,Option.bind_some] at hO
  cases e2:Zba up m up.length with
  | none=>
   rw [e2,Option.bind_none] at hO
   subst hO
   have L2:=Lib.hid (fun (w':World) (q:Below w.heap.size w w')=>(L2' w' q).mono fun e w2 h=>ZjP h e2)
   clear e1 e2 lk1 lk2 h1 h2 hw1 hw2 hb hm D0 L1' L2' wl hc1 hc2
   generalize ZA b=nb at *
   obtain ⟨bn,bd⟩:=nb
   dsimp only at *
   generalize lo.length=n1 at *
   generalize up.length=n2 at *
   generalize m.length=nm at *
   go_enter Tryz.func107,Tryz.ntmps107
   go_upto_region 1 with fail
   generalize (w.alloc (.cells #[.slice A1 n1 c1,.slice A2 n2 c2] 115)).alloc (.cells #[.int .i64 0,.int .i64 0] 25)=w1 at *
   have p0:=DD.out.P.cell 0
   go_upto_region 2 with (go_at_call 118;(with_reducible refine (L1.out _ DD.out.below).mono ?_);rintro e5 w2 ⟨rfl,hb2⟩)
   have a2:=Za w2 (.cells #[.int .i64 bn,.int .i64 bd] 25)
   have T6:=Lib.hid (Blk.start w2 #[.int .i64 bn,.int .i64 bd] 25)
   have DD:=Lib.hid ((DD.out.keep hb2).keep a2)
   clear hb2 a2 p0
   generalize w2.heap.size=b6 at *
   generalize w2.alloc (.cells #[.int .i64 bn,.int .i64 bd] 25)=w3 at *
   have p1:=DD.out.P.cell 1
   go_upto_region 3 with (go_at_call 118;(with_reducible refine (L2.out _ DD.out.below).mono ?_);rintro e6 w4 ⟨tn,td,rfl,hb4⟩)
   have a4:=Za w4 (.cells #[.int .i64 tn,.int .i64 td] 25)
   have T6:=Lib.hid ((T6.out.keep hb4).keep a4)
   have T8:=Lib.hid (Blk.start w4 #[.int .i64 tn,.int .i64 td] 25)
   have DD:=Lib.hid ((DD.out.keep hb4).keep a4)
   clear hb4 a4 p1
   generalize w4.heap.size=b8 at *
   generalize w4.alloc (.cells #[.int .i64 tn,.int .i64 td] 25)=w5 at *
   go_upto_region 4 with fail
   have a5:=Za w5 (.cells #[.int .i64 1,.int .i64 1] 25)
   have T6:=Lib.hid (T6.out.keep a5)
   have T8:=Lib.hid (T8.out.keep a5)
   have T0:=Lib.hid (Blk.start w5 #[.int .i64 1,.int .i64 1] 25)
   have DD:=Lib.hid (DD.out.keep a5)
   clear a5
   generalize w5.heap.size=b10 at *
   generalize w5.alloc (.cells #[.int .i64 1,.int .i64 1] 25)=w6 at *
   have o0:=T0.out.cell 0
   have o1:=T0.out.cell 1
   have r0:=DD.out.R.cell 0
   have r1:=DD.out.R.cell 1
   have q0:=DD.out.R.free 0
   have q1:=DD.out.R.free 1
   go_wp2_with fail
   have B9:=(DD.out.R.set 0 (.int .i64 (1))).set 1 (.int .i64 (1))
   have z0:=B9.cell 0
   have z1:=B9.cell 1
   exact bodyPost_ret (v:=.tuple #[Ze (1) (1),.int .i64 (3)]) (by simp [results,Tryz.results107,go_sem,z0,z1]) rfl ⟨⟨1,1,3,rfl,.inr ⟨by decide,rfl⟩⟩,(DD.out.below.setCell (p:=⟨w.heap.size+1,0,none⟩) (by show w.heap.size<=w.heap.size+1;omega) _).setCell (p:=⟨w.heap.size+1,1,none⟩) (by show w.heap.size<=w.heap.size+1;omega) _⟩
  | some t=>
   have lk2:=lk2 t e2
   have L2:=Lib.hid (fun (w':World) (q:Below w.heap.size w w')=>(L2' w' q).mono fun e w2 h=>ZjQ h e2)
   rw [e2,Option.bind_some] at hO
   have ln1:lo.length=0\/OkR (ZA b):=lk1.elim (fun q=>.inl q.1) (fun q=>.inr (Zbv q))
   have ln2:up.length=0\/OkR t:=lk2.elim (fun q=>.inl q.1) .inr
   have HO:=Lib.hid (And.intro hO (And.intro ln1 ln2))
   clear e1 e2 lk1 lk2 h1 h2 hw1 hw2 hb hm D0 L1' L2' hO ln1 ln2
   generalize ZA b=nb at *
   obtain ⟨bn,bd⟩:=nb
   obtain ⟨tn,td⟩:=t
   dsimp only at *
   generalize lo.length=n1 at *
   generalize up.length=n2 at *
   generalize m.length=nm at *
   have HL:=Lib.hid (And.intro hc1 hc2)
   clear hc1 hc2
   go_enter Tryz.func107,Tryz.ntmps107
   go_upto_region 1 with fail
   generalize (w.alloc (.cells #[.slice A1 n1 c1,.slice A2 n2 c2] 115)).alloc (.cells #[.int .i64 0,.int .i64 0] 25)=w1 at *
   have p0:=DD.out.P.cell 0
   go_upto_region 2 with (go_at_call 118;(with_reducible refine (L1.out _ DD.out.below).mono ?_);rintro e5 w2 ⟨rfl,hb2⟩)
   have a2:=Za w2 (.cells #[.int .i64 bn,.int .i64 bd] 25)
   have T6:=Lib.hid (Blk.start w2 #[.int .i64 bn,.int .i64 bd] 25)
   have DD:=Lib.hid ((DD.out.keep hb2).keep a2)
   clear hb2 a2 p0
   generalize w2.heap.size=b6 at *
   generalize w2.alloc (.cells #[.int .i64 bn,.int .i64 bd] 25)=w3 at *
   have p1:=DD.out.P.cell 1
   go_upto_region 3 with (go_at_call 118;(with_reducible refine (L2.out _ DD.out.below).mono ?_);rintro e6 w4 ⟨rfl,hb4⟩)
   have a4:=Za w4 (.cells #[.int .i64 tn,.int .i64 td] 25)
   have T6:=Lib.hid ((T6.out.keep hb4).keep a4)
   have T8:=Lib.hid (Blk.start w4 #[.int .i64 tn,.int .i64 td] 25)
   have DD:=Lib.hid ((DD.out.keep hb4).keep a4)
   clear hb4 a4 p1
   generalize w4.heap.size=b8 at *
   generalize w4.alloc (.cells #[.int .i64 tn,.int .i64 td] 25)=w5 at *
   go_upto_region 4 with fail
   have a5:=Za w5 (.cells #[.int .i64 1,.int .i64 1] 25)
   have T6:=Lib.hid (T6.out.keep a5)
   have T8:=Lib.hid (T8.out.keep a5)
   have T0:=Lib.hid (Blk.start w5 #[.int .i64 1,.int .i64 1] 25)
   have DD:=Lib.hid (DD.out.keep a5)
   clear a5
   generalize w5.heap.size=b10 at *
   generalize w5.alloc (.cells #[.int .i64 1,.int .i64 1] 25)=w6 at *
   have p0:=DD.out.P.cell 0
   have p1:=DD.out.P.cell 1
   by_cases g1:n1=0
   ·subst g1
    by_cases g2:n2=0
    ·subst g2
     have HZ:=Lib.hid (show Z=some (0,1) from by rw [HO.out.1,if_pos rfl,if_pos rfl])
     have r0:=DD.out.R.cell 0
     have r1:=DD.out.R.cell 1
     have q0:=DD.out.R.free 0
     have q1:=DD.out.R.free 1
     go_wp2_with fail
     have B9:=(DD.out.R.set 0 (.int .i64 (0))).set 1 (.int .i64 (1))
     have z0:=B9.cell 0
     have z1:=B9.cell 1
     exact bodyPost_ret (v:=.tuple #[Ze (0) (1),.int .i64 (0)]) (by simp [results,Tryz.results107,go_sem,z0,z1]) rfl ⟨⟨0,1,0,rfl,.inl ⟨rfl,HZ.out⟩⟩,(DD.out.below.setCell (p:=⟨w.heap.size+1,0,none⟩) (by show w.heap.size<=w.heap.size+1;omega) _).setCell (p:=⟨w.heap.size+1,1,none⟩) (by show w.heap.size<=w.heap.size+1;omega) _⟩
    ·have i0:((((0:Nat):Int)+(n2:Int))==0)=false:=by simpa using g2
     have i0':((n2:Int)==0)=false:=by simpa using g2
     have ok:=HO.out.2.2.resolve_left g2
     have wn2:IntKind.i64.wrap (n2:Int)=n2:=IntWalk.i64_in _ (by have:=HL.out;omega)
     have OPC0:=fun (w':World)=>Zqs w' (tn,td) (1,1) ok Zdn
     have ju:=ZcH (Zo (tn,td) (ZA (1,1)))
     have hz:Z=okO (Zo (tn,td) (ZA (1,1))):=by rw [HO.out.1,if_pos rfl,if_neg g2]
     rw [<- hz] at ju
     generalize Zo (tn,td) (ZA (1,1))=Q at *
     obtain ⟨⟨gx,gy⟩,gz⟩:=Q
     dsimp only at OPC0 ju
     have OPC:=Lib.hid OPC0
     have JU:=Lib.hid ju
     clear OPC0 ju hz ok g2 p0 p1
     have x0:=T8.out.cell 0
     have x1:=T8.out.cell 1
     have y0:=T0.out.cell 0
     have y1:=T0.out.cell 1
     have p0:=DD.out.P.cell 0
     have p1:=DD.out.P.cell 1
     have r0:=DD.out.R.cell 0
     have r1:=DD.out.R.cell 1
     have q0:=DD.out.R.free 0
     have q1:=DD.out.R.free 1
     go_wp2_with (go_at_call 32;(with_reducible refine (OPC.out _).mono ?_);rintro e8 w8 ⟨rfl,hb8⟩;have DD:=Lib.hid (DD.out.keep hb8);clear hb8 r0 r1 q0 q1;have r0:=DD.out.R.cell 0;have r1:=DD.out.R.cell 1;have q0:=DD.out.R.free 0;have q1:=DD.out.R.free 1)
     have B9:=(DD.out.R.set 0 (.int .i64 (gx))).set 1 (.int .i64 (gy))
     have z0:=B9.cell 0
     have z1:=B9.cell 1
     exact bodyPost_ret (v:=.tuple #[Ze (gx) (gy),.int .i64 (gz)]) (by simp [results,Tryz.results107,go_sem,z0,z1]) rfl ⟨⟨gx,gy,gz,rfl,JU.out⟩,(DD.out.below.setCell (p:=⟨w.heap.size+1,0,none⟩) (by show w.heap.size<=w.heap.size+1;omega) _).setCell (p:=⟨w.heap.size+1,1,none⟩) (by show w.heap.size<=w.heap.size+1;omega) _⟩
   ·have ok1:=HO.out.2.1.resolve_left g1
    have i1:((n1:Int)==0)=false:=by simpa using g1
    have i0:(((n1:Int)+(n2:Int))==0)=false:=by simp;omega
    by_cases g2:n2=0
    ·subst g2
     have wn1:IntKind.i64.wrap (n1:Int)=n1:=IntWalk.i64_in _ (by have:=HL.out;omega)
     have OPC0:=fun (w':World)=>Zdp w' (bn,bd) (1,1) ok1 Zdn
     have ju:=ZcH (Zo (bn,bd) (1,1))
     have hz:Z=okO (Zo (bn,bd) (1,1)):=by rw [HO.out.1,if_neg g1,if_pos rfl]
     rw [<- hz] at ju
     generalize Zo (bn,bd) (1,1)=Q at *
     obtain ⟨⟨gx,gy⟩,gz⟩:=Q
     dsimp only at OPC0 ju
     have OPC:=Lib.hid OPC0
     have JU:=Lib.hid ju
     clear OPC0 ju hz ok1 g1 p0 p1
     have x0:=T6.out.cell 0
     have x1:=T6.out.cell 1
     have y0:=T0.out.cell 0
     have y1:=T0.out.cell 1
     have p0:=DD.out.P.cell 0
     have p1:=DD.out.P.cell 1
     have r0:=DD.out.R.cell 0
     have r1:=DD.out.R.cell 1
     have q0:=DD.out.R.free 0
     have q1:=DD.out.R.free 1
     go_wp2_with (go_at_call 32;(with_reducible refine (OPC.out _).mono ?_);rintro e8 w8 ⟨rfl,hb8⟩;have DD:=Lib.hid (DD.out.keep hb8);clear hb8 r0 r1 q0 q1;have r0:=DD.out.R.cell 0;have r1:=DD.out.R.cell 1;have q0:=DD.out.R.free 0;have q1:=DD.out.R.free 1)
     have B9:=(DD.out.R.set 0 (.int .i64 (gx))).set 1 (.int .i64 (gy))
     have z0:=B9.cell 0
     have z1:=B9.cell 1
     exact bodyPost_ret (v:=.tuple #[Ze (gx) (gy),.int .i64 (gz)]) (by simp [results,Tryz.results107,go_sem,z0,z1]) rfl ⟨⟨gx,gy,gz,rfl,JU.out⟩,(DD.out.below.setCell (p:=⟨w.heap.size+1,0,none⟩) (by show w.heap.size<=w.heap.size+1;omega) _).setCell (p:=⟨w.heap.size+1,1,none⟩) (by show w.heap.size<=w.heap.size+1;omega) _⟩
    ·have i2:((n2:Int)==0)=false:=by simpa using g2
     have ok2:=HO.out.2.2.resolve_left g2
     have hz:Z=(okO (Zo (bn,bd) (tn,td))).bind fun s=>okO (ZT s (1,2)):=by rw [HO.out.1,if_neg g1,if_neg g2]
     have OPA:=fun (w':World)=>Zdp w' (bn,bd) (tn,td) ok1 ok2
     have oka:=Zbn.ok (bn,bd) (tn,td) ok1 ok2
     have ju:=ZcH (Zo (bn,bd) (tn,td))
     generalize Zo (bn,bd) (tn,td)=Q at *
     obtain ⟨⟨gx,gy⟩,gz⟩:=Q
     dsimp only at OPA ju oka
     have OPA:=Lib.hid OPA
     have x0:=T6.out.cell 0
     have x1:=T6.out.cell 1
     have y0:=T8.out.cell 0
     have y1:=T8.out.cell 1
     clear g1 g2 ok1 ok2
     rcases ju with ⟨je,jo⟩ | ⟨je,jo⟩
     ·subst je
      have okq:=oka rfl
      rw [jo,Option.bind_some] at hz
      go_upto_region 13 with (go_at_call 32;(with_reducible refine (OPA.out _).mono ?_);rintro e8 w8 ⟨rfl,hb8⟩)
      have a8:=Za w8 (.cells #[.int .i64 gx,.int .i64 gy] 25)
      have DD:=Lib.hid ((DD.out.keep hb8).keep a8)
      have TS:=Blk.start w8 #[.int .i64 gx,.int .i64 gy] 25
      clear hb8 a8 x0 x1 y0 y1 p0 p1
      generalize w8.heap.size=b8' at *
      generalize w8.alloc (.cells #[.int .i64 gx,.int .i64 gy] 25)=w9 at *
      have x0:=TS.cell 0
      have x1:=TS.cell 1
      have OPC0:=fun (w':World)=>ZdV w' (gx,gy) (1,2) okq Zgb
      have ju:=ZcH (ZT (gx,gy) (1,2))
      rw [<- hz] at ju
      generalize ZT (gx,gy) (1,2)=Q2 at *
      obtain ⟨⟨hx,hy⟩,hzz⟩:=Q2
      dsimp only at OPC0 ju
      have OPC:=Lib.hid OPC0
      have JU:=Lib.hid ju
      clear OPC0 ju hz oka okq jo TS
      have r0:=DD.out.R.cell 0
      have r1:=DD.out.R.cell 1
      have q0:=DD.out.R.free 0
      have q1:=DD.out.R.free 1
      go_wp2_with (go_at_call 32;(with_reducible refine (OPC.out _).mono ?_);rintro e9 w10 ⟨rfl,hb9⟩;have DD:=Lib.hid (DD.out.keep hb9);clear hb9 r0 r1 q0 q1;have r0:=DD.out.R.cell 0;have r1:=DD.out.R.cell 1;have q0:=DD.out.R.free 0;have q1:=DD.out.R.free 1)
      have B9:=(DD.out.R.set 0 (.int .i64 (hx))).set 1 (.int .i64 (hy))
      have z0:=B9.cell 0
      have z1:=B9.cell 1
      exact bodyPost_ret (v:=.tuple #[Ze (hx) (hy),.int .i64 (hzz)]) (by simp [results,Tryz.results107,go_sem,z0,z1]) rfl ⟨⟨hx,hy,hzz,rfl,JU.out⟩,(DD.out.below.setCell (p:=⟨w.heap.size+1,0,none⟩) (by show w.heap.size<=w.heap.size+1;omega) _).setCell (p:=⟨w.heap.size+1,1,none⟩) (by show w.heap.size<=w.heap.size+1;omega) _⟩
     ·have hne:(gz != 0)=true:=by simpa using je
      have JZ:=Lib.hid (And.intro je (show Z=none from by rw [hz,jo];rfl))
      clear je jo hz oka
      go_upto_region 13 with (go_at_call 32;(with_reducible refine (OPA.out _).mono ?_);rintro e8 w8 ⟨rfl,hb8⟩)
      have a8:=Za w8 (.cells #[.int .i64 gx,.int .i64 gy] 25)
      have DD:=Lib.hid ((DD.out.keep hb8).keep a8)
      have TS:=Blk.start w8 #[.int .i64 gx,.int .i64 gy] 25
      clear hb8 a8 x0 x1 y0 y1 p0 p1
      generalize w8.heap.size=b8' at *
      generalize w8.alloc (.cells #[.int .i64 gx,.int .i64 gy] 25)=w9 at *
      have x0:=TS.cell 0
      have x1:=TS.cell 1
      have r0:=DD.out.R.cell 0
      have r1:=DD.out.R.cell 1
      have q0:=DD.out.R.free 0
      have q1:=DD.out.R.free 1
      go_wp2_with fail
      have B9:=(DD.out.R.set 0 (.int .i64 (gx))).set 1 (.int .i64 (gy))
      have z0:=B9.cell 0
      have z1:=B9.cell 1
      exact bodyPost_ret (v:=.tuple #[Ze (gx) (gy),.int .i64 (gz)]) (by simp [results,Tryz.results107,go_sem,z0,z1]) rfl ⟨⟨gx,gy,gz,rfl,.inr JZ.out⟩,(DD.out.below.setCell (p:=⟨w.heap.size+1,0,none⟩) (by show w.heap.size<=w.heap.size+1;omega) _).setCell (p:=⟨w.heap.size+1,1,none⟩) (by show w.heap.size<=w.heap.size+1;omega) _⟩
end
end Go.Proofs.YtolookeddknmoaaGreat
