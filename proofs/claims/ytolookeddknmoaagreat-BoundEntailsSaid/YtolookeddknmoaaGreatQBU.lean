import Derived.Test.YtolookeddknmoaaGreatQAR
import Derived.Test.YtolookeddknmoaaGreatQBA
import Derived.Test.YtolookeddknmoaaGreatQBF
import Derived.Test.YtolookeddknmoaaGreatQBN
import Derived.Test.YtolookeddknmoaaGreatQBS
import Derived.Test.YtolookeddknmoaaGreatQBT
set_option maxRecDepth 100000
set_option maxHeartbeats 8000000
namespace Go.Proofs.YtolookeddknmoaaGreat
section
open Go.RowKit
def Zmq (w:World) (v:Value) (l:List Rw):Prop:=
 ∀ (w':World),Below w.heap.size w w'->∀ (va:Value) (t:Trm) (op:Int),Zb w' va t.1->Zv t.1->Bd t.2->(op=1\/op=2) ->
  Calls Tryz.prog 16 #[v,.agg #[va,.int .i64 t.2.1,.int .i64 t.2.2],.int .i64 op] w' fun e w2=>e=.returned (.int .i64 (Zbi l t op))/\Below w'.heap.size w' w2
theorem Zma (w:World) (v vr:Value) (l:List Rw) (r:Rw) (NV:Zmq w v l) (hr:Zb w vr r.2.1) (hx:ZX r) :
  Calls Tryz.prog 8 #[v,.agg #[.int .i64 r.1,vr,.int .i64 r.2.2.1,.int .i64 r.2.2.2]] w fun e w'=>e=.returned (.int .i64 (Zno l r))/\Below w.heap.size w w':=by
 obtain ⟨op,t⟩:=r
 dsimp only at *
 have a0:=Za w (.cells #[.int .i64 op,vr,.int .i64 t.2.1,.int .i64 t.2.2] 29)
 have N1:=fun (w':World) (h:Below w.heap.size w w')=>NV w' h vr t 1 (hr.below h) hx.1 hx.2.1 (.inl rfl)
 have N2:=fun (w':World) (h:Below w.heap.size w w')=>NV w' h vr t 2 (hr.below h) hx.1 hx.2.1 (.inr rfl)
 have TD:=fun (w':World) (h:Below w.heap.size w w')=>Zdf w' vr t.1 t.2 (-1,1) (hr.below h) hx.1 hx.2.1 Zb5
 have TW:=ZaR (l:=t.1) (kx:=t.2) (kb:=(-1,1)) hx.1 hx.2.1 Zb5
 have hE:Zno l (op,t)=if op=1 then Zbi l t 2 else if op=2 then Zbi l t 1 else if op=0 then (if Zbi l t 2≠0 then Zbi l t 2 else if (Zh t.1 t.2 (-1,1)).2.2≠0 then 2 else Zbi l ((Zh t.1 t.2 (-1,1)).1,(Zh t.1 t.2 (-1,1)).2.1) 2) else 2:=rfl
 rw [hE]
 have N3:=fun (w':World) (h:Below w.heap.size w w') (va:Value) (hv:Zb w' va (Zh t.1 t.2 (-1,1)).1)=>NV w' h va ((Zh t.1 t.2 (-1,1)).1,(Zh t.1 t.2 (-1,1)).2.1) 2 hv TW.1 TW.2 (.inr rfl)
 dsimp only at N3
 generalize Zbi l t 2=n2 at *
 generalize Zbi l t 1=n1 at *
 generalize Zbi l ((Zh t.1 t.2 (-1,1)).1,(Zh t.1 t.2 (-1,1)).2.1) 2=n3 at *
 generalize Zh t.1 t.2 (-1,1)=P at *
 obtain ⟨L,⟨p1,p2⟩,er⟩:=P
 obtain ⟨tl,kn,kd⟩:=t
 dsimp only at *
 obtain ⟨A,c,rfl⟩:=Zd hr
 have D:=Lib.hid (And.intro a0 (Blk.start w #[.int .i64 op,.slice A tl.length c,.int .i64 kn,.int .i64 kd] 29))
 have N1:=Lib.hid N1
 have N2:=Lib.hid N2
 have N3:=Lib.hid N3
 have TD:=Lib.hid TD
 obtain ⟨Z,hZ⟩:∃ Z:Int,Z=if op=1 then n2 else if op=2 then n1 else if op=0 then (if n2≠0 then n2 else if er≠0 then 2 else n3) else 2:=⟨_,rfl⟩
 rw [<- hZ]
 have HY:=Lib.hid hZ
 clear a0 hr hx NV TW hE hZ
 generalize tl.length=n at *
 go_enter Tryz.func8,Tryz.ntmps8
 go_upto_region 1 with fail
 generalize hb0:w.heap.size=b0 at *
 generalize w.alloc (.cells #[.int .i64 op,.slice A n c,.int .i64 kn,.int .i64 kd] 29)=w1 at *
 have r0:w1.cell? ⟨b0,0,none⟩=some (.int .i64 op):=D.out.2.cell 0
 have r1:w1.cell? ⟨b0,1,none⟩=some (.slice A n c):=D.out.2.cell 1
 have r2:w1.cell? ⟨b0,2,none⟩=some (.int .i64 kn):=D.out.2.cell 2
 have r3:w1.cell? ⟨b0,3,none⟩=some (.int .i64 kd):=D.out.2.cell 3
 by_cases h1:op=1
 ·have HZ:=Lib.hid (show Z=n2 from by rw [HY.out,if_pos h1])
  subst h1
  go_wp2_with (go_at_call 16;(with_reducible refine (N2.out _ D.out.1).mono ?_);rintro e2 w2 ⟨rfl,hb2⟩)
  go_ret
  exact ⟨by rw [HZ.out];rfl,by rw [hb0];exact Zl hb0 D.out.1 hb2⟩
 ·have e1:(op==1)=false:=by simpa using h1
  by_cases h2:op=2
  ·have HZ:=Lib.hid (show Z=n1 from by rw [HY.out,if_neg h1,if_pos h2])
   subst h2
   clear h1 e1
   go_wp2_with (go_at_call 16;(with_reducible refine (N1.out _ D.out.1).mono ?_);rintro e2 w2 ⟨rfl,hb2⟩)
   go_ret
   exact ⟨by rw [HZ.out];rfl,by rw [hb0];exact Zl hb0 D.out.1 hb2⟩
  ·have e2:(op==2)=false:=by simpa using h2
   by_cases h0:op=0
   ·subst h0
    have HX:=Lib.hid (show Z=(if n2≠0 then n2 else if er≠0 then 2 else n3) from by rw [HY.out,if_neg h1,if_neg h2,if_pos rfl])
    clear h1 h2 e1 e2
    go_upto_region 8 with (go_at_call 16;(with_reducible refine (N2.out _ D.out.1).mono ?_);rintro e2 w2 ⟨rfl,hb2⟩)
    have D2:=Lib.hid (And.intro (Zl hb0 D.out.1 hb2) (D.out.2.keep hb2))
    clear r0 r1 r2 r3 D hb2
    have r1:w2.cell? ⟨b0,1,none⟩=some (.slice A n c):=D2.out.2.cell 1
    have r2:w2.cell? ⟨b0,2,none⟩=some (.int .i64 kn):=D2.out.2.cell 2
    have r3:w2.cell? ⟨b0,3,none⟩=some (.int .i64 kd):=D2.out.2.cell 3
    by_cases g:n2=0
    ·have HW:=Lib.hid (show Z=(if er≠0 then 2 else n3) from by rw [HX.out,if_neg (fun q=>q g)])
     subst g
     go_upto_region 11 with (go_at_call 17;(with_reducible refine (TD.out _ D2.out.1).mono ?_);rintro e5 w5 H5;have H6:∃ A c,e5=.returned (.tuple #[.agg #[.slice A L.length c,.int .i64 p1,.int .i64 p2],.int .i64 er])/\Zb w5 (.slice A L.length c) L/\Below w2.heap.size w2 w5/\Zs w2.heap.size (.slice A L.length c):=Zch H5;obtain ⟨A1,cq,rfl,hr5,hb5,fr5⟩:=H6)
     have a6:=Za w5 (.cells #[.slice A1 L.length cq,.int .i64 p1,.int .i64 p2] 27)
     have X6:=Lib.hid (And.intro (Zl hb0 (Zl hb0 D2.out.1 hb5) a6) (And.intro (Blk.start w5 #[.slice A1 L.length cq,.int .i64 p1,.int .i64 p2] 27) (hr5.below a6)))
     clear r1 r2 r3 D2 H5 hr5 hb5 fr5 a6
     generalize w5.heap.size=b6 at *
     generalize w5.alloc (.cells #[.slice A1 L.length cq,.int .i64 p1,.int .i64 p2] 27)=w6 at *
     have x0:w6.cell? ⟨b6,0,none⟩=some (.slice A1 L.length cq):=X6.out.2.1.cell 0
     have x1:w6.cell? ⟨b6,1,none⟩=some (.int .i64 p1):=X6.out.2.1.cell 1
     have x2:w6.cell? ⟨b6,2,none⟩=some (.int .i64 p2):=X6.out.2.1.cell 2
     by_cases ge:er=0
     ·have HZ:=Lib.hid (show Z=n3 from by rw [HW.out,if_neg (fun q=>q ge)])
      subst ge
      go_wp2_with (go_at_call 16;(with_reducible refine (N3.out _ X6.out.1 _ X6.out.2.2).mono ?_);rintro e7 w7 ⟨rfl,hb7⟩)
      go_ret
      exact ⟨by rw [HZ.out];rfl,by rw [hb0];exact Zl hb0 X6.out.1 hb7⟩
     ·have ne:(er != 0)=true:=by simpa using ge
      have HZ:=Lib.hid (show Z=2 from by rw [HW.out,if_pos ge])
      clear ge
      go_wp2_with fail
      go_ret
      exact ⟨by rw [HZ.out];rfl,by rw [hb0];exact X6.out.1⟩
    ·have ne:(n2 != 0)=true:=by simpa using g
     have HZ:=Lib.hid (show Z=n2 from by rw [HX.out,if_pos g])
     clear g
     go_wp2_with fail
     go_ret
     exact ⟨by rw [HZ.out];rfl,by rw [hb0];exact D2.out.1⟩
   ·have e0:(op==0)=false:=by simpa using h0
    have HZ:=Lib.hid (show Z=2 from by rw [HY.out,if_neg h1,if_neg h2,if_neg h0])
    clear h0 h1 h2
    go_wp2_with fail
    go_ret
    exact ⟨by rw [HZ.out];rfl,by rw [hb0];exact D.out.1⟩
end
section
open Go.RowKit Go.WideShapes
theorem Zgk (w:World) (va vb:Value) (l m:List (Int×Int)) (xn xd:Int) (ha:Zb w va l) (hb:Zb w vb m) (hl:Zv l) (hm:Zv m) (x1:-9223372036854775808<=xn) (x2:xn<=9223372036854775807) (x3:-9223372036854775808<=xd) (x4:xd<=9223372036854775807) :
  Calls Tryz.prog 11 #[.agg #[va,.int .i64 xn,.int .i64 xd],vb] w fun r w'=>r=.returned (.tuple #[Ze (ZS l m (xn,xd)).1.1 (ZS l m (xn,xd)).1.2,.int .i64 (ZS l m (xn,xd)).2])/\Below w.heap.size w w':=by
 cases hr:ZO l xn xd
 ·exact Znz w va vb l m xn xd ha hb hl x1 x2 x3 x4 hr
 ·exact Zny w va vb l m xn xd ha hb hl hm x1 x2 x3 x4 hr
end
section
open Go.RowKit
theorem Zpz (hSolve:Zd8) {w:World} {v:Value} {l:List Rw} (h:ZD w v l) (hw:∀ r∈l,ZX r) (hl:l.length<=1000):Zmq w v l:=
 fun w' hb va t op ha h1 h2 ho=>ZoC hSolve w' v va l t op (h.below hb) hw hl ha h1 h2 ho
theorem Zlh (hSolve:Zd8) (w:World) (v vr:Value) (l:List Rw) (r:Rw) (h:ZD w v l) (hw:∀ r∈l,ZX r) (hl:l.length<=1000) (hr:Zb w vr r.2.1) (hx:ZX r) :
  Calls Tryz.prog 8 #[v,.agg #[.int .i64 r.1,vr,.int .i64 r.2.2.1,.int .i64 r.2.2.2]] w fun e w'=>e=.returned (.int .i64 (Zff l r))/\Below w.heap.size w w':=by
 have:=Zma w v vr l r (Zpz hSolve h hw hl) hr hx
 rw [Zl9 hw hx] at this
 exact this
theorem ZgM (w:World) (v:Value) (l:List Rw) (h:ZD w v l) (s:Value) (r:Rw) (q:Zb w s r.2.1) (hs:Zeh l=false\/(Zeh l=true/\¬ r.2.1.length<=12)) :
  Calls Tryz.prog 3 #[v,.agg #[.int .i64 r.1,s,.int .i64 r.2.2.1,.int .i64 r.2.2.2]] w fun e w'=>e=.returned (.bool true)/\Below w.heap.size w w':=by
 obtain ⟨xo,xl,x1,x2⟩:=r
 dsimp only at *
 obtain ⟨Ax,cx,rfl⟩:=Zd q
 have a:=Za w (.cells #[.int .i64 xo,.slice Ax xl.length cx,.int .i64 x1,.int .i64 x2] 29)
 have BB:=Blk.start w #[.int .i64 xo,.slice Ax xl.length cx,.int .i64 x1,.int .i64 x2] 29
 have sm:=fun (w':World) (hb:Below w.heap.size w w')=>ZiT w' v l (h.below hb)
 have s2:=fun (w':World) (hb:Below w.heap.size w w')=>Zhb w' (.slice Ax xl.length cx) xl x1 x2 (q.below hb)
 have B1:=Lib.hid (And.intro a BB)
 obtain ⟨A,c,_,rfl,_⟩:=h
 rcases hs with hs | ⟨hs,hx⟩
 ·rw [hs] at sm
  have SM:=Lib.hid sm
  clear sm s2 a BB q hs
  generalize xl.length=xn at *
  generalize l.length=n at *
  go_enter Tryz.func3,Tryz.ntmps3
  go_upto_region 1 with fail
  generalize hb3:w.heap.size=b3 at *
  generalize w.alloc (.cells #[.int .i64 xo,.slice Ax xn cx,.int .i64 x1,.int .i64 x2] 29)=w0 at *
  have B0:=Lib.hid B1.out.1
  clear B1
  go_wp2_with (first
   | (go_at_call 4;(with_reducible refine (ZfV _).mono ?_);rintro e w1 ⟨rfl,hb⟩;have B0:=Lib.hid (Zl hb3 B0.out hb);clear hb)
   | (go_at_call 5;(with_reducible refine (SM.out _ B0.out).mono ?_);rintro e w2 ⟨rfl,hb⟩;have B0:=Lib.hid (Zl hb3 B0.out hb);clear hb))
  go_ret
  exact ⟨rfl,by first | exact B0.out | (rw [hb3];exact B0.out)⟩
 ·rw [hs] at sm
  rw [show decide (xl.length<=12)=false from decide_eq_false hx] at s2
  have SM:=Lib.hid sm
  have S2:=Lib.hid s2
  clear sm s2 a BB q hs hx
  generalize xl.length=xn at *
  generalize l.length=n at *
  go_enter Tryz.func3,Tryz.ntmps3
  go_upto_region 1 with fail
  generalize hb3:w.heap.size=b3 at *
  generalize w.alloc (.cells #[.int .i64 xo,.slice Ax xn cx,.int .i64 x1,.int .i64 x2] 29)=w0 at *
  have B0:=Lib.hid B1.out.1
  have BK:=Lib.hid B1.out.2
  clear B1
  go_wp2_with (first
   | (go_at_call 4;(with_reducible refine (ZfV _).mono ?_);rintro e w1 ⟨rfl,hb⟩;have B0:=Lib.hid (Zl hb3 B0.out hb);(try have BK:=Lib.hid (BK.out.keep hb));clear hb)
   | (go_at_call 5;(with_reducible refine (SM.out _ B0.out).mono ?_);rintro e w2 ⟨rfl,hb⟩;have B0:=Lib.hid (Zl hb3 B0.out hb);have BK:=Lib.hid (BK.out.keep hb);clear hb;have k1:=BK.out.cell 1;have k2:=BK.out.cell 2;have k3:=BK.out.cell 3)
   | (go_at_call 6;(with_reducible refine (S2.out _ B0.out).mono ?_);rintro e w3 ⟨rfl,hb⟩;have B0:=Lib.hid (Zl hb3 B0.out hb);clear hb k1 k2 k3 BK))
  go_ret
  exact ⟨rfl,by first | exact B0.out | (rw [hb3];exact B0.out)⟩
theorem ZlI (hSolve:Zd8) (w:World) (v:Value) (l:List Rw) (h:ZD w v l) (hw:∀ r∈l,ZX r) (s:Value) (r:Rw) (q:Zb w s r.2.1) (hr:ZX r) (hs:Zeh l=true) (hx:r.2.1.length<=12) :
  Calls Tryz.prog 3 #[v,.agg #[.int .i64 r.1,s,.int .i64 r.2.2.1,.int .i64 r.2.2.2]] w fun e w'=>e=.returned (.bool true)/\Below w.heap.size w w':=by
 have hl:l.length<=1000:=by
  unfold Zeh at hs
  rw [Bool.and_eq_true,decide_eq_true_eq] at hs
  omega
 have en:=fun (w':World) (hb:Below w.heap.size w w')=>ZlU w' v s l r (h.below hb) hw hl (q.below hb) hr
 have re:=fun (w':World) (hb:Below w.heap.size w w')=>Zlh hSolve w' v s l r (h.below hb) hw hl (q.below hb) hr
 have sv:=fun (w':World) (hb:Below w.heap.size w w')=>ZfY w' v l (h.below hb) hw
 have ho:=fun (w':World) (hb:Below w.heap.size w w') (vm:Value) (m:List (Int×Int)) (hv:Zb w' vm m) (hm:Zv m)=>ZgV w' v vm l m (h.below hb) hw hv hm
 have h1:=fun (w':World) (vr:Value) (hr':ZD w' vr [r]) (vm:Value) (m:List (Int×Int)) (hv:Zb w' vm m) (hm:Zv m)=>ZgV w' vr vm [r] m hr' (fun y hy=>by rw [List.mem_singleton] at hy;subst hy;exact hr) hv hm
 have va:=fun (w':World) (hb:Below w.heap.size w w') (vm:Value) (m:List (Int×Int)) (hv:Zb w' vm m) (hm:Zv m)=>Zgk w' s vm r.2.1 m r.2.2.1 r.2.2.2 (q.below hb) hv hr.1 hm hr.2.1.1.1 hr.2.1.1.2 hr.2.1.2.1 hr.2.1.2.2
 have fo:=fun (m:List (Int×Int)) (hm:Zv m)=>follows_holds (l:=l) (r:=r) (m:=m) hw hr hm
 have sm:=fun (w':World) (hb:Below w.heap.size w w')=>ZiT w' v l (h.below hb)
 rw [hs] at sm
 obtain ⟨⟨m,z⟩,hz⟩:∃ y,ZbV l=y:=⟨_,rfl⟩
 rw [hz] at sv
 generalize Zff l r=E at *
 obtain ⟨xo,xl,x1,x2⟩:=r
 dsimp only at *
 obtain ⟨Ax,cx,rfl⟩:=Zd q
 have a:=Za w (.cells #[.int .i64 xo,.slice Ax xl.length cx,.int .i64 x1,.int .i64 x2] 29)
 have BB:=Blk.start w #[.int .i64 xo,.slice Ax xl.length cx,.int .i64 x1,.int .i64 x2] 29
 have s2:=fun (w':World) (hb:Below w.heap.size w w')=>Zhb w' (.slice Ax xl.length cx) xl x1 x2 (q.below hb)
 rw [show decide (xl.length<=12)=true from decide_eq_true hx] at s2
 have QB:=Lib.hid (fun (w':World) (hb:Below w.heap.size w w')=>q.below hb)
 obtain ⟨A,c,_,rfl,_⟩:=h
 have EN:=Lib.hid en
 have RE:=Lib.hid re
 have SV:=Lib.hid sv
 have HO:=Lib.hid ho
 have H1:=Lib.hid h1
 have VA:=Lib.hid va
 have FO:=Lib.hid fo
 have SM:=Lib.hid sm
 have S2:=Lib.hid s2
 have B1:=Lib.hid (And.intro a BB)
 clear en re sv ho h1 va fo sm s2 a BB hs hx hz hw hr hl q
 obtain ⟨xn,hxn⟩:∃ xn,xl.length=xn:=⟨_,rfl⟩
 rw [hxn] at EN RE VA S2 B1 QB ⊢
 generalize l.length=n at *
 have ee:(E != E)=false:=by simp
 go_enter Tryz.func3,Tryz.ntmps3
 go_upto_region 1 with fail
 generalize hb3:w.heap.size=b3 at *
 generalize w.alloc (.cells #[.int .i64 xo,.slice Ax xn cx,.int .i64 x1,.int .i64 x2] 29)=w0 at *
 have B0:=Lib.hid B1.out.1
 have BK:=Lib.hid B1.out.2
 clear B1
 go_upto_region 3 with (first
  | (go_at_call 4;(with_reducible refine (ZfV _).mono ?_);rintro e w1 ⟨rfl,hb⟩;have B0:=Lib.hid (Zl hb3 B0.out hb);have BK:=Lib.hid (BK.out.keep hb);clear hb)
  | (go_at_call 5;(with_reducible refine (SM.out _ B0.out).mono ?_);rintro e w2 ⟨rfl,hb⟩;have B0:=Lib.hid (Zl hb3 B0.out hb);have BK:=Lib.hid (BK.out.keep hb);clear hb;have k1:=BK.out.cell 1;have k2:=BK.out.cell 2;have k3:=BK.out.cell 3)
  | (go_at_call 6;(with_reducible refine (S2.out _ B0.out).mono ?_);rintro e w3 ⟨rfl,hb⟩;have B0:=Lib.hid (Zl hb3 B0.out hb);have BK:=Lib.hid (BK.out.keep hb);clear hb k1 k2 k3))
 have k0:=BK.out.cell 0;have k1:=BK.out.cell 1;have k2:=BK.out.cell 2;have k3:=BK.out.cell 3
 go_upto_region 4 with (go_at_call 7;(with_reducible refine (EN.out _ B0.out).mono ?_);rintro e w4 ⟨rfl,hb⟩;have B0:=Lib.hid (Zl hb3 B0.out hb);have BK:=Lib.hid (BK.out.keep hb);clear hb k0 k1 k2 k3)
 have k0:=BK.out.cell 0;have k1:=BK.out.cell 1;have k2:=BK.out.cell 2;have k3:=BK.out.cell 3
 go_upto_region 6 with (go_at_call 8;(with_reducible refine (RE.out _ B0.out).mono ?_);rintro e w5 ⟨rfl,hb⟩;have B0:=Lib.hid (Zl hb3 B0.out hb);have BK:=Lib.hid (BK.out.keep hb);clear hb k0 k1 k2 k3)
 go_upto_region 7 with (go_at_call 9;(with_reducible refine (SV.out _ B0.out).mono ?_);rintro e w6 ⟨A6,c6,rfl,hr6,ok6,hb⟩;have B0:=Lib.hid (Zl hb3 B0.out hb);have BK:=Lib.hid (BK.out.keep hb);clear hb)
 have hm:=ok6.wide
 have R6:=Lib.hid hr6
 clear hr6 ok6
 (try dsimp only at R6 hm)
 have HM:=Lib.hid hm
 clear hm
 obtain ⟨mn,hmn⟩:∃ mn,m.length=mn:=⟨_,rfl⟩
 rw [hmn] at R6 ⊢
 by_cases g1:E=0
 rotate_left
 ·have e1:(E != 0)=true:=by simpa using g1
  clear g1
  go_wp2_with fail
  go_ret
  exact ⟨rfl,by first | exact B0.out | (rw [hb3];exact B0.out)⟩
 subst g1
 by_cases g2:z=0
 rotate_left
 ·have e2:(z != 0)=true:=by simpa using g2
  clear g2
  go_wp2_with fail
  go_ret
  exact ⟨rfl,by first | exact B0.out | (rw [hb3];exact B0.out)⟩
 subst g2
 have FO2:=Lib.hid (FO.out m HM.out rfl)
 have HO2:=Lib.hid (HO.out w6 B0.out (.slice A6 mn c6) m R6.out HM.out)
 cases hh:Zed l m with
 | false=>
  rw [hh] at HO2
  go_wp2_with (go_at_call 10;(with_reducible refine HO2.out.mono ?_);rintro e w7 ⟨rfl,hb⟩;have B0:=Lib.hid (Zl hb3 B0.out hb);clear hb)
  go_ret
  exact ⟨rfl,by first | exact B0.out | (rw [hb3];exact B0.out)⟩
 | true=>
  rw [hh] at HO2
  go_upto_region 9 with (go_at_call 10;(with_reducible refine HO2.out.mono ?_);rintro e w7 ⟨rfl,hb⟩;have B0:=Lib.hid (Zl hb3 B0.out hb);have BK:=Lib.hid (BK.out.keep hb);have R6:=Lib.hid (R6.out.below hb);clear hb)
  have VA2:=Lib.hid (VA.out w7 B0.out (.slice A6 mn c6) m R6.out HM.out)
  have FO3:=Lib.hid (fun (he:(ZS xl m (x1,x2)).2=0)=>FO2.out hh he)
  generalize ZS xl m (x1,x2)=P at *
  obtain ⟨⟨p1,p2⟩,er⟩:=P
  dsimp only at VA2 FO3
  have k0:=BK.out.cell 0;have k1:=BK.out.cell 1;have k2:=BK.out.cell 2;have k3:=BK.out.cell 3
  go_upto_region 10 with (go_at_call 11;(with_reducible refine VA2.out.mono ?_);rintro e w8 ⟨rfl,hb⟩;have B0:=Lib.hid (Zl hb3 B0.out hb);have BK:=Lib.hid (BK.out.keep hb);have R6:=Lib.hid (R6.out.below hb);clear hb k0 k1 k2 k3)
  have a8:=Za w8 (.cells #[.int .i64 p1,.int .i64 p2] 25)
  have B0:=Lib.hid (Zl hb3 B0.out a8)
  have BK:=Lib.hid (BK.out.keep a8)
  have R6:=Lib.hid (R6.out.below a8)
  clear a8
  generalize w8.alloc (.cells #[.int .i64 p1,.int .i64 p2] 25)=w9 at *
  by_cases g3:er=0
  rotate_left
  ·have e3:(er != 0)=true:=by simpa using g3
   clear g3
   go_wp2_with fail
   go_ret
   exact ⟨rfl,by first | exact B0.out | (rw [hb3];exact B0.out)⟩
  subst g3
  have hf:=FO3.out rfl
  have aX:=Za w9 (.cells #[.int .i64 xo,.slice Ax xn cx,.int .i64 x1,.int .i64 x2] 29)
  have RX:ZD (w9.alloc (.cells #[.int .i64 xo,.slice Ax xn cx,.int .i64 x1,.int .i64 x2] 29)) (.slice (some ⟨w9.heap.size,0,none⟩) 1 1) [(xo,xl,x1,x2)]:=by
   refine Zgj (rs:=[(.slice Ax xn cx,(xo,xl,x1,x2))]) (ZeL rfl) rfl rfl (by decide) rfl (fun y hy=>?_)
   rw [List.mem_singleton] at hy
   subst hy
   exact QB.out _ (Zl hb3 B0.out aX)
  have HL:=Lib.hid (H1.out _ _ RX (.slice A6 mn c6) m (R6.out.below aX) HM.out)
  rw [hf] at HL
  have B9:=Lib.hid (Zl hb3 B0.out aX)
  have k0:=BK.out.cell 0;have k1:=BK.out.cell 1;have k2:=BK.out.cell 2;have k3:=BK.out.cell 3
  clear RX aX hf
  go_wp2_with (go_at_call 10;(with_reducible refine HL.out.mono ?_);rintro e w10 ⟨rfl,hb⟩;have B0:=Lib.hid (Zl hb3 B9.out hb);clear hb)
  go_ret
  exact ⟨rfl,by first | exact B0.out | (rw [hb3];exact B0.out)⟩
theorem ZkF (hSolve:Zd8) (w:World) (v:Value) (l:List Rw) (h:ZD w v l) (hw:∀ r∈l,ZX r) (s:Value) (r:Rw) (q:Zb w s r.2.1) (hr:ZX r) :
  Calls Tryz.prog 3 #[v,.agg #[.int .i64 r.1,s,.int .i64 r.2.2.1,.int .i64 r.2.2.2]] w fun e w'=>e=.returned (.bool true)/\Below w.heap.size w w':=by
 cases hs:Zeh l with
 | false=>exact ZgM w v l h s r q (.inl hs)
 | true=>
  by_cases hx:r.2.1.length<=12
  ·exact ZlI hSolve w v l h hw s r q hr hs hx
  ·exact ZgM w v l h s r q (.inr ⟨hs,hx⟩)
end
section
open Go.RowKit
def Zfq (w:World) (r:Option (Int×Int)) (e:Ending) (w':World):Prop:=
 (match r with
  | some x=>e=.returned (.tuple #[Ze x.1 x.2,.bool true])
  | none=>∃ z:Int×Int,e=.returned (.tuple #[Ze z.1 z.2,.bool false]))/\Below w.heap.size w w'
theorem LowS.other {W wr:World} {lo:Int×Int} (h:LowS W wr lo) {p:Addr} (h1:p.block≠W.heap.size) (h2:p.block≠W.heap.size+1) (h3:W.heap.size<=p.block) (v:Value):LowS W (wr.setCell p v) lo:=
 ⟨h.R.other h1 v,h.L.other h2 v,h.below.setCell h3 v⟩
theorem Zp2 {x:Int×Int} (h:OkR x):-9223372036854775807<=x.1/\x.1<=9223372036854775807:=by
 obtain ⟨d,e,v⟩:=h
 have:=v.n_le
 omega
theorem ZkK {x:Int×Int} (hx:OkR x) (w:World):Calls Tryz.prog 123 #[Ze x.1 x.2,Ze 0 0] w fun r w'=>r=.returned (.int .i64 0)/\Below w.heap.size w w':=by
 have hb:=hx.wide
 have hr:Zas x.1 x.2=true:=by
  obtain ⟨d,e,v⟩:=hx
  rw [e]
  exact v.right
 exact Zld x.1 x.2 0 0 w (fun w=>ZaV _ _ w hb.1.1 hb.1.2 hb.2.1 hb.2.2) (fun w=>ZaV 0 0 w (by decide) (by decide) (by decide) (by decide)) (.inr ⟨hr,by decide⟩)
theorem Zqi (a b:Int) (d e:Nat):0<Zco (-a) (-b) d e↔a*(e:Int)<b*(d:Int):=by
 unfold Zco
 rw [Int.neg_mul,Int.neg_mul]
 by_cases h:-(a*(e:Int)) < -(b*(d:Int))
 ·rw [if_pos h]
  exact ⟨fun q=>absurd q (by decide),fun q=>by omega⟩
 ·rw [if_neg h]
  by_cases h2:-(a*(e:Int))=-(b*(d:Int))
  ·rw [if_pos h2]
   exact ⟨fun q=>absurd q (by decide),fun q=>by omega⟩
  ·rw [if_neg h2]
   exact ⟨fun _=>by omega,fun _=>by decide⟩
theorem Znt (w:World) (v vb:Value) (ts:List Rw) (m:List (Int×Int)) (h:ZD w v ts) (hw:∀ r∈ts,Zv r.2.1/\Bd r.2.2) (hb:Zb w vb m) (hm:Zv m) :
  Calls Tryz.prog 118 #[v,vb,.bool true] w (Zfq w ((Zba ts m ts.length).map ZA)):=by
 obtain ⟨A,c,rs,rfl,h2,h3,h4,h5,h6⟩:=h
 obtain ⟨n,hn⟩:∃ n,n=ts.length:=⟨_,rfl⟩
 have hrn:rs.length=n:=by rw [hn,<- h4,List.length_map]
 have hmx:n<=9223372036854775807:=by unfold maxLen at h3;omega
 rw [<- hn] at h2 h5 ⊢
 obtain ⟨res,hres⟩:∃ res,res=(Zba ts m n).map ZA:=⟨_,rfl⟩
 rw [<- hres]
 obtain ⟨C,d,rfl⟩:=Zd hb
 have HN:=Lib.hid (And.intro hrn (And.intro h4 (And.intro hmx (And.intro h6 (And.intro hn (And.intro hres (And.intro hw (And.intro hb hm))))))))
 have H5:=Lib.hid h5
 have S0:=Lib.hid (show LowS w ((w.alloc (.cells #[.int .i64 0,.int .i64 0] 25)).alloc (.cells #[.int .i64 0,.int .i64 0] 25)) (0,0) from by
  have B1:=Blk.start (w.alloc (.cells #[.int .i64 0,.int .i64 0] 25)) #[.int .i64 0,.int .i64 0] 25
  rw [World.size_alloc] at B1
  exact ⟨(Blk.start w #[.int .i64 0,.int .i64 0] 25).keep (Za _ _),B1,ZI _ _ _⟩)
 generalize m.length=lm at *
 clear hn hrn h2 h3 h4 h5 h6 hmx hres hw hb hm
 go_enter Tryz.func118,Tryz.ntmps118
 go_upto_region 2 with fail
 generalize (w.alloc (.cells #[.int .i64 0,.int .i64 0] 25)).alloc (.cells #[.int .i64 0,.int .i64 0] 25)=w1 at *
 go_wp2_with fail
 go_loopg [9] n (fun g v9 wr=>∃ (k:Nat) (lo:Int×Int),v9=.int .i64 k/\k<=n/\g=n-k/\Zba ts m k=some lo/\(k=0\/OkR lo)/\(k=0->lo=(0,0))/\LowS w wr (ZA lo))
 case atStart=>exact ⟨0,(0,0),rfl,Nat.zero_le _,rfl,rfl,.inl rfl,fun _=>rfl,S0.out⟩
 case round=>
  clear S0
  obtain ⟨k,lo,rfl,hk,hg,hlo,hok,hz0,D⟩:=hrel
  by_cases hkn:k=n
  ·have e:res=some (ZA lo):=by rw [HN.out.2.2.2.2.2.1,<- hkn,hlo];rfl
   have HD:=Lib.hid (And.intro D e)
   have l0:=D.L.cell 0
   have l1:=D.L.cell 1
   have r0:=D.R.cell 0
   have r1:=D.R.cell 1
   have q0:=D.R.free 0
   have q1:=D.R.free 1
   subst hkn
   clear hk hg hlo hok hz0 D e
   generalize (ZA lo)=best at *
   obtain ⟨lo1,lo2⟩:=best
   dsimp only at l0 l1
   go_wp2_with fail
   have B5:=(HD.out.1.R.set 0 (.int .i64 lo1)).set 1 (.int .i64 lo2)
   have z0:=B5.cell 0
   have z1:=B5.cell 1
   rw [HD.out.2]
   exact bodyPost_ret (v:=.tuple #[Ze lo1 lo2,.bool true]) (by simp [results,Tryz.results118,go_sem,z0,z1]) rfl ⟨rfl,(HD.out.1.below.setCell (p:=⟨w.heap.size,0,none⟩) (Nat.le_refl _) _).setCell (p:=⟨w.heap.size,1,none⟩) (Nat.le_refl _) _⟩
  ·have hlt:k<n:=by omega
   obtain ⟨x,hx⟩:∃ x,rs[k]? = some x:=⟨_,List.getElem?_eq_getElem (by have:=HN.out.1;omega)⟩
   obtain ⟨ad,rfl,d0,d1,d2,d3⟩:=ZaF H5.out D.below hx (by omega)
   have hr:=HN.out.2.2.2.1 x (List.mem_of_getElem? hx)
   have hxt:ts[k]? = some x.2:=by rw [<- HN.out.2.1,List.getElem?_map,hx];rfl
   have hwx:=HN.out.2.2.2.2.2.2.1 x.2 (List.mem_of_getElem? hxt)
   have tv:=fun (w':World) (h:Below w.heap.size w w')=>Zgk w' x.1 (.slice C lm d) x.2.2.1 m x.2.2.2.1 x.2.2.2.2 (hr.below h) (HN.out.2.2.2.2.2.2.2.1.below h) hwx.1 HN.out.2.2.2.2.2.2.2.2 hwx.2.1.1 hwx.2.1.2 hwx.2.2.1 hwx.2.2.2
   have vk:=fun (e:(ZS x.2.2.1 m x.2.2.2).2=0)=>by
    obtain ⟨a,b,c,_,q⟩:=Zd3 hwx.1 hwx.2 HN.out.2.2.2.2.2.2.2.2 e
    exact Zcy a c b 8 _ q
   have nx:Zba ts m (k+1)=if (ZS x.2.2.1 m x.2.2.2).2=0 then some (ZbS k lo (ZS x.2.2.1 m x.2.2.2).1) else none:=by
    rw [Zba,hlo,Option.bind_some,hxt]
   have i1:(k:Int)<(n:Int):=by omega
   have i2:(0:Int)<=(k:Int):=by omega
   have wk:IntKind.i64.wrap ((k:Int)+1)=(k:Int)+1:=IntWalk.i64_in _ (by have:=HN.out.2.2.1;omega)
   obtain ⟨Ax,cx,rfx⟩:=Zd hr
   obtain ⟨x0,xo,xl,x1,x2⟩:=x
   dsimp only at *
   subst rfx
   generalize ZS xl m (x1,x2)=V at *
   obtain ⟨⟨v1,v2⟩,ev_⟩:=V
   dsimp only at *
   have TV:=Lib.hid tv
   have HK:=Lib.hid (And.intro hlt (And.intro hg (And.intro nx (And.intro hok (And.intro vk (And.intro hz0 D))))))
   clear hlt hg nx hok vk hz0 D tv hr hxt hwx hx hkn hk hlo
   go_upto_region 6 with (go_at_call 11;(with_reducible refine (TV.out _ HK.out.2.2.2.2.2.2.below).mono ?_);rintro e5 w3 ⟨rfl,hb3⟩)
   have a2:=Za w3 (.cells #[.int .i64 v1,.int .i64 v2] 25)
   have VB:=Blk.start w3 #[.int .i64 v1,.int .i64 v2] 25
   have D3:=HK.out.2.2.2.2.2.2.keep hb3
   have D2:=Lib.hid (And.intro (D3.keep a2) (And.intro VB (show w.heap.size+1<w3.heap.size from D3.L.lt)))
   clear a2 VB hb3 d0 d1 d2 d3 D3
   generalize w3.heap.size=bv at *
   generalize w3.alloc (.cells #[.int .i64 v1,.int .i64 v2] 25)=w4 at *
   by_cases he:ev_=0
   ·subst he
    have nx:=HK.out.2.2.1
    rw [if_pos rfl] at nx
    have ov:=HK.out.2.2.2.2.1 rfl
    have wn:IntKind.i64.wrap (-v1)=-v1:=IntWalk.i64_in _ (by have:=ov.wide;unfold Bd at this;have hb:=Zp2 ov;omega)
    have f0:w4.cell? ⟨bv,0,none⟩=some (.int .i64 v1):=D2.out.2.1.cell 0
    have g0:=D2.out.2.1.free 0
    go_upto_region 10 with fail
    have E2:=Lib.hid (And.intro (D2.out.1.other (p:=⟨bv,0,none⟩) (by show bv≠w.heap.size;have:=D2.out.2.2;omega) (by show bv≠w.heap.size+1;have:=D2.out.2.2;omega) (by show w.heap.size<=bv;have:=D2.out.2.2;omega) (.int .i64 (-v1))) (D2.out.2.1.set 0 (.int .i64 (-v1))))
    clear f0 g0 wn
    generalize w4.setCell ⟨bv,0,none⟩ (.int .i64 (-v1))=w5 at *
    have f0:w5.cell? ⟨bv,0,none⟩=some (.int .i64 (-v1)):=E2.out.2.cell 0
    have f1:w5.cell? ⟨bv,1,none⟩=some (.int .i64 v2):=E2.out.2.cell 1
    have l0:=E2.out.1.L.cell 0
    have l1:=E2.out.1.L.cell 1
    by_cases hk0:k=0
    ·subst hk0
     have z:=HK.out.2.2.2.2.2.1 rfl
     subst z
     have NX:=Lib.hid (show Zba ts m (0+1)=some (v1,v2) from by rw [nx];unfold ZbS;rw [if_pos (.inl rfl)])
     have cb:=fun w'=>ZkK ov.neg w'
     replace l0:w5.cell? ⟨w.heap.size+1,0,none⟩=some (.int .i64 0):=l0
     replace l1:w5.cell? ⟨w.heap.size+1,1,none⟩=some (.int .i64 0):=l1
     have CB:=Lib.hid cb
     clear nx cb
     go_upto_region 11 with (go_at_call 123;(with_reducible refine (CB.out _).mono ?_);rintro e7 w7 ⟨rfl,hb7⟩)
     have D5:=E2.out.1.keep hb7
     have V5:=E2.out.2.keep hb7
     clear f0 f1 l0 l1
     have f0:w7.cell? ⟨bv,0,none⟩=some (.int .i64 (-v1)):=V5.cell 0
     have f1:w7.cell? ⟨bv,1,none⟩=some (.int .i64 v2):=V5.cell 1
     have l0:w7.cell? ⟨w.heap.size+1,0,none⟩=some (.int .i64 0):=D5.L.cell 0
     have l1:w7.cell? ⟨w.heap.size+1,1,none⟩=some (.int .i64 0):=D5.L.cell 1
     have m0:=D5.L.free 0
     have m1:=D5.L.free 1
     go_wp2_with fail
     go_roundg (n-1)
     case measure=>have:=HK.out;omega
     case rel=>exact ⟨1,(v1,v2),by first | rfl | simp,by have:=HK.out;omega,rfl,NX.out,.inr ov,(fun q=>absurd q (by decide)),D5.put (-v1,v2)⟩
    ·have hk1:((k:Int)==0)=false:=by simpa using hk0
     have ol:=HK.out.2.2.2.1.resolve_left hk0
     obtain ⟨lo1,lo2⟩:=lo
     obtain ⟨dd,ee,e1,e2,vx,vl,hc⟩:=ZkJ ov ol
     dsimp only at e1 e2 vx vl hc l0 l1
     subst e1 e2
     have cm:=fun w'=>ZkI vx.neg vl.neg w'
     have hc:0<Zco (-v1) (-lo1) dd ee↔v1*(ee:Int)<lo1*(dd:Int):=Zqi v1 lo1 dd ee
     have pk:ZbS k (lo1,(ee:Int)) (v1,(dd:Int))=if 0<Zco (-v1) (-lo1) dd ee then (v1,(dd:Int)) else (lo1,(ee:Int)):=by
      unfold ZbS
      dsimp only
      by_cases q:0<Zco (-v1) (-lo1) dd ee
      ·rw [if_pos q,if_pos (.inr (hc.1 q))]
      ·rw [if_neg q,if_neg]
       rintro (a | a)
       ·exact hk0 a
       ·exact q (hc.2 a)
     rw [pk] at nx
     generalize Zco (-v1) (-lo1) dd ee=cv at *
     replace l0:w5.cell? ⟨w.heap.size+1,0,none⟩=some (.int .i64 (-lo1)):=l0
     replace l1:w5.cell? ⟨w.heap.size+1,1,none⟩=some (.int .i64 ee):=l1
     have CM:=Lib.hid cm
     have HO:=Lib.hid (And.intro ov ol)
     clear cm pk hc vx vl ov ol
     go_upto_region 11 with (go_at_call 123;(with_reducible refine (CM.out _).mono ?_);rintro e7 w7 ⟨rfl,hb7⟩)
     have D5:=E2.out.1.keep hb7
     have V5:=E2.out.2.keep hb7
     clear f0 f1 l0 l1
     have f0:w7.cell? ⟨bv,0,none⟩=some (.int .i64 (-v1)):=V5.cell 0
     have f1:w7.cell? ⟨bv,1,none⟩=some (.int .i64 dd):=V5.cell 1
     have l0:w7.cell? ⟨w.heap.size+1,0,none⟩=some (.int .i64 (-lo1)):=D5.L.cell 0
     have l1:w7.cell? ⟨w.heap.size+1,1,none⟩=some (.int .i64 ee):=D5.L.cell 1
     have m0:=D5.L.free 0
     have m1:=D5.L.free 1
     by_cases hneg:0<cv
     ·rw [if_pos hneg] at nx
      have NX:=Lib.hid nx
      have HK0:=Lib.hid hk0
      clear nx hk0
      go_wp2_with fail
      go_roundg (n-(k+1))
      case measure=>have:=HK.out;omega
      case rel=>exact ⟨k+1,(v1,(dd:Int)),by push_cast;rfl,by have:=HK.out;omega,rfl,NX.out,.inr HO.out.1,(fun q=>absurd q (by omega)),D5.put (-v1,(dd:Int))⟩
     ·rw [if_neg hneg] at nx
      have NX:=Lib.hid nx
      have HK0:=Lib.hid hk0
      clear nx hk0
      go_wp2_with fail
      go_roundg (n-(k+1))
      case measure=>have:=HK.out;omega
      case rel=>exact ⟨k+1,(lo1,(ee:Int)),by push_cast;rfl,by have:=HK.out;omega,rfl,NX.out,.inr HO.out.2,(fun q=>absurd q (by omega)),D5⟩
   ·have hne:(ev_ != 0)=true:=by simpa using he
    have nx:=HK.out.2.2.1
    rw [if_neg he] at nx
    have RN:=Lib.hid (show res=none from by
     rw [HN.out.2.2.2.2.2.1]
     have:=Ze2 (n-(k+1)) nx
     rw [show k+1+(n-(k+1))=n by have:=HK.out.1;omega] at this
     rw [this];rfl)
    have l0:=D2.out.1.L.cell 0
    have l1:=D2.out.1.L.cell 1
    have r0:=D2.out.1.R.cell 0
    have r1:=D2.out.1.R.cell 1
    have q0:=D2.out.1.R.free 0
    have q1:=D2.out.1.R.free 1
    clear nx he
    generalize (ZA lo)=best at *
    obtain ⟨lo1,lo2⟩:=best
    dsimp only at l0 l1
    go_wp2_with fail
    have B5:=(D2.out.1.R.set 0 (.int .i64 lo1)).set 1 (.int .i64 lo2)
    have z0:=B5.cell 0
    have z1:=B5.cell 1
    rw [RN.out]
    exact bodyPost_ret (v:=.tuple #[Ze lo1 lo2,.bool false]) (by simp [results,Tryz.results118,go_sem,z0,z1]) rfl ⟨⟨(lo1,lo2),rfl⟩,(D2.out.1.below.setCell (p:=⟨w.heap.size,0,none⟩) (Nat.le_refl _) _).setCell (p:=⟨w.heap.size,1,none⟩) (Nat.le_refl _) _⟩
theorem Zns (w:World) (v vb:Value) (ts:List Rw) (m:List (Int×Int)) (h:ZD w v ts) (hw:∀ r∈ts,Zv r.2.1/\Bd r.2.2) (hb:Zb w vb m) (hm:Zv m) :
  Calls Tryz.prog 118 #[v,vb,.bool false] w (Zfq w (Zba ts m ts.length)):=by
 obtain ⟨A,c,rs,rfl,h2,h3,h4,h5,h6⟩:=h
 obtain ⟨n,hn⟩:∃ n,n=ts.length:=⟨_,rfl⟩
 have hrn:rs.length=n:=by rw [hn,<- h4,List.length_map]
 have hmx:n<=9223372036854775807:=by unfold maxLen at h3;omega
 rw [<- hn] at h2 h5 ⊢
 obtain ⟨res,hres⟩:∃ res,res=Zba ts m n:=⟨_,rfl⟩
 rw [<- hres]
 obtain ⟨C,d,rfl⟩:=Zd hb
 have HN:=Lib.hid (And.intro hrn (And.intro h4 (And.intro hmx (And.intro h6 (And.intro hn (And.intro hres (And.intro hw (And.intro hb hm))))))))
 have H5:=Lib.hid h5
 have S0:=Lib.hid (show LowS w ((w.alloc (.cells #[.int .i64 0,.int .i64 0] 25)).alloc (.cells #[.int .i64 0,.int .i64 0] 25)) (0,0) from by
  have B1:=Blk.start (w.alloc (.cells #[.int .i64 0,.int .i64 0] 25)) #[.int .i64 0,.int .i64 0] 25
  rw [World.size_alloc] at B1
  exact ⟨(Blk.start w #[.int .i64 0,.int .i64 0] 25).keep (Za _ _),B1,ZI _ _ _⟩)
 generalize m.length=lm at *
 clear hn hrn h2 h3 h4 h5 h6 hmx hres hw hb hm
 go_enter Tryz.func118,Tryz.ntmps118
 go_upto_region 2 with fail
 generalize (w.alloc (.cells #[.int .i64 0,.int .i64 0] 25)).alloc (.cells #[.int .i64 0,.int .i64 0] 25)=w1 at *
 go_wp2_with fail
 go_loopg [9] n (fun g v9 wr=>∃ (k:Nat) (lo:Int×Int),v9=.int .i64 k/\k<=n/\g=n-k/\Zba ts m k=some lo/\(k=0\/OkR lo)/\(k=0->lo=(0,0))/\LowS w wr lo)
 case atStart=>exact ⟨0,(0,0),rfl,Nat.zero_le _,rfl,rfl,.inl rfl,fun _=>rfl,S0.out⟩
 case round=>
  clear S0
  obtain ⟨k,lo,rfl,hk,hg,hlo,hok,hz0,D⟩:=hrel
  by_cases hkn:k=n
  ·have e:res=some lo:=by rw [HN.out.2.2.2.2.2.1,<- hkn,hlo]
   have HD:=Lib.hid (And.intro D e)
   have l0:=D.L.cell 0
   have l1:=D.L.cell 1
   have r0:=D.R.cell 0
   have r1:=D.R.cell 1
   have q0:=D.R.free 0
   have q1:=D.R.free 1
   subst hkn
   clear hk hg hlo hok hz0 D e
   generalize lo=best at *
   obtain ⟨lo1,lo2⟩:=best
   dsimp only at l0 l1
   go_wp2_with fail
   have B5:=(HD.out.1.R.set 0 (.int .i64 lo1)).set 1 (.int .i64 lo2)
   have z0:=B5.cell 0
   have z1:=B5.cell 1
   rw [HD.out.2]
   exact bodyPost_ret (v:=.tuple #[Ze lo1 lo2,.bool true]) (by simp [results,Tryz.results118,go_sem,z0,z1]) rfl ⟨rfl,(HD.out.1.below.setCell (p:=⟨w.heap.size,0,none⟩) (Nat.le_refl _) _).setCell (p:=⟨w.heap.size,1,none⟩) (Nat.le_refl _) _⟩
  ·have hlt:k<n:=by omega
   obtain ⟨x,hx⟩:∃ x,rs[k]? = some x:=⟨_,List.getElem?_eq_getElem (by have:=HN.out.1;omega)⟩
   obtain ⟨ad,rfl,d0,d1,d2,d3⟩:=ZaF H5.out D.below hx (by omega)
   have hr:=HN.out.2.2.2.1 x (List.mem_of_getElem? hx)
   have hxt:ts[k]? = some x.2:=by rw [<- HN.out.2.1,List.getElem?_map,hx];rfl
   have hwx:=HN.out.2.2.2.2.2.2.1 x.2 (List.mem_of_getElem? hxt)
   have tv:=fun (w':World) (h:Below w.heap.size w w')=>Zgk w' x.1 (.slice C lm d) x.2.2.1 m x.2.2.2.1 x.2.2.2.2 (hr.below h) (HN.out.2.2.2.2.2.2.2.1.below h) hwx.1 HN.out.2.2.2.2.2.2.2.2 hwx.2.1.1 hwx.2.1.2 hwx.2.2.1 hwx.2.2.2
   have vk:=fun (e:(ZS x.2.2.1 m x.2.2.2).2=0)=>by
    obtain ⟨a,b,c,_,q⟩:=Zd3 hwx.1 hwx.2 HN.out.2.2.2.2.2.2.2.2 e
    exact Zcy a c b 8 _ q
   have nx:Zba ts m (k+1)=if (ZS x.2.2.1 m x.2.2.2).2=0 then some (ZbS k lo (ZS x.2.2.1 m x.2.2.2).1) else none:=by
    rw [Zba,hlo,Option.bind_some,hxt]
   have i1:(k:Int)<(n:Int):=by omega
   have i2:(0:Int)<=(k:Int):=by omega
   have wk:IntKind.i64.wrap ((k:Int)+1)=(k:Int)+1:=IntWalk.i64_in _ (by have:=HN.out.2.2.1;omega)
   obtain ⟨Ax,cx,rfx⟩:=Zd hr
   obtain ⟨x0,xo,xl,x1,x2⟩:=x
   dsimp only at *
   subst rfx
   generalize ZS xl m (x1,x2)=V at *
   obtain ⟨⟨v1,v2⟩,ev_⟩:=V
   dsimp only at *
   have TV:=Lib.hid tv
   have HK:=Lib.hid (And.intro hlt (And.intro hg (And.intro nx (And.intro hok (And.intro vk (And.intro hz0 D))))))
   clear hlt hg nx hok vk hz0 D tv hr hxt hwx hx hkn hk hlo
   go_upto_region 6 with (go_at_call 11;(with_reducible refine (TV.out _ HK.out.2.2.2.2.2.2.below).mono ?_);rintro e5 w3 ⟨rfl,hb3⟩)
   have a2:=Za w3 (.cells #[.int .i64 v1,.int .i64 v2] 25)
   have VB:=Blk.start w3 #[.int .i64 v1,.int .i64 v2] 25
   have D3:=HK.out.2.2.2.2.2.2.keep hb3
   have D2:=Lib.hid (And.intro (D3.keep a2) (And.intro VB (show w.heap.size+1<w3.heap.size from D3.L.lt)))
   clear a2 VB hb3 d0 d1 d2 d3 D3
   generalize w3.heap.size=bv at *
   generalize w3.alloc (.cells #[.int .i64 v1,.int .i64 v2] 25)=w4 at *
   by_cases he:ev_=0
   ·subst he
    have nx:=HK.out.2.2.1
    rw [if_pos rfl] at nx
    have ov:=HK.out.2.2.2.2.1 rfl
    go_upto_region 10 with fail
    have E2:=Lib.hid (And.intro D2.out.1 D2.out.2.1)
    generalize w4=w5 at *
    have f0:w5.cell? ⟨bv,0,none⟩=some (.int .i64 v1):=E2.out.2.cell 0
    have f1:w5.cell? ⟨bv,1,none⟩=some (.int .i64 v2):=E2.out.2.cell 1
    have l0:=E2.out.1.L.cell 0
    have l1:=E2.out.1.L.cell 1
    by_cases hk0:k=0
    ·subst hk0
     have z:=HK.out.2.2.2.2.2.1 rfl
     subst z
     have NX:=Lib.hid (show Zba ts m (0+1)=some (v1,v2) from by rw [nx];unfold ZbS;rw [if_pos (.inl rfl)])
     have cb:=fun w'=>ZkK ov w'
     replace l0:w5.cell? ⟨w.heap.size+1,0,none⟩=some (.int .i64 0):=l0
     replace l1:w5.cell? ⟨w.heap.size+1,1,none⟩=some (.int .i64 0):=l1
     have CB:=Lib.hid cb
     clear nx cb
     go_upto_region 11 with (go_at_call 123;(with_reducible refine (CB.out _).mono ?_);rintro e7 w7 ⟨rfl,hb7⟩)
     have D5:=E2.out.1.keep hb7
     have V5:=E2.out.2.keep hb7
     clear f0 f1 l0 l1
     have f0:w7.cell? ⟨bv,0,none⟩=some (.int .i64 v1):=V5.cell 0
     have f1:w7.cell? ⟨bv,1,none⟩=some (.int .i64 v2):=V5.cell 1
     have l0:w7.cell? ⟨w.heap.size+1,0,none⟩=some (.int .i64 0):=D5.L.cell 0
     have l1:w7.cell? ⟨w.heap.size+1,1,none⟩=some (.int .i64 0):=D5.L.cell 1
     have m0:=D5.L.free 0
     have m1:=D5.L.free 1
     go_wp2_with fail
     go_roundg (n-1)
     case measure=>have:=HK.out;omega
     case rel=>exact ⟨1,(v1,v2),by first | rfl | simp,by have:=HK.out;omega,rfl,NX.out,.inr ov,(fun q=>absurd q (by decide)),D5.put (v1,v2)⟩
    ·have hk1:((k:Int)==0)=false:=by simpa using hk0
     have ol:=HK.out.2.2.2.1.resolve_left hk0
     obtain ⟨lo1,lo2⟩:=lo
     obtain ⟨dd,ee,e1,e2,vx,vl,hc⟩:=ZkJ ov ol
     dsimp only at e1 e2 vx vl hc l0 l1
     subst e1 e2
     have cm:=fun w'=>ZkI vx vl w'
     have pk:ZbS k (lo1,(ee:Int)) (v1,(dd:Int))=if Zco v1 lo1 dd ee<0 then (v1,(dd:Int)) else (lo1,(ee:Int)):=by
      unfold ZbS
      dsimp only
      by_cases q:Zco v1 lo1 dd ee<0
      ·rw [if_pos q,if_pos (.inr (hc.1 q))]
      ·rw [if_neg q,if_neg]
       rintro (a | a)
       ·exact hk0 a
       ·exact q (hc.2 a)
     rw [pk] at nx
     generalize Zco v1 lo1 dd ee=cv at *
     replace l0:w5.cell? ⟨w.heap.size+1,0,none⟩=some (.int .i64 lo1):=l0
     replace l1:w5.cell? ⟨w.heap.size+1,1,none⟩=some (.int .i64 ee):=l1
     have CM:=Lib.hid cm
     have HO:=Lib.hid (And.intro ov ol)
     clear cm pk hc vx vl ov ol
     go_upto_region 11 with (go_at_call 123;(with_reducible refine (CM.out _).mono ?_);rintro e7 w7 ⟨rfl,hb7⟩)
     have D5:=E2.out.1.keep hb7
     have V5:=E2.out.2.keep hb7
     clear f0 f1 l0 l1
     have f0:w7.cell? ⟨bv,0,none⟩=some (.int .i64 v1):=V5.cell 0
     have f1:w7.cell? ⟨bv,1,none⟩=some (.int .i64 dd):=V5.cell 1
     have l0:w7.cell? ⟨w.heap.size+1,0,none⟩=some (.int .i64 lo1):=D5.L.cell 0
     have l1:w7.cell? ⟨w.heap.size+1,1,none⟩=some (.int .i64 ee):=D5.L.cell 1
     have m0:=D5.L.free 0
     have m1:=D5.L.free 1
     by_cases hneg:cv<0
     ·rw [if_pos hneg] at nx
      have NX:=Lib.hid nx
      have HK0:=Lib.hid hk0
      clear nx hk0
      go_wp2_with fail
      go_roundg (n-(k+1))
      case measure=>have:=HK.out;omega
      case rel=>exact ⟨k+1,(v1,(dd:Int)),by push_cast;rfl,by have:=HK.out;omega,rfl,NX.out,.inr HO.out.1,(fun q=>absurd q (by omega)),D5.put (v1,(dd:Int))⟩
     ·rw [if_neg hneg] at nx
      have NX:=Lib.hid nx
      have HK0:=Lib.hid hk0
      clear nx hk0
      go_wp2_with fail
      go_roundg (n-(k+1))
      case measure=>have:=HK.out;omega
      case rel=>exact ⟨k+1,(lo1,(ee:Int)),by push_cast;rfl,by have:=HK.out;omega,rfl,NX.out,.inr HO.out.2,(fun q=>absurd q (by omega)),D5⟩
   ·have hne:(ev_ != 0)=true:=by simpa using he
    have nx:=HK.out.2.2.1
    rw [if_neg he] at nx
    have RN:=Lib.hid (show res=none from by
     rw [HN.out.2.2.2.2.2.1]
     have:=Ze2 (n-(k+1)) nx
     rw [show k+1+(n-(k+1))=n by have:=HK.out.1;omega] at this
     rw [this])
    have l0:=D2.out.1.L.cell 0
    have l1:=D2.out.1.L.cell 1
    have r0:=D2.out.1.R.cell 0
    have r1:=D2.out.1.R.cell 1
    have q0:=D2.out.1.R.free 0
    have q1:=D2.out.1.R.free 1
    clear nx he
    generalize lo=best at *
    obtain ⟨lo1,lo2⟩:=best
    dsimp only at l0 l1
    go_wp2_with fail
    have B5:=(D2.out.1.R.set 0 (.int .i64 lo1)).set 1 (.int .i64 lo2)
    have z0:=B5.cell 0
    have z1:=B5.cell 1
    rw [RN.out]
    exact bodyPost_ret (v:=.tuple #[Ze lo1 lo2,.bool false]) (by simp [results,Tryz.results118,go_sem,z0,z1]) rfl ⟨⟨(lo1,lo2),rfl⟩,(D2.out.1.below.setCell (p:=⟨w.heap.size,0,none⟩) (Nat.le_refl _) _).setCell (p:=⟨w.heap.size,1,none⟩) (Nat.le_refl _) _⟩
end
end Go.Proofs.YtolookeddknmoaaGreat
