import Derived.Test.YtolookeddknmoaaGreatQBO
set_option maxRecDepth 100000
set_option maxHeartbeats 8000000
namespace Go.Proofs.YtolookeddknmoaaGreat
section
open Go.RowKit
def Za1 (op:Int) (r:Rw):Rw:=(op,(Zh r.2.1 r.2.2 (-1,1)).1,(Zh r.2.1 r.2.2 (-1,1)).2.1)
def ZcO (l:List Rw) (r:Rw):Int:=if ZP r=true then 2 else Zd5 (ZbV (l++[Za1 (if r.1=1 then 2 else 1) r])).2
def Zff (l:List Rw) (r:Rw):Int:=if ZP r=true then 2 else if r.1=0 then (if ZcO l (1,r.2)=0 then ZcO l (Za1 1 r) else ZcO l (1,r.2)) else ZcO l r
theorem Zb5:Bd (-1,1):=by decide
theorem Zdq {r:Rw} {op:Int} (h:ZX r) (ho:-9223372036854775808<=op/\op<=9223372036854775807):ZX (Za1 op r):=by
 have:=ZaR (kb:=(-1,1)) h.1 h.2.1 Zb5
 exact ⟨this.1,this.2,ho⟩
theorem ZlV (w:World) (v vr:Value) (l:List Rw) (r:Rw) (h:ZD w v l) (hr:Zb w vr r.2.1) (hx:ZX r) (hwr:ZP r=true) :
  Calls Tryz.prog 7 #[v,.agg #[.int .i64 r.1,vr,.int .i64 r.2.2.1,.int .i64 r.2.2.2]] w fun e w'=>e=.returned (.int .i64 (2))/\Below w.heap.size w w':=by
 have wr:=fun (w':World) (hb:Below w.heap.size w w')=>Zeq w' vr r (hr.below hb) hx.1 hx.2.1
 have tw:=ZaR (kb:=(-1,1)) hx.1 hx.2.1 Zb5
 have sc:=fun (w':World) (hb:Below w.heap.size w w')=>ZcN w' vr r.2.1 r.2.2 (-1,1) (hr.below hb) hx.1 hx.2.1 Zb5
 obtain ⟨xo,xl,x1,x2⟩:=r
 dsimp only at *
 obtain ⟨Ax,cx,rfl⟩:=Zd hr
 obtain ⟨A,c,_,e,_⟩:=id h
 subst e
 have a:=Za w (.cells #[.int .i64 xo,.slice Ax xl.length cx,.int .i64 x1,.int .i64 x2] 29)
 have BB:=Blk.start w #[.int .i64 xo,.slice Ax xl.length cx,.int .i64 x1,.int .i64 x2] 29
 have B1:=Lib.hid (And.intro a BB)
 have SCL:=Lib.hid sc
 have TW:=Lib.hid tw
 generalize Zh xl (x1,x2) (-1,1)=P at *
 obtain ⟨M,⟨m1,m2⟩,er⟩:=P
 dsimp only at *
 clear sc tw a BB
 rw [hwr] at wr
 have WRO:=Lib.hid wr
 clear wr hwr h hr hx
 generalize xl.length=xn at *
 generalize l.length=n at *
 go_enter Tryz.func7,Tryz.ntmps7
 go_upto_region 1 with fail
 generalize hb3:w.heap.size=b3 at *
 generalize w.alloc (.cells #[.int .i64 xo,.slice Ax xn cx,.int .i64 x1,.int .i64 x2] 29)=w0 at *
 have r0:=B1.out.2.cell 0
 have r1:=B1.out.2.cell 1
 have r2:=B1.out.2.cell 2
 have r3:=B1.out.2.cell 3
 go_wp2_with (go_at_call 12;(with_reducible refine (WRO.out _ B1.out.1).mono ?_);rintro e1 w1 ⟨rfl,hb1⟩)
 go_ret
 exact ⟨rfl,by rw [hb3];exact Zl hb3 B1.out.1 hb1⟩
theorem Zfg (w:World) (v vr:Value) (l:List Rw) (r:Rw) (h:ZD w v l) (hw:∀ r∈l,ZX r) (hl:l.length<=1000) (hr:Zb w vr r.2.1) (hx:ZX r) (hop:r.1=1\/r.1=2) :
  Calls Tryz.prog 7 #[v,.agg #[.int .i64 r.1,vr,.int .i64 r.2.2.1,.int .i64 r.2.2.2]] w fun e w'=>e=.returned (.int .i64 (ZcO l r))/\Below w.heap.size w w':=by
 have wr:=fun (w':World) (hb:Below w.heap.size w w')=>Zeq w' vr r (hr.below hb) hx.1 hx.2.1
 have tw:=ZaR (kb:=(-1,1)) hx.1 hx.2.1 Zb5
 have sc:=fun (w':World) (hb:Below w.heap.size w w')=>ZcN w' vr r.2.1 r.2.2 (-1,1) (hr.below hb) hx.1 hx.2.1 Zb5
 have ex:=fun (w':World) (v':Value) (h':ZD w' v l) (h2:Zb w' v' (Za1 (if r.1=1 then 2 else 1) r).2.1)=>ZkQ w' v v' l (Za1 (if r.1=1 then 2 else 1) r) h' hw hl h2 (Zdq hx (by split<;>decide))
 obtain ⟨xo,xl,x1,x2⟩:=r
 unfold Za1 at ex
 dsimp only at *
 obtain ⟨Ax,cx,rfl⟩:=Zd hr
 obtain ⟨A,c,_,e,_⟩:=id h
 subst e
 have a:=Za w (.cells #[.int .i64 xo,.slice Ax xl.length cx,.int .i64 x1,.int .i64 x2] 29)
 have BB:=Blk.start w #[.int .i64 xo,.slice Ax xl.length cx,.int .i64 x1,.int .i64 x2] 29
 have B1:=Lib.hid (And.intro a BB)
 have SCL:=Lib.hid sc
 have TW:=Lib.hid tw
 generalize hP:Zh xl (x1,x2) (-1,1)=P at *
 obtain ⟨M,⟨m1,m2⟩,er⟩:=P
 dsimp only at *
 clear sc tw a BB
 cases hwr:ZP (xo,xl,x1,x2) with
 | true=>
  rw [hwr] at wr
  have WRO:=Lib.hid wr
  have E:=Lib.hid (show ZcO l (xo,xl,x1,x2)=2 from by unfold ZcO;rw [if_pos hwr])
  clear wr hwr h hw hr hx ex hop hl
  generalize xl.length=xn at *
  generalize l.length=n at *
  go_enter Tryz.func7,Tryz.ntmps7
  go_upto_region 1 with fail
  generalize hb3:w.heap.size=b3 at *
  generalize w.alloc (.cells #[.int .i64 xo,.slice Ax xn cx,.int .i64 x1,.int .i64 x2] 29)=w0 at *
  have r0:=B1.out.2.cell 0
  have r1:=B1.out.2.cell 1
  have r2:=B1.out.2.cell 2
  have r3:=B1.out.2.cell 3
  go_wp2_with (go_at_call 12;(with_reducible refine (WRO.out _ B1.out.1).mono ?_);rintro e1 w1 ⟨rfl,hb1⟩)
  go_ret
  exact ⟨by rw [E.out];rfl,by rw [hb3];exact Zl hb3 B1.out.1 hb1⟩
 | false=>
 rw [hwr] at wr
 have WRO:=Lib.hid wr
 have HG:=Lib.hid (show ZcO l (xo,xl,x1,x2)=Zd5 (ZbV (l++[(if xo=1 then 2 else 1,M,m1,m2)])).2 from by unfold ZcO;rw [if_neg (by rw [hwr];simp)];unfold Za1;dsimp only;rw [hP])
 have EXC:=Lib.hid ex
 have HW:=Lib.hid (fun (w':World) (hb:Below w.heap.size w w')=>h.below hb)
 clear wr hwr h hw hr hx ex hl hP
 generalize xl.length=xn at *
 generalize l.length=n at *
 go_enter Tryz.func7,Tryz.ntmps7
 go_upto_region 1 with fail
 generalize hb3:w.heap.size=b3 at *
 generalize w.alloc (.cells #[.int .i64 xo,.slice Ax xn cx,.int .i64 x1,.int .i64 x2] 29)=w0 at *
 have r0:=B1.out.2.cell 0
 have r1:=B1.out.2.cell 1
 have r2:=B1.out.2.cell 2
 have r3:=B1.out.2.cell 3
 go_upto_region 3 with (go_at_call 12;(with_reducible refine (WRO.out _ B1.out.1).mono ?_);rintro e1 w1 ⟨rfl,hb1⟩)
 have B2:=Lib.hid (And.intro (Zl hb3 B1.out.1 hb1) (B1.out.2.keep hb1))
 clear r0 r1 r2 r3 hb1
 generalize hwq:w1=wq at *
 have r1:=B2.out.2.cell 1
 have r2:=B2.out.2.cell 2
 have r3:=B2.out.2.cell 3
 have SCL:=Lib.hid (fun (w':World) (hb:Below wq.heap.size wq w')=>SCL.out w' (Zl hb3 B2.out.1 hb))
 go_cut [5,6] from 7 to 42 (fun v5 v6 wx=>Zfv wq M m1 m2 v5 wx)
 case first=>
  have STB:=Lib.hid (show ZcD (fun w'=>((w'.cell? ⟨b3,1,none⟩=some (.slice Ax xn cx)/\w'.cell? ⟨b3,2,none⟩=some (.int .i64 x1))/\w'.cell? ⟨b3,3,none⟩=some (.int .i64 x2))/\Below wq.heap.size wq w') from ZC (ZC (ZC (Zz _ _) (Zz _ _)) (Zz _ _)) (ZbD wq))
  have HS:((wq.drew.cell? ⟨b3,1,none⟩=some (.slice Ax xn cx)/\wq.drew.cell? ⟨b3,2,none⟩=some (.int .i64 x1))/\wq.drew.cell? ⟨b3,3,none⟩=some (.int .i64 x2))/\Below wq.heap.size wq wq.drew:=⟨⟨⟨r1,r2⟩,r3⟩,Zq _⟩
  clear r1 r2 r3
  refine wp_region_noPanic ?_
  refine wp_region_held_drew (S:=(fun w'=>((w'.cell? ⟨b3,1,none⟩=some (.slice Ax xn cx)/\w'.cell? ⟨b3,2,none⟩=some (.int .i64 x1))/\w'.cell? ⟨b3,3,none⟩=some (.int .i64 x2))/\Below wq.heap.size wq w')) (by kernel_rfl) HS (fun hHeld=>?_)
  clear HS
  refine tk 0 rfl ?_
  refine tk 1 rfl ?_
  (try simp only [cl,Act.put])
  refine wpAnyH_ready (rs:=[2,7]) (by kernel_rfl) (by simp) (AllReadyH.cons (o:=_) rfl (fun K hK=>?_) (AllReadyH.cons (o:=_) rfl (fun K hK=>?_) AllReadyH.nil))
  rotate_left
  go_simp
  (first | refine hK.out _ _ (Za9 STB.out (by with_reducible assumption)) (fun hH2=>?_) | refine hK.out _ _ (STB.out _ _ (Za _ _) (by with_reducible assumption)) (fun hH2=>?_))
  clear hK K
  (try dsimp only at hH2)
  (first | have HC:=Lib.hid (ZbB hH2) | have HC:=Lib.hid (Zbm hH2))
  have hHeld0:=Lib.hid hHeld
  clear hHeld
  have hHeld:=hH2
  clear hH2
  (try simp only [cl,Act.put])
  refine rd 2 rfl fun K hK=>?_
  rotate_right
  all_goals
   go_simp
   (first
    | (go_at_call 14;(with_reducible refine (Za7 _ _).mono ?_);rintro e5 w5 ⟨rfl,hb⟩;(try have HC:=Lib.hid (HC.out.keep hb)))
    | (go_at_call 13;(with_reducible refine (SCL.out _ (ZG (by with_reducible assumption))).mono ?_);rintro e6 w6 ⟨v6,rfl,hv6,hb,fr6⟩;obtain ⟨A6,c6,rfl⟩:=Zd hv6;(try (have HF:=Lib.hid (Off.fresh (l:=M) (S:=fun b=>b=_) fr6 (fun b q=>by rw [q];exact HC.out.F.lt));have HC:=Lib.hid (HC.out.keep hb)));have HV:=Lib.hid hv6;clear hv6 fr6))
   go_wp2_with fail
   refine hK.out _ _ (STB.out _ _ hb (by with_reducible assumption)) (fun hH2=>?_)
   clear hK K hHeld hb;have hHeld:=hH2;clear hH2
   (try simp only [cl,Act.put])
  all_goals (try (have _:=HC.out;refine rd 3 rfl fun K hK=>?_))
  refine wpAnyH_ready (rs:=[3,7]) (by kernel_rfl) (by simp) (AllReadyH.cons (o:=_) rfl (fun K hK=>?_) (AllReadyH.cons (o:=_) rfl (fun K hK=>?_) AllReadyH.nil))
  rotate_left
  go_simp
  (first | refine hK.out _ _ (Za9 STB.out (by with_reducible assumption)) (fun hH2=>?_) | refine hK.out _ _ (STB.out _ _ (Za _ _) (by with_reducible assumption)) (fun hH2=>?_))
  clear hK K
  (try dsimp only at hH2)
  (first | have HC:=Lib.hid (ZbB hH2) | have HC:=Lib.hid (Zbm hH2))
  have hHeld0:=Lib.hid hHeld
  clear hHeld
  have hHeld:=hH2
  clear hH2
  (try simp only [cl,Act.put])
  refine rd 3 rfl fun K hK=>?_
  rotate_right
  all_goals
   go_simp
   (first
    | (go_at_call 14;(with_reducible refine (Za7 _ _).mono ?_);rintro e5 w5 ⟨rfl,hb⟩;(try have HC:=Lib.hid (HC.out.keep hb)))
    | (go_at_call 13;(with_reducible refine (SCL.out _ (ZG (by with_reducible assumption))).mono ?_);rintro e6 w6 ⟨v6,rfl,hv6,hb,fr6⟩;obtain ⟨A6,c6,rfl⟩:=Zd hv6;(try (have HF:=Lib.hid (Off.fresh (l:=M) (S:=fun b=>b=_) fr6 (fun b q=>by rw [q];exact HC.out.F.lt));have HC:=Lib.hid (HC.out.keep hb)));have HV:=Lib.hid hv6;clear hv6 fr6))
   go_wp2_with fail
   refine hK.out _ _ (STB.out _ _ hb (by with_reducible assumption)) (fun hH2=>?_)
   clear hK K hHeld hb;have hHeld:=hH2;clear hH2
   (try simp only [cl,Act.put])
  all_goals
   refine tk 4 rfl ?_
   refine tk 5 rfl ?_
   refine tk 6 rfl ?_
   (try simp only [cl,Act.put])
  refine rd 7 rfl fun K hK=>?_
  go_simp
  (first | refine hK.out _ _ (Za9 STB.out (by with_reducible assumption)) (fun hH2=>?_) | refine hK.out _ _ (STB.out _ _ (Za _ _) (by with_reducible assumption)) (fun hH2=>?_))
  clear hK K
  (try dsimp only at hH2)
  (first | have HC:=Lib.hid (ZbB hH2) | have HC:=Lib.hid (Zbm hH2))
  have hHeld0:=Lib.hid hHeld
  clear hHeld
  have hHeld:=hH2
  clear hH2
  (try simp only [cl,Act.put])
  all_goals
   refine rd 8 rfl fun K hK=>?_
   obtain ⟨⟨h0,h1,h2,h3,h4,h5,h6⟩,h7,h8⟩:=HC.out
   clear h7 h8
   go_simp
   clear h0 h1 h2 h3 h4 h5 h6
   (first
    | refine hK.out _ _ (STB.out _ _ (Za _ _) hHeld0.out) (fun hH2=>?_)
    | refine hK.out _ _ (STB.out _ _ (HC.out.fill _ _ _).1 hHeld0.out) (fun hH2=>?_))
   clear hK K hHeld
   (try dsimp only at hH2)
   have hHeld:=hH2
   clear hH2
   (try simp only [cl,Act.put])
   refine tk 9 rfl ?_
   (try simp only [cl,Act.put])
   refine wpAnyH_done (by kernel_rfl) ?_ _
   refine NoPanic.normal ?_
   go_wp2_with fail
   go_meet
   case rel=>first | exact Zgt hHeld0.out.2 27 HV.out | exact Zfb hHeld0.out.2 HC.out HV.out HF.out
 case rest=>
  obtain ⟨c5,A6,c6,rfl,F6,r6,hbq⟩:=hcut
  have B4:=Lib.hid (And.intro (Zl hb3 B2.out.1 hbq) (B2.out.2.keep hbq))
  clear r1 r2 r3 hbq
  have r0:=B4.out.2.cell 0
  have k0:=F6.k0;have k1:=F6.k1;have k2:=F6.k2
  have HH:=Lib.hid (HW.out _ B4.out.1)
  rcases hop with rfl | rfl
  ·have EX2:=EXC.out
   simp only [↓reduceIte] at EX2
   have EXC:=Lib.hid EX2
   clear EX2
   go_wp2_with (go_at_call 15;(with_reducible refine (EXC.out _ _ HH.out r6).mono ?_);rintro e7 w7 ⟨rfl,hb7⟩)
   go_ret
   exact ⟨by rw [HG.out];rfl,by rw [hb3];exact Zl hb3 B4.out.1 hb7⟩
  ·have EX2:=EXC.out
   rw [if_neg (by decide)] at EX2
   have EXC:=Lib.hid EX2
   clear EX2
   go_wp2_with (go_at_call 15;(with_reducible refine (EXC.out _ _ HH.out r6).mono ?_);rintro e7 w7 ⟨rfl,hb7⟩)
   go_ret
   exact ⟨by rw [HG.out];rfl,by rw [hb3];exact Zl hb3 B4.out.1 hb7⟩
theorem ZkP (w:World) (v vr:Value) (l:List Rw) (r:Rw) (h:ZD w v l) (hw:∀ r∈l,ZX r) (hl:l.length<=1000) (hr:Zb w vr r.2.1) (hx:ZX r) (hop:r.1=0) (hwr:ZP r=false) :
  Calls Tryz.prog 7 #[v,.agg #[.int .i64 r.1,vr,.int .i64 r.2.2.1,.int .i64 r.2.2.2]] w fun e w'=>e=.returned (.int .i64 (if ZcO l (1,r.2)=0 then ZcO l (Za1 1 r) else ZcO l (1,r.2)))/\Below w.heap.size w w':=by
 have wr:=fun (w':World) (hb:Below w.heap.size w w')=>Zeq w' vr r (hr.below hb) hx.1 hx.2.1
 have tw:=ZaR (kb:=(-1,1)) hx.1 hx.2.1 Zb5
 have sc:=fun (w':World) (hb:Below w.heap.size w w')=>ZcN w' vr r.2.1 r.2.2 (-1,1) (hr.below hb) hx.1 hx.2.1 Zb5
 have e1:=fun (w':World) (v':Value) (h':ZD w' v l) (h2:Zb w' v' r.2.1)=>Zfg w' v v' l (1,r.2) h' hw hl h2 ⟨hx.1,hx.2.1,(show -9223372036854775808<=(1:Int)/\(1:Int)<=9223372036854775807 by decide)⟩ (.inl rfl)
 have e2:=fun (w':World) (v':Value) (h':ZD w' v l) (h2:Zb w' v' (Za1 1 r).2.1)=>Zfg w' v v' l (Za1 1 r) h' hw hl h2 (Zdq hx (by decide)) (.inl rfl)
 obtain ⟨g1,hg1⟩:∃ g1,g1=ZcO l (1,r.2):=⟨_,rfl⟩
 obtain ⟨g2,hg2⟩:∃ g2,g2=ZcO l (Za1 1 r):=⟨_,rfl⟩
 rw [<- hg1] at e1 ⊢
 rw [<- hg2] at e2 ⊢
 clear hg1 hg2
 unfold Za1 at e2
 obtain ⟨xo,xl,x1,x2⟩:=r
 dsimp only at *
 obtain ⟨Ax,cx,rfl⟩:=Zd hr
 obtain ⟨A,c,_,e,_⟩:=id h
 subst e
 have a:=Za w (.cells #[.int .i64 0,.slice Ax xl.length cx,.int .i64 x1,.int .i64 x2] 29)
 have BB:=Blk.start w #[.int .i64 0,.slice Ax xl.length cx,.int .i64 x1,.int .i64 x2] 29
 have B1:=Lib.hid (And.intro a BB)
 have SCL:=Lib.hid sc
 have TW:=Lib.hid tw
 generalize Zh xl (x1,x2) (-1,1)=P at *
 obtain ⟨M,⟨m1,m2⟩,er⟩:=P
 dsimp only at *
 clear sc tw a BB
 subst hop
 rw [hwr] at wr
 have WRO:=Lib.hid wr
 have E1:=Lib.hid e1
 have E2:=Lib.hid e2
 have HW:=Lib.hid (fun (w':World) (hb:Below w.heap.size w w')=>And.intro (h.below hb) (hr.below hb))
 obtain ⟨xn,hxn⟩:∃ xn,xl.length=xn:=⟨_,rfl⟩
 have HXN:=Lib.hid hxn
 clear wr hwr h hw hr hx e1 e2 hl
 rw [hxn] at SCL B1 HW WRO ⊢
 generalize l.length=n at *
 go_enter Tryz.func7,Tryz.ntmps7
 go_upto_region 1 with fail
 generalize hb3:w.heap.size=b3 at *
 generalize w.alloc (.cells #[.int .i64 0,.slice Ax xn cx,.int .i64 x1,.int .i64 x2] 29)=w0 at *
 have r0:=B1.out.2.cell 0
 have r1:=B1.out.2.cell 1
 have r2:=B1.out.2.cell 2
 have r3:=B1.out.2.cell 3
 go_upto_region 3 with (go_at_call 12;(with_reducible refine (WRO.out _ B1.out.1).mono ?_);rintro e1 w1 ⟨rfl,hb1⟩)
 have B2:=Lib.hid (And.intro (Zl hb3 B1.out.1 hb1) (B1.out.2.keep hb1))
 clear r0 r1 r2 r3 hb1
 generalize hwq:w1=wq at *
 have r1:=B2.out.2.cell 1
 have r2:=B2.out.2.cell 2
 have r3:=B2.out.2.cell 3
 have SCL:=Lib.hid (fun (w':World) (hb:Below wq.heap.size wq w')=>SCL.out w' (Zl hb3 B2.out.1 hb))
 go_cut [5,6] from 7 to 42 (fun v5 v6 wx=>Zfv wq M m1 m2 v5 wx)
 case first=>
  have STB:=Lib.hid (show ZcD (fun w'=>((w'.cell? ⟨b3,1,none⟩=some (.slice Ax xn cx)/\w'.cell? ⟨b3,2,none⟩=some (.int .i64 x1))/\w'.cell? ⟨b3,3,none⟩=some (.int .i64 x2))/\Below wq.heap.size wq w') from ZC (ZC (ZC (Zz _ _) (Zz _ _)) (Zz _ _)) (ZbD wq))
  have HS:((wq.drew.cell? ⟨b3,1,none⟩=some (.slice Ax xn cx)/\wq.drew.cell? ⟨b3,2,none⟩=some (.int .i64 x1))/\wq.drew.cell? ⟨b3,3,none⟩=some (.int .i64 x2))/\Below wq.heap.size wq wq.drew:=⟨⟨⟨r1,r2⟩,r3⟩,Zq _⟩
  clear r1 r2 r3
  refine wp_region_noPanic ?_
  refine wp_region_held_drew (S:=(fun w'=>((w'.cell? ⟨b3,1,none⟩=some (.slice Ax xn cx)/\w'.cell? ⟨b3,2,none⟩=some (.int .i64 x1))/\w'.cell? ⟨b3,3,none⟩=some (.int .i64 x2))/\Below wq.heap.size wq w')) (by kernel_rfl) HS (fun hHeld=>?_)
  clear HS
  refine tk 0 rfl ?_
  refine tk 1 rfl ?_
  (try simp only [cl,Act.put])
  refine wpAnyH_ready (rs:=[2,7]) (by kernel_rfl) (by simp) (AllReadyH.cons (o:=_) rfl (fun K hK=>?_) (AllReadyH.cons (o:=_) rfl (fun K hK=>?_) AllReadyH.nil))
  rotate_left
  go_simp
  (first | refine hK.out _ _ (Za9 STB.out (by with_reducible assumption)) (fun hH2=>?_) | refine hK.out _ _ (STB.out _ _ (Za _ _) (by with_reducible assumption)) (fun hH2=>?_))
  clear hK K
  (try dsimp only at hH2)
  (first | have HC:=Lib.hid (ZbB hH2) | have HC:=Lib.hid (Zbm hH2))
  have hHeld0:=Lib.hid hHeld
  clear hHeld
  have hHeld:=hH2
  clear hH2
  (try simp only [cl,Act.put])
  refine rd 2 rfl fun K hK=>?_
  rotate_right
  all_goals
   go_simp
   (first
    | (go_at_call 14;(with_reducible refine (Za7 _ _).mono ?_);rintro e5 w5 ⟨rfl,hb⟩;(try have HC:=Lib.hid (HC.out.keep hb)))
    | (go_at_call 13;(with_reducible refine (SCL.out _ (ZG (by with_reducible assumption))).mono ?_);rintro e6 w6 ⟨v6,rfl,hv6,hb,fr6⟩;obtain ⟨A6,c6,rfl⟩:=Zd hv6;(try (have HF:=Lib.hid (Off.fresh (l:=M) (S:=fun b=>b=_) fr6 (fun b q=>by rw [q];exact HC.out.F.lt));have HC:=Lib.hid (HC.out.keep hb)));have HV:=Lib.hid hv6;clear hv6 fr6))
   go_wp2_with fail
   refine hK.out _ _ (STB.out _ _ hb (by with_reducible assumption)) (fun hH2=>?_)
   clear hK K hHeld hb;have hHeld:=hH2;clear hH2
   (try simp only [cl,Act.put])
  all_goals (try (have _:=HC.out;refine rd 3 rfl fun K hK=>?_))
  refine wpAnyH_ready (rs:=[3,7]) (by kernel_rfl) (by simp) (AllReadyH.cons (o:=_) rfl (fun K hK=>?_) (AllReadyH.cons (o:=_) rfl (fun K hK=>?_) AllReadyH.nil))
  rotate_left
  go_simp
  (first | refine hK.out _ _ (Za9 STB.out (by with_reducible assumption)) (fun hH2=>?_) | refine hK.out _ _ (STB.out _ _ (Za _ _) (by with_reducible assumption)) (fun hH2=>?_))
  clear hK K
  (try dsimp only at hH2)
  (first | have HC:=Lib.hid (ZbB hH2) | have HC:=Lib.hid (Zbm hH2))
  have hHeld0:=Lib.hid hHeld
  clear hHeld
  have hHeld:=hH2
  clear hH2
  (try simp only [cl,Act.put])
  refine rd 3 rfl fun K hK=>?_
  rotate_right
  all_goals
   go_simp
   (first
    | (go_at_call 14;(with_reducible refine (Za7 _ _).mono ?_);rintro e5 w5 ⟨rfl,hb⟩;(try have HC:=Lib.hid (HC.out.keep hb)))
    | (go_at_call 13;(with_reducible refine (SCL.out _ (ZG (by with_reducible assumption))).mono ?_);rintro e6 w6 ⟨v6,rfl,hv6,hb,fr6⟩;obtain ⟨A6,c6,rfl⟩:=Zd hv6;(try (have HF:=Lib.hid (Off.fresh (l:=M) (S:=fun b=>b=_) fr6 (fun b q=>by rw [q];exact HC.out.F.lt));have HC:=Lib.hid (HC.out.keep hb)));have HV:=Lib.hid hv6;clear hv6 fr6))
   go_wp2_with fail
   refine hK.out _ _ (STB.out _ _ hb (by with_reducible assumption)) (fun hH2=>?_)
   clear hK K hHeld hb;have hHeld:=hH2;clear hH2
   (try simp only [cl,Act.put])
  all_goals
   refine tk 4 rfl ?_
   refine tk 5 rfl ?_
   refine tk 6 rfl ?_
   (try simp only [cl,Act.put])
  refine rd 7 rfl fun K hK=>?_
  go_simp
  (first | refine hK.out _ _ (Za9 STB.out (by with_reducible assumption)) (fun hH2=>?_) | refine hK.out _ _ (STB.out _ _ (Za _ _) (by with_reducible assumption)) (fun hH2=>?_))
  clear hK K
  (try dsimp only at hH2)
  (first | have HC:=Lib.hid (ZbB hH2) | have HC:=Lib.hid (Zbm hH2))
  have hHeld0:=Lib.hid hHeld
  clear hHeld
  have hHeld:=hH2
  clear hH2
  (try simp only [cl,Act.put])
  all_goals
   refine rd 8 rfl fun K hK=>?_
   obtain ⟨⟨h0,h1,h2,h3,h4,h5,h6⟩,h7,h8⟩:=HC.out
   clear h7 h8
   go_simp
   clear h0 h1 h2 h3 h4 h5 h6
   (first
    | refine hK.out _ _ (STB.out _ _ (Za _ _) hHeld0.out) (fun hH2=>?_)
    | refine hK.out _ _ (STB.out _ _ (HC.out.fill _ _ _).1 hHeld0.out) (fun hH2=>?_))
   clear hK K hHeld
   (try dsimp only at hH2)
   have hHeld:=hH2
   clear hH2
   (try simp only [cl,Act.put])
   refine tk 9 rfl ?_
   (try simp only [cl,Act.put])
   refine wpAnyH_done (by kernel_rfl) ?_ _
   refine NoPanic.normal ?_
   go_wp2_with fail
   go_meet
   case rel=>first | exact Zgt hHeld0.out.2 27 HV.out | exact Zfb hHeld0.out.2 HC.out HV.out HF.out
 case rest=>
  obtain ⟨c5,A6,c6,rfl,F6,r6,hbq⟩:=hcut
  have B4:=Lib.hid (And.intro (Zl hb3 B2.out.1 hbq) (B2.out.2.keep hbq))
  clear r1 r2 r3 hbq
  have r0:=B4.out.2.cell 0
  have k0:=F6.k0;have k1:=F6.k1;have k2:=F6.k2
  have HH:=Lib.hid (HW.out _ B4.out.1)
  have r1:=B4.out.2.cell 1
  have r2:=B4.out.2.cell 2
  have r3:=B4.out.2.cell 3
  by_cases h1:g1=0
  ·subst h1
   go_wp2_with (go_at_call 7;(first
    | (with_reducible refine (E1.out _ _ HH.out.1 HH.out.2).mono ?_);rintro e7 w7 ⟨rfl,hb7⟩;have HH2:=Lib.hid (HH.out.1.below hb7);have R6:=Lib.hid (r6.below hb7);have B5:=Lib.hid (Zl hb3 B4.out.1 hb7);have G6:=F6.keep hb7;clear k0 k1 k2 hb7;have k0:=G6.k0;have k1:=G6.k1;have k2:=G6.k2
    | (with_reducible refine (E2.out _ _ HH2.out R6.out).mono ?_);rintro e8 w8 ⟨rfl,hb8⟩))
   go_ret
   exact ⟨by first | rfl | (rw [if_pos rfl];rfl),by first | exact Zl hb3 B5.out hb8 | (rw [hb3];exact Zl hb3 B5.out hb8)⟩
  ·have H1:=Lib.hid h1
   have ne:(g1 != 0)=true:=by simpa using h1
   clear h1
   go_wp2_with (go_at_call 7;(with_reducible refine (E1.out _ _ HH.out.1 HH.out.2).mono ?_);rintro e7 w7 ⟨rfl,hb7⟩)
   go_ret
   exact ⟨by first | rfl | (rw [if_neg H1.out];rfl),by first | exact Zl hb3 B4.out.1 hb7 | (rw [hb3];exact Zl hb3 B4.out.1 hb7)⟩
theorem ZlU (w:World) (v vr:Value) (l:List Rw) (r:Rw) (h:ZD w v l) (hw:∀ r∈l,ZX r) (hl:l.length<=1000) (hr:Zb w vr r.2.1) (hx:ZX r) :
  Calls Tryz.prog 7 #[v,.agg #[.int .i64 r.1,vr,.int .i64 r.2.2.1,.int .i64 r.2.2.2]] w fun e w'=>e=.returned (.int .i64 (Zff l r))/\Below w.heap.size w w':=by
 unfold Zff
 cases hwr:ZP r with
 | true=>
  rw [if_pos rfl]
  exact ZlV w v vr l r h hr hx hwr
 | false=>
  rw [if_neg (by simp)]
  by_cases h0:r.1=0
  ·rw [if_pos h0]
   exact ZkP w v vr l r h hw hl hr hx h0 hwr
  ·rw [if_neg h0]
   refine Zfg w v vr l r h hw hl hr hx ?_
   unfold ZP at hwr
   by_cases h1:r.1=1
   ·exact .inl h1
   ·by_cases h2:r.1=2
    ·exact .inr h2
    ·have a0:(r.1==0)=false:=by simpa using h0
     have a1:(r.1==1)=false:=by simpa using h1
     have a2:(r.1==2)=false:=by simpa using h2
     rw [a0,a1,a2] at hwr
     cases hwr
end
end Go.Proofs.YtolookeddknmoaaGreat
