import Derived.Test.YtolookeddknmoaaGreatQAZ
set_option maxRecDepth 100000
set_option maxHeartbeats 8000000
namespace Go.Proofs.YtolookeddknmoaaGreat
section
open Go.RowKit
theorem Znz (w:World) (va vb:Value) (l m:List (Int×Int)) (xn xd:Int) (ha:Zb w va l) (hb:Zb w vb m) (hl:Zv l) (x1:-9223372036854775808<=xn) (x2:xn<=9223372036854775807) (x3:-9223372036854775808<=xd) (x4:xd<=9223372036854775807) (hr:ZO l xn xd=false) :
  Calls Tryz.prog 11 #[.agg #[va,.int .i64 xn,.int .i64 xd],vb] w fun r w'=>r=.returned (.tuple #[Ze (ZS l m (xn,xd)).1.1 (ZS l m (xn,xd)).1.2,.int .i64 (ZS l m (xn,xd)).2])/\Below w.heap.size w w':=by
 have rt:=fun (w':World) (h:Below w.heap.size w w')=>ZaP w' va l xn xd (ha.below h) hl x1 x2 x3 x4
 rw [hr] at rt
 have hv0:=ZfP (m:=m) (kx:=(xn,xd)) (l:=l) (fun g=>by rw [hr] at g;cases g.1)
 generalize ZS l m (xn,xd)=V at *
 have HV0:=Lib.hid hv0
 have RT:=Lib.hid rt
 obtain ⟨A,c,rfl⟩:=Zd ha
 obtain ⟨B,d,rfl,g2,g3,g4⟩:=hb
 unfold maxLen at g3
 clear rt ha hl x1 x2 x3 x4 hr hv0
 generalize l.length=ll at *
 generalize m.length=n at *
 clear g4 g2 g3
 obtain ⟨F,E,⟨f0,f1⟩,hb0⟩:=Zc4 w (.slice A ll c) (.int .i64 xn) (.int .i64 xd) 27 25
 go_enter Tryz.func11,Tryz.ntmps11
 go_wp2_with (go_at_call 30;(with_reducible refine (RT.out _ hb0).mono ?_);rintro e w1 ⟨rfl,hb1⟩;have E:=E.keep hb1;have f0:=Zu hb1 (by simp) f0;have f1:=Zu hb1 (by simp) f1;have b1:=hb0.trans (hb1.mono hb0.size);have e0:=E.k0;have e1:=E.k1)
 obtain ⟨c0,c1⟩:=ZaJ (x:=.int .i64 0) (y:=.int .i64 0) E.k0 E.k1
 exact bodyPost_ret (v:=.tuple #[Ze 0 0,.int .i64 2]) (by simp [results,Tryz.results11,go_sem,c0,c1]) rfl ⟨by rw [HV0.out],(b1.setCell (by show w.heap.size<=w.heap.size+1;omega) _).setCell (by show w.heap.size<=w.heap.size+1;omega) _⟩
theorem Zny (w:World) (va vb:Value) (l m:List (Int×Int)) (xn xd:Int) (ha:Zb w va l) (hb:Zb w vb m) (hl:Zv l) (hm:Zv m) (x1:-9223372036854775808<=xn) (x2:xn<=9223372036854775807) (x3:-9223372036854775808<=xd) (x4:xd<=9223372036854775807) (hr:ZO l xn xd=true) :
  Calls Tryz.prog 11 #[.agg #[va,.int .i64 xn,.int .i64 xd],vb] w fun r w'=>r=.returned (.tuple #[Ze (ZS l m (xn,xd)).1.1 (ZS l m (xn,xd)).1.2,.int .i64 (ZS l m (xn,xd)).2])/\Below w.heap.size w w':=by
 obtain ⟨h8,al,ox⟩:=Zam hr hl x1 x2 x3 x4
 have rt:=fun (w':World) (h:Below w.heap.size w w')=>ZaP w' va l xn xd (ha.below h) hl x1 x2 x3 x4
 rw [hr] at rt
 have RT:=Lib.hid rt
 have OKL:=Lib.hid al;have OKX:=Lib.hid ox
 have HM8:=Lib.hid (fun x hx=>hm x (List.mem_of_mem_take hx):Zv (m.take 8))
 obtain ⟨A,c,rfl,a2,a3,a4⟩:=ha
 obtain ⟨B,d,rfl,g2,g3,g4⟩:=id hb
 unfold maxLen at g3
 obtain ⟨n,hn⟩:∃ n,n=min l.length m.length:=⟨_,rfl⟩
 have LN:=Lib.hid (show n=min l.length m.length/\l.length<=8/\n<=8/\m.length<=9223372036854775807 from by omega)
 have G4:=Lib.hid a4;have B4:=Lib.hid g4
 have LE:=Lib.hid (And.intro (fun (k:Nat) (h:k<l.length)=>(⟨_,List.getElem?_eq_getElem h⟩:∃ x,l[k]? = some x)) (fun (k:Nat) (h:k<m.length)=>(⟨_,List.getElem?_eq_getElem h⟩:∃ x,m[k]? = some x)))
 have HR:=Lib.hid hr
 have HMW:=Lib.hid hm
 obtain ⟨V,hv0⟩:∃ V,V=ZS l m (xn,xd):=⟨_,rfl⟩
 rw [<- hv0]
 have HV0:=Lib.hid hv0
 obtain ⟨j,hj⟩:∃ j,j=min m.length 8:=⟨_,rfl⟩
 have JT:=Lib.hid (show (j=min m.length 8/\m.length<=9223372036854775807)/\m.take j=m.take 8 from ⟨⟨hj,by omega⟩,by rw [hj,Zly]⟩)
 have LM:=Lib.hid (And.intro (fun (hma:Zbd (m.take 8)=true) (s:Int×Int) (e:ZaE l m (xn,xd) n=some s)=>ZlD (kx:=(xn,xd)) (l:=l) (m:=m) (s:=s) ⟨hr,hma⟩ (by rw [<- hn];exact e)) (fun (hma:Zbd (m.take 8)=true) (e:ZaE l m (xn,xd) n=none)=>Zkb (kx:=(xn,xd)) (l:=l) (m:=m) ⟨hr,hma⟩ (by rw [<- hn];exact e)))
 clear rt al ox a2 a3 a4 g2 g3 g4 hb hl hm x1 x2 x3 x4 hr h8 hn hv0 hj
 generalize l.length=ll at *
 generalize m.length=lm at *
 by_cases h8m:8<lm
 ·skip
  obtain ⟨F,E,⟨f0,f1⟩,hb0⟩:=Zc4 w (.slice A ll c) (.int .i64 xn) (.int .i64 xd) 27 25
  go_enter Tryz.func11,Tryz.ntmps11
  go_upto_region 3 with (go_at_call 30;(with_reducible refine (RT.out _ hb0).mono ?_);rintro e w1 ⟨rfl,hb1⟩;have H0:=Lib.hid ((BoxV.mk F E f0 f1 hb0).keep hb1))
  clear F E f0 f1 hb0 hb1
  go_wp2_with fail
  go_loopg [6] j (fun g v6 wr=>∃ k:Nat,v6=.int .i64 k/\k<=j/\g=j-k/\Zbd (m.take k)=true/\BoxV w wr (.slice A ll c) xn xd)
  case atStart=>exact ⟨0,rfl,Nat.zero_le _,rfl,by rw [List.take_zero];rfl,H0.out⟩
  case round=>
   clear H0
   obtain ⟨k,rfl,hk,hg,hall,H⟩:=hrel
   by_cases hkj:k=j
   ·subst hkj
    have hma:Zbd (m.take 8)=true:=by rw [JT.out.2] at hall;exact hall
    have ve:=fun (s:Int×Int) (e:ZaE l m (xn,xd) n=some s)=>HV0.out.trans (LM.out.1 hma s e)
    have ov:=fun (e:ZaE l m (xn,xd) n=none)=>HV0.out.trans (LM.out.2 hma e)
    have VE:=Lib.hid ve;have OV:=Lib.hid ov
    have OKM:=Lib.hid (And.intro hma HMW.out)
    have k1:=H.F.k1;have k2:=H.F.k2
    have HX:=Lib.hid H
    obtain rfl:k=8:=by have:=JT.out;omega
    have x1:decide (8<lm)=true:=decide_eq_true h8m
    have x2:(8:Int)<(lm:Int):=by omega
    clear ve ov hma hall hk hg H
    go_upto_region 9 with fail
    clear k1 k2 x1 x2
    have a1:=Za wr (.cells #[.int .i64 xn,.int .i64 xd] 25)
    have e3:=HX.out.E.lt
    have H1:=HX.out.keep a1
    have V0:ValS w (wr.alloc (.cells #[.int .i64 xn,.int .i64 xd] 25)) wr.heap.size (.slice A ll c) xn xd xn xd:=
     ⟨H1.F,H1.E,H1.e0,H1.e1,RatAt.start wr xn xd 25,by go_simp,by go_simp,e3,H1.below⟩
    have V0:=Lib.hid V0
    obtain ⟨w9,hw9⟩:∃ w9,w9=wr.alloc (.cells #[.int .i64 xn,.int .i64 xd] 25):=⟨_,rfl⟩
    rw [<- hw9] at V0 ⊢
    generalize wr.heap.size=b at *
    clear a1 e3 H1 HX hw9
    go_wp2_with fail
    go_loopg [8] n (fun g v8 wr=>∃ (k:Nat) (s:Int×Int),v8=.int .i64 k/\k<=n/\g=n-k/\ZaE l m (xn,xd) k=some s/\ValS w wr b (.slice A ll c) xn xd s.1 s.2)
    case atStart=>exact ⟨0,(xn,xd),rfl,Nat.zero_le _,rfl,rfl,V0.out⟩
    case round=>
     clear V0
     obtain ⟨k,s,rfl,hk,hg,hs,H⟩:=hrel
     by_cases hkn:k=n
     ·subst hkn
      have HV:=Lib.hid (VE.out s hs)
      obtain ⟨s1,s2⟩:=s
      dsimp only at H
      have z0:=H.S.k0;have z1:=H.S.k1;have e0:=H.E.k0;have e1:=H.E.k1;have f0:=H.e0;have f1:=H.e1;have k0:=H.F.k0
      have HB:=Lib.hid H.below
      clear hs hg hk H
      by_cases hll:k<ll
      ·have i1:(k:Int)<(ll:Int):=by omega
       have i2:decide (k<ll)=true:=decide_eq_true hll
       have i3:decide (k<lm)=false:=decide_eq_false (by have:=LN.out;omega)
       have i4:lm<=k:=by have:=LN.out;omega
       go_wp2_with fail
       obtain ⟨c0,c1⟩:=ZaJ (x:=.int .i64 s1) (y:=.int .i64 s2) e0 e1
       exact bodyPost_ret (v:=.tuple #[Ze s1 s2,.int .i64 0]) (by simp [results,Tryz.results11,go_sem,c0,c1]) rfl ⟨by rw [HV.out],(HB.out.setCell (by show w.heap.size<=w.heap.size+1;omega) _).setCell (by show w.heap.size<=w.heap.size+1;omega) _⟩
      ·have i2:decide (k<ll)=false:=decide_eq_false hll
       have i4:ll<=k:=by omega
       go_wp2_with fail
       obtain ⟨c0,c1⟩:=ZaJ (x:=.int .i64 s1) (y:=.int .i64 s2) e0 e1
       exact bodyPost_ret (v:=.tuple #[Ze s1 s2,.int .i64 0]) (by simp [results,Tryz.results11,go_sem,c0,c1]) rfl ⟨by rw [HV.out],(HB.out.setCell (by show w.heap.size<=w.heap.size+1;omega) _).setCell (by show w.heap.size<=w.heap.size+1;omega) _⟩
     ·have hlt:k<n:=by omega
      obtain ⟨x,hx⟩:=LE.out.1 k (by have:=LN.out;omega)
      obtain ⟨y,hy⟩:=LE.out.2 k (by have:=LN.out;omega)
      obtain ⟨ad,rfl,d1,d3⟩:=Za8 G4.out H.below hx (by have:=LN.out;omega)
      obtain ⟨bd,rfl,t1,t3⟩:=Za8 B4.out H.below hy (by have:=LN.out;omega)
      have hox:OkR (atL l k):=OKL.out.at k
      have hoy:OkR (atL m k):=Zgs OKM.out.1 OKM.out.2 (by have:=LN.out;omega)
      have ex:atL l k=x:=ZcT hx
      have ey:atL m k=y:=ZcT hy
      have hos:OkR s:=Ziv OKL.out OKM.out.1 OKM.out.2 OKX.out k s (by have:=LN.out;omega) hs
      have hm1:=fun (w':World)=>ZdV w' (atL l k) (atL m k) hox hoy
      have mno:=Zb3.no (atL l k) (atL m k) hox hoy
      have nx:=@Zhg l m (xn,xd) s k hs
      have st:=@Zhh l m (xn,xd) s k hs
      have ad1:=fun (w':World) (h:(ZT (atL l k) (atL m k)).2=0)=>Zdp w' s (ZT (atL l k) (atL m k)).1 hos (Zb3.ok _ _ hox hoy h)
      have ano:=fun (h:(ZT (atL l k) (atL m k)).2=0)=>Zbn.no s (ZT (atL l k) (atL m k)).1 hos (Zb3.ok _ _ hox hoy h)
      rw [ex,ey] at hm1 nx st ad1 mno ano
      obtain ⟨p1,p2⟩:=x
      obtain ⟨q1,q2⟩:=y
      obtain ⟨s1,s2⟩:=s
      dsimp only at hm1 d1 d3 t1 t3 H ad1 nx st mno ano
      have HS:=ZaU (A:=True) (Zq _) (And.intro (And.intro trivial (And.intro (And.intro d1 d3) (And.intro t1 t3))) H)
      generalize ZT (p1,p2) (q1,q2)=M at *
      obtain ⟨⟨m1,m2⟩,me⟩:=M
      dsimp only at hm1 ad1 nx st mno ano
      have HM:=Lib.hid hm1;have NX:=Lib.hid nx;have ST:=Lib.hid st;have AD:=Lib.hid ad1;have HLT:=Lib.hid hlt;have HG:=Lib.hid hg;have MNO:=Lib.hid mno;have ANO:=Lib.hid ano
      have i1:(k:Int)<(ll:Int):=by have:=LN.out;omega
      have i2:(0:Int)<=(k:Int):=by omega
      have i3:(k:Int)<(lm:Int):=by have:=LN.out;omega
      have g1:decide (k<ll)=true:=decide_eq_true (by have:=LN.out;omega)
      have g3:decide (k<lm)=true:=decide_eq_true (by have:=LN.out;omega)
      have k0:=H.F.k0
      clear hx hy hox hoy ex ey hos hm1 nx st ad1 hs hlt hg hk hkn mno ano
      go_upto_region 12 with fail
      clear k0 d1 d3 t1 t3
      go_cut [9,10] from 34 to 73 (fun v8 v9 wx=>ZgJ w b (.slice (some ad) ll c) xn xd s1 s2 m1 m2 me v8 v9 wx)
      case first=>
       clear H
       refine wp_region_noPanic ?_
       refine wp_region_held_drew (S:=(fun w'=>(w'.cell? ⟨w.heap.size,0,none⟩=some (.slice (some ad) ll c)/\(w'.cell? (ad.add (k*2))=some (.int .i64 p1)/\w'.cell? ⟨(ad.add (k*2)).block,(ad.add (k*2)).off+1,none⟩=some (.int .i64 p2))/\(w'.cell? (bd.add (k*2))=some (.int .i64 q1)/\w'.cell? ⟨(bd.add (k*2)).block,(bd.add (k*2)).off+1,none⟩=some (.int .i64 q2)))/\ValS w w' b (.slice (some ad) ll c) xn xd s1 s2)) (by kernel_rfl) HS (fun hHeld=>?_)
       clear HS
       refine tk 0 rfl ?_
       refine tk 1 rfl ?_
       refine tk 2 rfl ?_
       refine tk 3 rfl ?_
       refine tk 4 rfl ?_
       refine tk 5 rfl ?_
       refine tk 6 rfl ?_
       refine tk 7 rfl ?_
       refine tk 8 rfl ?_
       (try simp only [cl,Act.put])
       refine wpAnyH_ready (rs:=[9,13]) (by kernel_rfl) (by simp) (AllReadyH.cons (o:=_) rfl (fun K hK=>?_) (AllReadyH.cons (o:=_) rfl (fun K hK=>?_) AllReadyH.nil))
       rotate_left
       go_simp
       refine hK.out _ _ (ZaU (Za _ _) (by with_reducible assumption)) (fun hH2=>?_)
       clear hK K
       (first | have HC:=Lib.hid (Zd4 hH2) | have HC:=Lib.hid (Zdt hH2))
       have hHeld0:=Lib.hid hHeld
       clear hHeld
       have hHeld:=hH2
       clear hH2
       (try simp only [cl,Act.put])
       refine rd 9 rfl fun K hK=>?_
       rotate_right
       all_goals
        go_simp
        (go_at_call 32;(with_reducible refine (HM.out _).mono ?_);rintro e w6 ⟨rfl,hb⟩;(try (have HC:=Lib.hid (HC.out.keep hb))))
        go_wp2_with fail
        refine hK.out _ _ (ZaU (by with_reducible assumption) (by with_reducible assumption)) (fun hH2=>?_)
        clear hK K hHeld hb;have hHeld:=hH2;clear hH2
        (try simp only [cl,Act.put])
       all_goals
        refine tk 10 rfl ?_
        refine tk 11 rfl ?_
        refine tk 12 rfl ?_
        (try simp only [cl,Act.put])
       refine rd 13 rfl fun K hK=>?_
       go_simp
       refine hK.out _ _ (ZaU (Za _ _) (by with_reducible assumption)) (fun hH2=>?_)
       clear hK K
       (first | have HC:=Lib.hid (Zd4 hH2) | have HC:=Lib.hid (Zdt hH2))
       have hHeld0:=Lib.hid hHeld
       clear hHeld
       have hHeld:=hH2
       clear hH2
       (try simp only [cl,Act.put])
       all_goals
        refine rd 14 rfl fun K hK=>?_
        obtain ⟨h6,h0,h1,h2,h3,h4,h5⟩:=HC.out
        clear h6
        go_simp
        clear h0 h1 h2 h3 h4 h5
        (first
         | refine hK.out _ _ (ZaU (Za _ _) hHeld0.out) (fun hH2=>?_)
         | refine hK.out _ _ (ZaU (HC.out.fill _ _).1 hHeld0.out) (fun hH2=>?_))
        clear hK K hHeld
        have hHeld:=hH2
        clear hH2
        (try simp only [cl,Act.put])
        refine tk 15 rfl ?_
        (try simp only [cl,Act.put])
        refine wpAnyH_done (by kernel_rfl) ?_ _
        refine NoPanic.normal ?_
        go_wp2_with fail
        go_meet
        case rel=>first | exact Zgx (ZeF hHeld0.out) 25 | exact Zhq (ZeF hHeld0.out) HC.out
      case rest=>
       obtain ⟨cc,rfl,rfl,RC,H2⟩:=hcut
       clear H HS
       have B2:=Lib.hid H2.below
       by_cases hme:me=0
       ·subst hme
        have a2:=fun (w':World)=>AD.out w' rfl
        have k0:=RC.k0;have k1:=RC.k1;have z0:=H2.S.k0;have z1:=H2.S.k1
        have nx:=NX.out rfl
        have st:=ST.out
        have an:=ANO.out rfl
        generalize Zo (s1,s2) (m1,m2)=N at *
        obtain ⟨⟨n1,n2⟩,ne⟩:=N
        dsimp only at a2 nx st an
        have A2:=Lib.hid a2;have NX:=Lib.hid nx;have ST:=Lib.hid st;have AN:=Lib.hid an
        clear a2 nx st AD an ANO MNO
        by_cases hne:ne=0
        ·subst hne
         have hgo:Hid (ZaE l m (xn,xd) (k+1)=some (n1,n2)):=NX.out rfl
         have wk:IntKind.i64.wrap ((k:Int)+1)=(k:Int)+1:=IntWalk.i64_in _ (by have:=LN.out;have:=HLT.out;omega)
         go_wp2_with (go_at_call 32;(with_reducible refine (A2.out _).mono ?_);rintro e w7 ⟨rfl,hb⟩;have H3:=H2.keep hb;have z0:=H3.S.k0;have z1:=H3.S.k1;have y0:=H3.s0;have y1:=H3.s1;have H3:=Lib.hid H3;clear hb)
         go_roundg (n-(k+1))
         case measure=>have:=HG.out;have:=HLT.out;omega
         case rel=>exact ⟨k+1,(n1,n2),by push_cast;rfl,by have:=HLT.out;omega,rfl,hgo.out,H3.out.store n1 n2⟩
        ·have HV:Hid (V=((0,0),3)):=OV.out (Zc2 (ST.out (fun g=>hne g.2)) _ (by have:=HLT.out;omega))
         have hN:=AN.out hne
         have a2:=A2.out
         obtain ⟨⟨rfl,rfl⟩,rfl⟩:(n1=0/\n2=0)/\ne=3:=by simpa using hN
         clear A2 NX ST AN hne hN
         have A2:=Lib.hid a2
         clear a2
         go_wp2_with (go_at_call 32;(with_reducible refine (A2.out _).mono ?_);rintro e w7 ⟨rfl,hb⟩;have H3:=H2.keep hb;have z0:=H3.S.k0;have z1:=H3.S.k1;have y0:=H3.s0;have y1:=H3.s1;have H4:=H3.store 0 0;have e0:=H4.E.k0;have e1:=H4.E.k1;have f0:=H4.e0;have f1:=H4.e1;have H4:=Lib.hid H4;clear hb H3)
         obtain ⟨c0,c1⟩:=ZaJ (x:=.int .i64 0) (y:=.int .i64 0) e0 e1
         exact bodyPost_ret (v:=.tuple #[Ze 0 0,.int .i64 3]) (by simp [results,Tryz.results11,go_sem,c0,c1]) rfl ⟨by rw [HV.out],(H4.out.below.setCell (by show w.heap.size<=w.heap.size+1;omega) _).setCell (by show w.heap.size<=w.heap.size+1;omega) _⟩
       ·have HV:Hid (V=((0,0),3)):=OV.out (Zc2 (ST.out (fun g=>hme g.1)) _ (by have:=HLT.out;omega))
        have hN:=MNO.out hme
        obtain ⟨⟨rfl,rfl⟩,rfl⟩:(m1=0/\m2=0)/\me=3:=by simpa using hN
        have e0:=H2.E.k0;have e1:=H2.E.k1;have f0:=H2.e0;have f1:=H2.e1
        clear AD NX ST ANO MNO hme hN HM RC H2
        go_wp2_with fail
        obtain ⟨c0,c1⟩:=ZaJ (x:=.int .i64 0) (y:=.int .i64 0) e0 e1
        exact bodyPost_ret (v:=.tuple #[Ze 0 0,.int .i64 3]) (by simp [results,Tryz.results11,go_sem,c0,c1]) rfl ⟨by rw [HV.out],(B2.out.setCell (by show w.heap.size<=w.heap.size+1;omega) _).setCell (by show w.heap.size<=w.heap.size+1;omega) _⟩
   ·have hlt:k<j:=by omega
    obtain ⟨y,hy⟩:=LE.out.2 k (by have:=JT.out;omega)
    obtain ⟨bd,rfl,t1,t3⟩:=Za8 B4.out H.below hy (by have:=JT.out;omega)
    have hyw:=HMW.out y (List.mem_of_getElem? hy)
    have rr:=fun (w':World)=>ZaV y.1 y.2 w' hyw.1.1 hyw.1.2 hyw.2.1 hyw.2.2
    have nx:=ZeX hy hall
    have hy8:(m.take 8)[k]? = some y:=by rw [List.getElem?_take,if_pos (by have:=JT.out;omega)];exact hy
    have bad:=@ZfU (m.take 8) k y hy8
    have i1:(k:Int)<(lm:Int):=by have:=JT.out;omega
    have i2:(0:Int)<=(k:Int):=by omega
    have i3:decide (k<lm)=true:=decide_eq_true (by have:=JT.out;omega)
    have i4:(k:Int)<8:=by have:=JT.out;omega
    have i5:decide (k<8)=true:=decide_eq_true (by have:=JT.out;omega)
    have wk:IntKind.i64.wrap ((k:Int)+1)=(k:Int)+1:=IntWalk.i64_in _ (by have:=JT.out;omega)
    obtain ⟨y1,y2⟩:=y
    dsimp only at rr nx t1 t3 bad
    have HX:=Lib.hid H
    have HG:=Lib.hid (And.intro hlt hg)
    generalize Zas y1 y2=rb at *
    have RR:=Lib.hid rr;have NX:=Lib.hid nx;have BAD:=Lib.hid bad
    clear rr nx bad hy hy8 hyw hall hk hg hkj hlt H
    cases rb
    ·have HV:Hid (V=((0,0),2)):=HV0.out.trans (ZfP (fun g=>by rw [BAD.out rfl] at g;cases g.2))
     go_wp2_with (go_at_call 31;(with_reducible refine (RR.out _).mono ?_);rintro e w3 ⟨rfl,hb⟩;have H3:=HX.out.keep hb;have e0:=H3.E.k0;have e1:=H3.E.k1;have f0:=H3.e0;have f1:=H3.e1;have B3:=Lib.hid H3.below;clear H3 hb)
     obtain ⟨c0,c1⟩:=ZaJ (x:=.int .i64 0) (y:=.int .i64 0) e0 e1
     exact bodyPost_ret (v:=.tuple #[Ze 0 0,.int .i64 2]) (by simp [results,Tryz.results11,go_sem,c0,c1]) rfl ⟨by rw [HV.out],(B3.out.setCell (by show w.heap.size<=w.heap.size+1;omega) _).setCell (by show w.heap.size<=w.heap.size+1;omega) _⟩
    ·go_wp2_with (go_at_call 31;(with_reducible refine (RR.out _).mono ?_);rintro e w3 ⟨rfl,hb⟩;have H3:=Lib.hid (HX.out.keep hb);clear hb)
     go_roundg (j-(k+1))
     case measure=>have:=HG.out;omega
     case rel=>exact ⟨k+1,by push_cast;rfl,by have:=HG.out;omega,rfl,NX.out,H3.out⟩
 ·skip
  obtain ⟨F,E,⟨f0,f1⟩,hb0⟩:=Zc4 w (.slice A ll c) (.int .i64 xn) (.int .i64 xd) 27 25
  go_enter Tryz.func11,Tryz.ntmps11
  go_upto_region 3 with (go_at_call 30;(with_reducible refine (RT.out _ hb0).mono ?_);rintro e w1 ⟨rfl,hb1⟩;have H0:=Lib.hid ((BoxV.mk F E f0 f1 hb0).keep hb1))
  clear F E f0 f1 hb0 hb1
  go_wp2_with fail
  go_loopg [6] j (fun g v6 wr=>∃ k:Nat,v6=.int .i64 k/\k<=j/\g=j-k/\Zbd (m.take k)=true/\BoxV w wr (.slice A ll c) xn xd)
  case atStart=>exact ⟨0,rfl,Nat.zero_le _,rfl,by rw [List.take_zero];rfl,H0.out⟩
  case round=>
   clear H0
   obtain ⟨k,rfl,hk,hg,hall,H⟩:=hrel
   by_cases hkj:k=j
   ·subst hkj
    have hma:Zbd (m.take 8)=true:=by rw [JT.out.2] at hall;exact hall
    have ve:=fun (s:Int×Int) (e:ZaE l m (xn,xd) n=some s)=>HV0.out.trans (LM.out.1 hma s e)
    have ov:=fun (e:ZaE l m (xn,xd) n=none)=>HV0.out.trans (LM.out.2 hma e)
    have VE:=Lib.hid ve;have OV:=Lib.hid ov
    have OKM:=Lib.hid (And.intro hma HMW.out)
    have k1:=H.F.k1;have k2:=H.F.k2
    have HX:=Lib.hid H
    have x1:decide (k<lm)=false:=decide_eq_false (by have:=JT.out;omega)
    have x2:lm<=k:=by have:=JT.out;omega
    clear ve ov hma hall hk hg H
    go_upto_region 9 with fail
    clear k1 k2 x1 x2
    have a1:=Za wr (.cells #[.int .i64 xn,.int .i64 xd] 25)
    have e3:=HX.out.E.lt
    have H1:=HX.out.keep a1
    have V0:ValS w (wr.alloc (.cells #[.int .i64 xn,.int .i64 xd] 25)) wr.heap.size (.slice A ll c) xn xd xn xd:=
     ⟨H1.F,H1.E,H1.e0,H1.e1,RatAt.start wr xn xd 25,by go_simp,by go_simp,e3,H1.below⟩
    have V0:=Lib.hid V0
    obtain ⟨w9,hw9⟩:∃ w9,w9=wr.alloc (.cells #[.int .i64 xn,.int .i64 xd] 25):=⟨_,rfl⟩
    rw [<- hw9] at V0 ⊢
    generalize wr.heap.size=b at *
    clear a1 e3 H1 HX hw9
    go_wp2_with fail
    go_loopg [8] n (fun g v8 wr=>∃ (k:Nat) (s:Int×Int),v8=.int .i64 k/\k<=n/\g=n-k/\ZaE l m (xn,xd) k=some s/\ValS w wr b (.slice A ll c) xn xd s.1 s.2)
    case atStart=>exact ⟨0,(xn,xd),rfl,Nat.zero_le _,rfl,rfl,V0.out⟩
    case round=>
     clear V0
     obtain ⟨k,s,rfl,hk,hg,hs,H⟩:=hrel
     by_cases hkn:k=n
     ·subst hkn
      have HV:=Lib.hid (VE.out s hs)
      obtain ⟨s1,s2⟩:=s
      dsimp only at H
      have z0:=H.S.k0;have z1:=H.S.k1;have e0:=H.E.k0;have e1:=H.E.k1;have f0:=H.e0;have f1:=H.e1;have k0:=H.F.k0
      have HB:=Lib.hid H.below
      clear hs hg hk H
      by_cases hll:k<ll
      ·have i1:(k:Int)<(ll:Int):=by omega
       have i2:decide (k<ll)=true:=decide_eq_true hll
       have i3:decide (k<lm)=false:=decide_eq_false (by have:=LN.out;omega)
       have i4:lm<=k:=by have:=LN.out;omega
       go_wp2_with fail
       obtain ⟨c0,c1⟩:=ZaJ (x:=.int .i64 s1) (y:=.int .i64 s2) e0 e1
       exact bodyPost_ret (v:=.tuple #[Ze s1 s2,.int .i64 0]) (by simp [results,Tryz.results11,go_sem,c0,c1]) rfl ⟨by rw [HV.out],(HB.out.setCell (by show w.heap.size<=w.heap.size+1;omega) _).setCell (by show w.heap.size<=w.heap.size+1;omega) _⟩
      ·have i2:decide (k<ll)=false:=decide_eq_false hll
       have i4:ll<=k:=by omega
       go_wp2_with fail
       obtain ⟨c0,c1⟩:=ZaJ (x:=.int .i64 s1) (y:=.int .i64 s2) e0 e1
       exact bodyPost_ret (v:=.tuple #[Ze s1 s2,.int .i64 0]) (by simp [results,Tryz.results11,go_sem,c0,c1]) rfl ⟨by rw [HV.out],(HB.out.setCell (by show w.heap.size<=w.heap.size+1;omega) _).setCell (by show w.heap.size<=w.heap.size+1;omega) _⟩
     ·have hlt:k<n:=by omega
      obtain ⟨x,hx⟩:=LE.out.1 k (by have:=LN.out;omega)
      obtain ⟨y,hy⟩:=LE.out.2 k (by have:=LN.out;omega)
      obtain ⟨ad,rfl,d1,d3⟩:=Za8 G4.out H.below hx (by have:=LN.out;omega)
      obtain ⟨bd,rfl,t1,t3⟩:=Za8 B4.out H.below hy (by have:=LN.out;omega)
      have hox:OkR (atL l k):=OKL.out.at k
      have hoy:OkR (atL m k):=Zgs OKM.out.1 OKM.out.2 (by have:=LN.out;omega)
      have ex:atL l k=x:=ZcT hx
      have ey:atL m k=y:=ZcT hy
      have hos:OkR s:=Ziv OKL.out OKM.out.1 OKM.out.2 OKX.out k s (by have:=LN.out;omega) hs
      have hm1:=fun (w':World)=>ZdV w' (atL l k) (atL m k) hox hoy
      have mno:=Zb3.no (atL l k) (atL m k) hox hoy
      have nx:=@Zhg l m (xn,xd) s k hs
      have st:=@Zhh l m (xn,xd) s k hs
      have ad1:=fun (w':World) (h:(ZT (atL l k) (atL m k)).2=0)=>Zdp w' s (ZT (atL l k) (atL m k)).1 hos (Zb3.ok _ _ hox hoy h)
      have ano:=fun (h:(ZT (atL l k) (atL m k)).2=0)=>Zbn.no s (ZT (atL l k) (atL m k)).1 hos (Zb3.ok _ _ hox hoy h)
      rw [ex,ey] at hm1 nx st ad1 mno ano
      obtain ⟨p1,p2⟩:=x
      obtain ⟨q1,q2⟩:=y
      obtain ⟨s1,s2⟩:=s
      dsimp only at hm1 d1 d3 t1 t3 H ad1 nx st mno ano
      have HS:=ZaU (A:=True) (Zq _) (And.intro (And.intro trivial (And.intro (And.intro d1 d3) (And.intro t1 t3))) H)
      generalize ZT (p1,p2) (q1,q2)=M at *
      obtain ⟨⟨m1,m2⟩,me⟩:=M
      dsimp only at hm1 ad1 nx st mno ano
      have HM:=Lib.hid hm1;have NX:=Lib.hid nx;have ST:=Lib.hid st;have AD:=Lib.hid ad1;have HLT:=Lib.hid hlt;have HG:=Lib.hid hg;have MNO:=Lib.hid mno;have ANO:=Lib.hid ano
      have i1:(k:Int)<(ll:Int):=by have:=LN.out;omega
      have i2:(0:Int)<=(k:Int):=by omega
      have i3:(k:Int)<(lm:Int):=by have:=LN.out;omega
      have g1:decide (k<ll)=true:=decide_eq_true (by have:=LN.out;omega)
      have g3:decide (k<lm)=true:=decide_eq_true (by have:=LN.out;omega)
      have k0:=H.F.k0
      clear hx hy hox hoy ex ey hos hm1 nx st ad1 hs hlt hg hk hkn mno ano
      go_upto_region 12 with fail
      clear k0 d1 d3 t1 t3
      go_cut [9,10] from 34 to 73 (fun v8 v9 wx=>ZgJ w b (.slice (some ad) ll c) xn xd s1 s2 m1 m2 me v8 v9 wx)
      case first=>
       clear H
       refine wp_region_noPanic ?_
       refine wp_region_held_drew (S:=(fun w'=>(w'.cell? ⟨w.heap.size,0,none⟩=some (.slice (some ad) ll c)/\(w'.cell? (ad.add (k*2))=some (.int .i64 p1)/\w'.cell? ⟨(ad.add (k*2)).block,(ad.add (k*2)).off+1,none⟩=some (.int .i64 p2))/\(w'.cell? (bd.add (k*2))=some (.int .i64 q1)/\w'.cell? ⟨(bd.add (k*2)).block,(bd.add (k*2)).off+1,none⟩=some (.int .i64 q2)))/\ValS w w' b (.slice (some ad) ll c) xn xd s1 s2)) (by kernel_rfl) HS (fun hHeld=>?_)
       clear HS
       refine tk 0 rfl ?_
       refine tk 1 rfl ?_
       refine tk 2 rfl ?_
       refine tk 3 rfl ?_
       refine tk 4 rfl ?_
       refine tk 5 rfl ?_
       refine tk 6 rfl ?_
       refine tk 7 rfl ?_
       refine tk 8 rfl ?_
       (try simp only [cl,Act.put])
       refine wpAnyH_ready (rs:=[9,13]) (by kernel_rfl) (by simp) (AllReadyH.cons (o:=_) rfl (fun K hK=>?_) (AllReadyH.cons (o:=_) rfl (fun K hK=>?_) AllReadyH.nil))
       rotate_left
       go_simp
       refine hK.out _ _ (ZaU (Za _ _) (by with_reducible assumption)) (fun hH2=>?_)
       clear hK K
       (first | have HC:=Lib.hid (Zd4 hH2) | have HC:=Lib.hid (Zdt hH2))
       have hHeld0:=Lib.hid hHeld
       clear hHeld
       have hHeld:=hH2
       clear hH2
       (try simp only [cl,Act.put])
       refine rd 9 rfl fun K hK=>?_
       rotate_right
       all_goals
        go_simp
        (go_at_call 32;(with_reducible refine (HM.out _).mono ?_);rintro e w6 ⟨rfl,hb⟩;(try (have HC:=Lib.hid (HC.out.keep hb))))
        go_wp2_with fail
        refine hK.out _ _ (ZaU (by with_reducible assumption) (by with_reducible assumption)) (fun hH2=>?_)
        clear hK K hHeld hb;have hHeld:=hH2;clear hH2
        (try simp only [cl,Act.put])
       all_goals
        refine tk 10 rfl ?_
        refine tk 11 rfl ?_
        refine tk 12 rfl ?_
        (try simp only [cl,Act.put])
       refine rd 13 rfl fun K hK=>?_
       go_simp
       refine hK.out _ _ (ZaU (Za _ _) (by with_reducible assumption)) (fun hH2=>?_)
       clear hK K
       (first | have HC:=Lib.hid (Zd4 hH2) | have HC:=Lib.hid (Zdt hH2))
       have hHeld0:=Lib.hid hHeld
       clear hHeld
       have hHeld:=hH2
       clear hH2
       (try simp only [cl,Act.put])
       all_goals
        refine rd 14 rfl fun K hK=>?_
        obtain ⟨h6,h0,h1,h2,h3,h4,h5⟩:=HC.out
        clear h6
        go_simp
        clear h0 h1 h2 h3 h4 h5
        (first
         | refine hK.out _ _ (ZaU (Za _ _) hHeld0.out) (fun hH2=>?_)
         | refine hK.out _ _ (ZaU (HC.out.fill _ _).1 hHeld0.out) (fun hH2=>?_))
        clear hK K hHeld
        have hHeld:=hH2
        clear hH2
        (try simp only [cl,Act.put])
        refine tk 15 rfl ?_
        (try simp only [cl,Act.put])
        refine wpAnyH_done (by kernel_rfl) ?_ _
        refine NoPanic.normal ?_
        go_wp2_with fail
        go_meet
        case rel=>first | exact Zgx (ZeF hHeld0.out) 25 | exact Zhq (ZeF hHeld0.out) HC.out
      case rest=>
       obtain ⟨cc,rfl,rfl,RC,H2⟩:=hcut
       clear H HS
       have B2:=Lib.hid H2.below
       by_cases hme:me=0
       ·subst hme
        have a2:=fun (w':World)=>AD.out w' rfl
        have k0:=RC.k0;have k1:=RC.k1;have z0:=H2.S.k0;have z1:=H2.S.k1
        have nx:=NX.out rfl
        have st:=ST.out
        have an:=ANO.out rfl
        generalize Zo (s1,s2) (m1,m2)=N at *
        obtain ⟨⟨n1,n2⟩,ne⟩:=N
        dsimp only at a2 nx st an
        have A2:=Lib.hid a2;have NX:=Lib.hid nx;have ST:=Lib.hid st;have AN:=Lib.hid an
        clear a2 nx st AD an ANO MNO
        by_cases hne:ne=0
        ·subst hne
         have hgo:Hid (ZaE l m (xn,xd) (k+1)=some (n1,n2)):=NX.out rfl
         have wk:IntKind.i64.wrap ((k:Int)+1)=(k:Int)+1:=IntWalk.i64_in _ (by have:=LN.out;have:=HLT.out;omega)
         go_wp2_with (go_at_call 32;(with_reducible refine (A2.out _).mono ?_);rintro e w7 ⟨rfl,hb⟩;have H3:=H2.keep hb;have z0:=H3.S.k0;have z1:=H3.S.k1;have y0:=H3.s0;have y1:=H3.s1;have H3:=Lib.hid H3;clear hb)
         go_roundg (n-(k+1))
         case measure=>have:=HG.out;have:=HLT.out;omega
         case rel=>exact ⟨k+1,(n1,n2),by push_cast;rfl,by have:=HLT.out;omega,rfl,hgo.out,H3.out.store n1 n2⟩
        ·have HV:Hid (V=((0,0),3)):=OV.out (Zc2 (ST.out (fun g=>hne g.2)) _ (by have:=HLT.out;omega))
         have hN:=AN.out hne
         have a2:=A2.out
         obtain ⟨⟨rfl,rfl⟩,rfl⟩:(n1=0/\n2=0)/\ne=3:=by simpa using hN
         clear A2 NX ST AN hne hN
         have A2:=Lib.hid a2
         clear a2
         go_wp2_with (go_at_call 32;(with_reducible refine (A2.out _).mono ?_);rintro e w7 ⟨rfl,hb⟩;have H3:=H2.keep hb;have z0:=H3.S.k0;have z1:=H3.S.k1;have y0:=H3.s0;have y1:=H3.s1;have H4:=H3.store 0 0;have e0:=H4.E.k0;have e1:=H4.E.k1;have f0:=H4.e0;have f1:=H4.e1;have H4:=Lib.hid H4;clear hb H3)
         obtain ⟨c0,c1⟩:=ZaJ (x:=.int .i64 0) (y:=.int .i64 0) e0 e1
         exact bodyPost_ret (v:=.tuple #[Ze 0 0,.int .i64 3]) (by simp [results,Tryz.results11,go_sem,c0,c1]) rfl ⟨by rw [HV.out],(H4.out.below.setCell (by show w.heap.size<=w.heap.size+1;omega) _).setCell (by show w.heap.size<=w.heap.size+1;omega) _⟩
       ·have HV:Hid (V=((0,0),3)):=OV.out (Zc2 (ST.out (fun g=>hme g.1)) _ (by have:=HLT.out;omega))
        have hN:=MNO.out hme
        obtain ⟨⟨rfl,rfl⟩,rfl⟩:(m1=0/\m2=0)/\me=3:=by simpa using hN
        have e0:=H2.E.k0;have e1:=H2.E.k1;have f0:=H2.e0;have f1:=H2.e1
        clear AD NX ST ANO MNO hme hN HM RC H2
        go_wp2_with fail
        obtain ⟨c0,c1⟩:=ZaJ (x:=.int .i64 0) (y:=.int .i64 0) e0 e1
        exact bodyPost_ret (v:=.tuple #[Ze 0 0,.int .i64 3]) (by simp [results,Tryz.results11,go_sem,c0,c1]) rfl ⟨by rw [HV.out],(B2.out.setCell (by show w.heap.size<=w.heap.size+1;omega) _).setCell (by show w.heap.size<=w.heap.size+1;omega) _⟩
   ·have hlt:k<j:=by omega
    obtain ⟨y,hy⟩:=LE.out.2 k (by have:=JT.out;omega)
    obtain ⟨bd,rfl,t1,t3⟩:=Za8 B4.out H.below hy (by have:=JT.out;omega)
    have hyw:=HMW.out y (List.mem_of_getElem? hy)
    have rr:=fun (w':World)=>ZaV y.1 y.2 w' hyw.1.1 hyw.1.2 hyw.2.1 hyw.2.2
    have nx:=ZeX hy hall
    have hy8:(m.take 8)[k]? = some y:=by rw [List.getElem?_take,if_pos (by have:=JT.out;omega)];exact hy
    have bad:=@ZfU (m.take 8) k y hy8
    have i1:(k:Int)<(lm:Int):=by have:=JT.out;omega
    have i2:(0:Int)<=(k:Int):=by omega
    have i3:decide (k<lm)=true:=decide_eq_true (by have:=JT.out;omega)
    have i4:(k:Int)<8:=by have:=JT.out;omega
    have i5:decide (k<8)=true:=decide_eq_true (by have:=JT.out;omega)
    have wk:IntKind.i64.wrap ((k:Int)+1)=(k:Int)+1:=IntWalk.i64_in _ (by have:=JT.out;omega)
    obtain ⟨y1,y2⟩:=y
    dsimp only at rr nx t1 t3 bad
    have HX:=Lib.hid H
    have HG:=Lib.hid (And.intro hlt hg)
    generalize Zas y1 y2=rb at *
    have RR:=Lib.hid rr;have NX:=Lib.hid nx;have BAD:=Lib.hid bad
    clear rr nx bad hy hy8 hyw hall hk hg hkj hlt H
    cases rb
    ·have HV:Hid (V=((0,0),2)):=HV0.out.trans (ZfP (fun g=>by rw [BAD.out rfl] at g;cases g.2))
     go_wp2_with (go_at_call 31;(with_reducible refine (RR.out _).mono ?_);rintro e w3 ⟨rfl,hb⟩;have H3:=HX.out.keep hb;have e0:=H3.E.k0;have e1:=H3.E.k1;have f0:=H3.e0;have f1:=H3.e1;have B3:=Lib.hid H3.below;clear H3 hb)
     obtain ⟨c0,c1⟩:=ZaJ (x:=.int .i64 0) (y:=.int .i64 0) e0 e1
     exact bodyPost_ret (v:=.tuple #[Ze 0 0,.int .i64 2]) (by simp [results,Tryz.results11,go_sem,c0,c1]) rfl ⟨by rw [HV.out],(B3.out.setCell (by show w.heap.size<=w.heap.size+1;omega) _).setCell (by show w.heap.size<=w.heap.size+1;omega) _⟩
    ·go_wp2_with (go_at_call 31;(with_reducible refine (RR.out _).mono ?_);rintro e w3 ⟨rfl,hb⟩;have H3:=Lib.hid (HX.out.keep hb);clear hb)
     go_roundg (j-(k+1))
     case measure=>have:=HG.out;omega
     case rel=>exact ⟨k+1,by push_cast;rfl,by have:=HG.out;omega,rfl,NX.out,H3.out⟩
end
end Go.Proofs.YtolookeddknmoaaGreat
