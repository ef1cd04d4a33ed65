import Derived.Test.YtolookeddknmoaaGreatQAR
set_option maxRecDepth 100000
set_option maxHeartbeats 8000000
namespace Go.Proofs.YtolookeddknmoaaGreat
section
open Go.RowKit
theorem Zlf (w:World) (va:Value) (l:List (Int×Int)) (kx kb:Int×Int) (ha:Zb w va l) (hl:ZF l) (hx:OkR kx) (hy:OkR kb) (h8:l.length<=8)
  (hk:((Zx kb) kx (0,1)).2=0) (hc:Zad (Zx kb) l [] l.length) :
  Calls Tryz.prog 17 #[.int .i64 2,.agg #[va,.int .i64 kx.1,.int .i64 kx.2],.agg #[.slice none 0 0,.int .i64 kb.1,.int .i64 kb.2]] w (ZaS w (Zw (ZaD (Zx kb) l [])) ((Zx kb) kx (0,1)).1 0):=by
 obtain ⟨i0,hi,hz0,hz1,hz2⟩:=info_parts ZdA
 have hm:ZF []:=fun x hx=>by cases hx
 have hb:Zb w (.slice none 0 0) []:=Zb.nil w
 have ra:=fun (w':World) (h:Below w.heap.size w w')=>ZaP w' va l kx.1 kx.2 (ha.below h) hl.wide hx.wide.1.1 hx.wide.1.2 hx.wide.2.1 hx.wide.2.2
 rw [ZaA h8 hl hx] at ra
 have rb:=fun (w':World) (_:Below w.heap.size w w')=>ZaP w' (.slice none 0 0) [] kb.1 kb.2 (Zb.nil w') hm.wide hy.wide.1.1 hy.wide.1.2 hy.wide.2.1 hy.wide.2.2
 rw [ZaA (by simp) hm hy] at rb
 have h1:∀ (w':World),Calls Tryz.prog 32 #[.int .i64 2,Ze kx.1 kx.2,Ze kb.1 kb.2] w' fun r w2=>r=.returned (.tuple #[Ze (Zx kb kx (0,1)).1.1 (Zx kb kx (0,1)).1.2,.int .i64 (Zx kb kx (0,1)).2])/\Below w'.heap.size w' w2:=fun w'=>ZdV w' kx kb hx hy
 have HOW:∀ (w':World) (k:Nat),Calls Tryz.prog 32 #[.int .i64 2,Ze (atL l k).1 (atL l k).2,Ze kb.1 kb.2] w' fun r w2=>r=.returned (.tuple #[Ze (Zx kb (atL l k) (atL [] k)).1.1 (Zx kb (atL l k) (atL [] k)).1.2,.int .i64 (Zx kb (atL l k) (atL [] k)).2])/\Below w'.heap.size w' w2:=fun w' k=>ZdV w' _ _ (hl.at k) hy
 have HOW:=Lib.hid HOW
 rw [hk] at h1
 obtain ⟨A,c,rfl⟩:=Zd ha
 have HR:=Lib.hid (show ZaH (Zx kb) l [] l.length=ZaD (Zx kb) l [] by unfold ZaD ZaH;rw [show max l.length ([]:List (Int×Int)).length=l.length by simp])
 have HN:=Lib.hid (And.intro (rfl:l.length=l.length) hc)
 have hcl:ZF (ZaD (Zx kb) l []):=ZcW (Zcl hy) hl hm (by simpa using hc)
 have hkz:OkR ((Zx kb) kx (0,1)).1:=(Zcl hy).ok _ _ hx Zah hk
 have h8c:(ZaD (Zx kb) l []).length<=8:=by rw [Zea];simp;omega
 have ow:=fun (w':World) (v:Value) (h:Zb w' v (ZaD (Zx kb) l []))=>Zev w' v (ZaD (Zx kb) l []) ((Zx kb) kx (0,1)).1.1 ((Zx kb) kx (0,1)).1.2 h hcl.wide hkz.wide.1.1 hkz.wide.1.2 hkz.wide.2.1 hkz.wide.2.2 (ZaA h8c hcl hkz)
 have OW:=Lib.hid ow
 have H1:=Lib.hid h1;have RA:=Lib.hid ra;have RB:=Lib.hid rb
 have TS:=Lib.hid (And.intro ha hb)
 clear h1 ra rb ha hb hl hm hx hy hk hc hcl hkz h8c ow
 generalize l.length=ll at *
 generalize ((Zx kb) kx (0,1)).1=z at *
 obtain ⟨zn,zd⟩:=z
 obtain ⟨xn,xd⟩:=kx
 generalize kb.1=bn at *
 generalize kb.2=bd at *
 dsimp only at *
 obtain ⟨F,G,E,hb0⟩:=ZaG w (.slice A ll c) (.int .i64 xn) (.int .i64 xd) (.slice none 0 0) (.int .i64 bn) (.int .i64 bd) (.slice none 0 0) (.int .i64 0) (.int .i64 0) 27
 go_enter Tryz.func17,Tryz.ntmps17
 go_upto_region 6 with (first
  | (go_at_call 30;(first
   | (with_reducible refine (RA.out _ hb0).mono ?_);rintro e w1 ⟨rfl,hb1⟩;have F:=F.keep hb1;have G:=G.keep hb1;have E:=E.keep hb1;have b1:=hb0.trans (hb1.mono hb0.size);have k1:=F.k1;have k2:=F.k2;have m0:=G.k0;have m1:=G.k1;have m2:=G.k2
   | (with_reducible refine (RB.out _ b1).mono ?_);rintro e w2 ⟨rfl,hb2⟩;have F:=F.keep hb2;have G:=G.keep hb2;have E:=E.keep hb2;have b2:=b1.trans (hb2.mono b1.size);have k1:=F.k1;have k2:=F.k2;have m1:=G.k1;have m2:=G.k2))
  | (go_at_call 32;(with_reducible refine (H1.out _).mono ?_);rintro e w3 ⟨rfl,hb3⟩;have F:=F.keep hb3;have G:=G.keep hb3;have E:=E.keep hb3;have e3:=E.lt;have b3:=b2.trans (hb3.mono b2.size)))
 clear hb1 hb2 hb3 hb0 b1 b2 k1 k2 m0 m1 m2
 go_upto_region 7 with fail
 have a1:=Za w3 (.cells #[.int .i64 zn,.int .i64 zd] 25)
 have a2:=Za (w3.alloc (.cells #[.int .i64 zn,.int .i64 zd] 25)) (.cells #[.slice none 0 0,.int .i64 zn,.int .i64 zd] 27)
 have O:=FracBox.start (w3.alloc (.cells #[.int .i64 zn,.int .i64 zd] 25)) (.slice none 0 0) (.int .i64 zn) (.int .i64 zd) 27
 rw [World.size_alloc] at O
 have b5:=b3.trans (a1.mono b3.size)
 have D0:DoS w ((w3.alloc (.cells #[.int .i64 zn,.int .i64 zd] 25)).alloc (.cells #[.slice none 0 0,.int .i64 zn,.int .i64 zd] 27)) w3.heap.size 0 (.slice A ll c) xn xd (.slice none 0 0) bn bd zn zd (.slice none 0 0) (ZaH (Zx kb) l [] 0):=
  ⟨(F.keep a1).keep a2,(G.keep a1).keep a2,(E.keep a1).keep a2,O,⟨rfl,.inl ⟨rfl,rfl⟩⟩,e3,b5.trans (a2.mono b5.size)⟩
 generalize w3.heap.size=b at *
 have D0:=Lib.hid D0
 clear F G E O a1 a2 b3 b5 e3
 go_wp2_with fail
 go_loopg [11] ll (fun g v11 wr=>∃ (k:Nat) (v:Value),v11=.int .i64 k/\k<=ll/\g=ll-k/\Zad (Zx kb) l [] k/\DoS w wr b k (.slice A ll c) xn xd (.slice none 0 0) bn bd zn zd v (ZaH (Zx kb) l [] k))
 case atStart=>exact ⟨0,_,rfl,Nat.zero_le _,rfl,fun i hi=>absurd hi (Nat.not_lt_zero _),D0.out⟩
 case round=>
  clear D0
  obtain ⟨k,v,rfl,hk,hg,hck,D⟩:=hrel
  have k0:=D.F.k0
  have m0:=D.G.k0
  by_cases hkn:k=ll
  ·have hx1:decide ((k:Int)<(ll:Int))=false:=decide_eq_false (by have:=HN.out.1;omega)
   have hx5:decide (k<ll)=false:=decide_eq_false (by have:=HN.out.1;omega)
   have hx6:ll<=k:=by have:=HN.out.1;omega
   have hx2:decide ((k:Int)<0)=false:=decide_eq_false (by omega)
   have hx3:¬ (k:Int)<0:=by omega
   have rw0:Zb wr v (ZaH (Zx kb) l [] k):=Zdj (base:=b+2) (by rw [Zjv];exact D.o)
   rw [hkn,HR.out] at rw0
   have RW:=Lib.hid rw0
   have DD:=Lib.hid D
   obtain ⟨Av,cv,rfl⟩:=Zd rw0
   have o0:=D.O.k0;have o1:=D.O.k1;have o2:=D.O.k2
   generalize (ZaD (Zx kb) l []).length=nc at *
   generalize Zw (ZaD (Zx kb) l [])=L at *
   clear hck hg hk D rw0 hkn
   go_wp2_with (go_at_call 42;(with_reducible refine (OW.out _ _ RW.out).mono ?_);rintro e w8 hT;obtain ⟨v8,rfl,hv8,hb8,hf8⟩:=hT;obtain ⟨A8,c8,rfl⟩:=Zd hv8;have HV:=Lib.hid (And.intro hv8 (hf8.mono DD.out.E.lt:Zs (w.heap.size+1+1+1) _));have D8:=DD.out.keep hb8;have B8:=Lib.hid D8.below;have e0:=D8.E.k0;have e1:=D8.E.k1;have e2:=D8.E.k2;have l0:=D8.E.l0;have l1:=D8.E.l1;have l2:=D8.E.l2;clear hv8 hb8 hf8 D8)
   obtain ⟨c0,c1,c2⟩:=Zaj (x:=.slice A8 L.length c8) (y:=.int .i64 zn) (z:=.int .i64 zd) e0 e1 e2
   obtain ⟨r1,r2,r3⟩:=Zcg (w:=w) (b:=w.heap.size+1+1) (kn:=zn) (kd:=zd) HV.out.1 B8.out HV.out.2 (by omega) rfl
   exact bodyPost_ret (v:=.tuple #[.agg #[.slice A8 L.length c8,.int .i64 zn,.int .i64 zd],.int .i64 0]) (by simp [results,Tryz.results17,go_sem,c0,c1,c2]) rfl ⟨_,rfl,r1,r2,r3⟩
  ·have hlt:k<ll:=by omega
   have i2:(0:Int)<=(k:Int):=by omega
   have he0:=HN.out.2 k hlt
   have hx1:decide ((k:Int)<(ll:Int))=true:=decide_eq_true (by omega)
   have hx3:(k:Int)<(ll:Int):=by omega
   have hx5:decide (k<ll)=true:=decide_eq_true (by omega)
   have atx:=fun (w':World) (hb:Below w.heap.size w w')=>ZaX w' (.slice A ll c) l xn xd k (TS.out.1.below hb)
   have aty:=fun (w':World) (hb:Below w.heap.size w w')=>ZaX w' (.slice none 0 0) [] bn bd k (TS.out.2.below hb)
   have hw:=fun (w':World)=>HOW.out w' k
   rw [he0] at hw
   have ATX:=Lib.hid atx;have ATY:=Lib.hid aty;have HW:=Lib.hid hw
   have HLT:=Lib.hid hlt
   have HK:=Lib.hid hg
   have HC2:Hid (Zad (Zx kb) l [] (k+1)):=fun i hi=>by
    rcases Nat.lt_or_ge i k with g | g
    ·exact hck i g
    ·obtain rfl:i=k:=by omega
     exact he0
   have NX:=Lib.hid (Zc5 (Zx kb) l [] k)
   have DD:=Lib.hid D
   have m1:=D.G.k1;have m2:=D.G.k2
   clear atx aty hw D hck he0 hg hkn hk hlt
   generalize ((Zx kb) (atL l k) (atL [] k)).1=q at *
   obtain ⟨qn,qd⟩:=q
   generalize atL l k=x at *
   generalize atL [] k=y at *
   obtain ⟨x1,x2⟩:=x
   obtain ⟨y1,y2⟩:=y
   dsimp only at *
   go_upto_region 13 with (go_at_call 41;(with_reducible refine (ATY.out _ DD.out.below).mono ?_);rintro e w5 ⟨rfl,hb⟩;have DD:=Lib.hid (DD.out.keep hb);have m1:=DD.out.G.k1;have m2:=DD.out.G.k2;have a5:=DD.out.keep (Za w5 (.cells #[.int .i64 y1,.int .i64 y2] 25));have n1:=a5.G.k1;have n2:=a5.G.k2;clear hb)
   go_cut [13,14] from 39 to 78 (fun v13 v14 wx=>ZcR w b k (.slice A ll c) xn xd (.slice none 0 0) bn bd zn zd v (ZaH (Zx kb) l [] k) qn qd 0 v13 v14 wx)
   case first=>
    have HS:=Zp (Zq _) ((DD.out.keep (Za w5 (.cells #[.int .i64 bn,.int .i64 bd] 25))).cells (RatAt.start w5 bn bd 25))
    generalize w5.heap.size=cy at *
    generalize w5.alloc (.cells #[.int .i64 bn,.int .i64 bd] 25)=wq at *
    clear DD m1 m2 k0 m0 a5 n1 n2
    refine wp_region_noPanic ?_
    refine wp_region_held_drew (S:=(fun w'=>((w'.cell? ⟨w.heap.size,0,none⟩=some (.slice A ll c)/\w'.cell? ⟨w.heap.size,1,none⟩=some (.int .i64 xn)/\w'.cell? ⟨w.heap.size,2,none⟩=some (.int .i64 xd))/\(w'.cell? ⟨cy,0,none⟩=some (.int .i64 bn)/\w'.cell? ⟨cy,1,none⟩=some (.int .i64 bd))/\RatAt w' cy bn bd)/\DoS w w' b k (.slice A ll c) xn xd (.slice none 0 0) bn bd zn zd v (ZaH (Zx kb) l [] k))) (by kernel_rfl) HS (fun hHeld=>?_)
    clear HS
    refine tk 0 rfl ?_
    refine tk 1 rfl ?_
    refine tk 2 rfl ?_
    refine tk 4 rfl ?_
    (try simp only [cl,Act.put])
    refine wpAnyH_ready (rs:=[3,9]) (by kernel_rfl) (by simp) (AllReadyH.cons (o:=_) rfl (fun K hK=>?_) (AllReadyH.cons (o:=_) rfl (fun K hK=>?_) AllReadyH.nil))
    rotate_left
    go_simp
    refine hK.out _ _ (Zp (Za _ _) (by with_reducible assumption)) (fun hH2=>?_)
    clear hK K
    (first | have HC:=Lib.hid (ZaC hH2) | have HC:=Lib.hid (Zan hH2))
    have hHeld0:=Lib.hid hHeld
    clear hHeld
    have hHeld:=hH2
    clear hH2
    (try simp only [cl,Act.put])
    refine rd 3 rfl fun K hK=>?_
    rotate_right
    all_goals
     go_simp
     (first
      | (go_at_call 41;(with_reducible refine (ATX.out _ (Zao (by with_reducible assumption)).below).mono ?_);rintro e w6 ⟨rfl,hb⟩;(try (have HC:=Lib.hid (HC.out.keep hb))))
      | (go_at_call 32;(with_reducible refine (HW.out _).mono ?_);rintro e w7 ⟨rfl,hb⟩;(try (have HC:=Lib.hid (HC.out.keep hb)))))
     go_wp2_with fail
     refine hK.out _ _ (Zp (by with_reducible assumption) (by with_reducible assumption)) (fun hH2=>?_)
     clear hK K hHeld hb;have hHeld:=hH2;clear hH2
     (try simp only [cl,Act.put])
    all_goals (try (have _:=HC.out;refine rd 5 rfl fun K hK=>?_))
    refine wpAnyH_ready (rs:=[5,9]) (by kernel_rfl) (by simp) (AllReadyH.cons (o:=_) rfl (fun K hK=>?_) (AllReadyH.cons (o:=_) rfl (fun K hK=>?_) AllReadyH.nil))
    rotate_left
    go_simp
    refine hK.out _ _ (Zp (Za _ _) (by with_reducible assumption)) (fun hH2=>?_)
    clear hK K
    (first | have HC:=Lib.hid (ZaC hH2) | have HC:=Lib.hid (Zan hH2))
    have hHeld0:=Lib.hid hHeld
    clear hHeld
    have hHeld:=hH2
    clear hH2
    (try simp only [cl,Act.put])
    refine rd 5 rfl fun K hK=>?_
    rotate_right
    all_goals
     go_simp
     (first
      | (go_at_call 41;(with_reducible refine (ATX.out _ (Zao (by with_reducible assumption)).below).mono ?_);rintro e w6 ⟨rfl,hb⟩;(try (have HC:=Lib.hid (HC.out.keep hb))))
      | (go_at_call 32;(with_reducible refine (HW.out _).mono ?_);rintro e w7 ⟨rfl,hb⟩;(try (have HC:=Lib.hid (HC.out.keep hb)))))
     go_wp2_with fail
     refine hK.out _ _ (Zp (by with_reducible assumption) (by with_reducible assumption)) (fun hH2=>?_)
     clear hK K hHeld hb;have hHeld:=hH2;clear hH2
     (try simp only [cl,Act.put])
    all_goals
     refine tk 6 rfl ?_
     refine tk 7 rfl ?_
     refine tk 8 rfl ?_
     (try simp only [cl,Act.put])
    refine rd 9 rfl fun K hK=>?_
    go_simp
    refine hK.out _ _ (Zp (Za _ _) (by with_reducible assumption)) (fun hH2=>?_)
    clear hK K
    (first | have HC:=Lib.hid (ZaC hH2) | have HC:=Lib.hid (Zan hH2))
    have hHeld0:=Lib.hid hHeld
    clear hHeld
    have hHeld:=hH2
    clear hH2
    (try simp only [cl,Act.put])
    all_goals
     refine rd 10 rfl fun K hK=>?_
     obtain ⟨h6,h0,h1,h2,h3,h4,h5⟩:=HC.out
     clear h6
     go_simp
     clear h0 h1 h2 h3 h4 h5
     (first
      | refine hK.out _ _ (Zp (Za _ _) hHeld0.out) (fun hH2=>?_)
      | refine hK.out _ _ (Zp (HC.out.fill _ _).1 hHeld0.out) (fun hH2=>?_))
     clear hK K hHeld
     have hHeld:=hH2
     clear hH2
     (try simp only [cl,Act.put])
     refine tk 11 rfl ?_
     (try simp only [cl,Act.put])
     refine wpAnyH_done (by kernel_rfl) ?_ _
     refine NoPanic.normal ?_
     go_wp2_with fail
     go_meet
     case rel=>first | exact Zcj (Zao hHeld0.out) 25 | exact ZcG (Zao hHeld0.out) HC.out
   case rest=>
    obtain ⟨cc,rfl,rfl,RC,D⟩:=hcut
    clear DD m1 m2 k0 m0 a5 n1 n2
    have rc0:=RC.k0;have rc1:=RC.k1
    have o0:=D.O.k0
    have DD:=Lib.hid D
    have hkl:k<=8:=by have:=HLT.out;omega
    have szb:b+2<=wc.heap.size:=by have:=D.O.lt;omega
    clear D
    have OWN:=Lib.hid DD.out.o
    go_wp2_with (at_builtin;refine wpList_append_own _ rfl _ _ 23 rfl (b+2) 25 i0 (.agg #[.int .i64 0,.int .i64 0]) 2 16 Tryz.underlying23 hi hz0 hz1 hz2 rfl (by decide) _ _ _ rfl (OWN.out.alloc _) ⟨wc.heap.size,0,none⟩ 1 1 [.int .i64 qn,.int .i64 qd] rfl rfl ?c1 ?c2 ?c3 ?c4 ?c5 ?_)
    case c1=>exact ZdT _ _ _
    case c2=>intro u hu;simp at hu;rcases hu with rfl | rfl<;>rfl
    case c3=>unfold maxLen;omega
    case c4=>omega
    case c5=>simp;omega
    intro v' w8 hown' hgrow _
    obtain ⟨Av8,cv8,rfl⟩:=Zdo hown'
    have D8:=DD.out.push (q:=(qn,qd)) hgrow hown'
    have g8:=Zb6 szb OWN.out hgrow
    have o8:=(DD.out.O.keepB g8 (by omega)).k0
    have f8:=(DD.out.O.keepB g8 (by omega)).l0
    have D8:=Lib.hid D8
    clear hown' hgrow g8
    have wk:IntKind.i64.wrap ((k:Int)+1)=(k:Int)+1:=IntWalk.i64_in _ (by have:=HLT.out;omega)
    go_wp2_with fail
    go_roundg (ll-(k+1))
    case measure=>have:=HK.out;have:=HLT.out;omega
    case rel=>exact ⟨k+1,_,by push_cast;rfl,by have:=HLT.out;omega,rfl,HC2.out,by rw [NX.out];exact D8.out⟩
theorem Zle (w:World) (va:Value) (l:List (Int×Int)) (kx kb:Int×Int) (ha:Zb w va l) (hl:ZF l) (hx:OkR kx) (hy:OkR kb) (h8:l.length<=8)
  (hno:¬ (((Zx kb) kx (0,1)).2=0/\Zad (Zx kb) l [] l.length)) :
  Calls Tryz.prog 17 #[.int .i64 2,.agg #[va,.int .i64 kx.1,.int .i64 kx.2],.agg #[.slice none 0 0,.int .i64 kb.1,.int .i64 kb.2]] w (ZaS w [] (0,0) 3):=by
 obtain ⟨i0,hi,hz0,hz1,hz2⟩:=info_parts ZdA
 have hm:ZF []:=fun x hx=>by cases hx
 have hb:Zb w (.slice none 0 0) []:=Zb.nil w
 have ra:=fun (w':World) (h:Below w.heap.size w w')=>ZaP w' va l kx.1 kx.2 (ha.below h) hl.wide hx.wide.1.1 hx.wide.1.2 hx.wide.2.1 hx.wide.2.2
 rw [ZaA h8 hl hx] at ra
 have rb:=fun (w':World) (_:Below w.heap.size w w')=>ZaP w' (.slice none 0 0) [] kb.1 kb.2 (Zb.nil w') hm.wide hy.wide.1.1 hy.wide.1.2 hy.wide.2.1 hy.wide.2.2
 rw [ZaA (by simp) hm hy] at rb
 have h1:∀ (w':World),Calls Tryz.prog 32 #[.int .i64 2,Ze kx.1 kx.2,Ze kb.1 kb.2] w' fun r w2=>r=.returned (.tuple #[Ze (Zx kb kx (0,1)).1.1 (Zx kb kx (0,1)).1.2,.int .i64 (Zx kb kx (0,1)).2])/\Below w'.heap.size w' w2:=fun w'=>ZdV w' kx kb hx hy
 have HOW:∀ (w':World) (k:Nat),Calls Tryz.prog 32 #[.int .i64 2,Ze (atL l k).1 (atL l k).2,Ze kb.1 kb.2] w' fun r w2=>r=.returned (.tuple #[Ze (Zx kb (atL l k) (atL [] k)).1.1 (Zx kb (atL l k) (atL [] k)).1.2,.int .i64 (Zx kb (atL l k) (atL [] k)).2])/\Below w'.heap.size w' w2:=fun w' k=>ZdV w' _ _ (hl.at k) hy
 have HOW:=Lib.hid HOW
 by_cases hk:((Zx kb) kx (0,1)).2=0
 rotate_left
 ·have hz:=(Zcl hy).no kx (0,1) hx Zah hk
  rw [hz] at h1
  obtain ⟨A,c,rfl⟩:=Zd ha
  have H1:=Lib.hid h1;have RA:=Lib.hid ra;have RB:=Lib.hid rb
  clear h1 ra rb ha hb hl hm hx hy hk hz hno HOW h8
  generalize l.length=ll at *
  obtain ⟨xn,xd⟩:=kx
  generalize kb.1=bn at *
  generalize kb.2=bd at *
  dsimp only at *
  obtain ⟨F,G,E,hb0⟩:=ZaG w (.slice A ll c) (.int .i64 xn) (.int .i64 xd) (.slice none 0 0) (.int .i64 bn) (.int .i64 bd) (.slice none 0 0) (.int .i64 0) (.int .i64 0) 27
  go_enter Tryz.func17,Tryz.ntmps17
  go_upto_region 4 with (first
   | (go_at_call 30;(first
    | (with_reducible refine (RA.out _ hb0).mono ?_);rintro e w1 ⟨rfl,hb1⟩;have F:=F.keep hb1;have G:=G.keep hb1;have E:=E.keep hb1;have b1:=hb0.trans (hb1.mono hb0.size);have k1:=F.k1;have k2:=F.k2;have m0:=G.k0;have m1:=G.k1;have m2:=G.k2
    | (with_reducible refine (RB.out _ b1).mono ?_);rintro e w2 ⟨rfl,hb2⟩;have F:=F.keep hb2;have G:=G.keep hb2;have E:=E.keep hb2;have b2:=b1.trans (hb2.mono b1.size);have k1:=F.k1;have k2:=F.k2;have m1:=G.k1;have m2:=G.k2))
   | (go_at_call 32;(with_reducible refine (H1.out _).mono ?_);rintro e w3 ⟨rfl,hb3⟩;have E:=E.keep hb3;have b3:=b2.trans (hb3.mono b2.size)))
  have a1:=Za w3 (.cells #[.int .i64 0,.int .i64 0] 25)
  have E:=E.keep a1
  have b4:=Lib.hid (b3.trans (a1.mono b3.size))
  have k0:=E.k0;have k1:=E.k1;have k2:=E.k2;have l0:=E.l0;have l1:=E.l1;have l2:=E.l2
  clear hb1 hb2 hb3 hb0 a1 F G b1 b2 b3
  go_wp2_with fail
  obtain ⟨c0,c1,c2⟩:=Zaj (x:=.slice none 0 0) (y:=.int .i64 0) (z:=.int .i64 0) k0 k1 k2
  refine bodyPost_ret (v:=.tuple #[.agg #[.slice none 0 0,.int .i64 0,.int .i64 0],.int .i64 3]) (by simp [results,Tryz.results17,go_sem,c0,c1,c2]) rfl ⟨_,rfl,Zb.nil _,?_,Zs.none_ _ _ _⟩
  exact ((b4.out.setCell (by show w.heap.size<=w.heap.size+1+1;omega) _).setCell (by show w.heap.size<=w.heap.size+1+1;omega) _).setCell (by show w.heap.size<=w.heap.size+1+1;omega) _
 have hno2:¬ Zad (Zx kb) l [] l.length:=fun q=>hno ⟨hk,q⟩
 rw [hk] at h1
 obtain ⟨A,c,rfl⟩:=Zd ha
 have HN:=Lib.hid (And.intro (rfl:l.length=l.length) hno2)
 have HH:=Lib.hid (fun k:Nat=>(Zcl hy).no _ _ (hl.at k) (hm.at k))
 have H1:=Lib.hid h1;have RA:=Lib.hid ra;have RB:=Lib.hid rb
 have TS:=Lib.hid (And.intro ha hb)
 clear h1 ra rb ha hb hl hm hx hy hk hno hno2
 generalize l.length=ll at *
 generalize ((Zx kb) kx (0,1)).1=z at *
 obtain ⟨zn,zd⟩:=z
 obtain ⟨xn,xd⟩:=kx
 generalize kb.1=bn at *
 generalize kb.2=bd at *
 dsimp only at *
 obtain ⟨F,G,E,hb0⟩:=ZaG w (.slice A ll c) (.int .i64 xn) (.int .i64 xd) (.slice none 0 0) (.int .i64 bn) (.int .i64 bd) (.slice none 0 0) (.int .i64 0) (.int .i64 0) 27
 go_enter Tryz.func17,Tryz.ntmps17
 go_upto_region 6 with (first
  | (go_at_call 30;(first
   | (with_reducible refine (RA.out _ hb0).mono ?_);rintro e w1 ⟨rfl,hb1⟩;have F:=F.keep hb1;have G:=G.keep hb1;have E:=E.keep hb1;have b1:=hb0.trans (hb1.mono hb0.size);have k1:=F.k1;have k2:=F.k2;have m0:=G.k0;have m1:=G.k1;have m2:=G.k2
   | (with_reducible refine (RB.out _ b1).mono ?_);rintro e w2 ⟨rfl,hb2⟩;have F:=F.keep hb2;have G:=G.keep hb2;have E:=E.keep hb2;have b2:=b1.trans (hb2.mono b1.size);have k1:=F.k1;have k2:=F.k2;have m1:=G.k1;have m2:=G.k2))
  | (go_at_call 32;(with_reducible refine (H1.out _).mono ?_);rintro e w3 ⟨rfl,hb3⟩;have F:=F.keep hb3;have G:=G.keep hb3;have E:=E.keep hb3;have e3:=E.lt;have b3:=b2.trans (hb3.mono b2.size)))
 clear hb1 hb2 hb3 hb0 b1 b2 k1 k2 m0 m1 m2
 go_upto_region 7 with fail
 have a1:=Za w3 (.cells #[.int .i64 zn,.int .i64 zd] 25)
 have a2:=Za (w3.alloc (.cells #[.int .i64 zn,.int .i64 zd] 25)) (.cells #[.slice none 0 0,.int .i64 zn,.int .i64 zd] 27)
 have O:=FracBox.start (w3.alloc (.cells #[.int .i64 zn,.int .i64 zd] 25)) (.slice none 0 0) (.int .i64 zn) (.int .i64 zd) 27
 rw [World.size_alloc] at O
 have b5:=b3.trans (a1.mono b3.size)
 have D0:DoS w ((w3.alloc (.cells #[.int .i64 zn,.int .i64 zd] 25)).alloc (.cells #[.slice none 0 0,.int .i64 zn,.int .i64 zd] 27)) w3.heap.size 0 (.slice A ll c) xn xd (.slice none 0 0) bn bd zn zd (.slice none 0 0) (ZaH (Zx kb) l [] 0):=
  ⟨(F.keep a1).keep a2,(G.keep a1).keep a2,(E.keep a1).keep a2,O,⟨rfl,.inl ⟨rfl,rfl⟩⟩,e3,b5.trans (a2.mono b5.size)⟩
 generalize w3.heap.size=b at *
 have D0:=Lib.hid D0
 clear F G E O a1 a2 b3 b5 e3
 go_wp2_with fail
 go_loopg [11] ll (fun g v11 wr=>∃ (k:Nat) (v:Value),v11=.int .i64 k/\k<=ll/\g=ll-k/\Zad (Zx kb) l [] k/\DoS w wr b k (.slice A ll c) xn xd (.slice none 0 0) bn bd zn zd v (ZaH (Zx kb) l [] k))
 case atStart=>exact ⟨0,_,rfl,Nat.zero_le _,rfl,fun i hi=>absurd hi (Nat.not_lt_zero _),D0.out⟩
 case round=>
  clear D0
  obtain ⟨k,v,rfl,hk,hg,hck,D⟩:=hrel
  have k0:=D.F.k0
  have m0:=D.G.k0
  by_cases hkn:k=ll
  ·subst hkn
   exact absurd hck HN.out.2
  ·have hlt:k<ll:=by omega
   have i2:(0:Int)<=(k:Int):=by omega
   by_cases he0:((Zx kb) (atL l k) (atL [] k)).2=0
   ·have hx1:decide ((k:Int)<(ll:Int))=true:=decide_eq_true (by omega)
    have hx3:(k:Int)<(ll:Int):=by omega
    have hx5:decide (k<ll)=true:=decide_eq_true (by omega)
    have atx:=fun (w':World) (hb:Below w.heap.size w w')=>ZaX w' (.slice A ll c) l xn xd k (TS.out.1.below hb)
    have aty:=fun (w':World) (hb:Below w.heap.size w w')=>ZaX w' (.slice none 0 0) [] bn bd k (TS.out.2.below hb)
    have hw:=fun (w':World)=>HOW.out w' k
    rw [he0] at hw
    have ATX:=Lib.hid atx;have ATY:=Lib.hid aty;have HW:=Lib.hid hw
    have HLT:=Lib.hid hlt
    have HK:=Lib.hid hg
    have HC2:Hid (Zad (Zx kb) l [] (k+1)):=fun i hi=>by
     rcases Nat.lt_or_ge i k with g | g
     ·exact hck i g
     ·obtain rfl:i=k:=by omega
      exact he0
    have NX:=Lib.hid (Zc5 (Zx kb) l [] k)
    have DD:=Lib.hid D
    have m1:=D.G.k1;have m2:=D.G.k2
    clear atx aty hw D hck he0 hg hkn hk hlt
    generalize ((Zx kb) (atL l k) (atL [] k)).1=q at *
    obtain ⟨qn,qd⟩:=q
    generalize atL l k=x at *
    generalize atL [] k=y at *
    obtain ⟨x1,x2⟩:=x
    obtain ⟨y1,y2⟩:=y
    dsimp only at *
    go_upto_region 13 with (go_at_call 41;(with_reducible refine (ATY.out _ DD.out.below).mono ?_);rintro e w5 ⟨rfl,hb⟩;have DD:=Lib.hid (DD.out.keep hb);have m1:=DD.out.G.k1;have m2:=DD.out.G.k2;have a5:=DD.out.keep (Za w5 (.cells #[.int .i64 y1,.int .i64 y2] 25));have n1:=a5.G.k1;have n2:=a5.G.k2;clear hb)
    go_cut [13,14] from 39 to 78 (fun v13 v14 wx=>ZcR w b k (.slice A ll c) xn xd (.slice none 0 0) bn bd zn zd v (ZaH (Zx kb) l [] k) qn qd 0 v13 v14 wx)
    case first=>
     have HS:=Zp (Zq _) ((DD.out.keep (Za w5 (.cells #[.int .i64 bn,.int .i64 bd] 25))).cells (RatAt.start w5 bn bd 25))
     generalize w5.heap.size=cy at *
     generalize w5.alloc (.cells #[.int .i64 bn,.int .i64 bd] 25)=wq at *
     clear DD m1 m2 k0 m0 a5 n1 n2
     refine wp_region_noPanic ?_
     refine wp_region_held_drew (S:=(fun w'=>((w'.cell? ⟨w.heap.size,0,none⟩=some (.slice A ll c)/\w'.cell? ⟨w.heap.size,1,none⟩=some (.int .i64 xn)/\w'.cell? ⟨w.heap.size,2,none⟩=some (.int .i64 xd))/\(w'.cell? ⟨cy,0,none⟩=some (.int .i64 bn)/\w'.cell? ⟨cy,1,none⟩=some (.int .i64 bd))/\RatAt w' cy bn bd)/\DoS w w' b k (.slice A ll c) xn xd (.slice none 0 0) bn bd zn zd v (ZaH (Zx kb) l [] k))) (by kernel_rfl) HS (fun hHeld=>?_)
     clear HS
     refine tk 0 rfl ?_
     refine tk 1 rfl ?_
     refine tk 2 rfl ?_
     refine tk 4 rfl ?_
     (try simp only [cl,Act.put])
     refine wpAnyH_ready (rs:=[3,9]) (by kernel_rfl) (by simp) (AllReadyH.cons (o:=_) rfl (fun K hK=>?_) (AllReadyH.cons (o:=_) rfl (fun K hK=>?_) AllReadyH.nil))
     rotate_left
     go_simp
     refine hK.out _ _ (Zp (Za _ _) (by with_reducible assumption)) (fun hH2=>?_)
     clear hK K
     (first | have HC:=Lib.hid (ZaC hH2) | have HC:=Lib.hid (Zan hH2))
     have hHeld0:=Lib.hid hHeld
     clear hHeld
     have hHeld:=hH2
     clear hH2
     (try simp only [cl,Act.put])
     refine rd 3 rfl fun K hK=>?_
     rotate_right
     all_goals
      go_simp
      (first
       | (go_at_call 41;(with_reducible refine (ATX.out _ (Zao (by with_reducible assumption)).below).mono ?_);rintro e w6 ⟨rfl,hb⟩;(try (have HC:=Lib.hid (HC.out.keep hb))))
       | (go_at_call 32;(with_reducible refine (HW.out _).mono ?_);rintro e w7 ⟨rfl,hb⟩;(try (have HC:=Lib.hid (HC.out.keep hb)))))
      go_wp2_with fail
      refine hK.out _ _ (Zp (by with_reducible assumption) (by with_reducible assumption)) (fun hH2=>?_)
      clear hK K hHeld hb;have hHeld:=hH2;clear hH2
      (try simp only [cl,Act.put])
     all_goals (try (have _:=HC.out;refine rd 5 rfl fun K hK=>?_))
     refine wpAnyH_ready (rs:=[5,9]) (by kernel_rfl) (by simp) (AllReadyH.cons (o:=_) rfl (fun K hK=>?_) (AllReadyH.cons (o:=_) rfl (fun K hK=>?_) AllReadyH.nil))
     rotate_left
     go_simp
     refine hK.out _ _ (Zp (Za _ _) (by with_reducible assumption)) (fun hH2=>?_)
     clear hK K
     (first | have HC:=Lib.hid (ZaC hH2) | have HC:=Lib.hid (Zan hH2))
     have hHeld0:=Lib.hid hHeld
     clear hHeld
     have hHeld:=hH2
     clear hH2
     (try simp only [cl,Act.put])
     refine rd 5 rfl fun K hK=>?_
     rotate_right
     all_goals
      go_simp
      (first
       | (go_at_call 41;(with_reducible refine (ATX.out _ (Zao (by with_reducible assumption)).below).mono ?_);rintro e w6 ⟨rfl,hb⟩;(try (have HC:=Lib.hid (HC.out.keep hb))))
       | (go_at_call 32;(with_reducible refine (HW.out _).mono ?_);rintro e w7 ⟨rfl,hb⟩;(try (have HC:=Lib.hid (HC.out.keep hb)))))
      go_wp2_with fail
      refine hK.out _ _ (Zp (by with_reducible assumption) (by with_reducible assumption)) (fun hH2=>?_)
      clear hK K hHeld hb;have hHeld:=hH2;clear hH2
      (try simp only [cl,Act.put])
     all_goals
      refine tk 6 rfl ?_
      refine tk 7 rfl ?_
      refine tk 8 rfl ?_
      (try simp only [cl,Act.put])
     refine rd 9 rfl fun K hK=>?_
     go_simp
     refine hK.out _ _ (Zp (Za _ _) (by with_reducible assumption)) (fun hH2=>?_)
     clear hK K
     (first | have HC:=Lib.hid (ZaC hH2) | have HC:=Lib.hid (Zan hH2))
     have hHeld0:=Lib.hid hHeld
     clear hHeld
     have hHeld:=hH2
     clear hH2
     (try simp only [cl,Act.put])
     all_goals
      refine rd 10 rfl fun K hK=>?_
      obtain ⟨h6,h0,h1,h2,h3,h4,h5⟩:=HC.out
      clear h6
      go_simp
      clear h0 h1 h2 h3 h4 h5
      (first
       | refine hK.out _ _ (Zp (Za _ _) hHeld0.out) (fun hH2=>?_)
       | refine hK.out _ _ (Zp (HC.out.fill _ _).1 hHeld0.out) (fun hH2=>?_))
      clear hK K hHeld
      have hHeld:=hH2
      clear hH2
      (try simp only [cl,Act.put])
      refine tk 11 rfl ?_
      (try simp only [cl,Act.put])
      refine wpAnyH_done (by kernel_rfl) ?_ _
      refine NoPanic.normal ?_
      go_wp2_with fail
      go_meet
      case rel=>first | exact Zcj (Zao hHeld0.out) 25 | exact ZcG (Zao hHeld0.out) HC.out
    case rest=>
     obtain ⟨cc,rfl,rfl,RC,D⟩:=hcut
     clear DD m1 m2 k0 m0 a5 n1 n2
     have rc0:=RC.k0;have rc1:=RC.k1
     have o0:=D.O.k0
     have DD:=Lib.hid D
     have hkl:k<=8:=by have:=HLT.out;omega
     have szb:b+2<=wc.heap.size:=by have:=D.O.lt;omega
     clear D
     have OWN:=Lib.hid DD.out.o
     go_wp2_with (at_builtin;refine wpList_append_own _ rfl _ _ 23 rfl (b+2) 25 i0 (.agg #[.int .i64 0,.int .i64 0]) 2 16 Tryz.underlying23 hi hz0 hz1 hz2 rfl (by decide) _ _ _ rfl (OWN.out.alloc _) ⟨wc.heap.size,0,none⟩ 1 1 [.int .i64 qn,.int .i64 qd] rfl rfl ?c1 ?c2 ?c3 ?c4 ?c5 ?_)
     case c1=>exact ZdT _ _ _
     case c2=>intro u hu;simp at hu;rcases hu with rfl | rfl<;>rfl
     case c3=>unfold maxLen;omega
     case c4=>omega
     case c5=>simp;omega
     intro v' w8 hown' hgrow _
     obtain ⟨Av8,cv8,rfl⟩:=Zdo hown'
     have D8:=DD.out.push (q:=(qn,qd)) hgrow hown'
     have g8:=Zb6 szb OWN.out hgrow
     have o8:=(DD.out.O.keepB g8 (by omega)).k0
     have f8:=(DD.out.O.keepB g8 (by omega)).l0
     have D8:=Lib.hid D8
     clear hown' hgrow g8
     have wk:IntKind.i64.wrap ((k:Int)+1)=(k:Int)+1:=IntWalk.i64_in _ (by have:=HLT.out;omega)
     go_wp2_with fail
     go_roundg (ll-(k+1))
     case measure=>have:=HK.out;have:=HLT.out;omega
     case rel=>exact ⟨k+1,_,by push_cast;rfl,by have:=HLT.out;omega,rfl,HC2.out,by rw [NX.out];exact D8.out⟩
   ·have hx1:decide ((k:Int)<(ll:Int))=true:=decide_eq_true (by omega)
    have hx3:(k:Int)<(ll:Int):=by omega
    have hx5:decide (k<ll)=true:=decide_eq_true (by omega)
    have atx:=fun (w':World) (hb:Below w.heap.size w w')=>ZaX w' (.slice A ll c) l xn xd k (TS.out.1.below hb)
    have aty:=fun (w':World) (hb:Below w.heap.size w w')=>ZaX w' (.slice none 0 0) [] bn bd k (TS.out.2.below hb)
    have hw:=fun (w':World)=>HOW.out w' k
    rw [HH.out k he0] at hw
    have ATX:=Lib.hid atx;have ATY:=Lib.hid aty;have HW:=Lib.hid hw
    have HLT:=Lib.hid hlt
    have HK:=Lib.hid hg
    have DD:=Lib.hid D
    have m1:=D.G.k1;have m2:=D.G.k2
    clear atx aty hw D hck he0 hg hkn hk hlt
    generalize atL l k=x at *
    generalize atL [] k=y at *
    obtain ⟨x1,x2⟩:=x
    obtain ⟨y1,y2⟩:=y
    dsimp only at *
    go_upto_region 13 with (go_at_call 41;(with_reducible refine (ATY.out _ DD.out.below).mono ?_);rintro e w5 ⟨rfl,hb⟩;have DD:=Lib.hid (DD.out.keep hb);have m1:=DD.out.G.k1;have m2:=DD.out.G.k2;have a5:=DD.out.keep (Za w5 (.cells #[.int .i64 y1,.int .i64 y2] 25));have n1:=a5.G.k1;have n2:=a5.G.k2;clear hb)
    go_cut [13,14] from 39 to 78 (fun v13 v14 wx=>ZcR w b k (.slice A ll c) xn xd (.slice none 0 0) bn bd zn zd v (ZaH (Zx kb) l [] k) 0 0 3 v13 v14 wx)
    case first=>
     have HS:=Zp (Zq _) ((DD.out.keep (Za w5 (.cells #[.int .i64 bn,.int .i64 bd] 25))).cells (RatAt.start w5 bn bd 25))
     generalize w5.heap.size=cy at *
     generalize w5.alloc (.cells #[.int .i64 bn,.int .i64 bd] 25)=wq at *
     clear DD m1 m2 k0 m0 a5 n1 n2
     refine wp_region_noPanic ?_
     refine wp_region_held_drew (S:=(fun w'=>((w'.cell? ⟨w.heap.size,0,none⟩=some (.slice A ll c)/\w'.cell? ⟨w.heap.size,1,none⟩=some (.int .i64 xn)/\w'.cell? ⟨w.heap.size,2,none⟩=some (.int .i64 xd))/\(w'.cell? ⟨cy,0,none⟩=some (.int .i64 bn)/\w'.cell? ⟨cy,1,none⟩=some (.int .i64 bd))/\RatAt w' cy bn bd)/\DoS w w' b k (.slice A ll c) xn xd (.slice none 0 0) bn bd zn zd v (ZaH (Zx kb) l [] k))) (by kernel_rfl) HS (fun hHeld=>?_)
     clear HS
     refine tk 0 rfl ?_
     refine tk 1 rfl ?_
     refine tk 2 rfl ?_
     refine tk 4 rfl ?_
     (try simp only [cl,Act.put])
     refine wpAnyH_ready (rs:=[3,9]) (by kernel_rfl) (by simp) (AllReadyH.cons (o:=_) rfl (fun K hK=>?_) (AllReadyH.cons (o:=_) rfl (fun K hK=>?_) AllReadyH.nil))
     rotate_left
     go_simp
     refine hK.out _ _ (Zp (Za _ _) (by with_reducible assumption)) (fun hH2=>?_)
     clear hK K
     (first | have HC:=Lib.hid (ZaC hH2) | have HC:=Lib.hid (Zan hH2))
     have hHeld0:=Lib.hid hHeld
     clear hHeld
     have hHeld:=hH2
     clear hH2
     (try simp only [cl,Act.put])
     refine rd 3 rfl fun K hK=>?_
     rotate_right
     all_goals
      go_simp
      (first
       | (go_at_call 41;(with_reducible refine (ATX.out _ (Zao (by with_reducible assumption)).below).mono ?_);rintro e w6 ⟨rfl,hb⟩;(try (have HC:=Lib.hid (HC.out.keep hb))))
       | (go_at_call 32;(with_reducible refine (HW.out _).mono ?_);rintro e w7 ⟨rfl,hb⟩;(try (have HC:=Lib.hid (HC.out.keep hb)))))
      go_wp2_with fail
      refine hK.out _ _ (Zp (by with_reducible assumption) (by with_reducible assumption)) (fun hH2=>?_)
      clear hK K hHeld hb;have hHeld:=hH2;clear hH2
      (try simp only [cl,Act.put])
     all_goals (try (have _:=HC.out;refine rd 5 rfl fun K hK=>?_))
     refine wpAnyH_ready (rs:=[5,9]) (by kernel_rfl) (by simp) (AllReadyH.cons (o:=_) rfl (fun K hK=>?_) (AllReadyH.cons (o:=_) rfl (fun K hK=>?_) AllReadyH.nil))
     rotate_left
     go_simp
     refine hK.out _ _ (Zp (Za _ _) (by with_reducible assumption)) (fun hH2=>?_)
     clear hK K
     (first | have HC:=Lib.hid (ZaC hH2) | have HC:=Lib.hid (Zan hH2))
     have hHeld0:=Lib.hid hHeld
     clear hHeld
     have hHeld:=hH2
     clear hH2
     (try simp only [cl,Act.put])
     refine rd 5 rfl fun K hK=>?_
     rotate_right
     all_goals
      go_simp
      (first
       | (go_at_call 41;(with_reducible refine (ATX.out _ (Zao (by with_reducible assumption)).below).mono ?_);rintro e w6 ⟨rfl,hb⟩;(try (have HC:=Lib.hid (HC.out.keep hb))))
       | (go_at_call 32;(with_reducible refine (HW.out _).mono ?_);rintro e w7 ⟨rfl,hb⟩;(try (have HC:=Lib.hid (HC.out.keep hb)))))
      go_wp2_with fail
      refine hK.out _ _ (Zp (by with_reducible assumption) (by with_reducible assumption)) (fun hH2=>?_)
      clear hK K hHeld hb;have hHeld:=hH2;clear hH2
      (try simp only [cl,Act.put])
     all_goals
      refine tk 6 rfl ?_
      refine tk 7 rfl ?_
      refine tk 8 rfl ?_
      (try simp only [cl,Act.put])
     refine rd 9 rfl fun K hK=>?_
     go_simp
     refine hK.out _ _ (Zp (Za _ _) (by with_reducible assumption)) (fun hH2=>?_)
     clear hK K
     (first | have HC:=Lib.hid (ZaC hH2) | have HC:=Lib.hid (Zan hH2))
     have hHeld0:=Lib.hid hHeld
     clear hHeld
     have hHeld:=hH2
     clear hH2
     (try simp only [cl,Act.put])
     all_goals
      refine rd 10 rfl fun K hK=>?_
      obtain ⟨h6,h0,h1,h2,h3,h4,h5⟩:=HC.out
      clear h6
      go_simp
      clear h0 h1 h2 h3 h4 h5
      (first
       | refine hK.out _ _ (Zp (Za _ _) hHeld0.out) (fun hH2=>?_)
       | refine hK.out _ _ (Zp (HC.out.fill _ _).1 hHeld0.out) (fun hH2=>?_))
      clear hK K hHeld
      have hHeld:=hH2
      clear hH2
      (try simp only [cl,Act.put])
      refine tk 11 rfl ?_
      (try simp only [cl,Act.put])
      refine wpAnyH_done (by kernel_rfl) ?_ _
      refine NoPanic.normal ?_
      go_wp2_with fail
      go_meet
      case rel=>first | exact Zcj (Zao hHeld0.out) 25 | exact ZcG (Zao hHeld0.out) HC.out
    case rest=>
     obtain ⟨cc,rfl,rfl,RC,H⟩:=hcut
     clear DD m1 m2 k0 m0 a5 n1 n2 RC
     have k0:=H.E.k0;have k1:=H.E.k1;have k2:=H.E.k2;have l0:=H.E.l0;have l1:=H.E.l1;have l2:=H.E.l2
     have b1:=Lib.hid H.below
     clear H
     go_wp2_with fail
     obtain ⟨c0,c1,c2⟩:=Zaj (x:=.slice none 0 0) (y:=.int .i64 0) (z:=.int .i64 0) k0 k1 k2
     refine bodyPost_ret (v:=.tuple #[.agg #[.slice none 0 0,.int .i64 0,.int .i64 0],.int .i64 3]) (by simp [results,Tryz.results17,go_sem,c0,c1,c2]) rfl ⟨_,rfl,Zb.nil _,?_,Zs.none_ _ _ _⟩
     exact ((b1.out.setCell (by show w.heap.size<=w.heap.size+1+1;omega) _).setCell (by show w.heap.size<=w.heap.size+1+1;omega) _).setCell (by show w.heap.size<=w.heap.size+1+1;omega) _
end
end Go.Proofs.YtolookeddknmoaaGreat
