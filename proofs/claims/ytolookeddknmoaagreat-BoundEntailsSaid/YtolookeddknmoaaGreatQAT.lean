import Derived.Test.YtolookeddknmoaaGreatQAS
set_option maxRecDepth 100000
set_option maxHeartbeats 8000000
namespace Go.Proofs.YtolookeddknmoaaGreat
section
open Go.RowKit
def ZA (x:Int×Int):Int×Int:=(-x.1,x.2)
theorem Zbv {x:Int×Int} (h:OkR x):OkR (ZA x):=by
 obtain ⟨d,e,v⟩:=h
 exact ⟨d,e,v.pos,v.d_le,by unfold ZA;rw [Int.natAbs_neg];exact v.n_le,by unfold ZA;rw [Int.natAbs_neg];exact v.low⟩
def Zar (l:List (Int×Int)) (kx:Int×Int) (p:List (Int×Int)) (kp:Int×Int) (i:Int):List (Int×Int)×(Int×Int)×Int:=
 if (atL l i).1=0 then (l,kx,0)
 else if (Zh p kp (ZA (atL l i))).2.2=0 then ZaQ l (Zh p kp (ZA (atL l i))).1 kx (Zh p kp (ZA (atL l i))).2.1 else ([],(0,0),(Zh p kp (ZA (atL l i))).2.2)
def Zic (w:World) (va:Value) (l:List (Int×Int)) (k:Int×Int) (E:Int) (e:Ending) (w':World):Prop:=
 ∃ v,e=.returned (.tuple #[.agg #[v,.int .i64 k.1,.int .i64 k.2],.int .i64 E])/\Zb w' v l/\Below w.heap.size w w'/\(v=va\/Zs w.heap.size v)
theorem Zm1 {w w1:World} {l:List (Int×Int)} {v:Value} {b:Nat} {x y z:Value} (h:Zb w v l) (hb:Below w.heap.size w w1) (hlt:w.heap.size<=b) :
  Zb (((w1.setCell ⟨b,0,none⟩ x).setCell ⟨b,1,none⟩ y).setCell ⟨b,2,none⟩ z) v l/\Below w.heap.size w (((w1.setCell ⟨b,0,none⟩ x).setCell ⟨b,1,none⟩ y).setCell ⟨b,2,none⟩ z):=by
 have h3:=((hb.setCell (p:=⟨b,0,none⟩) hlt x).setCell (p:=⟨b,1,none⟩) hlt y).setCell (p:=⟨b,2,none⟩) hlt z
 exact ⟨h.below h3,h3⟩
theorem Zn7 (w:World) (va:Value) (l:List (Int×Int)) (kx:Int×Int) (i:Int) (b:Nat) (pb:Value) (ha:Zb w va l) (hi:w.cell? ⟨b,0,none⟩=some (.int .i64 i)) (hz:(atL l i).1=0) :
  Calls Tryz.prog 84 #[.agg #[va,.int .i64 kx.1,.int .i64 kx.2],.pointer (some ⟨b,0,none⟩),pb] w (Zic w va l kx 0):=by
 have ca:=fun (w':World) (h:Below w.heap.size w w')=>Zel w' va l kx.1 kx.2 i (ha.below h)
 have hz':((atL l i).1 != 0)=false:=by rw [hz];rfl
 rw [hz'] at ca
 obtain ⟨xn,xd⟩:=kx
 dsimp only at *
 obtain ⟨A,c,rfl⟩:=Zd ha
 have HA:=Lib.hid ha
 generalize l.length=n at *
 have CA:=Lib.hid ca
 clear ca hz hz' ha
 have hb0:=ZI w (.cells #[.slice A n c,.int .i64 xn,.int .i64 xd] 27) (.cells #[.slice none 0 0,.int .i64 0,.int .i64 0] 27)
 obtain ⟨F,E⟩:=Zfe w (.slice A n c) (.int .i64 xn) (.int .i64 xd) (.slice none 0 0) (.int .i64 0) (.int .i64 0) 27
 have d0:=(hb0.cell (World.block_lt_of_cell? _ _ hi)).trans hi
 go_enter Tryz.func84,Tryz.ntmps84
 go_wp2_with (go_at_call 49;(with_reducible refine (CA.out _ hb0).mono ?_);rintro e5 w4 ⟨rfl,hb⟩;have F:=F.keep hb;have E:=E.keep hb;have b4:=hb0.trans (hb.mono hb0.size);have k0:=F.k0;have k1:=F.k1;have k2:=F.k2;obtain ⟨e0,e1,e2,g0,g1,g2,_⟩:=id E)
 obtain ⟨c0,c1,c2⟩:=Zaj (x:=.slice A n c) (y:=.int .i64 xn) (z:=.int .i64 xd) e0 e1 e2
 obtain ⟨r1,r2⟩:=Zm1 (b:=w.heap.size+1) (x:=.slice A n c) (y:=.int .i64 xn) (z:=.int .i64 xd) HA.out b4 (by omega)
 exact bodyPost_ret (v:=.tuple #[.agg #[.slice A n c,.int .i64 xn,.int .i64 xd],.int .i64 0]) (by simp [results,Tryz.results84,go_sem,c0,c1,c2]) rfl ⟨_,rfl,r1,r2,.inl rfl⟩
theorem Zoa (w:World) (va:Value) (l:List (Int×Int)) (kx:Int×Int) (i:Int) (b bp:Nat) (vp:Value) (p:List (Int×Int)) (kp:Int×Int) (ha:Zb w va l) (hl:Zv l) (hx:Bd kx) (hi:w.cell? ⟨b,0,none⟩=some (.int .i64 i))
  (hp:Zb w vp p) (hpw:Zv p) (hpk:Bd kp) (hc0:w.cell? ⟨bp,0,none⟩=some vp) (hc1:w.cell? ⟨bp,1,none⟩=some (.int .i64 kp.1)) (hc2:w.cell? ⟨bp,2,none⟩=some (.int .i64 kp.2)) (hq:OkR (atL l i)) (hz:(atL l i).1≠0) :
  Calls Tryz.prog 84 #[.agg #[va,.int .i64 kx.1,.int .i64 kx.2],.pointer (some ⟨b,0,none⟩),.pointer (some ⟨bp,0,none⟩)] w (Zic w va (Zar l kx p kp i).1 (Zar l kx p kp i).2.1 (Zar l kx p kp i).2.2):=by
 have ca:=fun (w':World) (h:Below w.heap.size w w')=>Zel w' va l kx.1 kx.2 i (ha.below h)
 have hz':((atL l i).1 != 0)=true:=by simpa using hz
 rw [hz'] at ca
 have ta:=fun (w':World) (h:Below w.heap.size w w')=>Zbx w' va l kx.1 kx.2 i (ha.below h)
 have ts:=fun (w':World) (h:Below w.heap.size w w')=>ZcN w' vp p kp (ZA (atL l i)) (hp.below h) hpw hpk (Zbv hq).wide
 have hw2:=ZaR (l:=p) (kx:=kp) (kb:=ZA (atL l i)) hpw hpk (Zbv hq).wide
 have td:=fun (w':World) (h:Below w.heap.size w w') (v':Value) (h':Zb w' v' (Zh p kp (ZA (atL l i))).1)=>Ziw w' va v' l (Zh p kp (ZA (atL l i))).1 kx (Zh p kp (ZA (atL l i))).2.1 (ha.below h) h' hl hw2.1 hx hw2.2
 have hT:Zar l kx p kp i=if (Zh p kp (ZA (atL l i))).2.2=0 then ZaQ l (Zh p kp (ZA (atL l i))).1 kx (Zh p kp (ZA (atL l i))).2.1 else ([],(0,0),(Zh p kp (ZA (atL l i))).2.2):=if_neg hz
 generalize Zar l kx p kp i=Z at *
 have wn:IntKind.i64.wrap (-(atL l i).1)=-(atL l i).1:=IntWalk.i64_in _ (by have:=hq.wide;obtain ⟨d,_,v⟩:=hq;have:=v.n_le;omega)
 unfold ZA at *
 clear hz hz' hq hw2
 generalize Zh p kp (-(atL l i).1,(atL l i).2)=P at *
 generalize ZaQ l P.1 kx P.2.1=U at *
 generalize atL l i=x at *
 obtain ⟨L,⟨p1,p2⟩,er⟩:=P
 obtain ⟨M,⟨u1,u2⟩,eu⟩:=U
 obtain ⟨x1,x2⟩:=x
 obtain ⟨xn,xd⟩:=kx
 obtain ⟨yn,yd⟩:=kp
 dsimp only at *
 obtain ⟨A,c,rfl⟩:=Zd ha
 obtain ⟨B,d,rfl⟩:=Zd hp
 generalize l.length=n at *
 generalize p.length=m at *
 have CA:=Lib.hid ca;have TA:=Lib.hid ta;have TS:=Lib.hid ts;have TD:=Lib.hid td;have HZ:=Lib.hid hT
 have OLD:=Lib.hid (fun (w':World) (h:Below w.heap.size w w')=>And.intro ((h.cell (World.block_lt_of_cell? _ _ hi)).trans hi) (And.intro ((h.cell (World.block_lt_of_cell? _ _ hc0)).trans hc0) (And.intro ((h.cell (World.block_lt_of_cell? _ _ hc1)).trans hc1) ((h.cell (World.block_lt_of_cell? _ _ hc2)).trans hc2))))
 clear hT ca ta ts td ha hl hx hi hp hpw hpk hc0 hc1 hc2
 have hb0:=ZI w (.cells #[.slice A n c,.int .i64 xn,.int .i64 xd] 27) (.cells #[.slice none 0 0,.int .i64 0,.int .i64 0] 27)
 obtain ⟨F,E⟩:=Zfe w (.slice A n c) (.int .i64 xn) (.int .i64 xd) (.slice none 0 0) (.int .i64 0) (.int .i64 0) 27
 have d0:=(OLD.out _ hb0).1
 go_enter Tryz.func84,Tryz.ntmps84
 go_upto_region 3 with (go_at_call 49;(with_reducible refine (CA.out _ hb0).mono ?_);rintro e5 w1 ⟨rfl,hb⟩;have F:=F.keep hb;have E:=E.keep hb;have b1:=hb0.trans (hb.mono hb0.size);have k0:=F.k0;have k1:=F.k1;have k2:=F.k2;have d0:=(OLD.out _ b1).1;clear hb)
 go_upto_region 4 with (go_at_call 56;(with_reducible refine (TA.out _ b1).mono ?_);rintro e5 w2 ⟨rfl,hb⟩;have F:=F.keep hb;have E:=E.keep hb;have b2:=b1.trans (hb.mono b1.size);clear hb)
 have a2:=Za w2 (.cells #[.int .i64 x1,.int .i64 x2] 25)
 have Q:=RatAt.start w2 x1 x2 25
 have F:=F.keep a2
 have E:=E.keep a2
 have b3:=b2.trans (a2.mono b2.size)
 have q0:=Q.k0;have q1:=Q.k1
 obtain ⟨_,o0,o1,o2⟩:=OLD.out _ b3
 clear a2 b2 b1 hb0 Q k0 k1 k2 d0
 generalize w2.alloc (.cells #[.int .i64 x1,.int .i64 x2] 25)=w3 at *
 go_upto_region 5 with (go_at_call 13;(with_reducible refine (TS.out _ b3).mono ?_);rintro e5 w4 ⟨v4,rfl,hv4,hb,_⟩;obtain ⟨A4,c4,rfl⟩:=Zd hv4;have HV:=Lib.hid hv4;clear hv4;have F:=F.keep hb;have E:=E.keep hb;have b4:=b3.trans (hb.mono b3.size);clear hb)
 have a4:=Za w4 (.cells #[.slice A4 L.length c4,.int .i64 p1,.int .i64 p2] 27)
 have G:=FracBox.start w4 (.slice A4 L.length c4) (.int .i64 p1) (.int .i64 p2) 27
 have F:=F.keep a4
 have E:=E.keep a4
 have HV:=Lib.hid (HV.out.below a4)
 have b5:=b4.trans (a4.mono b4.size)
 have k0:=F.k0;have k1:=F.k1;have k2:=F.k2;have j0:=G.k0;have j1:=G.k1;have j2:=G.k2
 clear a4 b4 b3 q0 q1 o0 o1 o2 wn G
 generalize w4.alloc (.cells #[.slice A4 L.length c4,.int .i64 p1,.int .i64 p2] 27)=w5 at *
 by_cases g:er=0
 ·have g':(er != 0)=false:=by simpa using g
  have T0:=TD.out _ b5 _ HV.out
  have hZ:=HZ.out
  rw [if_pos g] at hZ
  subst hZ
  clear g HZ
  have TT:=Lib.hid T0
  clear T0
  go_wp2_with (go_at_call 57;(with_reducible refine TT.out.mono ?_);rintro e6 w6 ⟨v6,rfl,hv6,hb,fr6⟩;obtain ⟨A6,c6,rfl⟩:=Zd hv6;have HV6:=Lib.hid (And.intro hv6 fr6);clear hv6 fr6;have hlt:=E.lt;have E:=E.keep hb;have b6:=b5.trans (hb.mono b5.size);obtain ⟨e0,e1,e2,g0,g1,g2,_⟩:=id E)
  obtain ⟨c0,c1,c2⟩:=Zaj (x:=.slice A6 M.length c6) (y:=.int .i64 u1) (z:=.int .i64 u2) e0 e1 e2
  refine bodyPost_ret (v:=.tuple #[.agg #[.slice A6 M.length c6,.int .i64 u1,.int .i64 u2],.int .i64 eu]) (by simp [results,Tryz.results84,go_sem,c0,c1,c2]) rfl ⟨_,rfl,?_,?_,.inr (HV6.out.2.mono b5.size)⟩
  ·exact ((HV6.out.1.setCell HV6.out.2 hlt _).setCell HV6.out.2 hlt _).setCell HV6.out.2 hlt _
  ·exact ((b6.setCell (by show w.heap.size<=w.heap.size+1;omega) _).setCell (by show w.heap.size<=w.heap.size+1;omega) _).setCell (by show w.heap.size<=w.heap.size+1;omega) _
 ·have hZ:=HZ.out
  rw [if_neg g] at hZ
  subst hZ
  clear HZ
  have g':(er != 0)=true:=by simpa using g
  obtain ⟨e0,e1,e2,g0,g1,g2,_⟩:=id E
  clear g
  go_wp2_with fail
  obtain ⟨c0,c1,c2⟩:=Zaj (x:=.slice none 0 0) (y:=.int .i64 0) (z:=.int .i64 0) e0 e1 e2
  refine bodyPost_ret (v:=.tuple #[.agg #[.slice none 0 0,.int .i64 0,.int .i64 0],.int .i64 er]) (by simp [results,Tryz.results84,go_sem,c0,c1,c2]) rfl ⟨_,rfl,Zb.nil _,?_,.inr (Zs.none_ _ _ _)⟩
  exact ((b5.setCell (by show w.heap.size<=w.heap.size+1;omega) _).setCell (by show w.heap.size<=w.heap.size+1;omega) _).setCell (by show w.heap.size<=w.heap.size+1;omega) _
end
section
open Go.RowKit
structure TrmOk (t:Trm):Prop where
 ok:ZF t.1
 k:OkR t.2
 len:t.1.length<=8
def ZQ (p:Trm) (i:Int) (t:Trm):Option Trm:=
 if (Zar t.1 t.2 p.1 p.2 i).2.2=0 then some ((Zar t.1 t.2 p.1 p.2 i).1,(Zar t.1 t.2 p.1 p.2 i).2.1) else none
def Zak (f:Trm->Option Trm):List Trm->Option (List Trm)
 | []=>some []
 | t::r=>(f t).bind fun u=>(Zak f r).map (u::·)
theorem ZjL {f:Trm->Option Trm} {t:Trm}:∀ {l us:List Trm} {u:Trm},Zak f l=some us->f t=some u->Zak f (l++[t])=some (us++[u])
 | [],us,u,h,hu=>by
  obtain rfl:[]=us:=by simpa [Zak] using h
  show (f t).bind _=_
  rw [hu]
  rfl
 | x::r,us,u,h,hu=>by
  rw [Zak,Option.bind_eq_some_iff] at h
  obtain ⟨a,ha,hb⟩:=h
  obtain ⟨b,hc,rfl⟩:=Option.map_eq_some_iff.1 hb
  rw [List.cons_append,Zak,ha,Option.bind_some,ZjL hc hu]
  rfl
theorem Zf7 {f:Trm->Option Trm} {t:Trm} (h:f t=none):∀ {l:List Trm},t∈l->Zak f l=none
 | [],hm=>by cases hm
 | x::r,hm=>by
  rw [Zak]
  rcases List.mem_cons.1 hm with rfl | hm
  ·rw [h];rfl
  ·rw [Zf7 h hm]
   cases f x<;>rfl
theorem Zc0 {f:Trm->Option Trm}:∀ {l us:List Trm},Zak f l=some us->us.length=l.length
 | [],us,h=>by
  obtain rfl:[]=us:=by simpa [Zak] using h
  rfl
 | x::r,us,h=>by
  rw [Zak,Option.bind_eq_some_iff] at h
  obtain ⟨a,_,hb⟩:=h
  obtain ⟨b,hc,rfl⟩:=Option.map_eq_some_iff.1 hb
  rw [List.length_cons,List.length_cons,Zc0 hc]
theorem ZfC {f:Trm->Option Trm}:∀ {l us:List Trm},Zak f l=some us->∀ (k:Nat) (t:Trm),l[k]? = some t->∃ u,us[k]? = some u/\f t=some u
 | [],us,h,k,t,hk=>by simp at hk
 | x::r,us,h,k,t,hk=>by
  rw [Zak,Option.bind_eq_some_iff] at h
  obtain ⟨a,ha,hb⟩:=h
  obtain ⟨b,hc,rfl⟩:=Option.map_eq_some_iff.1 hb
  cases k with
  | zero=>
   obtain rfl:x=t:=by simpa using hk
   exact ⟨a,rfl,ha⟩
  | succ k=>exact ZfC hc k t (by simpa using hk)
theorem Zmx {p t u:Trm} {i:Int} (hp:TrmOk p) (ht:TrmOk t) (h:ZQ p i t=some u):TrmOk u:=by
 unfold ZQ at h
 split at h
 ·rename_i g
  obtain rfl:=Option.some.inj h
  unfold Zar at g ⊢
  split
  ·exact ht
  ·rename_i hz
   rw [if_neg hz] at g
   split at g
   ·rename_i g2
    rw [if_pos g2]
    have hn:OkR (ZA (atL t.1 i)):=Zbv (ht.ok.at i)
    have hw:=ZaR (l:=p.1) (kx:=p.2) (kb:=ZA (atL t.1 i)) hp.ok.wide hp.k.wide hn.wide
    obtain ⟨_,_,_,_,_,_,P⟩:=Zc8 ht.ok.wide hw.1 ht.k.wide hw.2 g
    exact ⟨P.ok,P.okk,P.len⟩
   ·rename_i g2
    exact absurd g g2
 ·cases h
theorem Zjh {p:Trm} {i:Int} (hp:TrmOk p):∀ {l us:List Trm},(∀ t∈l,TrmOk t)->Zak (ZQ p i) l=some us->∀ u∈us,TrmOk u
 | [],us,_,h=>by
  obtain rfl:[]=us:=by simpa [Zak] using h
  exact fun u hu=>by cases hu
 | x::r,us,hl,h=>by
  rw [Zak,Option.bind_eq_some_iff] at h
  obtain ⟨a,ha,hb⟩:=h
  obtain ⟨b,hc,rfl⟩:=Option.map_eq_some_iff.1 hb
  intro u hu
  rcases List.mem_cons.1 hu with rfl | hu
  ·exact Zmx hp (hl x (by simp)) ha
  ·exact Zjh hp (fun t ht=>hl t (by simp [ht])) hc u hu
structure ElimIn (w:World) (S:Nat->Prop) (b bp:Nat) (vp:Value) (p:Trm) (i:Int):Prop where
 i:w.cell? ⟨b,0,none⟩=some (.int .i64 i)
 c0:w.cell? ⟨bp,0,none⟩=some vp
 c1:w.cell? ⟨bp,1,none⟩=some (.int .i64 p.2.1)
 c2:w.cell? ⟨bp,2,none⟩=some (.int .i64 p.2.2)
 r:Zb w vp p.1
 o:Off S vp p.1
 nb:¬ S b
 nbp:¬ S bp
theorem ElimIn.grown {w w':World} {S:Nat->Prop} {b bp:Nat} {vp:Value} {p:Trm} {i:Int} {row:Option Nat} (h:ElimIn w S b bp vp p i) (hg:w.grownBy w' row) (hr:∀ g,row=some g->S g):ElimIn w' S b bp vp p i:=by
 have e1:some b≠row:=fun e=>h.nb (hr b e.symm)
 have e2:some bp≠row:=fun e=>h.nbp (hr bp e.symm)
 exact ⟨hg.cell h.i e1,hg.cell h.c0 e2,hg.cell h.c1 e2,hg.cell h.c2 e2,h.r.off h.o hg hr,h.o,h.nb,h.nbp⟩
theorem ElimIn.below {w w':World} {S:Nat->Prop} {b bp:Nat} {vp:Value} {p:Trm} {i:Int} (h:ElimIn w S b bp vp p i) (hb:Below w.heap.size w w'):ElimIn w' S b bp vp p i:=
 h.grown (Zac hb none) (fun _ e=>by cases e)
def Zp5 (w:World) (va:Value) (u:Trm) (e:Ending) (w':World):Prop:=
 ∃ A c,e=.returned (.tuple #[.agg #[.slice A u.1.length c,.int .i64 u.2.1,.int .i64 u.2.2],.int .i64 0])/\Zb w' (.slice A u.1.length c) u.1/\Below w.heap.size w w'/\(.slice A u.1.length c=va\/Zs w.heap.size (.slice A u.1.length c))
def ZqI (w:World) (e:Ending) (w':World):Prop:=
 ∃ z A n c kn kd,(z != (0:Int))=true/\e=.returned (.tuple #[.agg #[.slice A n c,.int .i64 kn,.int .i64 kd],.int .i64 z])/\Below w.heap.size w w'
theorem Zjw {w:World} {va:Value} {t p:Trm} {i:Int} {b bp:Nat} {vp:Value} {S:Nat->Prop} (ha:Zb w va t.1) (ht:TrmOk t) (hp:TrmOk p) (E:ElimIn w S b bp vp p i) :
  Calls Tryz.prog 84 #[.agg #[va,.int .i64 t.2.1,.int .i64 t.2.2],.pointer (some ⟨b,0,none⟩),.pointer (some ⟨bp,0,none⟩)] w (Zic w va (Zar t.1 t.2 p.1 p.2 i).1 (Zar t.1 t.2 p.1 p.2 i).2.1 (Zar t.1 t.2 p.1 p.2 i).2.2):=by
 by_cases hz:(atL t.1 i).1=0
 ·have e:Zar t.1 t.2 p.1 p.2 i=(t.1,t.2,0):=if_pos hz
  rw [e]
  exact Zn7 w va t.1 t.2 i b (.pointer (some ⟨bp,0,none⟩)) ha E.i hz
 ·exact Zoa w va t.1 t.2 i b bp vp p.1 p.2 ha ht.ok.wide ht.k.wide E.i E.r hp.ok.wide hp.k.wide E.c0 E.c1 E.c2 (ht.ok.at i) hz
theorem Zpl {w:World} {va:Value} {t p u:Trm} {i:Int} {b bp:Nat} {vp:Value} {S:Nat->Prop} (ha:Zb w va t.1) (ht:TrmOk t) (hp:TrmOk p) (E:ElimIn w S b bp vp p i) (h:ZQ p i t=some u) :
  Calls Tryz.prog 84 #[.agg #[va,.int .i64 t.2.1,.int .i64 t.2.2],.pointer (some ⟨b,0,none⟩),.pointer (some ⟨bp,0,none⟩)] w (Zp5 w va u):=by
 refine (Zjw ha ht hp E).mono fun e w' hh=>?_
 obtain ⟨v,he,hr,hb,ho⟩:=hh
 unfold ZQ at h
 split at h
 ·rename_i g
  obtain rfl:=Option.some.inj h
  obtain ⟨A,c,rfl⟩:=Zd hr
  rw [g] at he
  exact ⟨A,c,he,hr,hb,ho⟩
 ·cases h
theorem Zqj {w:World} {va:Value} {t p:Trm} {i:Int} {b bp:Nat} {vp:Value} {S:Nat->Prop} (ha:Zb w va t.1) (ht:TrmOk t) (hp:TrmOk p) (E:ElimIn w S b bp vp p i) (h:ZQ p i t=none) :
  Calls Tryz.prog 84 #[.agg #[va,.int .i64 t.2.1,.int .i64 t.2.2],.pointer (some ⟨b,0,none⟩),.pointer (some ⟨bp,0,none⟩)] w (ZqI w):=by
 refine (Zjw ha ht hp E).mono fun e w' hh=>?_
 obtain ⟨v,he,hr,hb,_⟩:=hh
 unfold ZQ at h
 split at h
 ·cases h
 ·rename_i g
  obtain ⟨A,c,rfl⟩:=Zd hr
  exact ⟨_,A,_,c,_,_,by simpa using g,he,hb⟩
def Zi3 (w:World) (base:Nat) (v:Value) (o:Option (List Trm)) (S:Nat->Prop) (e:Ending) (w':World):Prop:=
 w.grownBy w' v.ownBlock/\((∃ us,o=some us/\e=.returned (.int .i64 0)/\ZY w' base v us S)\/(o=none/\∃ z:Int,(z != 0)=true/\e=.returned (.int .i64 z)))
theorem ZpB {S:Nat->Prop} {B:Nat} {va v:Value} {l m:List (Int×Int)} (ho:Off S va l) (hl:v=va->m≠[]->l≠[]) (hs:∀ b,S b->b<B) (h:v=va\/Zs B v):Off S v m:=by
 rcases h with rfl | h
 ·exact fun hm b hb=>ho (hl rfl hm) b hb
 ·exact Off.fresh h hs
theorem Zq3 {A B:Option Addr} {l m:List (Int×Int)} {c d:Nat} (h:Value.slice A m.length c=Value.slice B l.length d) (hm:m≠[]):l≠[]:=by
 injection h with _ e _
 intro q
 subst q
 exact hm (List.eq_nil_of_length_eq_zero (by simpa using e))
theorem Zkp {ts us:List Trm} {k:Nat} {u:Trm} (hk:us.length=k) (hlt:k<ts.length):(us++ts.drop k).set k u=(us++[u])++ts.drop (k+1):=by
 rw [List.set_append,if_neg (by omega),hk,Nat.sub_self,List.drop_eq_getElem_cons hlt,List.set_cons_zero,List.append_assoc]
 rfl
theorem ZhX (w:World) (base:Nat) (v:Value) (ts:List Trm) (S:Nat->Prop) (p:Trm) (vp:Value) (i:Int) (b bp:Nat) (h:ZY w base v ts S) (hv:∀ g,v.ownBlock=some g->S g) (hS:∀ g,S g->g<w.heap.size) (hok:∀ t∈ts,TrmOk t) (hp:TrmOk p) (E:ElimIn w S b bp vp p i) :
  Calls Tryz.prog 53 #[v,.func (.func 84) #[] #[.pointer (some ⟨b,0,none⟩),.pointer (some ⟨bp,0,none⟩)]] w (Zi3 w base v (Zak (ZQ p i) ts) S):=by
 obtain ⟨n,hn⟩:∃ n,n=ts.length:=⟨_,rfl⟩
 obtain ⟨A,c,rfl,h2,h3⟩:∃ A c,v=.slice A n c/\n<=c/\c<=maxLen:=by
  obtain ⟨A,c,_,e,h2,h3,_⟩:=h.terms
  exact ⟨A,c,by rw [hn];exact e,by omega,h3⟩
 have hmx:n<=9223372036854775807:=by unfold maxLen at h3;omega
 have HN:=Lib.hid (And.intro hn (And.intro hv (And.intro hS (And.intro hok (And.intro hp (And.intro hmx E))))))
 have H:=Lib.hid h
 clear hn hv hS hok hp E h h2 h3 hmx
 go_enter Tryz.func53,Tryz.ntmps53
 go_wp2_with fail
 go_loopg [11] n (fun g v11 wr=>∃ k:Nat,v11=.int .i64 k/\k<=n/\g=n-k/\∃ us,Zak (ZQ p i) (ts.take k)=some us/\ZY wr base (.slice A n c) (us++ts.drop k) S/\w.grownBy wr (Value.slice A n c).ownBlock)
 case atStart=>exact ⟨0,rfl,Nat.zero_le _,rfl,[],rfl,by simpa using H.out,Zac (Below.refl _ _) _⟩
 case round=>
  obtain ⟨k,rfl,hk,hg,us,hm,ho,hgr⟩:=hrel
  by_cases hkn:k=n
  ·have e:ts.take k=ts:=by rw [hkn,HN.out.1];exact List.take_length
   have e2:ts.drop k=[]:=by rw [hkn,HN.out.1];exact List.drop_length
   rw [e] at hm
   rw [e2,List.append_nil] at ho
   have FIN:=Lib.hid (show Zi3 w base (.slice A n c) (Zak (ZQ p i) ts) S (.returned (.int .i64 0)) wr from ⟨hgr,.inl ⟨us,hm,rfl,ho⟩⟩)
   subst hkn
   clear hk hg hm ho hgr e e2
   go_wp2_with fail
   go_ret
   exact FIN.out
  ·have hlt:k<n:=by omega
   have hul:us.length=k:=by rw [Zc0 hm,List.length_take];have:=HN.out.1;omega
   obtain ⟨t,ht⟩:∃ t,ts[k]? = some t:=⟨_,List.getElem?_eq_getElem (by have:=HN.out.1;omega)⟩
   have hlen:(us++ts.drop k).length=n:=by rw [List.length_append,List.length_drop,hul];have:=HN.out.1;omega
   obtain ⟨gb,cap,e,hbase,hglt,hnc,hcm⟩:=ho.form (by omega)
   rw [hlen] at e
   injection e with e1 e2 e3
   subst e1
   subst e3
   have hSg:S gb:=HN.out.2.1 gb rfl
   obtain ⟨va,hr,hoff,d0,d1,d2,f0,f1,f2⟩:=ho.cells (k:=k) (t:=t) (by rw [List.getElem?_append_right (by omega),hul,Nat.sub_self,List.getElem?_drop];simpa using ht)
   have htm:=List.mem_of_getElem? ht
   have hgr':=hgr
   have EI:=HN.out.2.2.2.2.2.2.grown hgr (fun g hg=>HN.out.2.1 g hg)
   have i1:(k:Int)<(n:Int):=by omega
   have i2:(0:Int)<=(k:Int):=by omega
   have wk:IntKind.i64.wrap ((k:Int)+1)=(k:Int)+1:=IntWalk.i64_in _ (by have:=HN.out.2.2.2.2.2.1;omega)
   have a0:=Za wr (.cells #[va,.int .i64 t.2.1,.int .i64 t.2.2] 27)
   have F:=FracBox.start wr va (.int .i64 t.2.1) (.int .i64 t.2.2) 27
   have k0:=F.k0;have k1:=F.k1;have k2:=F.k2
   have st:=fun (w2:World) (hb:Below wr.heap.size wr w2) (v:Value) (u:Trm) (hu:Zb w2 v u.1) (hv:Off S v u.1)=>(ho.below hb).stored (k:=k) hSg hu hv
   have hS2:∀ g,S g->g<wr.heap.size:=fun g hg=>Nat.lt_of_lt_of_le (HN.out.2.2.1 g hg) hgr.size
   cases hf:ZQ p i t with
   | none=>
    have EN:=Lib.hid (Zqj (hr.below a0) (HN.out.2.2.2.1 t htm) HN.out.2.2.2.2.1 (EI.below a0) hf)
    have FIN:=Lib.hid (fun (w2:World) (z:Int) (hb:Below wr.heap.size wr w2) (hz:(z != 0)=true)=>show Zi3 w base (.slice (some ⟨gb,0,none⟩) n c) (Zak (ZQ p i) ts) S (.returned (.int .i64 z)) w2 from ⟨Zaa hgr (Zac hb _),.inr ⟨Zf7 hf htm,z,hz,rfl⟩⟩)
    have A0:=Lib.hid a0
    obtain ⟨A1,c1,rfl⟩:=Zd hr
    obtain ⟨t0,t1,t2⟩:=t
    dsimp only at *
    generalize t0.length=tl at *
    clear hm ho hgr hul ht hlen hbase hnc hcm hSg hr hoff htm hgr' EI st hS2 hf hkn hlt hk hg a0 F
    go_wp2_with (go_at_call 84;(with_reducible refine EN.out.mono ?_);rintro e5 w1 ⟨z,A2,n2,c2,kn,kd,hz,rfl,hb1⟩)
    go_ret
    exact FIN.out _ z ((A0.out.trans (hb1.mono A0.out.size)).alloc (by have:=hb1.size;have:=A0.out.size;omega) _) hz
   | some u=>
    have EY:=Lib.hid (Zpl (hr.below a0) (HN.out.2.2.2.1 t htm) HN.out.2.2.2.2.1 (EI.below a0) hf)
    have hm2:Zak (ZQ p i) (ts.take (k+1))=some (us++[u]):=by
     rw [List.take_add_one,ht]
     exact ZjL hm hf
    have hts:(us++ts.drop k).set k u=(us++[u])++ts.drop (k+1):=Zkp hul (by have:=HN.out.1;omega)
    have REL:=Lib.hid (fun (w2:World) (hb:Below wr.heap.size wr w2) (v:Value) (hu:Zb w2 v u.1) (hv:Off S v u.1)=>show ∃ us,Zak (ZQ p i) (ts.take (k+1))=some us/\ZY (((w2.setCell ⟨gb,k*3,none⟩ v).setCell ⟨gb,k*3+1,none⟩ (.int .i64 u.2.1)).setCell ⟨gb,k*3+2,none⟩ (.int .i64 u.2.2)) base (.slice (some ⟨gb,0,none⟩) n c) (us++ts.drop (k+1)) S/\w.grownBy (((w2.setCell ⟨gb,k*3,none⟩ v).setCell ⟨gb,k*3+1,none⟩ (.int .i64 u.2.1)).setCell ⟨gb,k*3+2,none⟩ (.int .i64 u.2.2)) (Value.slice (some ⟨gb,0,none⟩) n c).ownBlock from
     ⟨us++[u],hm2,by rw [<- hts];exact (st w2 hb v u hu hv).1,Zaa (Zaa hgr (Zac hb _)) (st w2 hb v u hu hv).2⟩)
    have OB:=Lib.hid (fun (v:Value) (h1:v=va->u.1≠[]->t.1≠[]) (h:v=va\/Zs wr.heap.size v)=>ZpB (S:=S) hoff h1 hS2 h)
    have OLD:=Lib.hid (fun (w2:World) (h:Below wr.heap.size wr w2)=>And.intro (ZJ ((h.cell (p:=⟨gb,k*3,none⟩) hglt).trans d0)) (And.intro (ZJ ((h.cell (p:=⟨gb,k*3+1,none⟩) hglt).trans d1)) (And.intro (ZJ ((h.cell (p:=⟨gb,k*3+2,none⟩) hglt).trans d2)) (And.intro ((h.frozen (p:=⟨gb,k*3,none⟩) hglt).trans f0) (And.intro ((h.frozen (p:=⟨gb,k*3+1,none⟩) hglt).trans f1) ((h.frozen (p:=⟨gb,k*3+2,none⟩) hglt).trans f2))))))
    have A0:=Lib.hid a0
    obtain ⟨A1,c1,rfl⟩:=Zd hr
    have LN:=Lib.hid (fun (A2:Option Addr) (c2:Nat) (h:Value.slice A2 u.1.length c2=.slice A1 t.1.length c1) (hm:u.1≠[])=>Zq3 h hm)
    obtain ⟨t0,t1,t2⟩:=t
    obtain ⟨u0,u1,u2⟩:=u
    dsimp only at *
    generalize t0.length=tl at *
    clear hm ho hgr hul ht hlen hbase hnc hcm hSg hr hoff htm hgr' EI st hS2 hf a0 F hm2 hts
    go_upto_region 5 with (go_at_call 84;(with_reducible refine EY.out.mono ?_);rintro e5 w1 ⟨A2,c2,rfl,hr1,hb1,ho1⟩)
    have a1:=Za w1 (.cells #[.slice A2 u0.length c2,.int .i64 u1,.int .i64 u2] 27)
    have G:=FracBox.start w1 (.slice A2 u0.length c2) (.int .i64 u1) (.int .i64 u2) 27
    have j0:=G.k0;have j1:=G.k1;have j2:=G.k2
    have b1:=A0.out.trans (hb1.mono A0.out.size)
    have b2:=b1.trans (a1.mono b1.size)
    obtain ⟨d0,d1,d2,f0,f1,f2⟩:=OLD.out _ b2
    have R2:=REL.out _ b2 _ (hr1.below a1) (OB.out _ (fun e=>LN.out A2 c2 e) (ho1.imp id (fun h=>h.mono A0.out.size)))
    clear k0 k1 k2 a1 G b1 hr1 hb1 ho1
    generalize w1.alloc (.cells #[.slice A2 u0.length c2,.int .i64 u1,.int .i64 u2] 27)=w2 at *
    generalize u0.length=ul at *
    have R3:=Lib.hid R2
    have HK:=Lib.hid (And.intro hlt hg)
    clear R2 b2 hlt hg hkn hk
    go_wp2_with fail
    go_roundg (n-(k+1))
    case measure=>have:=HK.out;omega
    case rel=>exact ⟨k+1,by push_cast;rfl,by have:=HK.out;omega,rfl,R3.out⟩
end
end Go.Proofs.YtolookeddknmoaaGreat
