import Derived.Test.YtolookeddknmoaaGreatQAC
set_option maxRecDepth 100000
set_option maxHeartbeats 8000000
namespace Go.Proofs.YtolookeddknmoaaGreat
section
open Go.RowKit
theorem ZdY (d:Nat) (w:World) (h:d<=9223372036854775807) :
  Calls Tryz.prog 74 #[.int .i64 d] w fun e w'=>e=.returned (.int .u64 d)/\w=w':=
 (ZdX d w (by omega) (by omega)).mono fun _ _ ⟨he,hw⟩=>⟨by rw [he,Int.natAbs_natCast],hw⟩
theorem Zf {w1 w2:World} (hb:Below w1.heap.size w1 w2) {b o:Nat} (h:b<w1.heap.size) {v:Value} (hc:w1.cell? ⟨b,o,none⟩=some v):w2.cell? ⟨b,o,none⟩=some v:=(hb.cell (p:=⟨b,o,none⟩) h).trans hc
theorem Zu {w1 w2:World} (hb:Below w1.heap.size w1 w2) {b o:Nat} (h:b<w1.heap.size) {v:Bool} (hc:w1.frozen? ⟨b,o,none⟩=v):w2.frozen? ⟨b,o,none⟩=v:=(hb.frozen (p:=⟨b,o,none⟩) h).trans hc
def Zi (w:World) (a:Addr):Value:=(w.cell? a).getD undef
theorem ZJ {w:World} {a:Addr} {v:Value} (h:w.cell? a=some v):w.cell? a=some (Zi w a):=by
 unfold Zi;rw [h];rfl
theorem Zap {w1:World} {p q:Addr} {x v:Value} (h:w1.cell? q=some v):(w1.setCell p x).cell? q=some (Zi (w1.setCell p x) q):=by
 obtain ⟨v',h'⟩:=cell?_setCell_some (p:=p) (x:=x) h
 exact ZJ h'
theorem Zpu {w w1 w2:World} {n d m e:Value} (hb:Below w1.heap.size w1 w2)
  (h:(w1.cell? ⟨w.heap.size,0,none⟩=some n/\w1.cell? ⟨w.heap.size,1,none⟩=some d/\w1.cell? ⟨w.heap.size+1,0,none⟩=some m/\w1.cell? ⟨w.heap.size+1,1,none⟩=some e)/\w.heap.size+2<w1.heap.size/\Below w.heap.size w w1/\(w1.cell? ⟨w.heap.size+1+1,0,none⟩=some (Zi w1 ⟨w.heap.size+1+1,0,none⟩)/\w1.cell? ⟨w.heap.size+1+1,1,none⟩=some (Zi w1 ⟨w.heap.size+1+1,1,none⟩)/\w1.cell? ⟨w.heap.size+1+1,2,none⟩=some (Zi w1 ⟨w.heap.size+1+1,2,none⟩))/\(w1.frozen? ⟨w.heap.size+1+1,0,none⟩=false/\w1.frozen? ⟨w.heap.size+1+1,1,none⟩=false/\w1.frozen? ⟨w.heap.size+1+1,2,none⟩=false)) :
  (w2.cell? ⟨w.heap.size,0,none⟩=some n/\w2.cell? ⟨w.heap.size,1,none⟩=some d/\w2.cell? ⟨w.heap.size+1,0,none⟩=some m/\w2.cell? ⟨w.heap.size+1,1,none⟩=some e)/\w.heap.size+2<w2.heap.size/\Below w.heap.size w w2/\(w2.cell? ⟨w.heap.size+1+1,0,none⟩=some (Zi w2 ⟨w.heap.size+1+1,0,none⟩)/\w2.cell? ⟨w.heap.size+1+1,1,none⟩=some (Zi w2 ⟨w.heap.size+1+1,1,none⟩)/\w2.cell? ⟨w.heap.size+1+1,2,none⟩=some (Zi w2 ⟨w.heap.size+1+1,2,none⟩))/\(w2.frozen? ⟨w.heap.size+1+1,0,none⟩=false/\w2.frozen? ⟨w.heap.size+1+1,1,none⟩=false/\w2.frozen? ⟨w.heap.size+1+1,2,none⟩=false):=by
 obtain ⟨⟨a,b,c,f⟩,g,k,⟨i0,i1,i2⟩,j0,j1,j2⟩:=h
 have hs:=hb.size
 have q:∀ o,w2.cell? ⟨w.heap.size+1+1,o,none⟩=w1.cell? ⟨w.heap.size+1+1,o,none⟩:=fun o=>hb.cell (p:=⟨w.heap.size+1+1,o,none⟩) (by simp;omega)
 have r:∀ o,w2.frozen? ⟨w.heap.size+1+1,o,none⟩=w1.frozen? ⟨w.heap.size+1+1,o,none⟩:=fun o=>hb.frozen (p:=⟨w.heap.size+1+1,o,none⟩) (by simp;omega)
 exact ⟨⟨Zf hb (by omega) a,Zf hb (by omega) b,Zf hb (by omega) c,Zf hb (by omega) f⟩,by omega,k.trans (hb.mono (by omega)),⟨ZJ ((q _).trans i0),ZJ ((q _).trans i1),ZJ ((q _).trans i2)⟩,by rw [r];exact j0,by rw [r];exact j1,by rw [r];exact j2⟩
theorem Zik {w w1:World} {n d m e:Value} {o:Nat} {x:Value}
  (h:(w1.cell? ⟨w.heap.size,0,none⟩=some n/\w1.cell? ⟨w.heap.size,1,none⟩=some d/\w1.cell? ⟨w.heap.size+1,0,none⟩=some m/\w1.cell? ⟨w.heap.size+1,1,none⟩=some e)/\w.heap.size+2<w1.heap.size/\Below w.heap.size w w1/\(w1.cell? ⟨w.heap.size+1+1,0,none⟩=some (Zi w1 ⟨w.heap.size+1+1,0,none⟩)/\w1.cell? ⟨w.heap.size+1+1,1,none⟩=some (Zi w1 ⟨w.heap.size+1+1,1,none⟩)/\w1.cell? ⟨w.heap.size+1+1,2,none⟩=some (Zi w1 ⟨w.heap.size+1+1,2,none⟩))/\(w1.frozen? ⟨w.heap.size+1+1,0,none⟩=false/\w1.frozen? ⟨w.heap.size+1+1,1,none⟩=false/\w1.frozen? ⟨w.heap.size+1+1,2,none⟩=false)) :
  ((w1.setCell ⟨w.heap.size+1+1,o,none⟩ x).cell? ⟨w.heap.size,0,none⟩=some n/\(w1.setCell ⟨w.heap.size+1+1,o,none⟩ x).cell? ⟨w.heap.size,1,none⟩=some d/\(w1.setCell ⟨w.heap.size+1+1,o,none⟩ x).cell? ⟨w.heap.size+1,0,none⟩=some m/\(w1.setCell ⟨w.heap.size+1+1,o,none⟩ x).cell? ⟨w.heap.size+1,1,none⟩=some e)/\w.heap.size+2<(w1.setCell ⟨w.heap.size+1+1,o,none⟩ x).heap.size/\Below w.heap.size w (w1.setCell ⟨w.heap.size+1+1,o,none⟩ x)/\((w1.setCell ⟨w.heap.size+1+1,o,none⟩ x).cell? ⟨w.heap.size+1+1,0,none⟩=some (Zi (w1.setCell ⟨w.heap.size+1+1,o,none⟩ x) ⟨w.heap.size+1+1,0,none⟩)/\(w1.setCell ⟨w.heap.size+1+1,o,none⟩ x).cell? ⟨w.heap.size+1+1,1,none⟩=some (Zi (w1.setCell ⟨w.heap.size+1+1,o,none⟩ x) ⟨w.heap.size+1+1,1,none⟩)/\(w1.setCell ⟨w.heap.size+1+1,o,none⟩ x).cell? ⟨w.heap.size+1+1,2,none⟩=some (Zi (w1.setCell ⟨w.heap.size+1+1,o,none⟩ x) ⟨w.heap.size+1+1,2,none⟩))/\((w1.setCell ⟨w.heap.size+1+1,o,none⟩ x).frozen? ⟨w.heap.size+1+1,0,none⟩=false/\(w1.setCell ⟨w.heap.size+1+1,o,none⟩ x).frozen? ⟨w.heap.size+1+1,1,none⟩=false/\(w1.setCell ⟨w.heap.size+1+1,o,none⟩ x).frozen? ⟨w.heap.size+1+1,2,none⟩=false):=by
 obtain ⟨⟨a,b,c,f⟩,g,k,⟨i0,i1,i2⟩,j0,j1,j2⟩:=h
 have q:∀ b' o',b'<w.heap.size+1+1->(w1.setCell ⟨w.heap.size+1+1,o,none⟩ x).cell? ⟨b',o',none⟩=w1.cell? ⟨b',o',none⟩:=fun b' o' hb=>World.cell?_setCell_far _ _ _ _ (by simp;omega)
 exact ⟨⟨by rw [q _ _ (by omega)];exact a,by rw [q _ _ (by omega)];exact b,by rw [q _ _ (by omega)];exact c,by rw [q _ _ (by omega)];exact f⟩,by rw [World.size_setCell];exact g,k.setCell (by simp;omega) _,⟨Zap i0,Zap i1,Zap i2⟩,by rw [World.frozen?_setCell];exact j0,by rw [World.frozen?_setCell];exact j1,by rw [World.frozen?_setCell];exact j2⟩
theorem ZbA {w1:World} {b o:Nat} {x v:Value} (h:(w1.setCell ⟨b,o,none⟩ x).cell? ⟨b,o,none⟩=some v):v=x:=by
 cases hc:w1.cell? ⟨b,o,none⟩ with
 | some u=>
  rw [World.cell?_setCell_same _ _ _ hc] at h
  exact (Option.some.inj h).symm
 | none=>
  exfalso
  unfold World.cell? at hc h
  simp only [World.setCell,Array.getElem?_modify,↓reduceIte] at h
  cases hb:w1.heap[b]? with
  | none=>simp [hb] at h
  | some ob=>
   cases ob<;>simp_all
theorem ZfL {w1:World} {b o p:Nat} {x y:Value} (ho:o≠p):((w1.setCell ⟨b,o,none⟩ x).setCell ⟨b,p,none⟩ y).cell? ⟨b,o,none⟩=(w1.setCell ⟨b,o,none⟩ x).cell? ⟨b,o,none⟩:=
 World.cell?_setCell_other _ _ _ _ (by simp only [ne_eq,Addr.mk.injEq,not_and];intro _ h;exact absurd h.symm ho)
theorem Zek {w1:World} {b:Nat} {x y z u0 u1 u2:Value}
  (h0:(((w1.setCell ⟨b,0,none⟩ x).setCell ⟨b,1,none⟩ y).setCell ⟨b,2,none⟩ z).cell? ⟨b,0,none⟩=some u0)
  (h1:(((w1.setCell ⟨b,0,none⟩ x).setCell ⟨b,1,none⟩ y).setCell ⟨b,2,none⟩ z).cell? ⟨b,1,none⟩=some u1)
  (h2:(((w1.setCell ⟨b,0,none⟩ x).setCell ⟨b,1,none⟩ y).setCell ⟨b,2,none⟩ z).cell? ⟨b,2,none⟩=some u2):u0=x/\u1=y/\u2=z:=by
 refine ⟨?_,?_,ZbA h2⟩
 ·rw [World.cell?_setCell_other _ _ _ _ (show (⟨b,2,none⟩:Addr)≠⟨b,0,none⟩ by simp),ZfL (by decide)] at h0
  exact ZbA h0
 ·rw [ZfL (by decide)] at h1
  exact ZbA h1
theorem ZoB {w w1:World} {x y z:Value} {A B F:Prop} {f:World}
  (hf:f=((w1.setCell ⟨w.heap.size+1+1,0,none⟩ x).setCell ⟨w.heap.size+1+1,1,none⟩ y).setCell ⟨w.heap.size+1+1,2,none⟩ z)
  (h:A/\B/\Below w.heap.size w f/\(f.cell? ⟨w.heap.size+1+1,0,none⟩=some (Zi f ⟨w.heap.size+1+1,0,none⟩)/\f.cell? ⟨w.heap.size+1+1,1,none⟩=some (Zi f ⟨w.heap.size+1+1,1,none⟩)/\f.cell? ⟨w.heap.size+1+1,2,none⟩=some (Zi f ⟨w.heap.size+1+1,2,none⟩))/\F) :
  f.cell? ⟨w.heap.size+1+1,0,none⟩=some x/\f.cell? ⟨w.heap.size+1+1,1,none⟩=some y/\f.cell? ⟨w.heap.size+1+1,2,none⟩=some z/\Below w.heap.size w f:=by
 obtain ⟨_,_,k,⟨i0,i1,i2⟩,_⟩:=h
 subst hf
 obtain ⟨e0,e1,e2⟩:=Zek i0 i1 i2
 exact ⟨i0.trans (congrArg some e0),i1.trans (congrArg some e1),i2.trans (congrArg some e2),k⟩
theorem ZiA (n m:Int) (d e g:Nat) (w:World) (hn1:-9223372036854775807<=n) (hn2:n<=9223372036854775807) (hm1:-9223372036854775807<=m) (hm2:m<=9223372036854775807)
  (hd:d<=9223372036854775807) (he:e<=9223372036854775807) (hg:0<g) (hg2:g<18446744073709551616) :
  Calls Tryz.prog 113 #[Ze n d,Ze m e,.int .u64 g] w fun r w'=>r=.returned (ZbI (ZbH (decide (n<0)) (n.natAbs*(e / g)) (decide (m<0)) (m.natAbs*(d / g))) (Zbh (decide (n<0)) (n.natAbs*(e / g)) (decide (m<0)) (m.natAbs*(d / g))))/\Below w.heap.size w w':=by
 have x1:e / g<=9223372036854775807:=Nat.le_trans (Nat.div_le_self _ _) he
 have y1:d / g<=9223372036854775807:=Nat.le_trans (Nat.div_le_self _ _) hd
 have q1:=Zbo e g (by omega)
 have q2:=Zbo d g (by omega)
 have p1:n.natAbs*(e / g)<=9223372036854775807*9223372036854775807:=Nat.mul_le_mul (by omega) x1
 have p2:m.natAbs*(d / g)<=9223372036854775807*9223372036854775807:=Nat.mul_le_mul (by omega) y1
 have hsum:n.natAbs*(e / g)+m.natAbs*(d / g)<340282366920938463463374607431768211456:=by omega
 have s1:=fun w=>ZdY d w hd
 have s2:=fun w=>ZdY e w he
 have t1:=fun w=>Zj9 n (e / g) w (by omega) hn2 (by omega)
 have t2:=fun w=>Zj9 m (d / g) w (by omega) hm2 (by omega)
 have pl:=fun w=>ZpK (decide (n<0)) (decide (m<0)) (n.natAbs*(e / g)) (m.natAbs*(d / g)) w hsum
 have hg0:¬ g=0:=by omega
 have hgi:(0:Int)<(g:Int):=by omega
 clear hsum p1 p2 hn1 hn2 hm1 hm2 hd he hg
 obtain ⟨x,hx⟩:∃ x,x=e / g:=⟨_,rfl⟩
 obtain ⟨y,hy⟩:∃ y,y=d / g:=⟨_,rfl⟩
 rw [<- hx] at x1 q1 t1 pl ⊢
 rw [<- hy] at y1 q2 t2 pl ⊢
 clear hx hy
 obtain ⟨sa,hsa⟩:∃ sa,sa=decide (n<0):=⟨_,rfl⟩
 obtain ⟨sb,hsb⟩:∃ sb,sb=decide (m<0):=⟨_,rfl⟩
 obtain ⟨pa,hpa⟩:∃ pa,pa=n.natAbs*x:=⟨_,rfl⟩
 obtain ⟨pb,hpb⟩:∃ pb,pb=m.natAbs*y:=⟨_,rfl⟩
 rw [<- hsa,<- hpa] at t1 pl ⊢
 rw [<- hsb,<- hpb] at t2 pl ⊢
 clear hsa hsb hpa hpb
 obtain ⟨ps,hps⟩:∃ ps,ps=ZbH sa pa sb pb:=⟨_,rfl⟩
 obtain ⟨pm,hpm⟩:∃ pm,pm=Zbh sa pa sb pb:=⟨_,rfl⟩
 rw [<- hps,<- hpm] at pl ⊢
 clear hps hpm
 go_enter Tryz.func113,Tryz.ntmps113
 go_wp2_with fail
 go_region_held3 (fun w'=>(w'.cell? ⟨w.heap.size,0,none⟩=some (.int .i64 n)/\w'.cell? ⟨w.heap.size,1,none⟩=some (.int .i64 d)/\w'.cell? ⟨w.heap.size+1,0,none⟩=some (.int .i64 m)/\w'.cell? ⟨w.heap.size+1,1,none⟩=some (.int .i64 e)) ∧
   w.heap.size+2<w'.heap.size/\Below w.heap.size w w'/\(w'.cell? ⟨w.heap.size+1+1,0,none⟩=some (Zi w' ⟨w.heap.size+1+1,0,none⟩)/\w'.cell? ⟨w.heap.size+1+1,1,none⟩=some (Zi w' ⟨w.heap.size+1+1,1,none⟩)/\w'.cell? ⟨w.heap.size+1+1,2,none⟩=some (Zi w' ⟨w.heap.size+1+1,2,none⟩))/\(w'.frozen? ⟨w.heap.size+1+1,0,none⟩=false/\w'.frozen? ⟨w.heap.size+1+1,1,none⟩=false/\w'.frozen? ⟨w.heap.size+1+1,2,none⟩=false))
  (first
   | with_reducible assumption
   | with_reducible exact Zpu (by with_reducible assumption) (by with_reducible assumption)
   | with_reducible exact Zik (Zik (Zik (by with_reducible assumption)))
   | exact ⟨⟨by go_simp,by go_simp,by go_simp,by go_simp⟩,by simp,(((Below.refl _ _).alloc (Nat.le_refl _) _).alloc (by simp) _ |>.alloc (by simp;omega) _).drew,⟨ZJ (v:=.bool false) (by go_simp),ZJ (v:=.int .u64 0) (by go_simp),ZJ (v:=.int .u64 0) (by go_simp)⟩,by go_simp,by go_simp,by go_simp⟩)
  (first
   | (go_at_call 74;first | ((with_reducible refine (s1 _).mono ?_);rintro e w' ⟨rfl,rfl⟩) | ((with_reducible refine (s2 _).mono ?_);rintro e w' ⟨rfl,rfl⟩))
   | (go_at_call 119;first | ((with_reducible refine (t1 _).mono ?_);rintro e w' ⟨rfl,hb⟩) | ((with_reducible refine (t2 _).mono ?_);rintro e w' ⟨rfl,hb⟩))
   | (go_at_call 120;(with_reducible refine (pl _).mono ?_);rintro e w' ⟨rfl,hb⟩))
 go_wp2_with fail
 obtain ⟨c0,c1,c2,hB⟩:=ZoB rfl (by with_reducible assumption)
 exact bodyPost_ret (v:=ZbI ps pm) (by simp [results,Tryz.results113,go_sem,c0,c1,c2]) rfl ⟨rfl,hB⟩
end
section
open Go.RowKit
theorem Zai {P:Program} {f:FuncId} {args:Array Value} {w:World} {n:Nat} {v:Value}
  (h:Calls P f args (w.drewN n) fun e w'=>e=.returned v/\w.drewN n=w'):Calls P f args (w.drewN n) fun e w''=>e=.returned v/\∃ m,w''=w.drewN m:=
 h.mono fun _ _ ⟨he,hm⟩=>⟨he,n,hm.symm⟩
theorem Zgf {P:Program} {f:FuncId} {args:Array Value} {w:World} {a n:Nat} {v:Value}
  (h:Calls P f args (w.drewN (a+n)) (Ziy (w.drewN (a+n)) v)):Calls P f args (w.drewN (a+n)) fun e w''=>e=.returned v/\∃ m,w''=w.drewN (a+m):=
 h.mono fun _ _ ⟨he,m,hm⟩=>⟨he,n+m,by rw [hm,World.drewN_drewN,Nat.add_assoc]⟩
theorem ZK {P:Program} {f:FuncId} {args:Array Value} {w:World} {a n:Nat} {v:Value}
  (h:Calls P f args (w.drewN (a+n)) fun e w'=>e=.returned v/\w.drewN (a+n)=w'):Calls P f args (w.drewN (a+n)) fun e w''=>e=.returned v/\∃ m,w''=w.drewN (a+m):=
 h.mono fun _ _ ⟨he,hm⟩=>⟨he,n,hm.symm⟩
def Zas (n d:Int):Bool:=decide (0<d/\n≠-9223372036854775808/\Nat.gcd n.natAbs d.natAbs=1)
theorem Zef (n d:Int) (w:World) (h1:-9223372036854775808<=n) (h2:n<=9223372036854775807) (h3:-9223372036854775808<=d) (h4:d<=9223372036854775807) :
  Calls Tryz.prog 34 #[Ze n d] w fun e w'=>e=.returned (.bool (Zas n d))/\Below w.heap.size w w':=by
 unfold Zas
 by_cases a:0<d
 ·by_cases b:n=-9223372036854775808
  ·rw [decide_eq_false (by omega)]
   have d1:decide (0<d)=true:=decide_eq_true a
   have d2:(n != -9223372036854775808)=false:=by simp [b]
   clear h1 h2 h3 h4 a b
   go_enter Tryz.func34,Tryz.ntmps34
   go_wp2_with fail
   go_quiet (fail)
   go_wp2_with fail
   go_ret
   exact ⟨rfl,below_drewN ((Below.refl _ _).alloc (Nat.le_refl _) _) _⟩
  ·have s1:=fun w=>ZdX n w h1 h2
   have s2:=fun w=>ZdX d w h3 h4
   have g:=fun w=>Zdd n.natAbs d.natAbs w (by omega) (by omega)
   have d1:decide (0<d)=true:=decide_eq_true a
   have d2:(n != -9223372036854775808)=true:=by simpa using b
   have e:decide (0<d/\n≠-9223372036854775808/\Nat.gcd n.natAbs d.natAbs=1)=((((Nat.gcd n.natAbs d.natAbs:Nat)):Int)==1):=by
    rw [Bool.eq_iff_iff];simp [a,b];omega
   rw [e]
   clear h1 h2 h3 h4 a b e
   obtain ⟨G,hG⟩:∃ G,G=Nat.gcd n.natAbs d.natAbs:=⟨_,rfl⟩
   rw [<- hG] at g ⊢
   clear hG
   go_enter Tryz.func34,Tryz.ntmps34
   go_wp2_with fail
   go_quiet ((first
    | (go_at_call 74;first | (with_reducible exact Zai (s1 _)) | (with_reducible exact Zai (s2 _)))
    | (go_at_call 73;with_reducible exact Calls.quiet_of (g _))))
   go_wp2_with fail
   go_ret
   exact ⟨rfl,below_drewN ((Below.refl _ _).alloc (Nat.le_refl _) _) _⟩
 ·rw [decide_eq_false (by omega)]
  have d1:decide (0<d)=false:=decide_eq_false a
  clear h1 h2 h3 h4 a
  go_enter Tryz.func34,Tryz.ntmps34
  go_wp2_with fail
  go_quiet (fail)
  go_wp2_with fail
  go_ret
  exact ⟨rfl,below_drewN ((Below.refl _ _).alloc (Nat.le_refl _) _) _⟩
theorem Zdv (w:World) (a b c:Obj) (n:Nat):Below w.heap.size w ((((w.alloc a).alloc b).alloc c).drewN n):=
 below_drewN (((Below.refl _ _).alloc (Nat.le_refl _) _).alloc (by simp) _ |>.alloc (by simp;omega) _) _
theorem Zci {w w1:World} (h:Below w.heap.size w w1) {o p:Nat} {x y:Value}:Below w.heap.size w ((w1.setCell ⟨w.heap.size+1+1,o,none⟩ x).setCell ⟨w.heap.size+1+1,p,none⟩ y):=
 (h.setCell (by simp;omega) _).setCell (by simp;omega) _
theorem Zjp {N:Nat} (h:up N=0):N<18446744073709551616/\lw N=N:=by unfold up at h;unfold lw;omega
theorem ZlC {N:Nat} (h:¬ up N=0):¬ N<=9223372036854775807:=by unfold up at h;omega
theorem Zl4 (n m:Int) (d e:Nat) (w:World) (hn1:-9223372036854775807<=n) (hn2:n<=9223372036854775807) (hm1:-9223372036854775807<=m) (hm2:m<=9223372036854775807)
  (hd0:0<d) (hd:d<=9223372036854775807) (he0:0<e) (he:e<=9223372036854775807) (g h:Nat) (hg:g=Nat.gcd n.natAbs e) (hh:h=Nat.gcd m.natAbs d) (N D:Nat)
  (hN:N=n.natAbs / g*(m.natAbs / h)) (hD:D=d / h*(e / g)) :
  Calls Tryz.prog 76 #[Ze n d,Ze m e] w fun r w'=>r=.returned (.tuple #[Ze (ZbG (!(decide (n<0)==decide (m<0))) N D) (ZbU N D),.int .i64 (ZbP N D)])/\Below w.heap.size w w':=by
 have hgp:0<g:=by rw [hg];exact Nat.gcd_pos_of_pos_right _ he0
 have hhp:0<h:=by rw [hh];exact Nat.gcd_pos_of_pos_right _ hd0
 have s1:=fun w=>ZdX n w (by omega) hn2
 have s2:=fun w=>ZdX m w (by omega) hm2
 have s3:=fun w=>ZdY d w hd
 have s4:=fun w=>ZdY e w he
 have g1:=fun w=>Zdd n.natAbs e w (by omega) (by omega)
 have g2:=fun w=>Zdd m.natAbs d w (by omega) (by omega)
 rw [<- hg] at g1
 rw [<- hh] at g2
 have q1:=Zbo n.natAbs g (by omega)
 have q2:=Zbo m.natAbs h (by omega)
 have q3:=Zbo d h (by omega)
 have q4:=Zbo e g (by omega)
 have l1:n.natAbs / g<=9223372036854775807:=Nat.le_trans (Nat.div_le_self _ _) (by omega)
 have l2:m.natAbs / h<=9223372036854775807:=Nat.le_trans (Nat.div_le_self _ _) (by omega)
 have l3:d / h<=9223372036854775807:=Nat.le_trans (Nat.div_le_self _ _) hd
 have l4:e / g<=9223372036854775807:=Nat.le_trans (Nat.div_le_self _ _) he
 have m1:=fun w=>ZiM (n.natAbs / g) (m.natAbs / h) w (by omega) (by omega)
 have m2:=fun w=>ZiM (d / h) (e / g) w (by omega) (by omega)
 rw [<- hN] at m1
 rw [<- hD] at m2
 have fo:=fun w=>Zmz (!(decide (n<0)==decide (m<0))) (lw N) (lw D) w (Ze3 N) (Ze3 D)
 obtain ⟨x1,hx1⟩:∃ x1,x1=n.natAbs / g:=⟨_,rfl⟩
 obtain ⟨x2,hx2⟩:∃ x2,x2=m.natAbs / h:=⟨_,rfl⟩
 obtain ⟨x3,hx3⟩:∃ x3,x3=d / h:=⟨_,rfl⟩
 obtain ⟨x4,hx4⟩:∃ x4,x4=e / g:=⟨_,rfl⟩
 rw [<- hx1] at q1 m1
 rw [<- hx2] at q2 m1
 rw [<- hx3] at q3 m2
 rw [<- hx4] at q4 m2
 have hg0:¬ g=0:=by omega
 have hh0:¬ h=0:=by omega
 have hgi:(0:Int)<(g:Int):=by omega
 have hhi:(0:Int)<(h:Int):=by omega
 clear l1 l2 l3 l4 hx1 hx2 hx3 hx4 hN hD hg hh hgp hhp hn1 hn2 hm1 hm2 hd he hd0 he0
 by_cases a:up N=0
 ·by_cases b:up D=0
  ·obtain ⟨_,a2⟩:=Zjp a
   obtain ⟨_,b2⟩:=Zjp b
   rw [a2] at fo m1
   rw [b2] at fo m2
   rw [a] at m1
   rw [b] at m2
   obtain ⟨F1,hF1⟩:∃ F1,F1=ZbG (!(decide (n<0)==decide (m<0))) N D:=⟨_,rfl⟩
   obtain ⟨F2,hF2⟩:∃ F2,F2=ZbU N D:=⟨_,rfl⟩
   obtain ⟨F3,hF3⟩:∃ F3,F3=ZbP N D:=⟨_,rfl⟩
   rw [<- hF1,<- hF2,<- hF3] at fo ⊢
   clear a b a2 b2 hF1 hF2 hF3
   simp only [Int.natCast_zero] at m1 m2
   go_enter Tryz.func76,Tryz.ntmps76
   go_wp2_with fail
   go_quiet ((first
    | (go_at_call 74;first | (with_reducible exact Zai (s1 _)) | (with_reducible exact Zai (s4 _)))
    | (go_at_call 73;with_reducible exact Calls.quiet_of (g1 _))))
   go_wp2_with fail
   go_quiet ((first
    | (go_at_call 74;first | (with_reducible exact ZK (s2 _)) | (with_reducible exact ZK (s3 _)))
    | (go_at_call 73;with_reducible exact Zgf (g2 _))))
   go_wp2_with fail
   go_quiet ((first
    | (go_at_call 74;first | (with_reducible exact ZK (s1 _)) | (with_reducible exact ZK (s2 _)))
    | (go_at_call 100;with_reducible exact ZK (m1 _))))
   go_wp2_with fail
   go_quiet ((first
    | (go_at_call 74;first | (with_reducible exact ZK (s3 _)) | (with_reducible exact ZK (s4 _)))
    | (go_at_call 100;with_reducible exact ZK (m2 _))))
   go_wp2_with (go_at_call 101;(with_reducible refine (fo _).mono ?_);rintro e w1 ⟨rfl,hb⟩;obtain ⟨hc,hf⟩:=Zrc hb)
   exact bodyPost_ret (v:=.tuple #[Ze F1 F2,.int .i64 F3]) (by simp [results,Tryz.results76,go_sem,hc]) rfl ⟨rfl,Zci ((Zdv _ _ _ _ _).trans (hb.mono (by simp;omega)))⟩
  ·have nb:=ZlC b
   have E1:ZbP N D=3:=by unfold ZbP;rw [if_neg (by omega)]
   have E2:ZbU N D=0:=by unfold ZbU;rw [if_neg (by omega)]
   have E3:ZbG (!(decide (n<0)==decide (m<0))) N D=0:=by unfold ZbG;rw [if_neg (by omega)]
   rw [E1,E2,E3]
   rw [a] at m1
   simp only [Int.natCast_zero] at m1
   obtain ⟨U,hU⟩:∃ U,U=up D:=⟨_,rfl⟩
   rw [<- hU] at m2 b
   have b2:((U:Int)==0)=false:=by simp;omega
   have b3:((U:Int) != 0)=true:=by simp;omega
   clear fo a b nb E1 E2 E3 hU
   go_enter Tryz.func76,Tryz.ntmps76
   go_wp2_with fail
   go_quiet ((first
    | (go_at_call 74;first | (with_reducible exact Zai (s1 _)) | (with_reducible exact Zai (s4 _)))
    | (go_at_call 73;with_reducible exact Calls.quiet_of (g1 _))))
   go_wp2_with fail
   go_quiet ((first
    | (go_at_call 74;first | (with_reducible exact ZK (s2 _)) | (with_reducible exact ZK (s3 _)))
    | (go_at_call 73;with_reducible exact Zgf (g2 _))))
   go_wp2_with fail
   go_quiet ((first
    | (go_at_call 74;first | (with_reducible exact ZK (s1 _)) | (with_reducible exact ZK (s2 _)))
    | (go_at_call 100;with_reducible exact ZK (m1 _))))
   go_wp2_with fail
   go_quiet ((first
    | (go_at_call 74;first | (with_reducible exact ZK (s3 _)) | (with_reducible exact ZK (s4 _)))
    | (go_at_call 100;with_reducible exact ZK (m2 _))))
   go_wp2_with fail
   exact bodyPost_ret (v:=.tuple #[Ze 0 0,.int .i64 3]) (by simp [results,Tryz.results76,go_sem]) rfl ⟨rfl,Zci (Zdv _ _ _ _ _)⟩
 ·have na:=ZlC a
  have E1:ZbP N D=3:=by unfold ZbP;rw [if_neg (by omega)]
  have E2:ZbU N D=0:=by unfold ZbU;rw [if_neg (by omega)]
  have E3:ZbG (!(decide (n<0)==decide (m<0))) N D=0:=by unfold ZbG;rw [if_neg (by omega)]
  rw [E1,E2,E3]
  obtain ⟨U,hU⟩:∃ U,U=up N:=⟨_,rfl⟩
  rw [<- hU] at m1 a
  have b2:((U:Int)==0)=false:=by simp;omega
  have b3:((U:Int) != 0)=true:=by simp;omega
  clear fo a na E1 E2 E3 hU
  go_enter Tryz.func76,Tryz.ntmps76
  go_wp2_with fail
  go_quiet ((first
   | (go_at_call 74;first | (with_reducible exact Zai (s1 _)) | (with_reducible exact Zai (s4 _)))
   | (go_at_call 73;with_reducible exact Calls.quiet_of (g1 _))))
  go_wp2_with fail
  go_quiet ((first
   | (go_at_call 74;first | (with_reducible exact ZK (s2 _)) | (with_reducible exact ZK (s3 _)))
   | (go_at_call 73;with_reducible exact Zgf (g2 _))))
  go_wp2_with fail
  go_quiet ((first
   | (go_at_call 74;first | (with_reducible exact ZK (s1 _)) | (with_reducible exact ZK (s2 _)))
   | (go_at_call 100;with_reducible exact ZK (m1 _))))
  go_wp2_with fail
  go_quiet ((first
   | (go_at_call 74;first | (with_reducible exact ZK (s3 _)) | (with_reducible exact ZK (s4 _)))
   | (go_at_call 100;with_reducible exact ZK (m2 _))))
  go_wp2_with fail
  exact bodyPost_ret (v:=.tuple #[Ze 0 0,.int .i64 3]) (by simp [results,Tryz.results76,go_sem]) rfl ⟨rfl,Zci (Zdv _ _ _ _ _)⟩
end
end Go.Proofs.YtolookeddknmoaaGreat
