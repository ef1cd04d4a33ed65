import Derived.Test.YtolookeddknmoaaGreatQAO
import Derived.Test.YtolookeddknmoaaGreatQAP
set_option maxRecDepth 100000
set_option maxHeartbeats 8000000
namespace Go.Proofs.YtolookeddknmoaaGreat
section
open Go.RowKit
theorem Zd {w:World} {v:Value} {l:List (Int×Int)} (h:Zb w v l):∃ A c,v=.slice A l.length c:=by
 obtain ⟨A,c,rfl,_⟩:=h
 exact ⟨A,c,rfl⟩
def Za3 (h:How) (l m:List (Int×Int)) (kx ky:Int×Int):List (Int×Int)×(Int×Int)×Int:=
 if (h kx ky).2=0/\Zad h l m (max l.length m.length) then (Zw (ZaD h l m),(h kx ky).1,0) else ([],(0,0),3)
theorem Zjf (w:World) (x y:Int×Int) (hx:OkR x) (hy:OkR y) :
  Calls Tryz.prog 66 #[Ze x.1 x.2,Ze y.1 y.2] w fun r w2=>r=.returned (.tuple #[Ze (Zo x y).1.1 (Zo x y).1.2,.int .i64 (Zo x y).2])/\Below w.heap.size w w2:=by
 obtain ⟨d,e,v⟩:=hx
 obtain ⟨d',e',v'⟩:=hy
 have:=Zjr v v' w
 unfold Zo Zcr
 rw [e,e']
 exact this
theorem ZmC (w:World) (x y:Int×Int) (hx:OkR x) (hy:OkR y) :
  Calls Tryz.prog 38 #[Ze x.1 x.2,Ze y.1 y.2] w fun r w2=>r=.returned (.tuple #[Ze (ZT x y).1.1 (ZT x y).1.2,.int .i64 (ZT x y).2])/\Below w.heap.size w w2:=by
 obtain ⟨d,e,v⟩:=hx
 obtain ⟨d',e',v'⟩:=hy
 have:=ZjO v v' w
 unfold ZT Zcr
 rw [e,e']
 exact this
theorem Zod (w:World) (x y by_:Int×Int) (q:Nat) (hx:OkR x) (hb:OkR by_) (hq:RatAt w q by_.1 by_.2) :
  Calls Tryz.prog 37 #[Ze x.1 x.2,Ze y.1 y.2,.pointer (some ⟨q,0,none⟩)] w fun r w2=>r=.returned (.tuple #[Ze (Zx by_ x y).1.1 (Zx by_ x y).1.2,.int .i64 (Zx by_ x y).2])/\Below w.heap.size w w2:=by
 have mu:=fun w=>ZmC w x by_ hx hb
 unfold Zx
 have HM:=Lib.hid mu
 clear mu hx hb
 generalize (ZT x by_).1.1=zn at *
 generalize (ZT x by_).1.2=zd at *
 generalize (ZT x by_).2=ze at *
 generalize x.1=xn at *
 generalize x.2=xd at *
 generalize y.1=yn at *
 generalize y.2=yd at *
 generalize by_.1=bn at *
 generalize by_.2=bd at *
 have B:Boxes w (((w.alloc (.cells #[.int .i64 xn,.int .i64 xd] 25)).alloc (.cells #[.int .i64 yn,.int .i64 yd] 25)).alloc (.cells #[.int .i64 0,.int .i64 0] 25)) xn xd yn yd:=Boxes.start w xn xd yn yd 0 25
 have c0:=B.c0;have c1:=B.c1
 have a0:Below w.heap.size w (((w.alloc (.cells #[.int .i64 xn,.int .i64 xd] 25)).alloc (.cells #[.int .i64 yn,.int .i64 yd] 25)).alloc (.cells #[.int .i64 0,.int .i64 0] 25)):=Zdv w (.cells #[.int .i64 xn,.int .i64 xd] 25) (.cells #[.int .i64 yn,.int .i64 yd] 25) (.cells #[.int .i64 0,.int .i64 0] 25) 0
 have Q:=hq.keep a0
 have k0:=Q.k0;have k1:=Q.k1
 go_enter Tryz.func37,Tryz.ntmps37
 go_wp2_with (go_at_call 38;(with_reducible refine (HM.out _).mono ?_);rintro e w1 ⟨rfl,hb⟩;have B:=B.keep hb;have i0:=B.i0;have i1:=B.i1;have j0:=B.j0;have j1:=B.j1;have HB:=Lib.hid B.below)
 exact bodyPost_ret (v:=.tuple #[Ze zn zd,.int .i64 ze]) (by simp [results,Tryz.results37,go_sem,i0,i1]) rfl ⟨rfl,Zci HB.out⟩
theorem Zch {w w1:World} {l:List (Int×Int)} {k:Int×Int} {E:Int} {e:Ending} (h:ZaS w l k E e w1) :
  ∃ A c,e=.returned (.tuple #[.agg #[.slice A l.length c,.int .i64 k.1,.int .i64 k.2],.int .i64 E])/\Zb w1 (.slice A l.length c) l/\Below w.heap.size w w1/\Zs w.heap.size (.slice A l.length c):=by
 obtain ⟨v,he,hr,hb,hf⟩:=h
 obtain ⟨A,c,rfl⟩:=Zd hr
 exact ⟨A,c,he,hr,hb,hf⟩
theorem Zcg {w w1 f:World} {v:Value} {l:List (Int×Int)} {kn kd:Int} {b:Nat} (hr:Zb w1 v l) (hb:Below w.heap.size w w1) (hf:Zs (b+1) v) (hlt:w.heap.size<=b) (hfe:f=((w1.setCell ⟨b,0,none⟩ v).setCell ⟨b,1,none⟩ (.int .i64 kn)).setCell ⟨b,2,none⟩ (.int .i64 kd)) :
  Zb f v l/\Below w.heap.size w f/\Zs w.heap.size v:=by
 subst hfe
 exact ⟨((hr.setCell hf (Nat.lt_succ_self b) _).setCell hf (Nat.lt_succ_self b) _).setCell hf (Nat.lt_succ_self b) _,((hb.setCell hlt _).setCell hlt _).setCell hlt _,hf.mono (by omega)⟩
theorem ZnJ (w:World) (va vb:Value) (l m:List (Int×Int)) (kx ky:Int×Int) (ha:Zb w va l) (hb:Zb w vb m) (hl:ZF l) (hm:ZF m) (hx:OkR kx) (hy:OkR ky) (h8:l.length<=8) (h8':m.length<=8) :
  Calls Tryz.prog 57 #[.agg #[va,.int .i64 kx.1,.int .i64 kx.2],.agg #[vb,.int .i64 ky.1,.int .i64 ky.2]] w (ZaS w (Za3 Zo l m kx ky).1 (Za3 Zo l m kx ky).2.1 (Za3 Zo l m kx ky).2.2):=by
 have ra:=fun (w':World) (h:Below w.heap.size w w')=>ZbN w' va l kx.1 kx.2 (ha.below h) hl.wide hx.wide.1.1 hx.wide.1.2 hx.wide.2.1 hx.wide.2.2
 rw [ZaA h8 hl hx] at ra
 have rb:=fun (w':World) (h:Below w.heap.size w w')=>ZbN w' vb m ky.1 ky.2 (hb.below h) hm.wide hy.wide.1.1 hy.wide.1.2 hy.wide.2.1 hy.wide.2.2
 rw [ZaA h8' hm hy] at rb
 have co:=fun (w':World) (h:Below w.heap.size w w')=>show Calls Tryz.prog 35 #[.agg #[va,.int .i64 kx.1,.int .i64 kx.2],.agg #[vb,.int .i64 ky.1,.int .i64 ky.2],.func (.func 66) #[] #[]] w' (ZaS w' (Za3 Zo l m kx ky).1 (Za3 Zo l m kx ky).2.1 (Za3 Zo l m kx ky).2.2) by
  unfold Za3
  split
  ·rename_i g
   exact ZlR w' va vb l m kx ky (ha.below h) (hb.below h) hl hm hx hy h8 h8' Zo (fun w2 _ x y=>Zjf w2 x y) g.1 g.2
  ·rename_i g
   exact ZlQ w' va vb l m kx ky (ha.below h) (hb.below h) hl hm hx hy h8 h8' Zo Zbn (fun w2 _ x y=>Zjf w2 x y) g
 generalize Za3 Zo l m kx ky=z at *
 obtain ⟨L,⟨zn,zd⟩,ze⟩:=z
 dsimp only at *
 have RA:=Lib.hid ra;have RB:=Lib.hid rb;have CO:=Lib.hid co
 obtain ⟨A,c,rfl⟩:=Zd ha
 obtain ⟨B,d,rfl⟩:=Zd hb
 clear ra rb co ha hb hl hm hx hy h8 h8'
 generalize l.length=ll at *
 generalize m.length=lm at *
 obtain ⟨xn,xd⟩:=kx
 obtain ⟨yn,yd⟩:=ky
 dsimp only at *
 obtain ⟨F,G,E,hb0⟩:=ZaG w (.slice A ll c) (.int .i64 xn) (.int .i64 xd) (.slice B lm d) (.int .i64 yn) (.int .i64 yd) (.slice none 0 0) (.int .i64 0) (.int .i64 0) 27
 go_enter Tryz.func57,Tryz.ntmps57
 go_wp2_with (first
  | (go_at_call 33;(first
    | (with_reducible refine (RA.out _ hb0).mono ?_);rintro e w1 ⟨rfl,hb1⟩;have F:=F.keep hb1;have G:=G.keep hb1;have E:=E.keep hb1;have b1:=hb0.trans (hb1.mono hb0.size);have k0:=F.k0;have k1:=F.k1;have k2:=F.k2;have m0:=G.k0;have m1:=G.k1;have m2:=G.k2
    | (with_reducible refine (RB.out _ b1).mono ?_);rintro e w2 ⟨rfl,hb2⟩;have F:=F.keep hb2;have G:=G.keep hb2;have E:=E.keep hb2;have b2:=b1.trans (hb2.mono b1.size);have k0:=F.k0;have k1:=F.k1;have k2:=F.k2;have m0:=G.k0;have m1:=G.k1;have m2:=G.k2;have elt:=E.lt))
  | (go_at_call 35;(with_reducible refine (CO.out _ b2).mono ?_);rintro e w3 hp3;obtain ⟨A3,c3,rfl,hv3,hb3,hf3⟩:=Zch hp3;clear hp3;have E:=E.keep hb3;have b3:=b2.trans (hb3.mono b2.size);have e0:=E.k0;have e1:=E.k1;have e2:=E.k2;have l0:=E.l0;have l1:=E.l1;have l2:=E.l2;have HV:=Lib.hid (And.intro hv3 (And.intro b3 (hf3.mono elt:Zs (w.heap.size+1+1+1) _)));clear hv3 hf3 hb3 b3))
 obtain ⟨c0,c1,c2⟩:=Zaj (x:=.slice A3 L.length c3) (y:=.int .i64 zn) (z:=.int .i64 zd) e0 e1 e2
 obtain ⟨r1,r2,r3⟩:=Zcg (w:=w) (kn:=zn) (kd:=zd) HV.out.1 HV.out.2.1 HV.out.2.2 (by omega) rfl
 exact bodyPost_ret (v:=.tuple #[.agg #[.slice A3 L.length c3,.int .i64 zn,.int .i64 zd],.int .i64 ze]) (by simp [results,Tryz.results57,go_sem,c0,c1,c2]) rfl ⟨_,rfl,r1,r2,r3⟩
end
section
open Go.RowKit
structure ScS (w wr:World) (s:Value) (xn xd bn bd:Int):Prop where
 F:FracBox wr w.heap.size s (.int .i64 xn) (.int .i64 xd)
 Q:RatAt wr (w.heap.size+1) bn bd
 c0:wr.cell? ⟨w.heap.size+1+1,0,none⟩=some (Zi wr ⟨w.heap.size+1+1,0,none⟩)
 c1:wr.cell? ⟨w.heap.size+1+1,1,none⟩=some (Zi wr ⟨w.heap.size+1+1,1,none⟩)
 c2:wr.cell? ⟨w.heap.size+1+1,2,none⟩=some (Zi wr ⟨w.heap.size+1+1,2,none⟩)
 l0:wr.frozen? ⟨w.heap.size+1+1,0,none⟩=false
 l1:wr.frozen? ⟨w.heap.size+1+1,1,none⟩=false
 l2:wr.frozen? ⟨w.heap.size+1+1,2,none⟩=false
 sz:w.heap.size+1+1<wr.heap.size
 below:Below w.heap.size w wr
section
variable {w wr w2:World} {s:Value} {xn xd bn bd:Int}
theorem ScS.keep (h:ScS w wr s xn xd bn bd) (hb:Below wr.heap.size wr w2):ScS w w2 s xn xd bn bd:=
 have z:=hb.size
 have q:=h.sz
 ⟨h.F.keep hb,h.Q.keep hb,ZJ (Zf hb q h.c0),ZJ (Zf hb q h.c1),ZJ (Zf hb q h.c2),Zu hb q h.l0,Zu hb q h.l1,Zu hb q h.l2,by omega,h.below.trans (hb.mono h.below.size)⟩
theorem ScS.set (h:ScS w wr s xn xd bn bd) (o:Nat) (x:Value):ScS w (wr.setCell ⟨w.heap.size+1+1,o,none⟩ x) s xn xd bn bd:=by
 have hb:Below (w.heap.size+1+1) wr (wr.setCell ⟨w.heap.size+1+1,o,none⟩ x):=(Below.refl (w.heap.size+1+1) wr).setCell (p:=⟨w.heap.size+1+1,o,none⟩) (Nat.le_refl _) x
 exact ⟨h.F.keepB hb (by omega),h.Q.keepB hb (by omega),Zap h.c0,Zap h.c1,Zap h.c2,by rw [World.frozen?_setCell];exact h.l0,by rw [World.frozen?_setCell];exact h.l1,by rw [World.frozen?_setCell];exact h.l2,by rw [World.size_setCell];exact h.sz,h.below.trans (hb.mono (by omega))⟩
theorem ScS.cells (h:ScS w wr s xn xd bn bd):((wr.cell? ⟨w.heap.size,0,none⟩=some s/\wr.cell? ⟨w.heap.size,1,none⟩=some (.int .i64 xn)/\wr.cell? ⟨w.heap.size,2,none⟩=some (.int .i64 xd))/\(wr.cell? ⟨w.heap.size+1+1,0,none⟩=some (Zi wr ⟨w.heap.size+1+1,0,none⟩)/\wr.cell? ⟨w.heap.size+1+1,1,none⟩=some (Zi wr ⟨w.heap.size+1+1,1,none⟩)/\wr.cell? ⟨w.heap.size+1+1,2,none⟩=some (Zi wr ⟨w.heap.size+1+1,2,none⟩))/\(wr.frozen? ⟨w.heap.size+1+1,0,none⟩=false/\wr.frozen? ⟨w.heap.size+1+1,1,none⟩=false/\wr.frozen? ⟨w.heap.size+1+1,2,none⟩=false))/\ScS w wr s xn xd bn bd:=
 ⟨⟨⟨h.F.k0,h.F.k1,h.F.k2⟩,⟨h.c0,h.c1,h.c2⟩,⟨h.l0,h.l1,h.l2⟩⟩,h⟩
theorem Zc7 {A:Prop} (h:A/\ScS w wr s xn xd bn bd):ScS w wr s xn xd bn bd:=h.2
theorem ScS.three (h:ScS w wr s xn xd bn bd) (x y z:Value):(((wr.setCell ⟨w.heap.size+1+1,0,none⟩ x).setCell ⟨w.heap.size+1+1,1,none⟩ y).setCell ⟨w.heap.size+1+1,2,none⟩ z).cell? ⟨w.heap.size+1+1,0,none⟩=some x/\(((wr.setCell ⟨w.heap.size+1+1,0,none⟩ x).setCell ⟨w.heap.size+1+1,1,none⟩ y).setCell ⟨w.heap.size+1+1,2,none⟩ z).cell? ⟨w.heap.size+1+1,1,none⟩=some y/\(((wr.setCell ⟨w.heap.size+1+1,0,none⟩ x).setCell ⟨w.heap.size+1+1,1,none⟩ y).setCell ⟨w.heap.size+1+1,2,none⟩ z).cell? ⟨w.heap.size+1+1,2,none⟩=some z:=
 Zaj h.c0 h.c1 h.c2
theorem ScS.start (w:World) (s:Value) (xn xd bn bd:Int) (ty ty':TypeId):ScS w (((w.alloc (.cells #[s,.int .i64 xn,.int .i64 xd] ty)).alloc (.cells #[.int .i64 bn,.int .i64 bd] ty')).alloc (.cells #[.slice none 0 0,.int .i64 0,.int .i64 0] ty)) s xn xd bn bd:=by
 have F:=FracBox.start w s (.int .i64 xn) (.int .i64 xd) ty
 have a1:=Za (w.alloc (.cells #[s,.int .i64 xn,.int .i64 xd] ty)) (.cells #[.int .i64 bn,.int .i64 bd] ty')
 have Q:=RatAt.start (w.alloc (.cells #[s,.int .i64 xn,.int .i64 xd] ty)) bn bd ty'
 have a2:=Za ((w.alloc (.cells #[s,.int .i64 xn,.int .i64 xd] ty)).alloc (.cells #[.int .i64 bn,.int .i64 bd] ty')) (.cells #[.slice none 0 0,.int .i64 0,.int .i64 0] ty)
 have G:=FracBox.start ((w.alloc (.cells #[s,.int .i64 xn,.int .i64 xd] ty)).alloc (.cells #[.int .i64 bn,.int .i64 bd] ty')) (.slice none 0 0) (.int .i64 0) (.int .i64 0) ty
 rw [World.size_alloc] at Q
 rw [World.size_alloc,World.size_alloc] at G
 exact ⟨(F.keep a1).keep a2,Q.keep a2,ZJ G.k0,ZJ G.k1,ZJ G.k2,G.l0,G.l1,G.l2,G.lt,(ZI w _ _).trans (a2.mono (by simp;omega))⟩
end
theorem Zlz (w:World) (va:Value) (l:List (Int×Int)) (kx kb:Int×Int) (ha:Zb w va l) (hl:ZF l) (hx:OkR kx) (hb:OkR kb) (h8:l.length<=8) :
  Calls Tryz.prog 13 #[.agg #[va,.int .i64 kx.1,.int .i64 kx.2],Ze kb.1 kb.2] w (ZaS w (Za3 (Zx kb) l [] kx (0,1)).1 (Za3 (Zx kb) l [] kx (0,1)).2.1 (Za3 (Zx kb) l [] kx (0,1)).2.2):=by
 have ra:=fun (w':World) (h:Below w.heap.size w w')=>ZbN w' va l kx.1 kx.2 (ha.below h) hl.wide hx.wide.1.1 hx.wide.1.2 hx.wide.2.1 hx.wide.2.2
 rw [ZaA h8 hl hx] at ra
 have rb:=fun (w':World)=>Zef kb.1 kb.2 w' hb.wide.1.1 hb.wide.1.2 hb.wide.2.1 hb.wide.2.2
 rw [hb.right] at rb
 have co:=fun (w':World) (hq:RatAt w' (w.heap.size+1) kb.1 kb.2) (hr:Zb w' va l)=>show Calls Tryz.prog 35 #[.agg #[va,.int .i64 kx.1,.int .i64 kx.2],.agg #[.slice none 0 0,.int .i64 0,.int .i64 1],.func (.func 37) #[] #[.pointer (some ⟨w.heap.size+1,0,none⟩)]] w' (ZaS w' (Za3 (Zx kb) l [] kx (0,1)).1 (Za3 (Zx kb) l [] kx (0,1)).2.1 (Za3 (Zx kb) l [] kx (0,1)).2.2) by
  have hn:ZF []:=fun x hx=>by cases hx
  have hw:∀ w2,Below w'.heap.size w' w2->∀ x y,OkR x->OkR y->Calls Tryz.prog 37 #[Ze x.1 x.2,Ze y.1 y.2,.pointer (some ⟨w.heap.size+1,0,none⟩)] w2 fun r w3=>r=.returned (.tuple #[Ze (Zx kb x y).1.1 (Zx kb x y).1.2,.int .i64 (Zx kb x y).2])/\Below w2.heap.size w2 w3:=
   fun w2 hb2 x y ox _=>Zod w2 x y kb (w.heap.size+1) ox hb (hq.keep hb2)
  unfold Za3
  split
  ·rename_i g
   exact Zkf w' va (.slice none 0 0) l [] kx (0,1) hr (Zb.nil w') hl hn hx Zah h8 (by simp) (Zx kb) _ hw g.1 g.2
  ·rename_i g
   exact Zke w' va (.slice none 0 0) l [] kx (0,1) hr (Zb.nil w') hl hn hx Zah h8 (by simp) (Zx kb) (Zcl hb) _ hw g
 generalize Za3 (Zx kb) l [] kx (0,1)=z at *
 obtain ⟨L,⟨zn,zd⟩,ze⟩:=z
 dsimp only at *
 have RA:=Lib.hid ra;have RB:=Lib.hid rb;have CO:=Lib.hid co;have HA:=Lib.hid ha;have ZE:=Lib.hid ZpZ
 obtain ⟨A,c,rfl⟩:=Zd ha
 clear ra rb co ha hl hx hb h8
 generalize l.length=ll at *
 obtain ⟨xn,xd⟩:=kx
 obtain ⟨bn,bd⟩:=kb
 dsimp only at *
 have H:=ScS.start w (.slice A ll c) xn xd bn bd 27 25
 go_enter Tryz.func13,Tryz.ntmps13
 go_upto_region 3 with (first
  | (go_at_call 33;(with_reducible refine (RA.out _ H.below).mono ?_);rintro e w1 ⟨rfl,hb1⟩;have H:=H.keep hb1;have q0:=H.Q.k0;have q1:=H.Q.k1)
  | (go_at_call 34;(with_reducible refine (RB.out _).mono ?_);rintro e w2 ⟨rfl,hb2⟩;have H:=H.keep hb2))
 have HS:=(H.keep (Zq _)).cells
 clear H hb1 hb2 q0 q1
 refine wp_region_noPanic ?_
 refine wp_region_held_drew (S:=(fun w'=>((w'.cell? ⟨w.heap.size,0,none⟩=some (.slice A ll c)/\w'.cell? ⟨w.heap.size,1,none⟩=some (.int .i64 xn)/\w'.cell? ⟨w.heap.size,2,none⟩=some (.int .i64 xd))/\(w'.cell? ⟨w.heap.size+1+1,0,none⟩=some (Zi w' ⟨w.heap.size+1+1,0,none⟩)/\w'.cell? ⟨w.heap.size+1+1,1,none⟩=some (Zi w' ⟨w.heap.size+1+1,1,none⟩)/\w'.cell? ⟨w.heap.size+1+1,2,none⟩=some (Zi w' ⟨w.heap.size+1+1,2,none⟩))/\(w'.frozen? ⟨w.heap.size+1+1,0,none⟩=false/\w'.frozen? ⟨w.heap.size+1+1,1,none⟩=false/\w'.frozen? ⟨w.heap.size+1+1,2,none⟩=false))/\ScS w w' (.slice A ll c) xn xd bn bd)) (by kernel_rfl) HS (fun hHeld=>?_)
 clear HS
 refine tk 0 rfl ?_
 refine tk 2 rfl ?_
 (try simp only [cl,Act.put])
 refine rd 1 rfl fun K hK=>?_
 go_simp
 (first
  | (go_at_call 36;(with_reducible refine (ZE.out _).mono ?_);rintro e w4 ⟨rfl,hb⟩)
  | (go_at_call 35;(with_reducible refine (CO.out _ (Zc7 (by with_reducible assumption)).Q (HA.out.below (Zc7 (by with_reducible assumption)).below)).mono ?_);rintro e w5 hp5;obtain ⟨A5,c5,rfl,hv5,hb,hf5⟩:=Zch hp5;clear hp5;have HV5:=Lib.hid (And.intro hv5 (hf5.mono (Zc7 (by with_reducible assumption)).sz:Zs (w.heap.size+1+1+1) _));clear hv5 hf5))
 go_wp2_with fail
 refine hK.out _ _ (((Zc7 (by with_reducible assumption)).keep (by with_reducible assumption)).cells) (fun hH2=>?_)
 clear hK K hHeld hb;have hHeld:=hH2;clear hH2
 (try simp only [cl,Act.put])
 refine rd 3 rfl fun K hK=>?_
 go_simp
 (first
  | (go_at_call 36;(with_reducible refine (ZE.out _).mono ?_);rintro e w4 ⟨rfl,hb⟩)
  | (go_at_call 35;(with_reducible refine (CO.out _ (Zc7 (by with_reducible assumption)).Q (HA.out.below (Zc7 (by with_reducible assumption)).below)).mono ?_);rintro e w5 hp5;obtain ⟨A5,c5,rfl,hv5,hb,hf5⟩:=Zch hp5;clear hp5;have HV5:=Lib.hid (And.intro hv5 (hf5.mono (Zc7 (by with_reducible assumption)).sz:Zs (w.heap.size+1+1+1) _));clear hv5 hf5))
 go_wp2_with fail
 refine hK.out _ _ (((Zc7 (by with_reducible assumption)).keep (by with_reducible assumption)).cells) (fun hH2=>?_)
 clear hK K hHeld hb;have hHeld:=hH2;clear hH2
 (try simp only [cl,Act.put])
 refine tk 4 rfl ?_
 refine tk 5 rfl ?_
 (try simp only [cl,Act.put])
 refine rd 6 rfl fun K hK=>?_
 go_simp
 refine hK.out _ _ ?_ (fun hH2=>?_)
 ·exact (((Zc7 (by with_reducible assumption)).set _ _).set _ _ |>.set _ _).cells
 clear hK K hHeld;have hHeld:=hH2;clear hH2
 (try simp only [cl,Act.put])
 refine tk 7 rfl ?_
 (try simp only [cl,Act.put])
 refine wpAnyH_done (by kernel_rfl) ?_ _
 refine NoPanic.normal ?_
 go_wp2_with fail
 have h0:=(Zc7 hHeld).c0;have h1:=(Zc7 hHeld).c1;have h2:=(Zc7 hHeld).c2;have hB:=Lib.hid (Zc7 hHeld).below
 obtain ⟨c0,c1,c2⟩:=Zek h0 h1 h2
 rw [c0] at h0;rw [c1] at h1;rw [c2] at h2
 refine bodyPost_ret (v:=.tuple #[.agg #[.slice A5 L.length c5,.int .i64 zn,.int .i64 zd],.int .i64 ze]) (by simp [results,Tryz.results13,go_sem,h0,h1,h2]) rfl ⟨_,rfl,?_,hB.out,HV5.out.2.mono (by omega)⟩
 exact (((HV5.out.1.setCell HV5.out.2 (Nat.lt_succ_self _) _).setCell HV5.out.2 (Nat.lt_succ_self _) _).setCell HV5.out.2 (Nat.lt_succ_self _) _)
theorem ZnK (w:World) (va vb:Value) (l m:List (Int×Int)) (xn xd yn yd:Int) (ha:Zb w va l) (hb:Zb w vb m) (hw:Zv l) (hw':Zv m) (x1:-9223372036854775808<=xn) (x2:xn<=9223372036854775807) (x3:-9223372036854775808<=xd) (x4:xd<=9223372036854775807)
  (y1:-9223372036854775808<=yn) (y2:yn<=9223372036854775807) (y3:-9223372036854775808<=yd) (y4:yd<=9223372036854775807) (hr:ZO l xn xd=false\/(ZO l xn xd=true/\ZO m yn yd=false)) :
  Calls Tryz.prog 57 #[.agg #[va,.int .i64 xn,.int .i64 xd],.agg #[vb,.int .i64 yn,.int .i64 yd]] w (ZaS w [] (0,0) 2):=by
 have ra:=fun (w':World) (h:Below w.heap.size w w')=>ZbN w' va l xn xd (ha.below h) hw x1 x2 x3 x4
 have rb:=fun (w':World) (h:Below w.heap.size w w')=>ZbN w' vb m yn yd (hb.below h) hw' y1 y2 y3 y4
 obtain ⟨A,c,rfl⟩:=Zd ha
 obtain ⟨B,d,rfl⟩:=Zd hb
 rcases hr with hr | ⟨hr,hr'⟩
 ·rw [hr] at ra
  have RA:=Lib.hid ra
  clear ra rb ha hb hw hw' x1 x2 x3 x4 y1 y2 y3 y4 hr
  generalize l.length=ll at *
  generalize m.length=lm at *
  obtain ⟨F,G,E,hb0⟩:=ZaG w (.slice A ll c) (.int .i64 xn) (.int .i64 xd) (.slice B lm d) (.int .i64 yn) (.int .i64 yd) (.slice none 0 0) (.int .i64 0) (.int .i64 0) 27
  go_enter Tryz.func57,Tryz.ntmps57
  go_wp2_with (go_at_call 33;(with_reducible refine (RA.out _ hb0).mono ?_);rintro e w1 ⟨rfl,hb1⟩;have E:=E.keep hb1;have b1:=Lib.hid (hb0.trans (hb1.mono hb0.size));have e0:=E.k0;have e1:=E.k1;have e2:=E.k2;have l0:=E.l0;have l1:=E.l1;have l2:=E.l2)
  obtain ⟨c0,c1,c2⟩:=Zaj (x:=.slice none 0 0) (y:=.int .i64 0) (z:=.int .i64 0) e0 e1 e2
  obtain ⟨r1,r2,r3⟩:=Zcg (w:=w) (b:=w.heap.size+1+1) (kn:=0) (kd:=0) (Zb.nil w1) b1.out (Zs.none_ _ _ _) (by omega) rfl
  exact bodyPost_ret (v:=.tuple #[.agg #[.slice none 0 0,.int .i64 0,.int .i64 0],.int .i64 2]) (by simp [results,Tryz.results57,go_sem,c0,c1,c2]) rfl ⟨_,rfl,r1,r2,r3⟩
 ·rw [hr] at ra
  rw [hr'] at rb
  have RA:=Lib.hid ra;have RB:=Lib.hid rb
  clear ra rb ha hb hw hw' x1 x2 x3 x4 y1 y2 y3 y4 hr hr'
  generalize l.length=ll at *
  generalize m.length=lm at *
  obtain ⟨F,G,E,hb0⟩:=ZaG w (.slice A ll c) (.int .i64 xn) (.int .i64 xd) (.slice B lm d) (.int .i64 yn) (.int .i64 yd) (.slice none 0 0) (.int .i64 0) (.int .i64 0) 27
  go_enter Tryz.func57,Tryz.ntmps57
  go_wp2_with (go_at_call 33;(first
    | (with_reducible refine (RA.out _ hb0).mono ?_);rintro e w1 ⟨rfl,hb1⟩;have G:=G.keep hb1;have E:=E.keep hb1;have b1:=hb0.trans (hb1.mono hb0.size);have m0:=G.k0;have m1:=G.k1;have m2:=G.k2
    | (with_reducible refine (RB.out _ b1).mono ?_);rintro e w2 ⟨rfl,hb2⟩;have E:=E.keep hb2;have b2:=Lib.hid (b1.trans (hb2.mono b1.size));have e0:=E.k0;have e1:=E.k1;have e2:=E.k2;have l0:=E.l0;have l1:=E.l1;have l2:=E.l2))
  obtain ⟨c0,c1,c2⟩:=Zaj (x:=.slice none 0 0) (y:=.int .i64 0) (z:=.int .i64 0) e0 e1 e2
  obtain ⟨r1,r2,r3⟩:=Zcg (w:=w) (b:=w.heap.size+1+1) (kn:=0) (kd:=0) (Zb.nil w2) b2.out (Zs.none_ _ _ _) (by omega) rfl
  exact bodyPost_ret (v:=.tuple #[.agg #[.slice none 0 0,.int .i64 0,.int .i64 0],.int .i64 2]) (by simp [results,Tryz.results57,go_sem,c0,c1,c2]) rfl ⟨_,rfl,r1,r2,r3⟩
theorem ZlA (w:World) (va:Value) (l:List (Int×Int)) (xn xd bn bd:Int) (ha:Zb w va l) (hw:Zv l) (x1:-9223372036854775808<=xn) (x2:xn<=9223372036854775807) (x3:-9223372036854775808<=xd) (x4:xd<=9223372036854775807)
  (y1:-9223372036854775808<=bn) (y2:bn<=9223372036854775807) (y3:-9223372036854775808<=bd) (y4:bd<=9223372036854775807) (hr:ZO l xn xd=false\/(ZO l xn xd=true/\Zas bn bd=false)) :
  Calls Tryz.prog 13 #[.agg #[va,.int .i64 xn,.int .i64 xd],Ze bn bd] w (ZaS w [] (0,0) 2):=by
 have ra:=fun (w':World) (h:Below w.heap.size w w')=>ZbN w' va l xn xd (ha.below h) hw x1 x2 x3 x4
 have rb:=fun (w':World)=>Zef bn bd w' y1 y2 y3 y4
 obtain ⟨A,c,rfl⟩:=Zd ha
 have H:=ScS.start w (.slice A l.length c) xn xd bn bd 27 25
 rcases hr with hr | ⟨hr,hr'⟩
 ·rw [hr] at ra
  have RA:=Lib.hid ra
  clear ra rb ha hw x1 x2 x3 x4 y1 y2 y3 y4 hr
  generalize l.length=ll at *
  go_enter Tryz.func13,Tryz.ntmps13
  go_wp2_with (go_at_call 33;(with_reducible refine (RA.out _ H.below).mono ?_);rintro e w1 ⟨rfl,hb1⟩;have H:=H.keep hb1;have e0:=H.c0;have e1:=H.c1;have e2:=H.c2;have l0:=H.l0;have l1:=H.l1;have l2:=H.l2;have b1:=Lib.hid H.below)
  obtain ⟨c0,c1,c2⟩:=Zaj (x:=.slice none 0 0) (y:=.int .i64 0) (z:=.int .i64 0) e0 e1 e2
  obtain ⟨r1,r2,r3⟩:=Zcg (w:=w) (b:=w.heap.size+1+1) (kn:=0) (kd:=0) (Zb.nil w1) b1.out (Zs.none_ _ _ _) (by omega) rfl
  exact bodyPost_ret (v:=.tuple #[.agg #[.slice none 0 0,.int .i64 0,.int .i64 0],.int .i64 2]) (by simp [results,Tryz.results13,go_sem,c0,c1,c2]) rfl ⟨_,rfl,r1,r2,r3⟩
 ·rw [hr] at ra
  rw [hr'] at rb
  have RA:=Lib.hid ra;have RB:=Lib.hid rb
  clear ra rb ha hw x1 x2 x3 x4 y1 y2 y3 y4 hr hr'
  generalize l.length=ll at *
  go_enter Tryz.func13,Tryz.ntmps13
  go_wp2_with (first
   | (go_at_call 33;(with_reducible refine (RA.out _ H.below).mono ?_);rintro e w1 ⟨rfl,hb1⟩;have H:=H.keep hb1;have q0:=H.Q.k0;have q1:=H.Q.k1)
   | (go_at_call 34;(with_reducible refine (RB.out _).mono ?_);rintro e w2 ⟨rfl,hb2⟩;have H:=H.keep hb2;have e0:=H.c0;have e1:=H.c1;have e2:=H.c2;have l0:=H.l0;have l1:=H.l1;have l2:=H.l2;have b1:=Lib.hid H.below))
  obtain ⟨c0,c1,c2⟩:=Zaj (x:=.slice none 0 0) (y:=.int .i64 0) (z:=.int .i64 0) e0 e1 e2
  obtain ⟨r1,r2,r3⟩:=Zcg (w:=w) (b:=w.heap.size+1+1) (kn:=0) (kd:=0) (Zb.nil w2) b1.out (Zs.none_ _ _ _) (by omega) rfl
  exact bodyPost_ret (v:=.tuple #[.agg #[.slice none 0 0,.int .i64 0,.int .i64 0],.int .i64 2]) (by simp [results,Tryz.results13,go_sem,c0,c1,c2]) rfl ⟨_,rfl,r1,r2,r3⟩
end
section
open Go.RowKit
theorem ZaJ {w1:World} {b:Nat} {x y u0 u1:Value} (h0:w1.cell? ⟨b,0,none⟩=some u0) (h1:w1.cell? ⟨b,1,none⟩=some u1) :
  ((w1.setCell ⟨b,0,none⟩ x).setCell ⟨b,1,none⟩ y).cell? ⟨b,0,none⟩=some x/\((w1.setCell ⟨b,0,none⟩ x).setCell ⟨b,1,none⟩ y).cell? ⟨b,1,none⟩=some y:=by
 obtain ⟨v0,g0⟩:=cell?_setCell_some (p:=⟨b,1,none⟩) (x:=y) (cell?_setCell_some (p:=⟨b,0,none⟩) (x:=x) h0).choose_spec
 obtain ⟨v1,g1⟩:=cell?_setCell_some (p:=⟨b,1,none⟩) (x:=y) (cell?_setCell_some (p:=⟨b,0,none⟩) (x:=x) h1).choose_spec
 have e0:=g0
 rw [ZfL (by decide)] at e0
 exact ⟨g0.trans (congrArg some (ZbA e0)),g1.trans (congrArg some (ZbA g1))⟩
theorem ZaX (w:World) (v:Value) (l:List (Int×Int)) (kn kd i:Int) (h:Zb w v l) :
  Calls Tryz.prog 41 #[.agg #[v,.int .i64 kn,.int .i64 kd],.int .i64 i] w fun r w'=>r=.returned (Ze (atL l i).1 (atL l i).2)/\Below w.heap.size w w':=by
 obtain ⟨A,c,rfl,h2,h3,h4⟩:=h
 have hb0:=ZI w (.cells #[.slice A l.length c,.int .i64 kn,.int .i64 kd] 27) (.cells #[.int .i64 0,.int .i64 0] 25)
 have R:=RatAt.start (w.alloc (.cells #[.slice A l.length c,.int .i64 kn,.int .i64 kd] 27)) 0 0 25
 rw [World.size_alloc] at R
 have ze:=Lib.hid ZoH
 by_cases hi:i<0
 ·rw [Zbt (.inl hi)]
  have d1:decide (i<0)=true:=decide_eq_true hi
  clear h2 h3 h4
  generalize l.length=n at *
  go_enter Tryz.func41,Tryz.ntmps41
  go_wp2_with (go_at_call 82;(with_reducible refine (ze.out _).mono ?_);rintro e w1 ⟨rfl,hb⟩;have B1:=Lib.hid (hb0.trans (hb.mono hb0.size));have k0:=(Zf hb R.lt R.k0);have k1:=(Zf hb R.lt R.k1);have f0:w1.frozen? ⟨w.heap.size+1,0,none⟩=false:=Zu hb R.lt (by go_simp);have f1:w1.frozen? ⟨w.heap.size+1,1,none⟩=false:=Zu hb R.lt (by go_simp))
  obtain ⟨c0,c1⟩:=ZaJ (x:=.int .i64 0) (y:=.int .i64 1) k0 k1
  exact bodyPost_ret (v:=Ze 0 1) (by simp [results,Tryz.results41,go_sem,c0,c1]) rfl ⟨rfl,(B1.out.setCell (by show w.heap.size<=w.heap.size+1;omega) _).setCell (by show w.heap.size<=w.heap.size+1;omega) _⟩
 ·have d1:decide (i<0)=false:=decide_eq_false hi
  by_cases hl:(l.length:Int)<=i
  ·rw [Zbt (.inr hl)]
   have d2:decide ((l.length:Int)<=i)=true:=decide_eq_true hl
   clear h2 h3 h4
   generalize l.length=n at *
   go_enter Tryz.func41,Tryz.ntmps41
   go_wp2_with (go_at_call 82;(with_reducible refine (ze.out _).mono ?_);rintro e w1 ⟨rfl,hb⟩;have B1:=Lib.hid (hb0.trans (hb.mono hb0.size));have k0:=(Zf hb R.lt R.k0);have k1:=(Zf hb R.lt R.k1);have f0:w1.frozen? ⟨w.heap.size+1,0,none⟩=false:=Zu hb R.lt (by go_simp);have f1:w1.frozen? ⟨w.heap.size+1,1,none⟩=false:=Zu hb R.lt (by go_simp))
   obtain ⟨c0,c1⟩:=ZaJ (x:=.int .i64 0) (y:=.int .i64 1) k0 k1
   exact bodyPost_ret (v:=Ze 0 1) (by simp [results,Tryz.results41,go_sem,c0,c1]) rfl ⟨rfl,(B1.out.setCell (by show w.heap.size<=w.heap.size+1;omega) _).setCell (by show w.heap.size<=w.heap.size+1;omega) _⟩
  ·obtain ⟨k,rfl⟩:∃ k:Nat,i=k:=⟨i.toNat,by omega⟩
   have hk:k<l.length:=by omega
   obtain ⟨x,hx⟩:∃ x,l[k]? = some x:=⟨_,List.getElem?_eq_getElem hk⟩
   rw [ZcT hx]
   obtain ⟨ad,rfl,d3,d4⟩:=Za8 h4 hb0 hx (by omega)
   have d2:decide ((l.length:Int)<=(k:Int))=false:=decide_eq_false hl
   have i1:(k:Int)<(l.length:Int):=by omega
   have i2:(0:Int)<=(k:Int):=by omega
   clear h2 h3 h4 hx hi hl hk ze R
   generalize l.length=n at *
   go_enter Tryz.func41,Tryz.ntmps41
   go_wp2_with fail
   exact bodyPost_ret (v:=Ze x.1 x.2) (by simp [results,Tryz.results41,go_sem]) rfl ⟨rfl,(ZI _ _ _)⟩
theorem ZnN (l:List (Int×Int)):l.take (Zw l).length=Zw l:=by
 have h:Zw l <+: l:=by
  unfold Zw
  have:=List.reverse_prefix.2 (List.dropWhile_suffix (fun x:Int×Int=>x.1==0) (l:=l.reverse))
  rwa [List.reverse_reverse] at this
 exact (List.prefix_iff_eq_take.1 h).symm
theorem ZoW {l:List (Int×Int)} {k:Nat} {x:Int×Int} (hx:l[k]? = some x):(Zw (l.take (k+1))).length=if x.1=0 then (Zw (l.take k)).length else k+1:=by
 have hl:k<l.length:=by
  rcases Nat.lt_or_ge k l.length with g | g
  ·exact g
  ·rw [List.getElem?_eq_none g] at hx;cases hx
 have et:l.take (k+1)=l.take k++[x]:=by
  have e:l[k]=x:=by rw [List.getElem?_eq_getElem hl] at hx;exact Option.some.inj hx
  rw [<- e,<- List.take_succ_eq_append_getElem hl]
 rw [et,Zgu]
 split
 ·rfl
 ·rw [<- et,List.length_take]
  omega
theorem ZhN {wx w5:World} (hg:(wx.drew.alloc (.cells #[] 25)).grownBy w5 (Value.slice (some ⟨wx.heap.size,0,none⟩) 0 0).ownBlock):Below wx.heap.size wx w5:=
 ((Zq wx).trans (Za wx.drew _)).grown hg (by simp) (fun q hq=>by
   have e:wx.heap.size=q:=by simpa [Value.ownBlock] using hq
   omega)
theorem Zev (w:World) (v:Value) (l:List (Int×Int)) (kn kd:Int) (h:Zb w v l) (hw:Zv l) (h1:-9223372036854775808<=kn) (h2:kn<=9223372036854775807) (h3:-9223372036854775808<=kd) (h4:kd<=9223372036854775807) (hr:ZO l kn kd=true) :
  Calls Tryz.prog 42 #[.agg #[v,.int .i64 kn,.int .i64 kd]] w (Zqb w (Zw l) kn kd):=by
 obtain ⟨i0,hi,hz0,hz1,hz2⟩:=info_parts ZdA
 have hl8:l.length<=8:=by
  unfold ZO at hr
  simp only [Bool.and_eq_true,decide_eq_true_eq] at hr
  exact hr.1.1
 have rt:=fun (w':World) (hb:Below w.heap.size w w')=>ZaP w' v l kn kd (h.below hb) hw h1 h2 h3 h4
 rw [hr] at rt
 obtain ⟨A,c,rfl,g2,g3,g4⟩:=id h
 unfold maxLen at g3
 obtain ⟨n,hn⟩:∃ n,n=l.length:=⟨_,rfl⟩
 have htn:=Zhn l
 have HSt:=Zor w A n c kn kd
 rw [<- hn] at rt g2 g4 htn hl8 ⊢
 have HN:=Lib.hid (And.intro hn (And.intro htn (And.intro g2 (And.intro g3 hl8))))
 have G4:=Lib.hid g4
 have RT:=Lib.hid rt
 have hb0:=ZI w (.cells #[.slice A n c,.int .i64 kn,.int .i64 kd] 27) (.cells #[.slice none 0 0,.int .i64 0,.int .i64 0] 27)
 clear h hw h1 h2 h3 h4 hr hl8 rt hn htn g2 g3 g4
 go_enter Tryz.func42,Tryz.ntmps42
 go_upto_region 3 with (go_at_call 30;(with_reducible refine (RT.out _ hb0).mono ?_);rintro e w1 ⟨rfl,hb⟩)
 have HS1:=ZdQ hb HSt
 have HSX:=Lib.hid HS1
 have k0:=HS1.1.1
 have B1:=Lib.hid HS1.2.2.1
 clear hb0 hb HSt HS1
 go_wp2_with fail
 go_loopg [3,4] n (fun g v3 v4 wx=>w1=wx/\∃ k:Nat,k<=n/\g=n-k/\v4=.int .i64 k/\v3=.int .i64 ((Zw (l.take k)).length:Nat))
 case atStart=>exact ⟨rfl,0,Nat.zero_le _,rfl,rfl,by rw [List.take_zero];rfl⟩
 case round=>
  obtain ⟨rfl,k,hk,hg,rfl,rfl⟩:=hrel
  by_cases hkn:k=n
  ·have hlt:l.take k=l:=by rw [hkn,HN.out.1];exact List.take_length
   rw [hlt]
   subst hkn
   have rd:ZB w1 w1.heap.size 2 A (Zw l).length (Zr (Zw l)):=by
    have:=Zb.take (w:=w1) HN.out.1.symm HN.out.2.2.1 (by have:=HN.out.2.2.2.1;unfold maxLen;omega) ((G4.out.below B1.out).more B1.out.size) HN.out.2.1
    rw [ZnN] at this
    obtain ⟨A',c',e,_,_,h4⟩:=this
    injection e with e1 e2 e3
    rw [e1]
    exact h4
   obtain ⟨j,hj⟩:∃ j,j=(Zw l).length:=⟨_,rfl⟩
   rw [<- hj] at rd ⊢
   have HJ:=Lib.hid (And.intro hj (show j<=8 by have:=HN.out.2.1;have:=HN.out.2.2.2.2;omega))
   have RD:=Lib.hid rd
   have j1:(j:Int)<=(c:Int):=by have:=HN.out;omega
   have j2:(0:Int)<=(j:Int):=by omega
   obtain ⟨wx,hwx⟩:∃ wx,wx=w1:=⟨_,rfl⟩
   subst hwx
   have HS:=ZdQ (Zq _) HSX.out
   have i1:¬ (k:Int)<(k:Int):=by omega
   clear hk hg hlt rd hj
   go_upto_region 9 with fail
   rcases A with _ | ad
   ·have hk0:k=0:=by
     rcases Nat.eq_zero_or_pos k with g | g
     ·exact g
     ·obtain ⟨_,e,_⟩:=G4.out.2 g
      cases e
    have hj0:j=0:=by have:=HJ.out.1;have:=HN.out.2.1;omega
    subst hk0
    subst hj0
    refine wp_region_noPanic ?_
    refine wp_region_held_drew (S:=(fun w'=>(w'.cell? ⟨w.heap.size,0,none⟩=some (.slice none 0 c)/\w'.cell? ⟨w.heap.size,1,none⟩=some (.int .i64 kn)/\w'.cell? ⟨w.heap.size,2,none⟩=some (.int .i64 kd))/\w.heap.size+1<w'.heap.size/\Below w.heap.size w w'/\(w'.cell? ⟨w.heap.size+1,0,none⟩=some (Zi w' ⟨w.heap.size+1,0,none⟩)/\w'.cell? ⟨w.heap.size+1,1,none⟩=some (Zi w' ⟨w.heap.size+1,1,none⟩)/\w'.cell? ⟨w.heap.size+1,2,none⟩=some (Zi w' ⟨w.heap.size+1,2,none⟩))/\(w'.frozen? ⟨w.heap.size+1,0,none⟩=false/\w'.frozen? ⟨w.heap.size+1,1,none⟩=false/\w'.frozen? ⟨w.heap.size+1,2,none⟩=false))) (by kernel_rfl) HS (fun hHeld=>?_)
    refine tk 1 rfl ?_
    refine tk 2 rfl ?_
    refine tk 3 rfl ?_
    refine tk 4 rfl ?_
    refine tk 6 rfl ?_
    refine tk 7 rfl ?_
    (try simp only [cl,Act.put])
    refine rd 0 rfl fun K hK=>?_
    go_simp
    refine hK.out _ _ (ZdQ (Za _ _) (by with_reducible assumption)) (fun hH2=>?_)
    clear hK K hHeld
    have hHeld:=hH2
    clear hH2
    (try simp only [cl,Act.put])
    refine rd 5 rfl fun K hK=>?_
    refine Zab _ rfl _ _ 23 rfl wx.heap.size 25 i0 (.agg #[.int .i64 0,.int .i64 0]) 2 16 Tryz.underlying23 hi hz0 hz1 hz2 rfl (by decide) _ 0 [] rfl (ZjR wx.drew) wx.heap.size none _ c (Zr (Zw l)) rfl (RD.out.alloc (Nat.le_refl _) _) ?c2 ?c3 ?c4 ?c5 ?_
    case c2=>exact ZeO _
    case c3=>have:=HJ.out;unfold maxLen;omega
    case c4=>have:=HJ.out;omega
    case c5=>simp
    intro v' w5 hown hgrow _
    rw [Nat.zero_add,List.nil_append] at hown
    have b5:Below wx.heap.size wx w5:=(ZhN hgrow)
    have hv5:Zb w5 v' (Zw l):=Zdj (base:=wx.heap.size) (by have e:=HJ.out.1;rw [<- e];exact hown)
    have hf5:Zs wx.heap.size v':=fun q hq=>Zg6 hown hq
    obtain ⟨A5,c5,rfl⟩:=Zd hv5
    have HV5:=Lib.hid (And.intro hv5 hf5)
    refine hK.out _ _ (ZdQ b5 HSX.out) (fun hH2=>?_)
    clear hK K hHeld hown hgrow b5 hv5 hf5
    have hHeld:=hH2
    clear hH2
    (try simp only [cl,Act.put])
    refine tk 8 rfl ?_
    (try simp only [cl,Act.put])
    refine rd 9 rfl fun K hK=>?_
    go_simp
    refine hK.out _ _ ?_ (fun hH2=>?_)
    ·exact ZdW (ZdW (ZdW (by with_reducible assumption)))
    clear hK K hHeld;have hHeld:=hH2;clear hH2
    (try simp only [cl,Act.put])
    refine wpAnyH_done (by kernel_rfl) ?_ _
    refine NoPanic.normal ?_
    go_wp2_with fail
    obtain ⟨c0,c1,c2,hB⟩:=ZeU (w:=w) rfl (by with_reducible assumption)
    have f3:Zs (w.heap.size+2) (.slice A5 (Zw l).length c5):=HV5.out.2.mono HSX.out.2.1
    refine bodyPost_ret (v:=.agg #[.slice A5 (Zw l).length c5,.int .i64 kn,.int .i64 kd]) (by simp [results,Tryz.results42,go_sem,c0,c1,c2]) rfl ⟨_,rfl,?_,hB,f3.mono (by omega)⟩
    exact (((HV5.out.1.setCell f3 (by show w.heap.size+1<_;omega) _).setCell f3 (by show w.heap.size+1<_;omega) _).setCell f3 (by show w.heap.size+1<_;omega) _)
   ·skip
    refine wp_region_noPanic ?_
    refine wp_region_held_drew (S:=(fun w'=>(w'.cell? ⟨w.heap.size,0,none⟩=some (.slice (some ad) k c)/\w'.cell? ⟨w.heap.size,1,none⟩=some (.int .i64 kn)/\w'.cell? ⟨w.heap.size,2,none⟩=some (.int .i64 kd))/\w.heap.size+1<w'.heap.size/\Below w.heap.size w w'/\(w'.cell? ⟨w.heap.size+1,0,none⟩=some (Zi w' ⟨w.heap.size+1,0,none⟩)/\w'.cell? ⟨w.heap.size+1,1,none⟩=some (Zi w' ⟨w.heap.size+1,1,none⟩)/\w'.cell? ⟨w.heap.size+1,2,none⟩=some (Zi w' ⟨w.heap.size+1,2,none⟩))/\(w'.frozen? ⟨w.heap.size+1,0,none⟩=false/\w'.frozen? ⟨w.heap.size+1,1,none⟩=false/\w'.frozen? ⟨w.heap.size+1,2,none⟩=false))) (by kernel_rfl) HS (fun hHeld=>?_)
    refine tk 1 rfl ?_
    refine tk 2 rfl ?_
    refine tk 3 rfl ?_
    refine tk 4 rfl ?_
    refine tk 6 rfl ?_
    refine tk 7 rfl ?_
    (try simp only [cl,Act.put])
    refine rd 0 rfl fun K hK=>?_
    go_simp
    refine hK.out _ _ (ZdQ (Za _ _) (by with_reducible assumption)) (fun hH2=>?_)
    clear hK K hHeld
    have hHeld:=hH2
    clear hH2
    (try simp only [cl,Act.put])
    refine rd 5 rfl fun K hK=>?_
    refine Zab _ rfl _ _ 23 rfl wx.heap.size 25 i0 (.agg #[.int .i64 0,.int .i64 0]) 2 16 Tryz.underlying23 hi hz0 hz1 hz2 rfl (by decide) _ 0 [] rfl (ZjR wx.drew) wx.heap.size (some ad) _ c (Zr (Zw l)) rfl (RD.out.alloc (Nat.le_refl _) _) ?d2 ?d3 ?d4 ?d5 ?_
    case d2=>exact ZeO _
    case d3=>have:=HJ.out;unfold maxLen;omega
    case d4=>have:=HJ.out;omega
    case d5=>simp
    intro v' w5 hown hgrow _
    rw [Nat.zero_add,List.nil_append] at hown
    have b5:Below wx.heap.size wx w5:=(ZhN hgrow)
    have hv5:Zb w5 v' (Zw l):=Zdj (base:=wx.heap.size) (by have e:=HJ.out.1;rw [<- e];exact hown)
    have hf5:Zs wx.heap.size v':=fun q hq=>Zg6 hown hq
    obtain ⟨A5,c5,rfl⟩:=Zd hv5
    have HV5:=Lib.hid (And.intro hv5 hf5)
    refine hK.out _ _ (ZdQ b5 HSX.out) (fun hH2=>?_)
    clear hK K hHeld hown hgrow b5 hv5 hf5
    have hHeld:=hH2
    clear hH2
    (try simp only [cl,Act.put])
    refine tk 8 rfl ?_
    (try simp only [cl,Act.put])
    refine rd 9 rfl fun K hK=>?_
    go_simp
    refine hK.out _ _ ?_ (fun hH2=>?_)
    ·exact ZdW (ZdW (ZdW (by with_reducible assumption)))
    clear hK K hHeld;have hHeld:=hH2;clear hH2
    (try simp only [cl,Act.put])
    refine wpAnyH_done (by kernel_rfl) ?_ _
    refine NoPanic.normal ?_
    go_wp2_with fail
    obtain ⟨c0,c1,c2,hB⟩:=ZeU (w:=w) rfl (by with_reducible assumption)
    have f3:Zs (w.heap.size+2) (.slice A5 (Zw l).length c5):=HV5.out.2.mono HSX.out.2.1
    refine bodyPost_ret (v:=.agg #[.slice A5 (Zw l).length c5,.int .i64 kn,.int .i64 kd]) (by simp [results,Tryz.results42,go_sem,c0,c1,c2]) rfl ⟨_,rfl,?_,hB,f3.mono (by omega)⟩
    exact (((HV5.out.1.setCell f3 (by show w.heap.size+1<_;omega) _).setCell f3 (by show w.heap.size+1<_;omega) _).setCell f3 (by show w.heap.size+1<_;omega) _)
  ·have hlt:k<n:=by omega
   obtain ⟨x,hx⟩:∃ x,l[k]? = some x:=⟨_,List.getElem?_eq_getElem (by have:=HN.out.1;omega)⟩
   obtain ⟨ad,rfl,d1,_⟩:=Za8 G4.out B1.out hx (by omega)
   have st:=ZoW hx
   have i1:(k:Int)<(n:Int):=by omega
   have i2:(0:Int)<=(k:Int):=by omega
   have wk:IntKind.i64.wrap ((k:Int)+1)=(k:Int)+1:=IntWalk.i64_in _ (by have:=HN.out;omega)
   generalize x.1=xn at *
   have HK:=Lib.hid (And.intro hlt hg)
   clear hk hg hkn hlt hx
   by_cases hz:xn=0
   ·rw [if_pos hz] at st
    rw [hz] at d1
    have ST:=Lib.hid st
    clear st hz
    go_wp2_with fail
    go_roundg (n-(k+1))
    case measure=>have:=HK.out;omega
    case rel=>exact ⟨rfl,k+1,by have:=HK.out;omega,rfl,by push_cast;rfl,by rw [ST.out]⟩
   ·rw [if_neg hz] at st
    have hz':(xn != 0)=true:=by simpa using hz
    have ST:=Lib.hid st
    clear st hz
    go_wp2_with fail
    go_roundg (n-(k+1))
    case measure=>have:=HK.out;omega
    case rel=>exact ⟨rfl,k+1,by have:=HK.out;omega,rfl,by push_cast;rfl,by rw [ST.out];push_cast;rfl⟩
end
end Go.Proofs.YtolookeddknmoaaGreat
