import Derived.Test.YtolookeddknmoaaGreatQAS
import Derived.Test.YtolookeddknmoaaGreatQBF
import Derived.Test.YtolookeddknmoaaGreatQBJ
set_option maxRecDepth 100000
set_option maxHeartbeats 8000000
namespace Go.Proofs.YtolookeddknmoaaGreat
section
open Go.RowKit
def Zib (w:World) (b9 bt:Nat) (x y:Value) (w':World):Prop:=
 ((w'.cell? ⟨b9,0,none⟩=some x/\w'.cell? ⟨b9,1,none⟩=some y)/\((w'.cell? ⟨bt,0,none⟩=some (Zi w' ⟨bt,0,none⟩)/\w'.frozen? ⟨bt,0,none⟩=false)/\(w'.cell? ⟨bt,1,none⟩=some (Zi w' ⟨bt,1,none⟩)/\w'.frozen? ⟨bt,1,none⟩=false)))/\Below w.heap.size w w'
theorem Zer {w:World} {b c i j:Nat} {x:Value} (h:c≠b):(w.setCell ⟨b,i,none⟩ x).cell? ⟨c,j,none⟩=w.cell? ⟨c,j,none⟩:=World.cell?_of_block (Below.heap_setCell _ _ _ _ h)
theorem Zj1 (p:Addr):ZcD fun w=>w.cell? p=some (Zi w p)/\w.frozen? p=false:=fun _ _ hb h=>
 ⟨ZJ (ZU hb h.1),(hb.frozen (World.block_lt_of_cell? _ _ h.1)).trans h.2⟩
theorem ZdZ (w:World) (b9 bt:Nat) (x y:Value):ZcD (Zib w b9 bt x y):=
 ZC (ZC (ZC (Zz _ _) (Zz _ _)) (ZC (Zj1 _) (Zj1 _))) (ZbD w)
theorem ZjV {w w1:World} {b9 bt:Nat} {x y u v:Value} (hne:b9≠bt) (hle:w.heap.size<=bt) (h:Zib w b9 bt x y w1):Zib w b9 bt x y ((w1.setCell ⟨bt,0,none⟩ u).setCell ⟨bt,1,none⟩ v):=by
 obtain ⟨⟨⟨a0,a1⟩,⟨c0,f0⟩,c1,f1⟩,hb⟩:=h
 refine ⟨⟨⟨?_,?_⟩,⟨Zap (Zap c0),?_⟩,Zap (Zap c1),?_⟩,(hb.setCell (p:=⟨bt,0,none⟩) hle _).setCell (p:=⟨bt,1,none⟩) hle _⟩
 ·rw [Zer hne,Zer hne];exact a0
 ·rw [Zer hne,Zer hne];exact a1
 ·rw [World.frozen?_setCell,World.frozen?_setCell];exact f0
 ·rw [World.frozen?_setCell,World.frozen?_setCell];exact f1
theorem ZjU {w w1:World} {b9 bt:Nat} {x y u v:Value} (h9:Blk w1 b9 #[x,y]) (ht:Blk w1 bt #[u,v]) (hb:Below w.heap.size w w1):Zib w b9 bt x y w1:=
 ⟨⟨⟨h9.cell 0,h9.cell 1⟩,⟨ZJ (ht.cell 0),ht.free 0⟩,ZJ (ht.cell 1),ht.free 1⟩,hb⟩
theorem ZmN {w w1:World} {b9 bt:Nat} {x y u v:Value} (h:Zib w b9 bt x y w1):((w1.setCell ⟨bt,0,none⟩ u).setCell ⟨bt,1,none⟩ v).cell? ⟨bt,0,none⟩=some u/\((w1.setCell ⟨bt,0,none⟩ u).setCell ⟨bt,1,none⟩ v).cell? ⟨bt,1,none⟩=some v:=
 ZaJ h.1.2.1.1 h.1.2.2.1
theorem ZmK (w:World) (x y:Int×Int) (hx:OkR x) (hy:OkR y):Calls Tryz.prog 66 #[Ze x.1 x.2,Ze y.1 y.2] w fun r w'=>r=.returned (.tuple #[Ze (Zo x y).1.1 (Zo x y).1.2,.int .i64 (Zo x y).2])/\Below w.heap.size w w':=by
 obtain ⟨d,e,v⟩:=hx
 obtain ⟨f,g,u⟩:=hy
 have:=Zjr v u w
 rw [<- e,<- g] at this
 have e1:x.2.toNat=d:=by rw [e];rfl
 have e2:y.2.toNat=f:=by rw [g];rfl
 unfold Zo Zcr
 rw [e1,e2]
 exact this
theorem Zqv (w:World) (x y:Int×Int) (hx:OkR x) (hy:OkR y):Calls Tryz.prog 87 #[Ze x.1 x.2,Ze y.1 y.2] w fun r w'=>r=.returned (.tuple #[Ze (Zo x (ZA y)).1.1 (Zo x (ZA y)).1.2,.int .i64 (Zo x (ZA y)).2])/\Below w.heap.size w w':=by
 obtain ⟨d,e,v⟩:=hx
 obtain ⟨f,g,u⟩:=hy
 have:=ZoO v u w
 rw [<- e,<- g] at this
 have e1:x.2.toNat=d:=by rw [e];rfl
 have e2:y.2.toNat=f:=by rw [g];rfl
 unfold Zo Zcr ZA
 dsimp only
 rw [e1,e2,show x.1*y.2+-y.1*x.2=x.1*y.2-y.1*x.2 by rw [Int.neg_mul];omega]
 exact this
theorem Zqu (w:World) (x y:Int×Int) (hx:OkR x) (hy:OkR y):Calls Tryz.prog 38 #[Ze x.1 x.2,Ze y.1 y.2] w fun r w'=>r=.returned (.tuple #[Ze (ZT x y).1.1 (ZT x y).1.2,.int .i64 (ZT x y).2])/\Below w.heap.size w w':=by
 obtain ⟨d,e,v⟩:=hx
 obtain ⟨f,g,u⟩:=hy
 have:=ZjO v u w
 rw [<- e,<- g] at this
 have e1:x.2.toNat=d:=by rw [e];rfl
 have e2:y.2.toNat=f:=by rw [g];rfl
 unfold ZT Zcr
 rw [e1,e2]
 exact this
def okO (r:(Int×Int)×Int):Option (Int×Int):=if r.2=0 then some r.1 else none
def Zdx (lo up:List Rw) (m:List (Int×Int)):Option (Int×Int):=
 (Zba lo m lo.length).bind fun b=>(Zba up m up.length).bind fun t=>
  if lo.length=0 then (if up.length=0 then some (0,1) else okO (Zo t (ZA (1,1))))
  else if up.length=0 then okO (Zo (ZA b) (1,1)) else (okO (Zo (ZA b) t)).bind fun s=>okO (ZT s (1,2))
theorem ZcH (r:(Int×Int)×Int):(r.2=0/\okO r=some r.1)\/(r.2≠0/\okO r=none):=by
 unfold okO
 by_cases h:r.2=0
 ·exact .inl ⟨h,if_pos h⟩
 ·exact .inr ⟨h,if_neg h⟩
theorem Zgb:OkR (1,2):=⟨2,rfl,by decide,by decide,by decide,by decide⟩
def Zkw (w:World) (r:Option (Int×Int)) (e:Ending) (w':World):Prop:=
 (∃ x y z:Int,e=.returned (.tuple #[Ze x y,.int .i64 z])/\((z=0/\r=some (x,y))\/(z≠0/\r=none)))/\Below w.heap.size w w'
theorem ZdR {ts:List Rw} {m:List (Int×Int)} (hw:∀ r∈ts,Zv r.2.1/\Bd r.2.2) (hm:Zv m):∀ (k:Nat) (x:Int×Int),Zba ts m k=some x->(k=0/\x=(0,0))\/OkR x
 | 0,x,h=>by
  obtain rfl:=Option.some.inj h
  exact .inl ⟨rfl,rfl⟩
 | k+1,x,h=>by
  rw [Zba,Option.bind_eq_some_iff] at h
  obtain ⟨lo,hlo,h⟩:=h
  cases hk:ts[k]? with
  | none=>rw [hk] at h;cases h
  | some r=>
   rw [hk] at h
   dsimp only at h
   split at h
   ·rename_i he
    obtain rfl:=Option.some.inj h
    have hr:=hw r (List.mem_of_getElem? hk)
    obtain ⟨a,b,c,_,q⟩:=Zd3 hr.1 hr.2 hm he
    have ov:=Zcy a c b 8 _ q
    unfold ZbS
    split
    ·exact .inr ov
    ·rename_i g
     rcases ZdR hw hm k lo hlo with ⟨rfl,_⟩ | q
     ·exact absurd (.inl rfl) g
     ·exact .inr q
   ·cases h
theorem Zk2 {w:World} {v vb:Value} {ts:List Rw} {m:List (Int×Int)} (h:ZD w v ts) (hw:∀ r∈ts,Zv r.2.1/\Bd r.2.2) (hb:Zb w vb m) (hm:Zv m) {x:Int×Int} (hx:Zba ts m ts.length=some x) :
  Calls Tryz.prog 86 #[v,vb] w fun e w'=>e=.returned (.tuple #[Ze x.1 x.2,.int .i64 0])/\Below w.heap.size w w':=by
 have:=ZiL w v vb ts m h hw hb hm
 rw [hx] at this
 exact this
theorem Zk1 {w:World} {v vb:Value} {ts:List Rw} {m:List (Int×Int)} (h:ZD w v ts) (hw:∀ r∈ts,Zv r.2.1/\Bd r.2.2) (hb:Zb w vb m) (hm:Zv m) (hx:Zba ts m ts.length=none) :
  Calls Tryz.prog 86 #[v,vb] w fun e w'=>∃ E:Int,(E != 0)=true/\e=.returned (.tuple #[Ze 0 0,.int .i64 E])/\Below w.heap.size w w':=by
 have:=ZiL w v vb ts m h hw hb hm
 rw [hx] at this
 exact this.mono fun e w' q=>by
  obtain ⟨⟨E,h1,h2⟩,h3⟩:=q
  exact ⟨E,by simpa using h1,h2,h3⟩
structure BtS (W wr:World) (b1 b2:Nat) (v1 v2:Value):Prop where
 R:Blk wr W.heap.size #[.int .i64 0,.int .i64 0]
 x:Blk wr b1 #[v1]
 y:Blk wr b2 #[v2]
 below:Below W.heap.size W wr
theorem BtS.keep {W wr w2:World} {b1 b2:Nat} {v1 v2:Value} (h:BtS W wr b1 b2 v1 v2) (hb:Below wr.heap.size wr w2):BtS W w2 b1 b2 v1 v2:=⟨h.R.keep hb,h.x.keep hb,h.y.keep hb,h.below.trans (hb.mono h.below.size)⟩
theorem Zqh (w:World) (vb:Value) (m:List (Int×Int)) (b1 b2:Nat) (v1 v2:Value) (lo up:List Rw) (B1:Blk w b1 #[v1]) (B2:Blk w b2 #[v2]) (h1:ZD w v1 lo) (h2:ZD w v2 up) (hw1:∀ r∈lo,Zv r.2.1/\Bd r.2.2) (hw2:∀ r∈up,Zv r.2.1/\Bd r.2.2) (hb:Zb w vb m) (hm:Zv m) :
  Calls Tryz.prog 85 #[vb,.pointer (some ⟨b1,0,none⟩),.pointer (some ⟨b2,0,none⟩)] w (Zkw w (Zdx lo up m)):=by
 have a0:=Za w (.cells #[.int .i64 0,.int .i64 0] 25)
 have D0:BtS w (w.alloc (.cells #[.int .i64 0,.int .i64 0] 25)) b1 b2 v1 v2:=⟨Blk.start w _ _,B1.keep a0,B2.keep a0,a0⟩
 obtain ⟨A1,c1,rfl⟩:∃ A c,v1=.slice A lo.length c:=by obtain ⟨A,c,_,e,_⟩:=h1;exact ⟨A,c,e⟩
 obtain ⟨A2,c2,rfl⟩:∃ A c,v2=.slice A up.length c:=by obtain ⟨A,c,_,e,_⟩:=h2;exact ⟨A,c,e⟩
 obtain ⟨Ab,cb,rfl⟩:=Zd hb
 have DD:=Lib.hid D0
 have hO:Zdx lo up m=(Zba lo m lo.length).bind fun b=>(Zba up m up.length).bind fun t=>if lo.length=0 then (if up.length=0 then some (0,1) else okO (Zo t (ZA (1,1)))) else if up.length=0 then okO (Zo (ZA b) (1,1)) else (okO (Zo (ZA b) t)).bind fun s=>okO (ZT s (1,2)):=rfl
 generalize Zdx lo up m=Z at *
 have lk1:=ZdR hw1 hm lo.length
 have lk2:=ZdR hw2 hm up.length
 cases e1:Zba lo m lo.length with
 | none=>
  have L1:=Lib.hid (fun (w':World) (q:Below w.heap.size w w')=>Zk1 (h1.below q) hw1 (hb.below q) hm e1)
  rw [e1,Option.bind_none] at hO
  subst hO
  have x0:=D0.x.cell 0
  clear e1 lk1 lk2 h1 h2 hw1 hw2 hb hm B1 B2 D0 a0
  generalize lo.length=n1 at *
  generalize m.length=nm at *
  go_enter Tryz.func85,Tryz.ntmps85
  go_upto_region 2 with (go_at_call 86;(with_reducible refine (L1.out _ DD.out.below).mono ?_);rintro e5 w2 ⟨E,hE,rfl,hb2⟩)
  have a2:=Za w2 (.cells #[.int .i64 0,.int .i64 0] 25)
  have DD:=Lib.hid ((DD.out.keep hb2).keep a2)
  clear hb2 a2 x0
  generalize w2.alloc (.cells #[.int .i64 0,.int .i64 0] 25)=w3 at *
  have r0:=DD.out.R.cell 0
  have r1:=DD.out.R.cell 1
  have q0:=DD.out.R.free 0
  have q1:=DD.out.R.free 1
  go_wp2_with fail
  have B9:=(DD.out.R.set 0 (.int .i64 0)).set 1 (.int .i64 0)
  have z0:=B9.cell 0
  have z1:=B9.cell 1
  exact bodyPost_ret (v:=.tuple #[Ze 0 0,.int .i64 E]) (by simp [results,Tryz.results85,go_sem,z0,z1]) rfl ⟨⟨0,0,E,rfl,.inr ⟨by simpa using hE,rfl⟩⟩,(DD.out.below.setCell (p:=⟨w.heap.size,0,none⟩) (Nat.le_refl _) _).setCell (p:=⟨w.heap.size,1,none⟩) (Nat.le_refl _) _⟩
 | some b=>
  have L1:=Lib.hid (fun (w':World) (q:Below w.heap.size w w')=>Zk2 (h1.below q) hw1 (hb.below q) hm e1)
  rw [e1,Option.bind_some] at hO
  have lk1:=lk1 b e1
  cases e2:Zba up m up.length with
  | none=>
   have L2:=Lib.hid (fun (w':World) (q:Below w.heap.size w w')=>Zk1 (h2.below q) hw2 (hb.below q) hm e2)
   rw [e2,Option.bind_none] at hO
   subst hO
   have x0:=D0.x.cell 0
   clear e1 e2 lk1 lk2 h1 h2 hw1 hw2 hb hm B1 B2 D0 a0
   obtain ⟨bn,bd⟩:=b
   dsimp only at *
   generalize lo.length=n1 at *
   generalize up.length=n2 at *
   generalize m.length=nm at *
   go_enter Tryz.func85,Tryz.ntmps85
   go_upto_region 2 with (go_at_call 86;(with_reducible refine (L1.out _ DD.out.below).mono ?_);rintro e5 w2 ⟨rfl,hb2⟩)
   have a2:=Za w2 (.cells #[.int .i64 bn,.int .i64 bd] 25)
   have DD:=Lib.hid ((DD.out.keep hb2).keep a2)
   clear hb2 a2 x0
   generalize w2.alloc (.cells #[.int .i64 bn,.int .i64 bd] 25)=w3 at *
   have y0:=DD.out.y.cell 0
   go_upto_region 5 with (go_at_call 86;(with_reducible refine (L2.out _ DD.out.below).mono ?_);rintro e6 w4 ⟨E,hE,rfl,hb4⟩)
   have a4:=Za w4 (.cells #[.int .i64 0,.int .i64 0] 25)
   have DD:=Lib.hid ((DD.out.keep hb4).keep a4)
   clear hb4 a4 y0
   generalize w4.alloc (.cells #[.int .i64 0,.int .i64 0] 25)=w5 at *
   have r0:=DD.out.R.cell 0
   have r1:=DD.out.R.cell 1
   have q0:=DD.out.R.free 0
   have q1:=DD.out.R.free 1
   go_wp2_with fail
   have B9:=(DD.out.R.set 0 (.int .i64 0)).set 1 (.int .i64 0)
   have z0:=B9.cell 0
   have z1:=B9.cell 1
   exact bodyPost_ret (v:=.tuple #[Ze 0 0,.int .i64 E]) (by simp [results,Tryz.results85,go_sem,z0,z1]) rfl ⟨⟨0,0,E,rfl,.inr ⟨by simpa using hE,rfl⟩⟩,(DD.out.below.setCell (p:=⟨w.heap.size,0,none⟩) (Nat.le_refl _) _).setCell (p:=⟨w.heap.size,1,none⟩) (Nat.le_refl _) _⟩
  | some t=>
   have L2:=Lib.hid (fun (w':World) (q:Below w.heap.size w w')=>Zk2 (h2.below q) hw2 (hb.below q) hm e2)
   rw [e2,Option.bind_some] at hO
   have lk2:=lk2 t e2
   have NG:=Lib.hid (fun (w':World)=>ZkH w' b (lk1.elim (fun q=>.inr q.2) .inl))
   have x0:=D0.x.cell 0
   clear e1 e2 h1 h2 hw1 hw2 hb hm B1 B2 D0 a0
   have HO:=Lib.hid (And.intro hO (And.intro lk1 lk2))
   clear hO lk1 lk2
   obtain ⟨bn,bd⟩:=b
   obtain ⟨tn,td⟩:=t
   unfold ZA at NG
   dsimp only at *
   generalize lo.length=n1 at *
   generalize up.length=n2 at *
   generalize m.length=nm at *
   go_enter Tryz.func85,Tryz.ntmps85
   go_upto_region 2 with (go_at_call 86;(with_reducible refine (L1.out _ DD.out.below).mono ?_);rintro e5 w2 ⟨rfl,hb2⟩)
   have a2:=Za w2 (.cells #[.int .i64 bn,.int .i64 bd] 25)
   have T6:=Lib.hid (Blk.start w2 #[.int .i64 bn,.int .i64 bd] 25)
   have DD:=Lib.hid ((DD.out.keep hb2).keep a2)
   clear hb2 a2 x0
   generalize w2.heap.size=b6 at *
   generalize w2.alloc (.cells #[.int .i64 bn,.int .i64 bd] 25)=w3 at *
   have y0:=DD.out.y.cell 0
   go_upto_region 5 with (go_at_call 86;(with_reducible refine (L2.out _ DD.out.below).mono ?_);rintro e6 w4 ⟨rfl,hb4⟩)
   have a4:=Za w4 (.cells #[.int .i64 tn,.int .i64 td] 25)
   have T6:=Lib.hid ((T6.out.keep hb4).keep a4)
   have T8:=Lib.hid (Blk.start w4 #[.int .i64 tn,.int .i64 td] 25)
   have N8:=Lib.hid (show w4.heap.size≠w.heap.size from by have:=DD.out.R.lt;have:=hb4.size;omega)
   have DD:=Lib.hid ((DD.out.keep hb4).keep a4)
   clear hb4 a4 y0
   generalize w4.heap.size=b8 at *
   generalize w4.alloc (.cells #[.int .i64 tn,.int .i64 td] 25)=w5 at *
   have s0:=T6.out.cell 0
   have s1:=T6.out.cell 1
   go_upto_region 8 with (go_at_call 55;(with_reducible refine (NG.out _).mono ?_);rintro e7 w6 ⟨rfl,hb6⟩)
   have a6:=Za w6 (.cells #[.int .i64 (-bn),.int .i64 bd] 25)
   have T9:=Lib.hid (Blk.start w6 #[.int .i64 (-bn),.int .i64 bd] 25)
   have T8:=Lib.hid ((T8.out.keep hb6).keep a6)
   have N9:=Lib.hid (show w6.heap.size≠w.heap.size from by have:=DD.out.R.lt;have:=hb6.size;omega)
   have DD:=Lib.hid ((DD.out.keep hb6).keep a6)
   clear hb6 a6 s0 s1
   generalize w6.heap.size=b9 at *
   generalize w6.alloc (.cells #[.int .i64 (-bn),.int .i64 bd] 25)=w7 at *
   have x0:=DD.out.x.cell 0
   have y0:=DD.out.y.cell 0
   by_cases g1:n1=0
   ·have i1:((n1:Int)==0)=true:=by rw [g1];rfl
    by_cases g2:n2=0
    ·have i2:((n2:Int)==0)=true:=by rw [g2];rfl
     have HZ:=Lib.hid (show Z=some (0,1) from by rw [HO.out.1,if_pos g1,if_pos g2])
     clear g1 g2
     go_wp2_with (go_at_call 14;(with_reducible refine (Za7 _ _).mono ?_);rintro e8 w8 ⟨rfl,hb8⟩;have DD:=Lib.hid (DD.out.keep hb8);clear hb8;have r0:=DD.out.R.cell 0;have r1:=DD.out.R.cell 1;have q0:=DD.out.R.free 0;have q1:=DD.out.R.free 1)
     have B9:=(DD.out.R.set 0 (.int .i64 0)).set 1 (.int .i64 1)
     have z0:=B9.cell 0
     have z1:=B9.cell 1
     exact bodyPost_ret (v:=.tuple #[Ze 0 1,.int .i64 0]) (by simp [results,Tryz.results85,go_sem,z0,z1]) rfl ⟨⟨0,1,0,rfl,.inl ⟨rfl,HZ.out⟩⟩,(DD.out.below.setCell (p:=⟨w.heap.size,0,none⟩) (Nat.le_refl _) _).setCell (p:=⟨w.heap.size,1,none⟩) (Nat.le_refl _) _⟩
    ·have i2:((n2:Int)==0)=false:=by simpa using g2
     have ok:=HO.out.2.2.resolve_left (fun q=>g2 q.1)
     have OPC0:=fun (w':World)=>Zqv w' (tn,td) (1,1) ok Zdn
     have ju:=ZcH (Zo (tn,td) (ZA (1,1)))
     have hz:Z=okO (Zo (tn,td) (ZA (1,1))):=by rw [HO.out.1,if_pos g1,if_neg g2]
     rw [<- hz] at ju
     generalize Zo (tn,td) (ZA (1,1))=Q at *
     obtain ⟨⟨gx,gy⟩,gz⟩:=Q
     dsimp only at OPC0 ju
     have OPC:=Lib.hid OPC0
     have JU:=Lib.hid ju
     have HNE:=N8
     clear OPC0 ju hz ok g1 g2
     go_upto_region 13 with fail
     have HS:=ZdZ _ _ _ _ _ _ _ (Zq w7) (ZjU T8.out DD.out.R DD.out.below)
     unfold Zib at HS
     refine wp_region_noPanic ?_
     refine wp_region_held_drew (S:=(fun w'=>((w'.cell? ⟨b8,0,none⟩=some (.int .i64 tn)/\w'.cell? ⟨b8,1,none⟩=some (.int .i64 td))/\((w'.cell? ⟨w.heap.size,0,none⟩=some (Zi w' ⟨w.heap.size,0,none⟩)/\w'.frozen? ⟨w.heap.size,0,none⟩=false)/\(w'.cell? ⟨w.heap.size,1,none⟩=some (Zi w' ⟨w.heap.size,1,none⟩)/\w'.frozen? ⟨w.heap.size,1,none⟩=false)))/\Below w.heap.size w w')) (by kernel_rfl) HS (fun hHeld=>?_)
     clear HS
     refine tk 0 rfl ?_
     (try simp only [cl,Act.put])
     refine rd 1 rfl fun K hK=>?_
     go_simp
     (first
      | (go_at_call 14;(with_reducible refine (Za7 _ _).mono ?_);rintro e5 w5 ⟨rfl,hb⟩)
      | (go_at_call 87;(with_reducible refine (OPC.out _).mono ?_);rintro e6 w6 ⟨rfl,hb⟩))
     go_wp2_with fail
     refine hK.out _ _ (ZdZ _ _ _ _ _ _ _ hb hHeld) (fun hH2=>?_)
     clear hK K hHeld hb;have hHeld:=hH2;clear hH2
     (try simp only [cl,Act.put])
     refine rd 2 rfl fun K hK=>?_
     go_simp
     (first
      | (go_at_call 14;(with_reducible refine (Za7 _ _).mono ?_);rintro e5 w5 ⟨rfl,hb⟩)
      | (go_at_call 87;(with_reducible refine (OPC.out _).mono ?_);rintro e6 w6 ⟨rfl,hb⟩))
     go_wp2_with fail
     refine hK.out _ _ (ZdZ _ _ _ _ _ _ _ hb hHeld) (fun hH2=>?_)
     clear hK K hHeld hb;have hHeld:=hH2;clear hH2
     (try simp only [cl,Act.put])
     refine tk 3 rfl ?_
     refine tk 4 rfl ?_
     (try simp only [cl,Act.put])
     refine rd 5 rfl fun K hK=>?_
     have HB5:=Lib.hid hHeld
     obtain ⟨⟨⟨h0,h1⟩,⟨h2,h3⟩,h4,h5⟩,h6⟩:=id hHeld
     go_simp
     clear h0 h1 h2 h3 h4 h5 h6
     refine hK.out _ _ (ZjV HNE.out (Nat.le_refl _) HB5.out) (fun hH2=>?_)
     clear hK K hHeld
     have hHeld:=hH2
     clear hH2
     (try simp only [cl,Act.put])
     refine tk 6 rfl ?_
     (try simp only [cl,Act.put])
     refine wpAnyH_done (by kernel_rfl) ?_ _
     refine NoPanic.normal ?_
     go_wp2_with fail
     obtain ⟨z0,z1⟩:=ZmN (u:=.int .i64 gx) (v:=.int .i64 gy) HB5.out
     exact bodyPost_ret (v:=.tuple #[Ze gx gy,.int .i64 gz]) (by simp [results,Tryz.results85,go_sem,z0,z1]) rfl ⟨⟨gx,gy,gz,rfl,JU.out⟩,hHeld.2⟩
   ·have i1:((n1:Int)==0)=false:=by simpa using g1
    have okb:=Zbv (HO.out.2.1.resolve_left (fun q=>g1 q.1))
    unfold ZA at okb
    dsimp only at okb
    by_cases g2:n2=0
    ·have i2:((n2:Int)==0)=true:=by rw [g2];rfl
     have OPC0:=fun (w':World)=>ZmK w' (-bn,bd) (1,1) okb Zdn
     have ju:=ZcH (Zo (-bn,bd) (1,1))
     have hz:Z=okO (Zo (-bn,bd) (1,1)):=by rw [HO.out.1,if_neg g1,if_pos g2];rfl
     rw [<- hz] at ju
     generalize Zo (-bn,bd) (1,1)=Q at *
     obtain ⟨⟨gx,gy⟩,gz⟩:=Q
     dsimp only at OPC0 ju
     have OPC:=Lib.hid OPC0
     have JU:=Lib.hid ju
     have HNE:=N9
     clear OPC0 ju hz okb g1 g2
     go_upto_region 11 with fail
     have HS:=ZdZ _ _ _ _ _ _ _ (Zq w7) (ZjU T9.out DD.out.R DD.out.below)
     unfold Zib at HS
     refine wp_region_noPanic ?_
     refine wp_region_held_drew (S:=(fun w'=>((w'.cell? ⟨b9,0,none⟩=some (.int .i64 (-bn))/\w'.cell? ⟨b9,1,none⟩=some (.int .i64 bd))/\((w'.cell? ⟨w.heap.size,0,none⟩=some (Zi w' ⟨w.heap.size,0,none⟩)/\w'.frozen? ⟨w.heap.size,0,none⟩=false)/\(w'.cell? ⟨w.heap.size,1,none⟩=some (Zi w' ⟨w.heap.size,1,none⟩)/\w'.frozen? ⟨w.heap.size,1,none⟩=false)))/\Below w.heap.size w w')) (by kernel_rfl) HS (fun hHeld=>?_)
     clear HS
     refine tk 0 rfl ?_
     (try simp only [cl,Act.put])
     refine rd 1 rfl fun K hK=>?_
     go_simp
     (first
      | (go_at_call 14;(with_reducible refine (Za7 _ _).mono ?_);rintro e5 w5 ⟨rfl,hb⟩)
      | (go_at_call 66;(with_reducible refine (OPC.out _).mono ?_);rintro e6 w6 ⟨rfl,hb⟩))
     go_wp2_with fail
     refine hK.out _ _ (ZdZ _ _ _ _ _ _ _ hb hHeld) (fun hH2=>?_)
     clear hK K hHeld hb;have hHeld:=hH2;clear hH2
     (try simp only [cl,Act.put])
     refine rd 2 rfl fun K hK=>?_
     go_simp
     (first
      | (go_at_call 14;(with_reducible refine (Za7 _ _).mono ?_);rintro e5 w5 ⟨rfl,hb⟩)
      | (go_at_call 66;(with_reducible refine (OPC.out _).mono ?_);rintro e6 w6 ⟨rfl,hb⟩))
     go_wp2_with fail
     refine hK.out _ _ (ZdZ _ _ _ _ _ _ _ hb hHeld) (fun hH2=>?_)
     clear hK K hHeld hb;have hHeld:=hH2;clear hH2
     (try simp only [cl,Act.put])
     refine tk 3 rfl ?_
     refine tk 4 rfl ?_
     (try simp only [cl,Act.put])
     refine rd 5 rfl fun K hK=>?_
     have HB5:=Lib.hid hHeld
     obtain ⟨⟨⟨h0,h1⟩,⟨h2,h3⟩,h4,h5⟩,h6⟩:=id hHeld
     go_simp
     clear h0 h1 h2 h3 h4 h5 h6
     refine hK.out _ _ (ZjV HNE.out (Nat.le_refl _) HB5.out) (fun hH2=>?_)
     clear hK K hHeld
     have hHeld:=hH2
     clear hH2
     (try simp only [cl,Act.put])
     refine tk 6 rfl ?_
     (try simp only [cl,Act.put])
     refine wpAnyH_done (by kernel_rfl) ?_ _
     refine NoPanic.normal ?_
     go_wp2_with fail
     obtain ⟨z0,z1⟩:=ZmN (u:=.int .i64 gx) (v:=.int .i64 gy) HB5.out
     exact bodyPost_ret (v:=.tuple #[Ze gx gy,.int .i64 gz]) (by simp [results,Tryz.results85,go_sem,z0,z1]) rfl ⟨⟨gx,gy,gz,rfl,JU.out⟩,hHeld.2⟩
    ·have i2:((n2:Int)==0)=false:=by simpa using g2
     have okt:=HO.out.2.2.resolve_left (fun q=>g2 q.1)
     have OPC0:=fun (w':World)=>ZmK w' (-bn,bd) (tn,td) okb okt
     have oks:=Zbn.ok (-bn,bd) (tn,td) okb okt
     have hz:Z=(okO (Zo (-bn,bd) (tn,td))).bind fun s=>okO (ZT s (1,2)):=by rw [HO.out.1,if_neg g1,if_neg g2];rfl
     generalize Zo (-bn,bd) (tn,td)=Q at *
     obtain ⟨⟨sx,sy⟩,sz⟩:=Q
     dsimp only at OPC0 oks
     have OPC:=Lib.hid OPC0
     have s0:=T9.out.cell 0
     have s1:=T9.out.cell 1
     have t0:=T8.out.cell 0
     have t1:=T8.out.cell 1
     clear OPC0 okt okb g1 g2
     go_upto_region 15 with (go_at_call 66;(with_reducible refine (OPC.out _).mono ?_);rintro e8 w8 ⟨rfl,hb8⟩)
     have a8:=Za w8 (.cells #[.int .i64 sx,.int .i64 sy] 25)
     have T10:=Lib.hid (Blk.start w8 #[.int .i64 sx,.int .i64 sy] 25)
     have DD:=Lib.hid ((DD.out.keep hb8).keep a8)
     clear hb8 a8 s0 s1 t0 t1 x0 y0
     generalize w8.heap.size=b10 at *
     generalize w8.alloc (.cells #[.int .i64 sx,.int .i64 sy] 25)=w9 at *
     by_cases he:sz=0
     ·subst he
      have os:=oks rfl
      have OM0:=fun (w':World)=>Zqu w' (sx,sy) (1,2) os Zgb
      have ju:=ZcH (ZT (sx,sy) (1,2))
      have hz2:Z=okO (ZT (sx,sy) (1,2)):=by rw [hz];rfl
      rw [<- hz2] at ju
      generalize ZT (sx,sy) (1,2)=Q at *
      obtain ⟨⟨gx,gy⟩,gz⟩:=Q
      dsimp only at OM0 ju
      have OM:=Lib.hid OM0
      have JU:=Lib.hid ju
      have s0:=T10.out.cell 0
      have s1:=T10.out.cell 1
      clear OM0 ju hz hz2 os oks
      go_wp2_with (go_at_call 38;(with_reducible refine (OM.out _).mono ?_);rintro e9 w10 ⟨rfl,hb9⟩;have DD:=Lib.hid (DD.out.keep hb9);clear hb9;have r0:=DD.out.R.cell 0;have r1:=DD.out.R.cell 1;have q0:=DD.out.R.free 0;have q1:=DD.out.R.free 1)
      have B9:=(DD.out.R.set 0 (.int .i64 gx)).set 1 (.int .i64 gy)
      have z0:=B9.cell 0
      have z1:=B9.cell 1
      exact bodyPost_ret (v:=.tuple #[Ze gx gy,.int .i64 gz]) (by simp [results,Tryz.results85,go_sem,z0,z1]) rfl ⟨⟨gx,gy,gz,rfl,JU.out⟩,(DD.out.below.setCell (p:=⟨w.heap.size,0,none⟩) (Nat.le_refl _) _).setCell (p:=⟨w.heap.size,1,none⟩) (Nat.le_refl _) _⟩
     ·have ne:(sz != 0)=true:=by simpa using he
      have HZ:=Lib.hid (show Z=none from by rw [hz];unfold okO;dsimp only;rw [if_neg he];rfl)
      have HE:=Lib.hid he
      have r0:=DD.out.R.cell 0
      have r1:=DD.out.R.cell 1
      have q0:=DD.out.R.free 0
      have q1:=DD.out.R.free 1
      clear he hz oks
      go_wp2_with fail
      have B9:=(DD.out.R.set 0 (.int .i64 0)).set 1 (.int .i64 0)
      have z0:=B9.cell 0
      have z1:=B9.cell 1
      exact bodyPost_ret (v:=.tuple #[Ze 0 0,.int .i64 sz]) (by simp [results,Tryz.results85,go_sem,z0,z1]) rfl ⟨⟨0,0,sz,rfl,.inr ⟨HE.out,HZ.out⟩⟩,(DD.out.below.setCell (p:=⟨w.heap.size,0,none⟩) (Nat.le_refl _) _).setCell (p:=⟨w.heap.size,1,none⟩) (Nat.le_refl _) _⟩
end
end Go.Proofs.YtolookeddknmoaaGreat
