import Derived.Laws.Rows
import Derived.OneCell
import Derived.Test.YtolookeddknmoaaGreatQAA
import Derived.Test.YtolookeddknmoaaGreatQAE
import Derived.Test.YtolookeddknmoaaGreatQAX
import Derived.Test.YtolookeddknmoaaGreatQBA
import Derived.Test.YtolookeddknmoaaGreatQBB
import Derived.Test.YtolookeddknmoaaGreatQBC
import Derived.Test.YtolookeddknmoaaGreatQBE
set_option maxRecDepth 100000
set_option maxHeartbeats 8000000
namespace Go.Proofs.YtolookeddknmoaaGreat
section
open Go.RowKit
def Blk (w:World) (b:Nat) (cs:Array Value):Prop:=∃ ty,w.heap[b]? = some (.cells cs ty (0,0))
section
variable {w w':World} {b:Nat} {cs:Array Value}
theorem Blk.cell (h:Blk w b cs) (i:Nat):w.cell? ⟨b,i,none⟩=cs[i]?:=by
 obtain ⟨ty,h⟩:=h
 simp [World.cell?,h]
theorem Blk.free (h:Blk w b cs) (i:Nat):w.frozen? ⟨b,i,none⟩=false:=by
 obtain ⟨ty,h⟩:=h
 simp [World.frozen?,h]
theorem Blk.lt (h:Blk w b cs):b<w.heap.size:=by
 obtain ⟨ty,h⟩:=h
 exact lt_of_block h
theorem Blk.start (w:World) (cs:Array Value) (ty:TypeId):Blk (w.alloc (.cells cs ty)) w.heap.size cs:=⟨ty,heap_alloc_new _ _⟩
theorem Blk.keepB {B:Nat} (h:Blk w b cs) (hb:Below B w w') (hlt:b<B):Blk w' b cs:=by
 obtain ⟨ty,h⟩:=h
 exact ⟨ty,(hb.block b hlt).trans h⟩
theorem Blk.keep (h:Blk w b cs) (hb:Below w.heap.size w w'):Blk w' b cs:=h.keepB hb h.lt
theorem Blk.grown {row:Option Nat} (h:Blk w b cs) (hg:w.grownBy w' row) (hne:row≠some b):Blk w' b cs:=by
 have hl:=h.lt
 obtain ⟨ty,h⟩:=h
 exact ⟨ty,(hg.block b hl (fun e=>hne e.symm)).trans h⟩
theorem Blk.other (h:Blk w b cs) {p:Addr} (hp:p.block≠b) (v:Value):Blk (w.setCell p v) b cs:=by
 obtain ⟨ty,h⟩:=h
 exact ⟨ty,by rw [Below.heap_setCell _ _ _ _ (fun e=>hp e.symm)];exact h⟩
theorem Blk.set (h:Blk w b cs) (i:Nat) (v:Value):Blk (w.setCell ⟨b,i,none⟩ v) b (cs.setIfInBounds i v):=by
 have hlt:=h.lt
 obtain ⟨ty,h⟩:=h
 refine ⟨ty,?_⟩
 have h':w.heap[b]=.cells cs ty (0,0):=by simpa [Array.getElem?_eq_getElem hlt] using h
 show (w.heap.modify b _)[b]? = _
 rw [Array.getElem?_eq_getElem (by simpa using hlt),Array.getElem_modify_self,h']
 rfl
theorem Blk.drew (h:Blk w b cs):Blk w.drew b cs:=h
end
end
section
open Go.RowKit
theorem Zfd (w:World) (va vb:Value) (l m:List (Int×Int)) (kx:Int×Int) (ha:Zb w va l) (hb:Zb w vb m) (hl:Zv l) (hm:Zv m) (hx:Bd kx) :
  Calls Tryz.prog 28 #[.agg #[va,.int .i64 kx.1,.int .i64 kx.2],vb] w fun r w'=>r=.returned (.tuple #[Ze (ZS l m kx).1.1 (ZS l m kx).1.2,.int .i64 (ZS l m kx).2])/\Below w.heap.size w w':=by
 cases hr:ZO l kx.1 kx.2
 ·exact ZnP w va vb l m kx.1 kx.2 ha hb hl hx.1.1 hx.1.2 hx.2.1 hx.2.2 hr
 ·exact ZnO w va vb l m kx.1 kx.2 ha hb hl hm hx.1.1 hx.1.2 hx.2.1 hx.2.2 hr
theorem ZlE {l m:List (Int×Int)} {kx:Int×Int} (hl:Zv l) (hx:Bd kx) (hm:Zv m):OkR (ZS l m kx).1\/(ZS l m kx).1=(0,0):=by
 by_cases h:(ZS l m kx).2=0
 ·obtain ⟨a,b,c,_,e⟩:=Zd3 hl hx hm h
  exact .inl (Zcy a c b 8 _ e)
 ·right
  unfold ZS at h ⊢
  split
  ·rename_i g
   rw [if_pos g] at h
   cases q:ZaE l m kx (min l.length m.length) with
   | none=>rfl
   | some s=>rw [q] at h;exact absurd rfl h
  ·rfl
theorem ZkH (w:World) (x:Int×Int) (h:OkR x\/x=(0,0)) :
  Calls Tryz.prog 55 #[Ze x.1 x.2] w fun r w'=>r=.returned (Ze (ZA x).1 (ZA x).2)/\Below w.heap.size w w':=by
 rcases h with h | rfl
 ·exact ZkG w x h
 ·have hb:=ZI w (.cells #[.int .i64 0,.int .i64 0] 25) (.cells #[.int .i64 0,.int .i64 0] 25)
  unfold ZA
  dsimp only
  go_enter Tryz.func55,Tryz.ntmps55
  go_wp2_with fail
  exact bodyPost_ret (v:=Ze 0 0) (by simp [results,Tryz.results55,go_sem]) rfl ⟨rfl,hb⟩
theorem ZpQ (w:World) (vb:Value) (m:List (Int×Int)) (b:Nat) (vs:Value) (s:Trm) (hB:Blk w b #[vs,.int .i64 s.2.1,.int .i64 s.2.2]) (hs:Zb w vs s.1) (hw:Zv s.1/\Bd s.2) (hb:Zb w vb m) (hm:Zv m) :
  Calls Tryz.prog 64 #[vb,.pointer (some ⟨b,0,none⟩)] w fun e w'=>e=.returned (.tuple #[Ze (ZA (ZS s.1 m s.2).1).1 (ZA (ZS s.1 m s.2).1).2,.int .i64 (ZS s.1 m s.2).2])/\Below w.heap.size w w':=by
 have lo:=ZlE (m:=m) hw.1 hw.2 hm
 have tv:=fun (w':World) (h:Below w.heap.size w w')=>Zfd w' vs vb s.1 m s.2 (hs.below h) (hb.below h) hw.1 hm hw.2
 have ng:=fun (w':World)=>ZkH w' _ lo
 generalize ZS s.1 m s.2=V at *
 obtain ⟨⟨v1,v2⟩,e⟩:=V
 obtain ⟨sl,s1,s2⟩:=s
 unfold ZA at *
 dsimp only at *
 obtain ⟨A,c,rfl⟩:=Zd hs
 obtain ⟨C,d,rfl⟩:=Zd hb
 generalize sl.length=n at *
 generalize m.length=k at *
 have TV:=Lib.hid tv;have NG:=Lib.hid ng
 have a0:=Za w (.cells #[.int .i64 0,.int .i64 0] 25)
 have B0:=Blk.start w #[.int .i64 0,.int .i64 0] 25
 have B1:=hB.keep a0
 have c0:=B1.cell 0
 have c1:=B1.cell 1
 have c2:=B1.cell 2
 clear tv ng hs hw hb hm lo hB
 go_enter Tryz.func64,Tryz.ntmps64
 go_upto_region 2 with (go_at_call 28;(with_reducible refine (TV.out _ a0).mono ?_);rintro e5 w1 ⟨rfl,hb1⟩)
 have a1:=Za w1 (.cells #[.int .i64 v1,.int .i64 v2] 25)
 have B2:=Blk.start w1 #[.int .i64 v1,.int .i64 v2] 25
 have B3:=(B0.keep hb1).keep a1
 have bl:=(a0.trans (hb1.mono a0.size)).trans (a1.mono (a0.trans (hb1.mono a0.size)).size)
 have HB:=Lib.hid (And.intro bl (And.intro B3 B2))
 clear a1 B2 B3 bl hb1 a0 B0 B1 c0 c1 c2
 generalize w1.heap.size=bt at *
 generalize w1.alloc (.cells #[.int .i64 v1,.int .i64 v2] 25)=w2 at *
 have d0:=HB.out.2.2.cell 0
 have d1:=HB.out.2.2.cell 1
 go_wp2_with (go_at_call 55;(with_reducible refine (NG.out _).mono ?_);rintro e6 w3 ⟨rfl,hb3⟩;have B4:=HB.out.2.1.keep hb3;have b4:=HB.out.1.trans (hb3.mono HB.out.1.size);have r0:=B4.cell 0;have r1:=B4.cell 1;have q0:=B4.free 0;have q1:=B4.free 1)
 have B5:=(B4.set 0 (.int .i64 (-v1))).set 1 (.int .i64 v2)
 have z0:=B5.cell 0
 have z1:=B5.cell 1
 exact bodyPost_ret (v:=.tuple #[Ze (-v1) v2,.int .i64 e]) (by simp [results,Tryz.results64,go_sem,z0,z1]) rfl ⟨rfl,(b4.setCell (p:=⟨w.heap.size,0,none⟩) (Nat.le_refl _) _).setCell (p:=⟨w.heap.size,1,none⟩) (Nat.le_refl _) _⟩
end
section
open Go.RowKit
def ZbS (k:Nat) (lo x:Int×Int):Int×Int:=if k=0\/x.1*lo.2<lo.1*x.2 then x else lo
def Zba (ts:List Rw) (m:List (Int×Int)):Nat->Option (Int×Int)
 | 0=>some (0,0)
 | k+1=>(Zba ts m k).bind fun lo=>match ts[k]? with
  | none=>none
  | some r=>if (ZS r.2.1 m r.2.2).2=0 then some (ZbS k lo (ZS r.2.1 m r.2.2).1) else none
theorem Ze2 {ts:List Rw} {m:List (Int×Int)} {k:Nat}:∀ d,Zba ts m k=none->Zba ts m (k+d)=none
 | 0,h=>h
 | d+1,h=>by rw [<- Nat.add_assoc,Zba,Ze2 d h];rfl
theorem ZkJ {x lo:Int×Int} (hx:OkR x) (hl:OkR lo):∃ d e:Nat,x.2=d/\lo.2=e/\Valid x.1 d/\Valid lo.1 e/\(Zco x.1 lo.1 d e<0↔x.1*lo.2<lo.1*x.2):=by
 obtain ⟨d,e1,v⟩:=hx
 obtain ⟨e,e2,u⟩:=hl
 refine ⟨d,e,e1,e2,v,u,?_⟩
 unfold Zco
 rw [e1,e2]
 by_cases h:x.1*(e:Int)<lo.1*(d:Int)
 ·rw [if_pos h];exact ⟨fun _=>h,fun _=>by decide⟩
 ·rw [if_neg h]
  by_cases h2:x.1*(e:Int)=lo.1*(d:Int)
  ·rw [if_pos h2];exact ⟨fun q=>absurd q (by decide),fun q=>absurd q h⟩
  ·rw [if_neg h2];exact ⟨fun q=>absurd q (by decide),fun q=>absurd q h⟩
def ZqJ (w:World) (r:Option (Int×Int)) (e:Ending) (w':World):Prop:=
 (match r with
  | some x=>e=.returned (.tuple #[Ze x.1 x.2,.int .i64 0])
  | none=>∃ E:Int,E≠0/\e=.returned (.tuple #[Ze 0 0,.int .i64 E]))/\Below w.heap.size w w'
structure LowS (W wr:World) (lo:Int×Int):Prop where
 R:Blk wr W.heap.size #[.int .i64 0,.int .i64 0]
 L:Blk wr (W.heap.size+1) #[.int .i64 lo.1,.int .i64 lo.2]
 below:Below W.heap.size W wr
theorem LowS.keep {W wr w':World} {lo:Int×Int} (h:LowS W wr lo) (hb:Below wr.heap.size wr w'):LowS W w' lo:=⟨h.R.keep hb,h.L.keep hb,h.below.trans (hb.mono h.below.size)⟩
theorem LowS.put {W wr:World} {lo:Int×Int} (h:LowS W wr lo) (x:Int×Int):LowS W ((wr.setCell ⟨W.heap.size+1,0,none⟩ (.int .i64 x.1)).setCell ⟨W.heap.size+1,1,none⟩ (.int .i64 x.2)) x:=
 ⟨(h.R.other (p:=⟨W.heap.size+1,0,none⟩) (by show W.heap.size+1≠W.heap.size;omega) _).other (p:=⟨W.heap.size+1,1,none⟩) (by show W.heap.size+1≠W.heap.size;omega) _,(h.L.set 0 _).set 1 _,
   (h.below.setCell (p:=⟨W.heap.size+1,0,none⟩) (by show W.heap.size<=W.heap.size+1;omega) _).setCell (p:=⟨W.heap.size+1,1,none⟩) (by show W.heap.size<=W.heap.size+1;omega) _⟩
theorem ZiL (w:World) (v vb:Value) (ts:List Rw) (m:List (Int×Int)) (h:ZD w v ts) (hw:∀ r∈ts,Zv r.2.1/\Bd r.2.2) (hb:Zb w vb m) (hm:Zv m) :
  Calls Tryz.prog 86 #[v,vb] w (ZqJ w (Zba ts m ts.length)):=by
 obtain ⟨A,c,rs,rfl,h2,h3,h4,h5,h6⟩:=h
 obtain ⟨n,hn⟩:∃ n,n=ts.length:=⟨_,rfl⟩
 have hrn:rs.length=n:=by rw [hn,<- h4,List.length_map]
 have hmx:n<=9223372036854775807:=by unfold maxLen at h3;omega
 rw [<- hn] at h2 h5 ⊢
 obtain ⟨res,hres⟩:∃ res,res=Zba ts m n:=⟨_,rfl⟩
 rw [<- hres]
 obtain ⟨C,d,rfl⟩:=Zd hb
 have HN:=Lib.hid (And.intro hrn (And.intro h4 (And.intro hmx (And.intro h6 (And.intro hn (And.intro hres (And.intro hw (And.intro hb hm))))))))
 have H5:=Lib.hid h5
 have S0:=Lib.hid (show LowS w ((w.alloc (.cells #[.int .i64 0,.int .i64 0] 25)).alloc (.cells #[.int .i64 0,.int .i64 0] 25)) (0,0) from by
  have B1:=Blk.start (w.alloc (.cells #[.int .i64 0,.int .i64 0] 25)) #[.int .i64 0,.int .i64 0] 25
  rw [World.size_alloc] at B1
  exact ⟨(Blk.start w #[.int .i64 0,.int .i64 0] 25).keep (Za _ _),B1,ZI _ _ _⟩)
 generalize m.length=lm at *
 clear hn hrn h2 h3 h4 h5 h6 hmx hres hw hb hm
 go_enter Tryz.func86,Tryz.ntmps86
 go_upto_region 2 with fail
 generalize (w.alloc (.cells #[.int .i64 0,.int .i64 0] 25)).alloc (.cells #[.int .i64 0,.int .i64 0] 25)=w1 at *
 go_wp2_with fail
 go_loopg [13] n (fun g v13 wr=>∃ (k:Nat) (lo:Int×Int),v13=.int .i64 k/\k<=n/\g=n-k/\Zba ts m k=some lo/\(k=0\/OkR lo)/\LowS w wr lo)
 case atStart=>exact ⟨0,(0,0),rfl,Nat.zero_le _,rfl,rfl,.inl rfl,S0.out⟩
 case round=>
  clear S0
  obtain ⟨k,lo,rfl,hk,hg,hlo,hok,D⟩:=hrel
  by_cases hkn:k=n
  ·have e:res=some lo:=by rw [HN.out.2.2.2.2.2.1,<- hkn];exact hlo
   have HD:=Lib.hid (And.intro D e)
   have l0:=D.L.cell 0
   have l1:=D.L.cell 1
   have r0:=D.R.cell 0
   have r1:=D.R.cell 1
   have q0:=D.R.free 0
   have q1:=D.R.free 1
   subst hkn
   clear hk hg hlo hok D e
   obtain ⟨lo1,lo2⟩:=lo
   dsimp only at l0 l1
   go_wp2_with fail
   have B5:=(HD.out.1.R.set 0 (.int .i64 lo1)).set 1 (.int .i64 lo2)
   have z0:=B5.cell 0
   have z1:=B5.cell 1
   rw [HD.out.2]
   exact bodyPost_ret (v:=.tuple #[Ze lo1 lo2,.int .i64 0]) (by simp [results,Tryz.results86,go_sem,z0,z1]) rfl ⟨rfl,(HD.out.1.below.setCell (p:=⟨w.heap.size,0,none⟩) (Nat.le_refl _) _).setCell (p:=⟨w.heap.size,1,none⟩) (Nat.le_refl _) _⟩
  ·have hlt:k<n:=by omega
   obtain ⟨x,hx⟩:∃ x,rs[k]? = some x:=⟨_,List.getElem?_eq_getElem (by have:=HN.out.1;omega)⟩
   obtain ⟨ad,rfl,d0,d1,d2,d3⟩:=ZaF H5.out D.below hx (by omega)
   have hr:=HN.out.2.2.2.1 x (List.mem_of_getElem? hx)
   have hxt:ts[k]? = some x.2:=by rw [<- HN.out.2.1,List.getElem?_map,hx];rfl
   have hwx:=HN.out.2.2.2.2.2.2.1 x.2 (List.mem_of_getElem? hxt)
   have tv:=fun (w':World) (h:Below w.heap.size w w')=>Zfd w' x.1 (.slice C lm d) x.2.2.1 m x.2.2.2 (hr.below h) (HN.out.2.2.2.2.2.2.2.1.below h) hwx.1 HN.out.2.2.2.2.2.2.2.2 hwx.2
   have vok:=ZlE (m:=m) hwx.1 hwx.2 HN.out.2.2.2.2.2.2.2.2
   have vk:=fun (e:(ZS x.2.2.1 m x.2.2.2).2=0)=>by
    obtain ⟨a,b,c,_,q⟩:=Zd3 hwx.1 hwx.2 HN.out.2.2.2.2.2.2.2.2 e
    exact Zcy a c b 8 _ q
   have nx:Zba ts m (k+1)=if (ZS x.2.2.1 m x.2.2.2).2=0 then some (ZbS k lo (ZS x.2.2.1 m x.2.2.2).1) else none:=by
    rw [Zba,hlo,Option.bind_some,hxt]
   have i1:(k:Int)<(n:Int):=by omega
   have i2:(0:Int)<=(k:Int):=by omega
   have wk:IntKind.i64.wrap ((k:Int)+1)=(k:Int)+1:=IntWalk.i64_in _ (by have:=HN.out.2.2.1;omega)
   obtain ⟨Ax,cx,rfx⟩:=Zd hr
   obtain ⟨x0,xo,xl,x1,x2⟩:=x
   dsimp only at *
   subst rfx
   generalize ZS xl m (x1,x2)=V at *
   obtain ⟨⟨v1,v2⟩,ev_⟩:=V
   dsimp only at *
   have TV:=Lib.hid tv
   have HK:=Lib.hid (And.intro hlt (And.intro hg (And.intro nx (And.intro hok (And.intro vk D)))))
   clear hlt hg nx hok vk D tv hr hxt hwx hx hkn hk hlo vok
   go_upto_region 5 with fail
   have a1:=Za wr (.cells #[.int .i64 xo,.slice Ax xl.length cx,.int .i64 x1,.int .i64 x2] 29)
   have RB:=Blk.start wr #[.int .i64 xo,.slice Ax xl.length cx,.int .i64 x1,.int .i64 x2] 29
   have D1:=Lib.hid (And.intro (HK.out.2.2.2.2.2.keep a1) RB)
   clear a1 RB d0 d1 d2 d3
   generalize wr.heap.size=bx at *
   generalize wr.alloc (.cells #[.int .i64 xo,.slice Ax xl.length cx,.int .i64 x1,.int .i64 x2] 29)=w2 at *
   have c1:=D1.out.2.cell 1
   have c2:=D1.out.2.cell 2
   have c3:=D1.out.2.cell 3
   go_upto_region 6 with (go_at_call 28;(with_reducible refine (TV.out _ D1.out.1.below).mono ?_);rintro e5 w3 ⟨rfl,hb3⟩)
   have a2:=Za w3 (.cells #[.int .i64 v1,.int .i64 v2] 25)
   have VB:=Blk.start w3 #[.int .i64 v1,.int .i64 v2] 25
   have D2:=Lib.hid (And.intro ((D1.out.1.keep hb3).keep a2) VB)
   clear a2 VB hb3 c1 c2 c3 D1
   generalize w3.heap.size=bv at *
   generalize w3.alloc (.cells #[.int .i64 v1,.int .i64 v2] 25)=w4 at *
   have f0:=D2.out.2.cell 0
   have f1:=D2.out.2.cell 1
   have r0:=D2.out.1.R.cell 0
   have r1:=D2.out.1.R.cell 1
   have q0:=D2.out.1.R.free 0
   have q1:=D2.out.1.R.free 1
   have l0:=D2.out.1.L.cell 0
   have l1:=D2.out.1.L.cell 1
   have m0:=D2.out.1.L.free 0
   have m1:=D2.out.1.L.free 1
   by_cases he:ev_=0
   ·subst he
    have nx:=HK.out.2.2.1
    rw [if_pos rfl] at nx
    have ov:=HK.out.2.2.2.2.1 rfl
    by_cases hk0:k=0
    ·subst hk0
     have NX:=Lib.hid (show Zba ts m (0+1)=some (v1,v2) from by rw [nx];unfold ZbS;rw [if_pos (.inl rfl)])
     clear nx r0 r1 q0 q1
     go_wp2_with fail
     go_roundg (n-1)
     case measure=>have:=HK.out;omega
     case rel=>exact ⟨1,(v1,v2),by first | rfl | simp,by have:=HK.out;omega,rfl,NX.out,.inr ov,D2.out.1.put (v1,v2)⟩
    ·have hk1:((k:Int)==0)=false:=by simpa using hk0
     have ol:=HK.out.2.2.2.1.resolve_left hk0
     obtain ⟨lo1,lo2⟩:=lo
     obtain ⟨dd,ee,e1,e2,vx,vl,hc⟩:=ZkJ ov ol
     dsimp only at e1 e2 vx vl hc l0 l1
     subst e1 e2
     have cm:=fun w'=>Zkg vx vl w'
     have pk:ZbS k (lo1,(ee:Int)) (v1,(dd:Int))=if Zco v1 lo1 dd ee<0 then (v1,(dd:Int)) else (lo1,(ee:Int)):=by
      unfold ZbS
      dsimp only
      by_cases q:Zco v1 lo1 dd ee<0
      ·rw [if_pos q,if_pos (.inr (hc.1 q))]
      ·rw [if_neg q,if_neg]
       rintro (a | a)
       ·exact hk0 a
       ·exact q (hc.2 a)
     rw [pk] at nx
     generalize Zco v1 lo1 dd ee=cv at *
     have CM:=Lib.hid cm
     have HO:=Lib.hid (And.intro ov ol)
     clear cm pk hc vx vl ov ol hk0 r0 r1 q0 q1
     by_cases hneg:cv<0
     ·rw [if_pos hneg] at nx
      have NX:=Lib.hid nx
      clear nx
      go_wp2_with (go_at_call 109;(with_reducible refine (CM.out _).mono ?_);rintro e7 w5 ⟨rfl,hb5⟩;have D5:=D2.out.1.keep hb5;have V5:=D2.out.2.keep hb5;clear f0 f1 m0 m1 l0 l1;have f0:=V5.cell 0;have f1:=V5.cell 1;have l0:=D5.L.cell 0;have l1:=D5.L.cell 1;have m0:=D5.L.free 0;have m1:=D5.L.free 1)
      go_roundg (n-(k+1))
      case measure=>have:=HK.out;omega
      case rel=>exact ⟨k+1,(v1,(dd:Int)),by push_cast;rfl,by have:=HK.out;omega,rfl,NX.out,.inr HO.out.1,D5.put (v1,(dd:Int))⟩
     ·rw [if_neg hneg] at nx
      have NX:=Lib.hid nx
      clear nx
      go_wp2_with (go_at_call 109;(with_reducible refine (CM.out _).mono ?_);rintro e7 w5 ⟨rfl,hb5⟩;have D5:=D2.out.1.keep hb5)
      go_roundg (n-(k+1))
      case measure=>have:=HK.out;omega
      case rel=>exact ⟨k+1,(lo1,(ee:Int)),by push_cast;rfl,by have:=HK.out;omega,rfl,NX.out,.inr HO.out.2,D5⟩
   ·have hne:(ev_ != 0)=true:=by simpa using he
    have nx:=HK.out.2.2.1
    rw [if_neg he] at nx
    have RN:=Lib.hid (show res=none from by
     rw [HN.out.2.2.2.2.2.1]
     have:=Ze2 (n-(k+1)) nx
     rwa [show k+1+(n-(k+1))=n by have:=HK.out.1;omega] at this)
    have HE:=Lib.hid he
    clear nx he l0 l1 m0 m1
    go_wp2_with fail
    have B5:=(D2.out.1.R.set 0 (.int .i64 0)).set 1 (.int .i64 0)
    have z0:=B5.cell 0
    have z1:=B5.cell 1
    rw [RN.out]
    exact bodyPost_ret (v:=.tuple #[Ze 0 0,.int .i64 ev_]) (by simp [results,Tryz.results86,go_sem,z0,z1]) rfl ⟨⟨_,HE.out,rfl⟩,(D2.out.1.below.setCell (p:=⟨w.heap.size,0,none⟩) (Nat.le_refl _) _).setCell (p:=⟨w.heap.size,1,none⟩) (Nat.le_refl _) _⟩
end
section
open Go.RowKit
theorem Zl6 (w:World) (v:Value) (r:Rw) (h:Zb w v r.2.1) (hw:Zv r.2.1) (hk:Bd r.2.2) :
  Calls Tryz.prog 77 #[.agg #[.int .i64 r.1,v,.int .i64 r.2.2.1,.int .i64 r.2.2.2]] w fun e w'=>e=.returned (.bool (!ZP r))/\Below w.heap.size w w':=by
 obtain ⟨op,l,kn,kd⟩:=r
 dsimp only at *
 have a:=Za w (.cells #[.int .i64 op,v,.int .i64 kn,.int .i64 kd] 29)
 have rt:=ZaP (w.alloc (.cells #[.int .i64 op,v,.int .i64 kn,.int .i64 kd] 29)) v l kn kd (h.below a) hw hk.1.1 hk.1.2 hk.2.1 hk.2.2
 have RT:=Lib.hid rt
 have HA:=Lib.hid a
 clear rt a hw hk
 obtain ⟨A,c,rfl⟩:=Zd h
 clear h
 unfold ZP ZW
 dsimp only
 generalize ZO l kn kd=R at *
 by_cases h0:0<=op
 ·by_cases h2:op<=2
  ·have e:(op==0||op==1||op==2)=true:=by
    rcases (show op=0\/op=1\/op=2 by omega) with rfl | rfl | rfl<;>rfl
   rw [e,Bool.not_true,Bool.false_or,Bool.not_not]
   clear e
   have i0:decide (0<=op)=true:=decide_eq_true h0
   have i2:decide (op<=2)=true:=decide_eq_true h2
   go_enter Tryz.func77,Tryz.ntmps77
   go_wp2_with (go_at_call 30;(with_reducible refine RT.out.mono ?_);rintro e w1 ⟨rfl,hb⟩)
   go_ret
   exact ⟨rfl,HA.out.trans (hb.mono HA.out.size)⟩
  ·have e:(op==0||op==1||op==2)=false:=by simp;omega
   rw [e,Bool.not_false,Bool.true_or,Bool.not_true]
   clear e
   have i0:decide (0<=op)=true:=decide_eq_true h0
   have i2:decide (op<=2)=false:=decide_eq_false h2
   go_enter Tryz.func77,Tryz.ntmps77
   go_wp2_with fail
   go_ret
   exact ⟨rfl,HA.out⟩
 ·have e:(op==0||op==1||op==2)=false:=by simp;omega
  rw [e,Bool.not_false,Bool.true_or,Bool.not_true]
  clear e
  have i0:decide (0<=op)=false:=decide_eq_false h0
  go_enter Tryz.func77,Tryz.ntmps77
  go_wp2_with fail
  go_ret
  exact ⟨rfl,HA.out⟩
theorem Zqt (w:World) (v:Value) (l:List Int) (c:Int) (h:ZaT w v l) :
  Calls Tryz.prog 106 #[.int .i64 c,v] w fun e w'=>e=.returned (.bool (l.contains c))/\w=w':=by
 obtain ⟨A,cp,rfl,h2,h3,h4⟩:=h
 obtain ⟨n,hn⟩:∃ n,n=l.length:=⟨_,rfl⟩
 have hmx:n<=9223372036854775807:=by unfold maxLen at h3;omega
 rw [<- hn] at h2 h4 ⊢
 have HN:=Lib.hid (And.intro hn hmx)
 have H4:=Lib.hid h4
 clear hn h2 h3 h4 hmx
 go_enter Tryz.func106,Tryz.ntmps106
 go_wp2_with fail
 go_loopg [5] n (fun g v5 wr=>w=wr/\∃ k:Nat,v5=.int .i64 k/\k<=n/\g=n-k/\(l.take k).contains c=false)
 case atStart=>exact ⟨rfl,0,rfl,Nat.zero_le _,rfl,rfl⟩
 case round=>
  obtain ⟨rfl,k,rfl,hk,hg,hall⟩:=hrel
  by_cases hkn:k=n
  ·have e:l.take k=l:=by rw [hkn,HN.out.1];exact List.take_length
   rw [e] at hall
   have FIN:=Lib.hid hall
   subst hkn
   clear hk hg hall e
   go_wp2_with fail
   go_ret
   exact ⟨by rw [FIN.out];rfl,rfl⟩
  ·have hlt:k<n:=by omega
   obtain ⟨x,hx⟩:∃ x,l[k]? = some x:=⟨_,List.getElem?_eq_getElem (by have:=HN.out.1;omega)⟩
   obtain ⟨ad,rfl,d0⟩:=ZbL H4.out (Below.refl _ _) hx (by omega)
   have nxt:=ZkX (c:=c) hx hall
   have hit:(x==c)=true->l.contains c=true:=fun q=>by
    have q:x=c:=by simpa using q
    rw [<- q]
    simpa using List.mem_of_getElem? hx
   have i1:(k:Int)<(n:Int):=by omega
   have i2:(0:Int)<=(k:Int):=by omega
   have wk:IntKind.i64.wrap ((k:Int)+1)=(k:Int)+1:=IntWalk.i64_in _ (by have:=HN.out.2;omega)
   have HK:=Lib.hid (And.intro hlt hg)
   have NX:=Lib.hid (And.intro nxt hit)
   clear nxt hit hx hkn hlt hk hg hall
   cases hq:(x==c)
   ·go_wp2_with fail
    go_roundg (n-(k+1))
    case measure=>have:=HK.out;omega
    case rel=>
     have hq':(c==x)=false:=by
      rw [beq_eq_false_iff_ne] at hq ⊢
      exact fun q=>hq q.symm
     exact ⟨rfl,k+1,by push_cast;rfl,by have:=HK.out;omega,rfl,NX.out.1.trans hq'⟩
   ·go_wp2_with fail
    go_ret
    exact ⟨by rw [NX.out.2 hq];rfl,rfl⟩
structure SclS (w wr:World) (op:Int) (v:Value) (kn kd bn bd:Int):Prop where
 R:Blk wr w.heap.size #[.int .i64 op,v,.int .i64 kn,.int .i64 kd]
 Q:Blk wr (w.heap.size+1) #[.int .i64 bn,.int .i64 bd]
 Z:Blk wr (w.heap.size+1+1) #[.int .i64 0,.slice none 0 0,.int .i64 0,.int .i64 0]
 below:Below w.heap.size w wr
theorem SclS.keep {w wr w2:World} {op:Int} {v:Value} {kn kd bn bd:Int} (h:SclS w wr op v kn kd bn bd) (hb:Below wr.heap.size wr w2):SclS w w2 op v kn kd bn bd:=
 ⟨h.R.keep hb,h.Q.keep hb,h.Z.keep hb,h.below.trans (hb.mono h.below.size)⟩
def ZqM (w:World) (op:Int) (P:List (Int×Int)×(Int×Int)×Int) (e:Ending) (w':World):Prop:=
 ∃ A c,e=.returned (.tuple #[.agg #[.int .i64 op,.slice A P.1.length c,.int .i64 P.2.1.1,.int .i64 P.2.1.2],.bool (P.2.2==0)])/\Zb w' (.slice A P.1.length c) P.1/\Below w.heap.size w w'/\Zs w.heap.size (.slice A P.1.length c)
theorem Zmd (w:World) (v:Value) (r:Rw) (kb:Int×Int) (ha:Zb w v r.2.1) (hl:Zv r.2.1) (hx:Bd r.2.2) (hb:Bd kb) :
  Calls Tryz.prog 105 #[.agg #[.int .i64 r.1,v,.int .i64 r.2.2.1,.int .i64 r.2.2.2],Ze kb.1 kb.2] w (ZqM w r.1 (Zh r.2.1 r.2.2 kb)):=by
 obtain ⟨op,l,kx⟩:=r
 dsimp only at *
 have td:=fun (w':World) (h:Below w.heap.size w w')=>Zdf w' v l kx kb (ha.below h) hl hx hb
 generalize Zh l kx kb=P at *
 obtain ⟨L,⟨p1,p2⟩,er⟩:=P
 obtain ⟨xn,xd⟩:=kx
 obtain ⟨bn,bd⟩:=kb
 dsimp only at *
 obtain ⟨A,c,rfl⟩:=Zd ha
 have TD:=Lib.hid td
 clear td ha hl hx hb
 generalize l.length=n at *
 have D:=Lib.hid (show SclS w (((w.alloc (.cells #[.int .i64 op,.slice A n c,.int .i64 xn,.int .i64 xd] 29)).alloc (.cells #[.int .i64 bn,.int .i64 bd] 25)).alloc (.cells #[.int .i64 0,.slice none 0 0,.int .i64 0,.int .i64 0] 29)) op (.slice A n c) xn xd bn bd from by
  have B1:=Blk.start (w.alloc (.cells #[.int .i64 op,.slice A n c,.int .i64 xn,.int .i64 xd] 29)) #[.int .i64 bn,.int .i64 bd] 25
  have B2:=Blk.start ((w.alloc (.cells #[.int .i64 op,.slice A n c,.int .i64 xn,.int .i64 xd] 29)).alloc (.cells #[.int .i64 bn,.int .i64 bd] 25)) #[.int .i64 0,.slice none 0 0,.int .i64 0,.int .i64 0] 29
  rw [World.size_alloc] at B1 B2
  rw [World.size_alloc] at B2
  exact ⟨((Blk.start w _ _).keep (Za _ _)).keep (Za _ _),B1.keep (Za _ _),B2,(ZI w _ _).trans ((Za _ _).mono (by simp;omega))⟩)
 go_enter Tryz.func105,Tryz.ntmps105
 go_upto_region 1 with fail
 generalize ((w.alloc (.cells #[.int .i64 op,.slice A n c,.int .i64 xn,.int .i64 xd] 29)).alloc (.cells #[.int .i64 bn,.int .i64 bd] 25)).alloc (.cells #[.int .i64 0,.slice none 0 0,.int .i64 0,.int .i64 0] 29)=w1 at *
 have r1:w1.cell? ⟨w.heap.size,1,none⟩=some (.slice A n c):=D.out.R.cell 1
 have r2:w1.cell? ⟨w.heap.size,2,none⟩=some (.int .i64 xn):=D.out.R.cell 2
 have r3:w1.cell? ⟨w.heap.size,3,none⟩=some (.int .i64 xd):=D.out.R.cell 3
 have b0:w1.cell? ⟨w.heap.size+1,0,none⟩=some (.int .i64 bn):=D.out.Q.cell 0
 have b1:w1.cell? ⟨w.heap.size+1,1,none⟩=some (.int .i64 bd):=D.out.Q.cell 1
 go_upto_region 2 with (go_at_call 17;(with_reducible refine (TD.out _ D.out.below).mono ?_);rintro e5 w5 H5;have H6:∃ A c,e5=.returned (.tuple #[.agg #[.slice A L.length c,.int .i64 p1,.int .i64 p2],.int .i64 er])/\Zb w5 (.slice A L.length c) L/\Below w1.heap.size w1 w5/\Zs w1.heap.size (.slice A L.length c):=Zch H5;obtain ⟨A1,cq,rfl,hr5,hb5,fr5⟩:=H6)
 have a6:=Za w5 (.cells #[.slice A1 L.length cq,.int .i64 p1,.int .i64 p2] 27)
 have X6:=Blk.start w5 #[.slice A1 L.length cq,.int .i64 p1,.int .i64 p2] 27
 have D6:=Lib.hid (And.intro ((D.out.keep hb5).keep a6) (And.intro X6 (And.intro (hr5.below a6) (show Zs (w.heap.size+1+1+1) (.slice A1 L.length cq) from fr5.mono D.out.Z.lt))))
 clear r1 r2 r3 b0 b1 D H5 hr5 hb5 fr5 a6 X6 TD
 generalize w5.heap.size=b6 at *
 generalize w5.alloc (.cells #[.slice A1 L.length cq,.int .i64 p1,.int .i64 p2] 27)=w6 at *
 have r0:w6.cell? ⟨w.heap.size,0,none⟩=some (.int .i64 op):=D6.out.1.R.cell 0
 have x0:w6.cell? ⟨b6,0,none⟩=some (.slice A1 L.length cq):=D6.out.2.1.cell 0
 have x1:w6.cell? ⟨b6,1,none⟩=some (.int .i64 p1):=D6.out.2.1.cell 1
 have x2:w6.cell? ⟨b6,2,none⟩=some (.int .i64 p2):=D6.out.2.1.cell 2
 have z0:w6.cell? ⟨w.heap.size+1+1,0,none⟩=some (.int .i64 0):=D6.out.1.Z.cell 0
 have z1:w6.cell? ⟨w.heap.size+1+1,1,none⟩=some (.slice none 0 0):=D6.out.1.Z.cell 1
 have z2:w6.cell? ⟨w.heap.size+1+1,2,none⟩=some (.int .i64 0):=D6.out.1.Z.cell 2
 have z3:w6.cell? ⟨w.heap.size+1+1,3,none⟩=some (.int .i64 0):=D6.out.1.Z.cell 3
 have q0:=D6.out.1.Z.free 0
 have q1:=D6.out.1.Z.free 1
 have q2:=D6.out.1.Z.free 2
 have q3:=D6.out.1.Z.free 3
 generalize hE:(er==0)=E at *
 go_wp2_with fail
 have Z5:=(((D6.out.1.Z.set 0 (.int .i64 op)).set 1 (.slice A1 L.length cq)).set 2 (.int .i64 p1)).set 3 (.int .i64 p2)
 have y0:=Z5.cell 0
 have y1:=Z5.cell 1
 have y2:=Z5.cell 2
 have y3:=Z5.cell 3
 have hf:=D6.out.2.2.2
 have hs:∀ {wx:World} (_:Zb wx (.slice A1 L.length cq) L) (i:Nat) (x:Value),Zb (wx.setCell ⟨w.heap.size+1+1,i,none⟩ x) (.slice A1 L.length cq) L:=fun h i x=>h.setCell hf (Nat.lt_succ_self _) x
 have hbz:∀ {wx:World} (_:Below w.heap.size w wx) (i:Nat) (x:Value),Below w.heap.size w (wx.setCell ⟨w.heap.size+1+1,i,none⟩ x):=fun h i x=>h.setCell (p:=⟨w.heap.size+1+1,i,none⟩) (by show w.heap.size<=w.heap.size+1+1;omega) x
 exact bodyPost_ret (v:=.tuple #[.agg #[.int .i64 op,.slice A1 L.length cq,.int .i64 p1,.int .i64 p2],.bool E]) (by simp [results,Tryz.results105,go_sem,y0,y1,y2,y3]) rfl
  ⟨A1,cq,by rw [<- hE],hs (hs (hs (hs D6.out.2.2.1 _ _) _ _) _ _) _ _,hbz (hbz (hbz (hbz D6.out.1.below _ _) _ _) _ _) _ _,hf.mono (by omega)⟩
end
end Go.Proofs.YtolookeddknmoaaGreat
