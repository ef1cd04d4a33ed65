import Derived.Test.YtolookeddknmoaaGreatQBF
import Derived.Test.YtolookeddknmoaaGreatQBS
set_option maxRecDepth 100000
set_option maxHeartbeats 8000000
namespace Go.Proofs.YtolookeddknmoaaGreat
section
open Go.RowKit
def Zd8:Prop:=∀ (w:World) (v:Value) (l:List Rw),ZD w v l->(∀ r∈l,ZX r)->Calls Tryz.prog 40 #[v] w (ZbJ w (ZeP l))
theorem ZqD {t:Trm} {op:Int} (h1:Zv t.1) (h2:Bd t.2) (ho:op=1\/op=2):ZX (op,t):=⟨h1,h2,by
 show -9223372036854775808<=op/\op<=9223372036854775807
 omega⟩
theorem ZoC (hSolve:Zd8) (w:World) (v va:Value) (l:List Rw) (t:Trm) (xo:Int) (h:ZD w v l) (hw:∀ r∈l,ZX r) (hl:l.length<=1000) (ha:Zb w va t.1) (ht:Zv t.1) (hk:Bd t.2) (hop:xo=1\/xo=2) :
  Calls Tryz.prog 16 #[v,.agg #[va,.int .i64 t.2.1,.int .i64 t.2.2],.int .i64 xo] w fun e w'=>e=.returned (.int .i64 (Zbi l t xo))/\Below w.heap.size w w':=by
 obtain ⟨iR,hiR,zR0,zR1,zR2⟩:=info_parts Zc6
 have hm:ZX (Za1 xo (xo,t)):=Zdq (ZqD ht hk hop) (by omega)
 have hw2:=Zhs hw hm
 have sv:=fun (w':World) (v':Value) (h':ZD w' v' (l++[Za1 xo (xo,t)]))=>hSolve w' v' (l++[Za1 xo (xo,t)]) h' hw2
 have code:=ZjY (l++[Za1 xo (xo,t)])
 rw [<- Zlg (Zjn hw2)] at code
 have td:=fun (w':World) (hb:Below w.heap.size w w')=>Zdf w' va t.1 t.2 (-1,1) (ha.below hb) ht hk Zb5
 obtain ⟨Z,hZ⟩:∃ Z,Z=Zbi l t xo:=⟨_,rfl⟩
 rw [<- hZ]
 unfold Zbi at hZ
 have hmr:Za1 xo (xo,t)=(xo,(Zh t.1 t.2 (-1,1)).1,(Zh t.1 t.2 (-1,1)).2.1):=rfl
 rw [hmr] at sv code hZ
 clear hm hw2 hmr
 generalize Zh t.1 t.2 (-1,1)=P at *
 obtain ⟨xl,⟨x1,x2⟩,er⟩:=P
 dsimp only at sv code hZ td
 obtain ⟨⟨res2,z2⟩,hz2⟩:∃ q,ZeP (l++[(xo,xl,x1,x2)])=q:=⟨_,rfl⟩
 rw [hz2] at sv code hZ
 dsimp only at code hZ
 obtain ⟨tl,kn,kd⟩:=t
 dsimp only at *
 obtain ⟨At,ct,rfl⟩:=Zd ha
 obtain ⟨A,c,rs,rfl,h2,h3,h4,h5,h6⟩:=h
 have one:∀ u∈Zt rs,u.oneCell'=true:=ZeQ rs fun x hx=>by
  obtain ⟨A',c',e⟩:=Zd (h6 x hx)
  exact ⟨_,_,_,e⟩
 obtain ⟨n,hn⟩:∃ n,l.length=n:=⟨_,rfl⟩
 rw [hn] at h5 hl
 have HR0:=Lib.hid (And.intro h5 (And.intro one (And.intro h4 h6)))
 have HN:=Lib.hid hn
 have LK:=Lib.hid (show n+1<=maxLen/\(n+1)*48<=140737488355328 from by unfold maxLen;omega)
 have SV:=Lib.hid sv
 have TD:=Lib.hid td
 have HZ:=Lib.hid (And.intro hZ code)
 have B0:=Lib.hid (And.intro (Za w (.cells #[.slice At tl.length ct,.int .i64 kn,.int .i64 kd] 27)) (Blk.start w #[.slice At tl.length ct,.int .i64 kn,.int .i64 kd] 27))
 rw [hn]
 clear sv td code hZ h2 h3 h4 h5 h6 hw hl hz2 one hn ha ht hk hop
 generalize tl.length=tn at *
 go_enter Tryz.func16,Tryz.ntmps16
 go_upto_region 1 with fail
 generalize hb0:w.heap.size=b0 at *
 generalize w.alloc (.cells #[.slice At tn ct,.int .i64 kn,.int .i64 kd] 27)=w1 at *
 have y0:w1.cell? ⟨b0,0,none⟩=some (.slice At tn ct):=B0.out.2.cell 0
 have y1:w1.cell? ⟨b0,1,none⟩=some (.int .i64 kn):=B0.out.2.cell 1
 have y2:w1.cell? ⟨b0,2,none⟩=some (.int .i64 kd):=B0.out.2.cell 2
 go_upto_region 2 with (go_at_call 17;(with_reducible refine (TD.out _ B0.out.1).mono ?_);rintro e5 w5 H5;have H6:∃ A c,e5=.returned (.tuple #[.agg #[.slice A xl.length c,.int .i64 x1,.int .i64 x2],.int .i64 er])/\Zb w5 (.slice A xl.length c) xl/\Below w1.heap.size w1 w5/\Zs w1.heap.size (.slice A xl.length c):=Zch H5;obtain ⟨Ax,cx,rfl,hr5,hb5,fr5⟩:=H6)
 obtain ⟨xn,hxn⟩:∃ xn,xl.length=xn:=⟨_,rfl⟩
 rw [hxn] at hr5 ⊢
 have a6:=Za w5 (.cells #[.slice Ax xn cx,.int .i64 x1,.int .i64 x2] 27)
 have B6:=Lib.hid (And.intro (Zl hb0 (Zl hb0 B0.out.1 hb5) a6) (Blk.start w5 #[.slice Ax xn cx,.int .i64 x1,.int .i64 x2] 27))
 have HX:=Lib.hid (And.intro hxn (hr5.below a6))
 clear y0 y1 y2 B0 H5 hr5 hb5 fr5 a6 hxn
 generalize w5.heap.size=b3 at *
 generalize w5.alloc (.cells #[.slice Ax xn cx,.int .i64 x1,.int .i64 x2] 27)=wq at *
 by_cases ge:er=0
 rotate_left
 ·have ne:(er != 0)=true:=by simpa using ge
  have HZ2:=Lib.hid (show Z=2 from by rw [HZ.out.1,if_pos ge])
  clear ge
  go_wp2_with fail
  go_ret
  exact ⟨by rw [HZ2.out];rfl,by first | exact B6.out.1 | (rw [hb0];exact B6.out.1)⟩
 have HZ2:=Lib.hid (show Z=if z2=2 then 2 else 1-z2 from by rw [HZ.out.1,if_neg (fun q=>q ge)])
 subst ge
 have r0:wq.cell? ⟨b3,0,none⟩=some (.slice Ax xn cx):=B6.out.2.cell 0
 have r1:wq.cell? ⟨b3,1,none⟩=some (.int .i64 x1):=B6.out.2.cell 1
 have r2:wq.cell? ⟨b3,2,none⟩=some (.int .i64 x2):=B6.out.2.cell 2
 have HR:=Lib.hid (show (∀ w':World,Below wq.heap.size wq w'->ZB w' w.heap.size 4 A n (Zt rs))/\(∀ u∈Zt rs,u.oneCell'=true)/\rs.map (·.2)=l/\∀ w':World,Below wq.heap.size wq w'->∀ x∈rs,Zb w' x.1 x.2.2.1/\Off (fun b=>wq.heap.size<=b) x.1 x.2.2.1 from
  ⟨fun w' hb=>by have:=Zl hb0 B6.out.1 hb;exact (hb0▸HR0.out.1).below (by rw [hb0];exact this),HR0.out.2.1,HR0.out.2.2.1,fun w' hb x hx=>⟨(HR0.out.2.2.2 x hx).below (by rw [hb0];exact Zl hb0 B6.out.1 hb),(ZfH (W:=w) (HR0.out.2.2.2 x hx)).mono fun b q=>by have:=B6.out.1.size;omega⟩⟩)
 go_upto_region 4 with fail
 go_cut [9,10] from 11 to 35 (fun v9 v10 wx=>v10=.int .i64 z2/\Below wq.heap.size wq wx)
 case first=>
  have STB:=Lib.hid (show ZcD (fun w'=>((w'.cell? ⟨b3,0,none⟩=some (.slice Ax xn cx)/\(w'.cell? ⟨b3,1,none⟩=some (.int .i64 x1)/\w'.cell? ⟨b3,2,none⟩=some (.int .i64 x2))))/\Below wq.heap.size wq w') from ZC (ZC (Zz _ _) (ZC (Zz _ _) (Zz _ _))) (ZbD wq))
  have SF:=Lib.hid (fun (w':World) (hb:Below wq.heap.size wq w')=>show (fun w'=>((w'.cell? ⟨b3,0,none⟩=some (.slice Ax xn cx)/\(w'.cell? ⟨b3,1,none⟩=some (.int .i64 x1)/\w'.cell? ⟨b3,2,none⟩=some (.int .i64 x2))))/\Below wq.heap.size wq w') w' from STB.out wq w' hb ⟨⟨r0,⟨r1,r2⟩⟩,Below.refl _ _⟩)
  have HS:=SF.out wq.drew (Zq _)
  dsimp only at HS
  clear r0 r1 r2
  refine wp_region_noPanic ?_
  refine wp_region_held_drew (S:=(fun w'=>((w'.cell? ⟨b3,0,none⟩=some (.slice Ax xn cx)/\(w'.cell? ⟨b3,1,none⟩=some (.int .i64 x1)/\w'.cell? ⟨b3,2,none⟩=some (.int .i64 x2))))/\Below wq.heap.size wq w')) (by kernel_rfl) HS (fun hHeld=>?_)
  clear HS
  refine tk 1 rfl ?_
  refine tk 3 rfl ?_
  refine tk 4 rfl ?_
  refine tk 5 rfl ?_
  (try simp only [cl,Act.put])
  refine wpAnyH_ready (rs:=[0,6]) (by kernel_rfl) (by simp) ?_
  refine AllReadyH.cons (o:=_) rfl (fun K hK=>?_) ?_
  ·go_simp
   have HB:=Lib.hid (ZG hHeld).size
   (first | refine hK.out _ _ (Za9 STB.out (by with_reducible assumption)) (fun hH2=>?_) | refine hK.out _ _ (STB.out _ _ (Za _ _) (by with_reducible assumption)) (fun hH2=>?_))
   clear hK K
   (try dsimp only at hH2)
   (first | have EM0:=Zmy hH2 HB.out | have EM0:=ZkO hH2 HB.out)
   (try rw [size_drew] at EM0)
   (try rw [World.size_alloc] at EM0)
   have EM:=Lib.hid EM0
   clear EM0
   (try (have NA:=Lib.hid (Zk7 hH2 NA.out)))
   clear hHeld
   have hHeld:=hH2
   clear hH2
   (try simp only [cl,Act.put])
   refine wpAnyH_ready (rs:=[2,6]) (by kernel_rfl) (by simp) ?_
   refine AllReadyH.cons (o:=_) rfl (fun K hK=>?_) ?_
   ·refine Zab _ rfl _ _ 22 rfl wq.heap.size 29 iR (.agg #[.int .i64 0,.slice none 0 0,.int .i64 0,.int .i64 0]) 4 48 Tryz.underlying22 hiR zR0 zR1 zR2 rfl (by decide) _ 0 [] rfl EM.out w.heap.size A n c (Zt rs) rfl (HR.out.1 _ (ZG hHeld)) HR.out.2.1 (by have:=LK.out;omega) (by have:=LK.out;omega) (ZG hHeld).size (fun v15 w15 hown hgrow hat=>?_)
    have OW:=Lib.hid (show w15.ownsRow wq.heap.size 29 4 v15 n (Zt rs) from by simpa using hown)
    have bb:=(ZG hHeld).grown hgrow (ZG hHeld).size (fun b q=>(World.ownsRow.lt EM.out b q).1)
    (try (have NA:=Lib.hid (Zga NA.out hgrow (fun e=>by simp [Act.eval,Value.ownBlock] at e))))
    refine hK.out _ _ (SF.out _ bb) (fun hH2=>?_)
    (try dsimp only at hH2)
    clear hK K hHeld hown hgrow hat bb EM
    have hHeld:=hH2
    clear hH2
    (try simp only [cl,Act.put])
    refine rd 6 rfl fun K hK=>?_
    go_simp
    (first | refine hK.out _ _ (Za9 STB.out (by with_reducible assumption)) (fun hH2=>?_) | refine hK.out _ _ (STB.out _ _ (Za _ _) (by with_reducible assumption)) (fun hH2=>?_))
    clear hK K
    (try dsimp only at hH2)
    (first | have NA0:=ZfE hH2 | have NA0:=ZeK hH2)
    (try rw [size_drew] at NA0)
    (try rw [World.size_alloc] at NA0)
    have NA:=Lib.hid NA0
    clear NA0
    (try (have OW:=Lib.hid (ZeE hH2 OW.out)))
    (try (have EM:=Lib.hid (ZeE hH2 EM.out)))
    clear hHeld
    have hHeld:=hH2
    clear hH2
    (try simp only [cl,Act.put])
    refine rd 7 rfl fun K hK=>?_
    refine Zab _ rfl _ _ 22 rfl wq.heap.size 29 iR (.agg #[.int .i64 0,.slice none 0 0,.int .i64 0,.int .i64 0]) 4 48 Tryz.underlying22 hiR zR0 zR1 zR2 rfl (by decide) _ n (Zt rs) rfl OW.out _ (some _) 1 1 [.int .i64 xo,.slice Ax xn cx,.int .i64 x1,.int .i64 x2] rfl (NA.out.reads rfl) (Zcw _ _ _ _ _ _) (by have:=LK.out;omega) (by have:=LK.out;omega) (ZG hHeld).size (fun v16 w16 hown hgrow hat=>?_)
    have RA:=Lib.hid (Zde (ts:=l) (t:=(xo,xl,x1,x2)) (S:=fun b=>wq.heap.size<=b) (fun b q=>q) HR.out.2.2.1 (fun b q=>(World.ownsRow.lt OW.out b q).1) (HR.out.2.2.2 _ (ZG hHeld)) (by rw [HN.out];exact hown) hgrow HX.out.2 (ZG hHeld))
    have bb:=(ZG hHeld).grown hgrow (ZG hHeld).size (fun b q=>(World.ownsRow.lt OW.out b q).1)
    refine hK.out _ _ (SF.out _ bb) (fun hH2=>?_)
    (try dsimp only at hH2)
    clear hK K hHeld hown hgrow hat bb NA OW
    have hHeld:=hH2
    clear hH2
    (try simp only [cl,Act.put])
    refine rd 8 rfl fun K hK=>?_
    go_simp
    (go_at_call 40;(with_reducible refine (SV.out _ _ RA.out).mono ?_);rintro e6 w6 ⟨A6,c6,rfl,_,_,hb⟩)
    go_wp2_with fail
    refine hK.out _ _ (STB.out _ _ hb (by with_reducible assumption)) (fun hH2=>?_)
    clear hK K hHeld hb;have hHeld:=hH2;clear hH2
    (try simp only [cl,Act.put])
    refine tk 9 rfl ?_
    refine tk 10 rfl ?_
    refine tk 11 rfl ?_
    refine tk 12 rfl ?_
    refine tk 13 rfl ?_
    (try simp only [cl,Act.put])
    refine wpAnyH_done (by kernel_rfl) ?_ _
    refine NoPanic.normal ?_
    go_wp2_with fail
    go_meet
    case rel=>exact ⟨rfl,hHeld.2⟩
   refine AllReadyH.cons (o:=_) rfl (fun K hK=>?_) AllReadyH.nil
   go_simp
   (first | refine hK.out _ _ (Za9 STB.out (by with_reducible assumption)) (fun hH2=>?_) | refine hK.out _ _ (STB.out _ _ (Za _ _) (by with_reducible assumption)) (fun hH2=>?_))
   clear hK K
   (try dsimp only at hH2)
   (first | have NA0:=ZfE hH2 | have NA0:=ZeK hH2)
   (try rw [size_drew] at NA0)
   (try rw [World.size_alloc] at NA0)
   have NA:=Lib.hid NA0
   clear NA0
   (try (have OW:=Lib.hid (ZeE hH2 OW.out)))
   (try (have EM:=Lib.hid (ZeE hH2 EM.out)))
   clear hHeld
   have hHeld:=hH2
   clear hH2
   (try simp only [cl,Act.put])
   refine rd 2 rfl fun K hK=>?_
   refine Zab _ rfl _ _ 22 rfl wq.heap.size 29 iR (.agg #[.int .i64 0,.slice none 0 0,.int .i64 0,.int .i64 0]) 4 48 Tryz.underlying22 hiR zR0 zR1 zR2 rfl (by decide) _ 0 [] rfl EM.out w.heap.size A n c (Zt rs) rfl (HR.out.1 _ (ZG hHeld)) HR.out.2.1 (by have:=LK.out;omega) (by have:=LK.out;omega) (ZG hHeld).size (fun v15 w15 hown hgrow hat=>?_)
   have OW:=Lib.hid (show w15.ownsRow wq.heap.size 29 4 v15 n (Zt rs) from by simpa using hown)
   have bb:=(ZG hHeld).grown hgrow (ZG hHeld).size (fun b q=>(World.ownsRow.lt EM.out b q).1)
   (try (have NA:=Lib.hid (Zga NA.out hgrow (fun e=>by simp [Act.eval,Value.ownBlock] at e))))
   refine hK.out _ _ (SF.out _ bb) (fun hH2=>?_)
   (try dsimp only at hH2)
   clear hK K hHeld hown hgrow hat bb EM
   have hHeld:=hH2
   clear hH2
   (try simp only [cl,Act.put])
   refine rd 7 rfl fun K hK=>?_
   refine Zab _ rfl _ _ 22 rfl wq.heap.size 29 iR (.agg #[.int .i64 0,.slice none 0 0,.int .i64 0,.int .i64 0]) 4 48 Tryz.underlying22 hiR zR0 zR1 zR2 rfl (by decide) _ n (Zt rs) rfl OW.out _ (some _) 1 1 [.int .i64 xo,.slice Ax xn cx,.int .i64 x1,.int .i64 x2] rfl (NA.out.reads rfl) (Zcw _ _ _ _ _ _) (by have:=LK.out;omega) (by have:=LK.out;omega) (ZG hHeld).size (fun v16 w16 hown hgrow hat=>?_)
   have RA:=Lib.hid (Zde (ts:=l) (t:=(xo,xl,x1,x2)) (S:=fun b=>wq.heap.size<=b) (fun b q=>q) HR.out.2.2.1 (fun b q=>(World.ownsRow.lt OW.out b q).1) (HR.out.2.2.2 _ (ZG hHeld)) (by rw [HN.out];exact hown) hgrow HX.out.2 (ZG hHeld))
   have bb:=(ZG hHeld).grown hgrow (ZG hHeld).size (fun b q=>(World.ownsRow.lt OW.out b q).1)
   refine hK.out _ _ (SF.out _ bb) (fun hH2=>?_)
   (try dsimp only at hH2)
   clear hK K hHeld hown hgrow hat bb NA OW
   have hHeld:=hH2
   clear hH2
   (try simp only [cl,Act.put])
   refine rd 8 rfl fun K hK=>?_
   go_simp
   (go_at_call 40;(with_reducible refine (SV.out _ _ RA.out).mono ?_);rintro e6 w6 ⟨A6,c6,rfl,_,_,hb⟩)
   go_wp2_with fail
   refine hK.out _ _ (STB.out _ _ hb (by with_reducible assumption)) (fun hH2=>?_)
   clear hK K hHeld hb;have hHeld:=hH2;clear hH2
   (try simp only [cl,Act.put])
   refine tk 9 rfl ?_
   refine tk 10 rfl ?_
   refine tk 11 rfl ?_
   refine tk 12 rfl ?_
   refine tk 13 rfl ?_
   (try simp only [cl,Act.put])
   refine wpAnyH_done (by kernel_rfl) ?_ _
   refine NoPanic.normal ?_
   go_wp2_with fail
   go_meet
   case rel=>exact ⟨rfl,hHeld.2⟩
  refine AllReadyH.cons (o:=_) rfl (fun K hK=>?_) AllReadyH.nil
  go_simp
  (first | refine hK.out _ _ (Za9 STB.out (by with_reducible assumption)) (fun hH2=>?_) | refine hK.out _ _ (STB.out _ _ (Za _ _) (by with_reducible assumption)) (fun hH2=>?_))
  clear hK K
  (try dsimp only at hH2)
  (first | have NA0:=ZfE hH2 | have NA0:=ZeK hH2)
  (try rw [size_drew] at NA0)
  (try rw [World.size_alloc] at NA0)
  have NA:=Lib.hid NA0
  clear NA0
  (try (have OW:=Lib.hid (ZeE hH2 OW.out)))
  (try (have EM:=Lib.hid (ZeE hH2 EM.out)))
  clear hHeld
  have hHeld:=hH2
  clear hH2
  (try simp only [cl,Act.put])
  refine rd 0 rfl fun K hK=>?_
  go_simp
  have HB:=Lib.hid (ZG hHeld).size
  (first | refine hK.out _ _ (Za9 STB.out (by with_reducible assumption)) (fun hH2=>?_) | refine hK.out _ _ (STB.out _ _ (Za _ _) (by with_reducible assumption)) (fun hH2=>?_))
  clear hK K
  (try dsimp only at hH2)
  (first | have EM0:=Zmy hH2 HB.out | have EM0:=ZkO hH2 HB.out)
  (try rw [size_drew] at EM0)
  (try rw [World.size_alloc] at EM0)
  have EM:=Lib.hid EM0
  clear EM0
  (try (have NA:=Lib.hid (Zk7 hH2 NA.out)))
  clear hHeld
  have hHeld:=hH2
  clear hH2
  (try simp only [cl,Act.put])
  refine rd 2 rfl fun K hK=>?_
  refine Zab _ rfl _ _ 22 rfl wq.heap.size 29 iR (.agg #[.int .i64 0,.slice none 0 0,.int .i64 0,.int .i64 0]) 4 48 Tryz.underlying22 hiR zR0 zR1 zR2 rfl (by decide) _ 0 [] rfl EM.out w.heap.size A n c (Zt rs) rfl (HR.out.1 _ (ZG hHeld)) HR.out.2.1 (by have:=LK.out;omega) (by have:=LK.out;omega) (ZG hHeld).size (fun v15 w15 hown hgrow hat=>?_)
  have OW:=Lib.hid (show w15.ownsRow wq.heap.size 29 4 v15 n (Zt rs) from by simpa using hown)
  have bb:=(ZG hHeld).grown hgrow (ZG hHeld).size (fun b q=>(World.ownsRow.lt EM.out b q).1)
  (try (have NA:=Lib.hid (Zga NA.out hgrow (fun e=>by simp [Act.eval,Value.ownBlock] at e))))
  refine hK.out _ _ (SF.out _ bb) (fun hH2=>?_)
  (try dsimp only at hH2)
  clear hK K hHeld hown hgrow hat bb EM
  have hHeld:=hH2
  clear hH2
  (try simp only [cl,Act.put])
  refine rd 7 rfl fun K hK=>?_
  refine Zab _ rfl _ _ 22 rfl wq.heap.size 29 iR (.agg #[.int .i64 0,.slice none 0 0,.int .i64 0,.int .i64 0]) 4 48 Tryz.underlying22 hiR zR0 zR1 zR2 rfl (by decide) _ n (Zt rs) rfl OW.out _ (some _) 1 1 [.int .i64 xo,.slice Ax xn cx,.int .i64 x1,.int .i64 x2] rfl (NA.out.reads rfl) (Zcw _ _ _ _ _ _) (by have:=LK.out;omega) (by have:=LK.out;omega) (ZG hHeld).size (fun v16 w16 hown hgrow hat=>?_)
  have RA:=Lib.hid (Zde (ts:=l) (t:=(xo,xl,x1,x2)) (S:=fun b=>wq.heap.size<=b) (fun b q=>q) HR.out.2.2.1 (fun b q=>(World.ownsRow.lt OW.out b q).1) (HR.out.2.2.2 _ (ZG hHeld)) (by rw [HN.out];exact hown) hgrow HX.out.2 (ZG hHeld))
  have bb:=(ZG hHeld).grown hgrow (ZG hHeld).size (fun b q=>(World.ownsRow.lt OW.out b q).1)
  refine hK.out _ _ (SF.out _ bb) (fun hH2=>?_)
  (try dsimp only at hH2)
  clear hK K hHeld hown hgrow hat bb NA OW
  have hHeld:=hH2
  clear hH2
  (try simp only [cl,Act.put])
  refine rd 8 rfl fun K hK=>?_
  go_simp
  (go_at_call 40;(with_reducible refine (SV.out _ _ RA.out).mono ?_);rintro e6 w6 ⟨A6,c6,rfl,_,_,hb⟩)
  go_wp2_with fail
  refine hK.out _ _ (STB.out _ _ hb (by with_reducible assumption)) (fun hH2=>?_)
  clear hK K hHeld hb;have hHeld:=hH2;clear hH2
  (try simp only [cl,Act.put])
  refine tk 9 rfl ?_
  refine tk 10 rfl ?_
  refine tk 11 rfl ?_
  refine tk 12 rfl ?_
  refine tk 13 rfl ?_
  (try simp only [cl,Act.put])
  refine wpAnyH_done (by kernel_rfl) ?_ _
  refine NoPanic.normal ?_
  go_wp2_with fail
  go_meet
  case rel=>exact ⟨rfl,hHeld.2⟩
 case rest=>
  obtain ⟨rfl,hbq⟩:=hcut
  have HB:=Lib.hid (Zl hb0 B6.out.1 hbq)
  clear r0 r1 r2 hbq
  rcases HZ.out.2 with q | q | q
  ·have HZ3:=Lib.hid (show Z=1 from by rw [HZ2.out,q];rfl)
   subst q
   go_wp2_with fail
   go_ret
   exact ⟨by rw [HZ3.out];rfl,by first | exact HB.out | (rw [hb0];exact HB.out)⟩
  ·have HZ3:=Lib.hid (show Z=0 from by rw [HZ2.out,q];rfl)
   subst q
   go_wp2_with fail
   go_ret
   exact ⟨by rw [HZ3.out];rfl,by first | exact HB.out | (rw [hb0];exact HB.out)⟩
  ·have HZ3:=Lib.hid (show Z=2 from by rw [HZ2.out,q];rfl)
   subst q
   go_wp2_with fail
   go_ret
   exact ⟨by rw [HZ3.out];rfl,by first | exact HB.out | (rw [hb0];exact HB.out)⟩
end
end Go.Proofs.YtolookeddknmoaaGreat
