import Derived.Test.YtolookeddknmoaaGreatQAL
set_option maxRecDepth 100000
set_option maxHeartbeats 8000000
namespace Go.Proofs.YtolookeddknmoaaGreat
section
open Go.RowKit
theorem Zkf (w:World) (va vb:Value) (l m:List (Int×Int)) (kx ky:Int×Int) (ha:Zb w va l) (hb:Zb w vb m) (hl:ZF l) (hm:ZF m) (hx:OkR kx) (hy:OkR ky) (h8:l.length<=8) (h8':m.length<=8)
  (h:How) (pb:Addr) (how:∀ w',Below w.heap.size w w'->∀ x y,OkR x->OkR y->Calls Tryz.prog 37 #[Ze x.1 x.2,Ze y.1 y.2,.pointer (some pb)] w' fun r w2=>r=.returned (.tuple #[Ze (h x y).1.1 (h x y).1.2,.int .i64 (h x y).2])/\Below w'.heap.size w' w2)
  (hk:(h kx ky).2=0) (hc:Zad h l m (max l.length m.length)) :
  Calls Tryz.prog 35 #[.agg #[va,.int .i64 kx.1,.int .i64 kx.2],.agg #[vb,.int .i64 ky.1,.int .i64 ky.2],.func (.func 37) #[] #[.pointer (some pb)]] w (ZaS w (Zw (ZaD h l m)) (h kx ky).1 0):=by
 obtain ⟨i0,hi,hz0,hz1,hz2⟩:=info_parts ZdA
 have h1:=fun (w':World) (hb:Below w.heap.size w w')=>how w' hb kx ky hx hy
 rw [hk] at h1
 obtain ⟨A,c,rfl,a2,a3,a4⟩:=id ha
 obtain ⟨B,d,rfl,b2,b3,b4⟩:=id hb
 obtain ⟨n,hn⟩:∃ n,n=max l.length m.length:=⟨_,rfl⟩
 have hn8:n<=8:=by omega
 have HR:=Lib.hid (Zlj h l m)
 rw [<- hn] at HR
 have HC:=Lib.hid (Zea h l m)
 rw [<- hn] at hc HC
 have HN:=Lib.hid (And.intro hn hc)
 have HOW:=Lib.hid how
 have H1:=Lib.hid h1
 have TS:=Lib.hid (And.intro ha (And.intro hb (And.intro hl hm)))
 generalize l.length=ll at *
 generalize m.length=lm at *
 clear how h1 ha hb hl hm hx hy hn hc hk a2 a3 a4 b2 b3 b4
 generalize (h kx ky).1=z at *
 obtain ⟨zn,zd⟩:=z
 obtain ⟨xn,xd⟩:=kx
 obtain ⟨yn,yd⟩:=ky
 dsimp only at *
 obtain ⟨F,G,E,hb0⟩:=ZaG w (.slice A ll c) (.int .i64 xn) (.int .i64 xd) (.slice B lm d) (.int .i64 yn) (.int .i64 yd) (.slice none 0 0) (.int .i64 0) (.int .i64 0) 27
 go_enter Tryz.func35,Tryz.ntmps35
 go_upto_region 1 with fail
 go_upto_region 4 with (go_at_call 37;(with_reducible refine (H1.out _ hb0).mono ?_);rintro e w1 ⟨rfl,hb1⟩;have F:=F.keep hb1;have G:=G.keep hb1;have E:=E.keep hb1;have e1:=E.lt;have b1:=hb0.trans (hb1.mono hb0.size))
 have a1:=Za w1 (.cells #[.int .i64 zn,.int .i64 zd] 25)
 have R:=RatAt.start w1 zn zd 25
 have F:=F.keep a1
 have G:=G.keep a1
 have E:=E.keep a1
 have b1:=b1.trans (a1.mono b1.size)
 have k0:=F.k0
 have m0:=G.k0
 have hmn:max ll lm=n:=HN.out.1.symm
 have hmx:max (ll:Int) (lm:Int)=(n:Int):=by omega
 clear hb1 hb0 a1 hmn
 go_upto_region 5 with (at_make;refine wpList_make_full _ rfl _ _ 23 rfl (w.heap.size+3) 25 i0 (.agg #[.int .i64 0,.int .i64 0]) 2 Tryz.underlying23 hi hz0 hz1 .i64 .i64 _ _ n rfl rfl ?c1 ?c2 ?c3 ?c4 ?c5 ?_)
 case c1=>first | rfl | omega
 case c2=>first | rfl | omega
 case c3=>rw [hz2];omega
 case c4=>unfold maxLen;omega
 case c5=>simp;omega
 intro w2 hown hgrow
 have b2:Below (w1.heap.size+1) (w1.alloc (.cells #[.int .i64 zn,.int .i64 zd] 25)) w2:=(Below.refl _ _).grown hgrow (by simp) (fun k hk=>by cases hk)
 have hown:w2.ownsRow (w.heap.size+3) 25 2 (.slice (some ⟨w1.heap.size+1,0,none⟩) n n) n (Zr (Zbr h l m n 0)):=by rw [<- ZdH];exact hown
 have hlt:w.heap.size+1+1<w1.heap.size:=e1
 generalize w1.heap.size=b at *
 have CS:CombS w w2 b n (.slice A ll c) xn xd (.slice B lm d) yn yd zn zd:=⟨F.keepB b2 (by omega),G.keepB b2 (by omega),E.keepB b2 (by omega),R.keepB b2 (by omega),⟨_,hown⟩,hlt,b1.trans (b2.mono (by omega))⟩
 have OWN:=Lib.hid hown
 have CS0:=Lib.hid CS
 clear b2 hgrow hown R F G E b1 k0 m0 hmx CS e1 hlt
 go_wp2_with fail
 go_loopg [35] n (fun g v35 wr=>∃ k:Nat,v35=.int .i64 k/\k<=n/\g=n-k/\Zad h l m k/\CombS w wr b n (.slice A ll c) xn xd (.slice B lm d) yn yd zn zd/\wr.ownsRow (w.heap.size+3) 25 2 (.slice (some ⟨b+1,0,none⟩) n n) n (Zr (Zbr h l m n k)))
 case atStart=>exact ⟨0,rfl,Nat.zero_le _,rfl,fun i hi=>absurd hi (Nat.not_lt_zero _),CS0.out,OWN.out⟩
 case round=>
  clear CS0 OWN
  obtain ⟨k,rfl,hk,hg,hck,CS,hown⟩:=hrel
  by_cases hkn:k=n
  ·subst hkn
   have hrow:=hown
   rw [HR.out] at hrow
   have hlc:(ZaD h l m).length=k:=HC.out
   have tr:Calls Tryz.prog 75 #[.slice (some ⟨b+1,0,none⟩) k k] wr.drew (Zia wr.drew (.slice (some ⟨b+1,0,none⟩) k k) (Zw (ZaD h l m))):=
    Zho wr.drew _ _ (Zdj (base:=w.heap.size+3) (by rw [hlc];exact hrow.drew))
   have TR:=Lib.hid tr
   generalize Zw (ZaD h l m)=L at *
   have HS:=(CS.ends.keep (Zq _)).cells
   have LT:=Lib.hid CS.lt
   have i1:¬ (k:Int)<(k:Int):=by omega
   clear hrow hlc tr hown CS hck hg hk
   go_upto_region 12 with fail
   refine wp_region_noPanic ?_
   refine wp_region_held_drew (S:=(fun w'=>((w'.cell? ⟨b,0,none⟩=some (.int .i64 zn)/\w'.cell? ⟨b,1,none⟩=some (.int .i64 zd))/\(w'.cell? ⟨w.heap.size+1+1,0,none⟩=some (Zi w' ⟨w.heap.size+1+1,0,none⟩)/\w'.cell? ⟨w.heap.size+1+1,1,none⟩=some (Zi w' ⟨w.heap.size+1+1,1,none⟩)/\w'.cell? ⟨w.heap.size+1+1,2,none⟩=some (Zi w' ⟨w.heap.size+1+1,2,none⟩))/\(w'.frozen? ⟨w.heap.size+1+1,0,none⟩=false/\w'.frozen? ⟨w.heap.size+1+1,1,none⟩=false/\w'.frozen? ⟨w.heap.size+1+1,2,none⟩=false))/\EndS w w' b zn zd)) (by kernel_rfl) HS (fun hHeld=>?_)
   clear HS
   refine tk 0 rfl ?_
   refine tk 2 rfl ?_
   (try simp only [cl,Act.put])
   refine rd 1 rfl fun K hK=>?_
   go_simp
   (go_at_call 75;(with_reducible refine TR.out.mono ?_);rintro e w5 ⟨v5,rfl,hv5,hb,hq5⟩;obtain ⟨A5,c5,rfl,hr5⟩:=id hv5;clear hr5;have HV5:=Lib.hid (And.intro hv5 hq5);clear hv5 hq5)
   go_wp2_with fail
   refine hK.out _ _ (((ZfA (by with_reducible assumption)).keep (by with_reducible assumption)).cells) (fun hH2=>?_)
   clear hK K hHeld hb;have hHeld:=hH2;clear hH2
   (try simp only [cl,Act.put])
   refine tk 3 rfl ?_
   (try simp only [cl,Act.put])
   refine rd 4 rfl fun K hK=>?_
   go_simp
   refine hK.out _ _ ?_ (fun hH2=>?_)
   ·exact (((ZfA (by with_reducible assumption)).set _ _).set _ _ |>.set _ _).cells
   clear hK K hHeld;have hHeld:=hH2;clear hH2
   (try simp only [cl,Act.put])
   refine tk 5 rfl ?_
   (try simp only [cl,Act.put])
   refine wpAnyH_done (by kernel_rfl) ?_ _
   refine NoPanic.normal ?_
   go_wp2_with fail
   obtain ⟨c0,c1,c2,hB⟩:=ZiF rfl (ZfA (by with_reducible assumption))
   refine bodyPost_ret (v:=.tuple #[.agg #[.slice A5 L.length c5,.int .i64 zn,.int .i64 zd],.int .i64 0]) (by simp [results,Tryz.results35,go_sem,c0,c1,c2]) rfl ⟨_,rfl,?_,hB,fun q hq=>?_⟩
   ·have f5:Zs (b+1) (.slice A5 L.length c5):=fun q hq=>by
     rw [HV5.out.2] at hq
     have:b+1=q:=by simpa [Value.ownBlock] using hq
     omega
    have hlt:=LT.out
    exact (((HV5.out.1.setCell f5 (by show w.heap.size+1+1<_;omega) _).setCell f5 (by show w.heap.size+1+1<_;omega) _).setCell f5 (by show w.heap.size+1+1<_;omega) _)
   ·rw [HV5.out.2] at hq
    have:b+1=q:=by simpa [Value.ownBlock] using hq
    have:=LT.out
    omega
  ·have hlt:k<n:=by omega
   have i1:(k:Int)<(n:Int):=by omega
   have i2:(0:Int)<=(k:Int):=by omega
   have he0:=HN.out.2 k hlt
   have atx:=fun (w':World) (hb:Below w.heap.size w w')=>Zbx w' (.slice A ll c) l xn xd k (TS.out.1.below hb)
   have aty:=fun (w':World) (hb:Below w.heap.size w w')=>Zbx w' (.slice B lm d) m yn yd k (TS.out.2.1.below hb)
   have hw:=fun (w':World) (hb:Below w.heap.size w w')=>HOW.out w' hb _ _ (TS.out.2.2.1.at (k:Int)) (TS.out.2.2.2.at (k:Int))
   rw [he0] at hw
   have ATX:=Lib.hid atx;have ATY:=Lib.hid aty;have HW:=Lib.hid hw
   have OW:Hid (wr.drew.ownsRow (w.heap.size+3) 25 2 (.slice (some ⟨b+1,0,none⟩) n n) n (Zr (Zbr h l m n k))):=hown.drew
   have HS:=(CS.keep (Zq _)).cells hlt
   have HLT:=Lib.hid hlt
   have HK:=Lib.hid hg
   have HC2:Hid (Zad h l m (k+1)):=fun i hi=>by
    rcases Nat.lt_or_ge i k with g | g
    ·exact hck i g
    ·obtain rfl:i=k:=by omega
     exact he0
   have NX:=Lib.hid (Ze6 h l m n k)
   clear atx aty hw hown CS hck he0 hg hkn hk
   generalize (h (atL l k) (atL m k)).1=q at *
   obtain ⟨qn,qd⟩:=q
   generalize atL l k=x at *
   generalize atL m k=y at *
   obtain ⟨x1,x2⟩:=x
   obtain ⟨y1,y2⟩:=y
   dsimp only at *
   go_upto_region 8 with fail
   go_wp2_with fail
   refine wp_region_noPanic ?_
   refine wp_region_held_drew (S:=(fun w'=>(((w'.cell? ⟨w.heap.size,0,none⟩=some (.slice A ll c)/\w'.cell? ⟨w.heap.size,1,none⟩=some (.int .i64 xn)/\w'.cell? ⟨w.heap.size,2,none⟩=some (.int .i64 xd))/\(w'.cell? ⟨w.heap.size+1,0,none⟩=some (.slice B lm d)/\w'.cell? ⟨w.heap.size+1,1,none⟩=some (.int .i64 yn)/\w'.cell? ⟨w.heap.size+1,2,none⟩=some (.int .i64 yd)))/\((w'.cell? ⟨b+1,k*2,none⟩=some (Zi w' ⟨b+1,k*2,none⟩)/\w'.cell? ⟨b+1,k*2+1,none⟩=some (Zi w' ⟨b+1,k*2+1,none⟩))/\(w'.frozen? ⟨b+1,k*2,none⟩=false/\w'.frozen? ⟨b+1,k*2+1,none⟩=false)))/\CombS w w' b n (.slice A ll c) xn xd (.slice B lm d) yn yd zn zd)) (by kernel_rfl) HS (fun hHeld=>?_)
   clear HS
   refine tk 0 rfl ?_
   refine tk 1 rfl ?_
   refine tk 2 rfl ?_
   refine tk 3 rfl ?_
   refine tk 4 rfl ?_
   refine tk 6 rfl ?_
   refine tk 7 rfl ?_
   (try simp only [cl,Act.put])
   refine rd 5 rfl fun K hK=>?_
   go_simp
   (first
    | (go_at_call 56;(first | with_reducible refine (ATX.out _ (Zn (by with_reducible assumption)).below).mono ?_ | with_reducible refine (ATY.out _ (Zn (by with_reducible assumption)).below).mono ?_);rintro e w5 ⟨rfl,hb⟩;have OW:=Lib.hid (ZH OW.out hb))
    | (go_at_call 37;(with_reducible refine (HW.out _ (Zn (by with_reducible assumption)).below).mono ?_);rintro e w6 ⟨rfl,hb⟩;have OW:=Lib.hid (ZH OW.out hb)))
   go_wp2_with fail
   refine hK.out _ _ (((Zn (by with_reducible assumption)).keep (by with_reducible assumption)).cells HLT.out) (fun hH2=>?_)
   clear hK K hHeld hb;have hHeld:=hH2;clear hH2
   (try simp only [cl,Act.put])
   refine rd 8 rfl fun K hK=>?_
   go_simp
   (first
    | (go_at_call 56;(first | with_reducible refine (ATX.out _ (Zn (by with_reducible assumption)).below).mono ?_ | with_reducible refine (ATY.out _ (Zn (by with_reducible assumption)).below).mono ?_);rintro e w5 ⟨rfl,hb⟩;have OW:=Lib.hid (ZH OW.out hb))
    | (go_at_call 37;(with_reducible refine (HW.out _ (Zn (by with_reducible assumption)).below).mono ?_);rintro e w6 ⟨rfl,hb⟩;have OW:=Lib.hid (ZH OW.out hb)))
   go_wp2_with fail
   refine hK.out _ _ (((Zn (by with_reducible assumption)).keep (by with_reducible assumption)).cells HLT.out) (fun hH2=>?_)
   clear hK K hHeld hb;have hHeld:=hH2;clear hH2
   (try simp only [cl,Act.put])
   refine rd 9 rfl fun K hK=>?_
   go_simp
   (first
    | (go_at_call 56;(first | with_reducible refine (ATX.out _ (Zn (by with_reducible assumption)).below).mono ?_ | with_reducible refine (ATY.out _ (Zn (by with_reducible assumption)).below).mono ?_);rintro e w5 ⟨rfl,hb⟩;have OW:=Lib.hid (ZH OW.out hb))
    | (go_at_call 37;(with_reducible refine (HW.out _ (Zn (by with_reducible assumption)).below).mono ?_);rintro e w6 ⟨rfl,hb⟩;have OW:=Lib.hid (ZH OW.out hb)))
   go_wp2_with fail
   refine hK.out _ _ (((Zn (by with_reducible assumption)).keep (by with_reducible assumption)).cells HLT.out) (fun hH2=>?_)
   clear hK K hHeld hb;have hHeld:=hH2;clear hH2
   (try simp only [cl,Act.put])
   refine tk 10 rfl ?_
   refine tk 11 rfl ?_
   refine tk 12 rfl ?_
   refine tk 13 rfl ?_
   (try simp only [cl,Act.put])
   refine rd 14 rfl fun K hK=>?_
   go_simp
   refine hK.out _ _ ?_ (fun hH2=>?_)
   ·exact (((Zn (by with_reducible assumption)).set _ _).set _ _).cells HLT.out
   clear hK K hHeld;have hHeld:=hH2;clear hH2
   (try simp only [cl,Act.put])
   refine tk 15 rfl ?_
   (try simp only [cl,Act.put])
   refine wpAnyH_done (by kernel_rfl) ?_ _
   refine NoPanic.normal ?_
   have CS:=Lib.hid (Zn hHeld)
   have ow2:=((OW.out.stored (k*2) (.int .i64 qn)).1.stored (k*2+1) (.int .i64 qd)).1
   have ow3:=NX.out
   have ow4:=Zcx (Zbr h l m n k) k (qn,qd)
   rw [<- ow3] at ow4
   dsimp only at ow4
   rw [<- ow4] at ow2
   have OW3:=Lib.hid ow2
   clear hHeld ow2 ow3 ow4 OW
   have wk:IntKind.i64.wrap ((k:Int)+1)=(k:Int)+1:=IntWalk.i64_in _ (by have:=HLT.out;omega)
   go_wp2_with fail
   go_roundg (n-(k+1))
   case measure=>have:=HK.out;have:=HLT.out;omega
   case rel=>exact ⟨k+1,by push_cast;rfl,by have:=HLT.out;omega,rfl,HC2.out,CS.out,OW3.out⟩
theorem Zke (w:World) (va vb:Value) (l m:List (Int×Int)) (kx ky:Int×Int) (ha:Zb w va l) (hb:Zb w vb m) (hl:ZF l) (hm:ZF m) (hx:OkR kx) (hy:OkR ky) (h8:l.length<=8) (h8':m.length<=8)
  (h:How) (hh:HowOk h) (pb:Addr) (how:∀ w',Below w.heap.size w w'->∀ x y,OkR x->OkR y->Calls Tryz.prog 37 #[Ze x.1 x.2,Ze y.1 y.2,.pointer (some pb)] w' fun r w2=>r=.returned (.tuple #[Ze (h x y).1.1 (h x y).1.2,.int .i64 (h x y).2])/\Below w'.heap.size w' w2)
  (hno:¬ ((h kx ky).2=0/\Zad h l m (max l.length m.length))) :
  Calls Tryz.prog 35 #[.agg #[va,.int .i64 kx.1,.int .i64 kx.2],.agg #[vb,.int .i64 ky.1,.int .i64 ky.2],.func (.func 37) #[] #[.pointer (some pb)]] w (ZaS w [] (0,0) 3):=by
 obtain ⟨i0,hi,hz0,hz1,hz2⟩:=info_parts ZdA
 have h1:=fun (w':World) (hb:Below w.heap.size w w')=>how w' hb kx ky hx hy
 by_cases hk:(h kx ky).2=0
 rotate_left
 ·have hz:=hh.no kx ky hx hy hk
  rw [hz] at h1
  obtain ⟨A,c,rfl,_⟩:=id ha
  obtain ⟨B,d,rfl,_⟩:=id hb
  have H1:=Lib.hid h1
  generalize l.length=ll at *
  generalize m.length=lm at *
  clear how h1 hh ha hb hl hm hx hy hk hz hno
  obtain ⟨xn,xd⟩:=kx
  obtain ⟨yn,yd⟩:=ky
  dsimp only at *
  obtain ⟨F,G,E,hb0⟩:=ZaG w (.slice A ll c) (.int .i64 xn) (.int .i64 xd) (.slice B lm d) (.int .i64 yn) (.int .i64 yd) (.slice none 0 0) (.int .i64 0) (.int .i64 0) 27
  go_enter Tryz.func35,Tryz.ntmps35
  go_upto_region 1 with fail
  go_upto_region 2 with (go_at_call 37;(with_reducible refine (H1.out _ hb0).mono ?_);rintro e w1 ⟨rfl,hb1⟩;have E:=E.keep hb1;have b1:=hb0.trans (hb1.mono hb0.size))
  have a1:=Za w1 (.cells #[.int .i64 0,.int .i64 0] 25)
  have E:=E.keep a1
  have b1:=b1.trans (a1.mono b1.size)
  have k0:=E.k0;have k1:=E.k1;have k2:=E.k2;have l0:=E.l0;have l1:=E.l1;have l2:=E.l2
  clear hb1 hb0 a1 F G
  go_wp2_with fail
  obtain ⟨c0,c1,c2⟩:=Zaj (x:=.slice none 0 0) (y:=.int .i64 0) (z:=.int .i64 0) k0 k1 k2
  refine bodyPost_ret (v:=.tuple #[.agg #[.slice none 0 0,.int .i64 0,.int .i64 0],.int .i64 3]) (by simp [results,Tryz.results35,go_sem,c0,c1,c2]) rfl ⟨_,rfl,Zb.nil _,?_,Zs.none_ _ _ _⟩
  exact ((b1.setCell (by show w.heap.size<=w.heap.size+1+1;omega) _).setCell (by show w.heap.size<=w.heap.size+1+1;omega) _).setCell (by show w.heap.size<=w.heap.size+1+1;omega) _
 have hno2:¬ Zad h l m (max l.length m.length):=fun q=>hno ⟨hk,q⟩
 rw [hk] at h1
 obtain ⟨A,c,rfl,a2,a3,a4⟩:=id ha
 obtain ⟨B,d,rfl,b2,b3,b4⟩:=id hb
 obtain ⟨n,hn⟩:∃ n,n=max l.length m.length:=⟨_,rfl⟩
 have hn8:n<=8:=by omega
 rw [<- hn] at hno2
 have HN:=Lib.hid (And.intro hn hno2)
 have HOW:=Lib.hid how
 have HH:=Lib.hid hh
 have H1:=Lib.hid h1
 have TS:=Lib.hid (And.intro ha (And.intro hb (And.intro hl hm)))
 generalize l.length=ll at *
 generalize m.length=lm at *
 clear how h1 hh ha hb hl hm hx hy hn hno2 hno hk a2 a3 a4 b2 b3 b4
 generalize (h kx ky).1=z at *
 obtain ⟨zn,zd⟩:=z
 obtain ⟨xn,xd⟩:=kx
 obtain ⟨yn,yd⟩:=ky
 dsimp only at *
 obtain ⟨F,G,E,hb0⟩:=ZaG w (.slice A ll c) (.int .i64 xn) (.int .i64 xd) (.slice B lm d) (.int .i64 yn) (.int .i64 yd) (.slice none 0 0) (.int .i64 0) (.int .i64 0) 27
 go_enter Tryz.func35,Tryz.ntmps35
 go_upto_region 1 with fail
 go_upto_region 4 with (go_at_call 37;(with_reducible refine (H1.out _ hb0).mono ?_);rintro e w1 ⟨rfl,hb1⟩;have F:=F.keep hb1;have G:=G.keep hb1;have E:=E.keep hb1;have e1:=E.lt;have b1:=hb0.trans (hb1.mono hb0.size))
 have a1:=Za w1 (.cells #[.int .i64 zn,.int .i64 zd] 25)
 have R:=RatAt.start w1 zn zd 25
 have F:=F.keep a1
 have G:=G.keep a1
 have E:=E.keep a1
 have b1:=b1.trans (a1.mono b1.size)
 have k0:=F.k0
 have m0:=G.k0
 have hmn:max ll lm=n:=HN.out.1.symm
 have hmx:max (ll:Int) (lm:Int)=(n:Int):=by omega
 clear hb1 hb0 a1 hmn
 go_upto_region 5 with (at_make;refine wpList_make_full _ rfl _ _ 23 rfl (w.heap.size+3) 25 i0 (.agg #[.int .i64 0,.int .i64 0]) 2 Tryz.underlying23 hi hz0 hz1 .i64 .i64 _ _ n rfl rfl ?c1 ?c2 ?c3 ?c4 ?c5 ?_)
 case c1=>first | rfl | omega
 case c2=>first | rfl | omega
 case c3=>rw [hz2];omega
 case c4=>unfold maxLen;omega
 case c5=>simp;omega
 intro w2 hown hgrow
 have b2:Below (w1.heap.size+1) (w1.alloc (.cells #[.int .i64 zn,.int .i64 zd] 25)) w2:=(Below.refl _ _).grown hgrow (by simp) (fun k hk=>by cases hk)
 have hown:w2.ownsRow (w.heap.size+3) 25 2 (.slice (some ⟨w1.heap.size+1,0,none⟩) n n) n (Zr (Zbr h l m n 0)):=by rw [<- ZdH];exact hown
 have hlt:w.heap.size+1+1<w1.heap.size:=e1
 generalize w1.heap.size=b at *
 have CS:CombS w w2 b n (.slice A ll c) xn xd (.slice B lm d) yn yd zn zd:=⟨F.keepB b2 (by omega),G.keepB b2 (by omega),E.keepB b2 (by omega),R.keepB b2 (by omega),⟨_,hown⟩,hlt,b1.trans (b2.mono (by omega))⟩
 have OWN:=Lib.hid hown
 have CS0:=Lib.hid CS
 clear b2 hgrow hown R F G E b1 k0 m0 hmx CS e1 hlt
 go_wp2_with fail
 go_loopg [35] n (fun g v35 wr=>∃ k:Nat,v35=.int .i64 k/\k<=n/\g=n-k/\Zad h l m k/\CombS w wr b n (.slice A ll c) xn xd (.slice B lm d) yn yd zn zd/\wr.ownsRow (w.heap.size+3) 25 2 (.slice (some ⟨b+1,0,none⟩) n n) n (Zr (Zbr h l m n k)))
 case atStart=>exact ⟨0,rfl,Nat.zero_le _,rfl,fun i hi=>absurd hi (Nat.not_lt_zero _),CS0.out,OWN.out⟩
 case round=>
  clear CS0 OWN
  obtain ⟨k,rfl,hk,hg,hck,CS,hown⟩:=hrel
  by_cases hkn:k=n
  ·subst hkn
   exact absurd hck HN.out.2
  ·have hlt:k<n:=by omega
   have i1:(k:Int)<(n:Int):=by omega
   have i2:(0:Int)<=(k:Int):=by omega
   by_cases he0:(h (atL l k) (atL m k)).2=0
   ·have atx:=fun (w':World) (hb:Below w.heap.size w w')=>Zbx w' (.slice A ll c) l xn xd k (TS.out.1.below hb)
    have aty:=fun (w':World) (hb:Below w.heap.size w w')=>Zbx w' (.slice B lm d) m yn yd k (TS.out.2.1.below hb)
    have hw:=fun (w':World) (hb:Below w.heap.size w w')=>HOW.out w' hb _ _ (TS.out.2.2.1.at (k:Int)) (TS.out.2.2.2.at (k:Int))
    rw [he0] at hw
    have ATX:=Lib.hid atx;have ATY:=Lib.hid aty;have HW:=Lib.hid hw
    have OW:Hid (wr.drew.ownsRow (w.heap.size+3) 25 2 (.slice (some ⟨b+1,0,none⟩) n n) n (Zr (Zbr h l m n k))):=hown.drew
    have HS:=(CS.keep (Zq _)).cells hlt
    have HLT:=Lib.hid hlt
    have HK:=Lib.hid hg
    have HC2:Hid (Zad h l m (k+1)):=fun i hi=>by
     rcases Nat.lt_or_ge i k with g | g
     ·exact hck i g
     ·obtain rfl:i=k:=by omega
      exact he0
    have NX:=Lib.hid (Ze6 h l m n k)
    clear atx aty hw hown CS hck he0 hg hkn hk
    generalize (h (atL l k) (atL m k)).1=q at *
    obtain ⟨qn,qd⟩:=q
    generalize atL l k=x at *
    generalize atL m k=y at *
    obtain ⟨x1,x2⟩:=x
    obtain ⟨y1,y2⟩:=y
    dsimp only at *
    go_upto_region 8 with fail
    go_wp2_with fail
    refine wp_region_noPanic ?_
    refine wp_region_held_drew (S:=(fun w'=>(((w'.cell? ⟨w.heap.size,0,none⟩=some (.slice A ll c)/\w'.cell? ⟨w.heap.size,1,none⟩=some (.int .i64 xn)/\w'.cell? ⟨w.heap.size,2,none⟩=some (.int .i64 xd))/\(w'.cell? ⟨w.heap.size+1,0,none⟩=some (.slice B lm d)/\w'.cell? ⟨w.heap.size+1,1,none⟩=some (.int .i64 yn)/\w'.cell? ⟨w.heap.size+1,2,none⟩=some (.int .i64 yd)))/\((w'.cell? ⟨b+1,k*2,none⟩=some (Zi w' ⟨b+1,k*2,none⟩)/\w'.cell? ⟨b+1,k*2+1,none⟩=some (Zi w' ⟨b+1,k*2+1,none⟩))/\(w'.frozen? ⟨b+1,k*2,none⟩=false/\w'.frozen? ⟨b+1,k*2+1,none⟩=false)))/\CombS w w' b n (.slice A ll c) xn xd (.slice B lm d) yn yd zn zd)) (by kernel_rfl) HS (fun hHeld=>?_)
    clear HS
    refine tk 0 rfl ?_
    refine tk 1 rfl ?_
    refine tk 2 rfl ?_
    refine tk 3 rfl ?_
    refine tk 4 rfl ?_
    refine tk 6 rfl ?_
    refine tk 7 rfl ?_
    (try simp only [cl,Act.put])
    refine rd 5 rfl fun K hK=>?_
    go_simp
    (first
     | (go_at_call 56;(first | with_reducible refine (ATX.out _ (Zn (by with_reducible assumption)).below).mono ?_ | with_reducible refine (ATY.out _ (Zn (by with_reducible assumption)).below).mono ?_);rintro e w5 ⟨rfl,hb⟩;have OW:=Lib.hid (ZH OW.out hb))
     | (go_at_call 37;(with_reducible refine (HW.out _ (Zn (by with_reducible assumption)).below).mono ?_);rintro e w6 ⟨rfl,hb⟩;have OW:=Lib.hid (ZH OW.out hb)))
    go_wp2_with fail
    refine hK.out _ _ (((Zn (by with_reducible assumption)).keep (by with_reducible assumption)).cells HLT.out) (fun hH2=>?_)
    clear hK K hHeld hb;have hHeld:=hH2;clear hH2
    (try simp only [cl,Act.put])
    refine rd 8 rfl fun K hK=>?_
    go_simp
    (first
     | (go_at_call 56;(first | with_reducible refine (ATX.out _ (Zn (by with_reducible assumption)).below).mono ?_ | with_reducible refine (ATY.out _ (Zn (by with_reducible assumption)).below).mono ?_);rintro e w5 ⟨rfl,hb⟩;have OW:=Lib.hid (ZH OW.out hb))
     | (go_at_call 37;(with_reducible refine (HW.out _ (Zn (by with_reducible assumption)).below).mono ?_);rintro e w6 ⟨rfl,hb⟩;have OW:=Lib.hid (ZH OW.out hb)))
    go_wp2_with fail
    refine hK.out _ _ (((Zn (by with_reducible assumption)).keep (by with_reducible assumption)).cells HLT.out) (fun hH2=>?_)
    clear hK K hHeld hb;have hHeld:=hH2;clear hH2
    (try simp only [cl,Act.put])
    refine rd 9 rfl fun K hK=>?_
    go_simp
    (first
     | (go_at_call 56;(first | with_reducible refine (ATX.out _ (Zn (by with_reducible assumption)).below).mono ?_ | with_reducible refine (ATY.out _ (Zn (by with_reducible assumption)).below).mono ?_);rintro e w5 ⟨rfl,hb⟩;have OW:=Lib.hid (ZH OW.out hb))
     | (go_at_call 37;(with_reducible refine (HW.out _ (Zn (by with_reducible assumption)).below).mono ?_);rintro e w6 ⟨rfl,hb⟩;have OW:=Lib.hid (ZH OW.out hb)))
    go_wp2_with fail
    refine hK.out _ _ (((Zn (by with_reducible assumption)).keep (by with_reducible assumption)).cells HLT.out) (fun hH2=>?_)
    clear hK K hHeld hb;have hHeld:=hH2;clear hH2
    (try simp only [cl,Act.put])
    refine tk 10 rfl ?_
    refine tk 11 rfl ?_
    refine tk 12 rfl ?_
    refine tk 13 rfl ?_
    (try simp only [cl,Act.put])
    refine rd 14 rfl fun K hK=>?_
    go_simp
    refine hK.out _ _ ?_ (fun hH2=>?_)
    ·exact (((Zn (by with_reducible assumption)).set _ _).set _ _).cells HLT.out
    clear hK K hHeld;have hHeld:=hH2;clear hH2
    (try simp only [cl,Act.put])
    refine tk 15 rfl ?_
    (try simp only [cl,Act.put])
    refine wpAnyH_done (by kernel_rfl) ?_ _
    refine NoPanic.normal ?_
    have CS:=Lib.hid (Zn hHeld)
    have ow2:=((OW.out.stored (k*2) (.int .i64 qn)).1.stored (k*2+1) (.int .i64 qd)).1
    have ow3:=NX.out
    have ow4:=Zcx (Zbr h l m n k) k (qn,qd)
    rw [<- ow3] at ow4
    dsimp only at ow4
    rw [<- ow4] at ow2
    have OW3:=Lib.hid ow2
    clear hHeld ow2 ow3 ow4 OW
    have wk:IntKind.i64.wrap ((k:Int)+1)=(k:Int)+1:=IntWalk.i64_in _ (by have:=HLT.out;omega)
    go_wp2_with fail
    go_roundg (n-(k+1))
    case measure=>have:=HK.out;have:=HLT.out;omega
    case rel=>exact ⟨k+1,by push_cast;rfl,by have:=HLT.out;omega,rfl,HC2.out,CS.out,OW3.out⟩
   ·have atx:=fun (w':World) (hb:Below w.heap.size w w')=>Zbx w' (.slice A ll c) l xn xd k (TS.out.1.below hb)
    have aty:=fun (w':World) (hb:Below w.heap.size w w')=>Zbx w' (.slice B lm d) m yn yd k (TS.out.2.1.below hb)
    have hw:=fun (w':World) (hb:Below w.heap.size w w')=>HOW.out w' hb _ _ (TS.out.2.2.1.at (k:Int)) (TS.out.2.2.2.at (k:Int))
    rw [HH.out.no _ _ (TS.out.2.2.1.at (k:Int)) (TS.out.2.2.2.at (k:Int)) he0] at hw
    have ATX:=Lib.hid atx;have ATY:=Lib.hid aty;have HW:=Lib.hid hw
    have OW:Hid (wr.drew.ownsRow (w.heap.size+3) 25 2 (.slice (some ⟨b+1,0,none⟩) n n) n (Zr (Zbr h l m n k))):=hown.drew
    have HS:=(CS.keep (Zq _)).cells hlt
    have HLT:=Lib.hid hlt
    have HK:=Lib.hid hg
    clear atx aty hw hown CS hck he0 hg hkn hk
    generalize atL l k=x at *
    generalize atL m k=y at *
    obtain ⟨x1,x2⟩:=x
    obtain ⟨y1,y2⟩:=y
    dsimp only at *
    go_upto_region 8 with fail
    go_wp2_with fail
    refine wp_region_noPanic ?_
    refine wp_region_held_drew (S:=(fun w'=>(((w'.cell? ⟨w.heap.size,0,none⟩=some (.slice A ll c)/\w'.cell? ⟨w.heap.size,1,none⟩=some (.int .i64 xn)/\w'.cell? ⟨w.heap.size,2,none⟩=some (.int .i64 xd))/\(w'.cell? ⟨w.heap.size+1,0,none⟩=some (.slice B lm d)/\w'.cell? ⟨w.heap.size+1,1,none⟩=some (.int .i64 yn)/\w'.cell? ⟨w.heap.size+1,2,none⟩=some (.int .i64 yd)))/\((w'.cell? ⟨b+1,k*2,none⟩=some (Zi w' ⟨b+1,k*2,none⟩)/\w'.cell? ⟨b+1,k*2+1,none⟩=some (Zi w' ⟨b+1,k*2+1,none⟩))/\(w'.frozen? ⟨b+1,k*2,none⟩=false/\w'.frozen? ⟨b+1,k*2+1,none⟩=false)))/\CombS w w' b n (.slice A ll c) xn xd (.slice B lm d) yn yd zn zd)) (by kernel_rfl) HS (fun hHeld=>?_)
    clear HS
    refine tk 0 rfl ?_
    refine tk 1 rfl ?_
    refine tk 2 rfl ?_
    refine tk 3 rfl ?_
    refine tk 4 rfl ?_
    refine tk 6 rfl ?_
    refine tk 7 rfl ?_
    (try simp only [cl,Act.put])
    refine rd 5 rfl fun K hK=>?_
    go_simp
    (first
     | (go_at_call 56;(first | with_reducible refine (ATX.out _ (Zn (by with_reducible assumption)).below).mono ?_ | with_reducible refine (ATY.out _ (Zn (by with_reducible assumption)).below).mono ?_);rintro e w5 ⟨rfl,hb⟩;have OW:=Lib.hid (ZH OW.out hb))
     | (go_at_call 37;(with_reducible refine (HW.out _ (Zn (by with_reducible assumption)).below).mono ?_);rintro e w6 ⟨rfl,hb⟩;have OW:=Lib.hid (ZH OW.out hb)))
    go_wp2_with fail
    refine hK.out _ _ (((Zn (by with_reducible assumption)).keep (by with_reducible assumption)).cells HLT.out) (fun hH2=>?_)
    clear hK K hHeld hb;have hHeld:=hH2;clear hH2
    (try simp only [cl,Act.put])
    refine rd 8 rfl fun K hK=>?_
    go_simp
    (first
     | (go_at_call 56;(first | with_reducible refine (ATX.out _ (Zn (by with_reducible assumption)).below).mono ?_ | with_reducible refine (ATY.out _ (Zn (by with_reducible assumption)).below).mono ?_);rintro e w5 ⟨rfl,hb⟩;have OW:=Lib.hid (ZH OW.out hb))
     | (go_at_call 37;(with_reducible refine (HW.out _ (Zn (by with_reducible assumption)).below).mono ?_);rintro e w6 ⟨rfl,hb⟩;have OW:=Lib.hid (ZH OW.out hb)))
    go_wp2_with fail
    refine hK.out _ _ (((Zn (by with_reducible assumption)).keep (by with_reducible assumption)).cells HLT.out) (fun hH2=>?_)
    clear hK K hHeld hb;have hHeld:=hH2;clear hH2
    (try simp only [cl,Act.put])
    refine rd 9 rfl fun K hK=>?_
    go_simp
    (first
     | (go_at_call 56;(first | with_reducible refine (ATX.out _ (Zn (by with_reducible assumption)).below).mono ?_ | with_reducible refine (ATY.out _ (Zn (by with_reducible assumption)).below).mono ?_);rintro e w5 ⟨rfl,hb⟩;have OW:=Lib.hid (ZH OW.out hb))
     | (go_at_call 37;(with_reducible refine (HW.out _ (Zn (by with_reducible assumption)).below).mono ?_);rintro e w6 ⟨rfl,hb⟩;have OW:=Lib.hid (ZH OW.out hb)))
    go_wp2_with fail
    refine hK.out _ _ (((Zn (by with_reducible assumption)).keep (by with_reducible assumption)).cells HLT.out) (fun hH2=>?_)
    clear hK K hHeld hb;have hHeld:=hH2;clear hH2
    (try simp only [cl,Act.put])
    refine tk 10 rfl ?_
    refine tk 11 rfl ?_
    refine tk 12 rfl ?_
    refine tk 13 rfl ?_
    (try simp only [cl,Act.put])
    refine rd 14 rfl fun K hK=>?_
    go_simp
    refine hK.out _ _ ?_ (fun hH2=>?_)
    ·exact (((Zn (by with_reducible assumption)).set _ _).set _ _).cells HLT.out
    clear hK K hHeld;have hHeld:=hH2;clear hH2
    (try simp only [cl,Act.put])
    refine tk 15 rfl ?_
    (try simp only [cl,Act.put])
    refine wpAnyH_done (by kernel_rfl) ?_ _
    refine NoPanic.normal ?_
    have H:=Zn hHeld
    clear hHeld
    have k0:=H.E.k0;have k1:=H.E.k1;have k2:=H.E.k2;have l0:=H.E.l0;have l1:=H.E.l1;have l2:=H.E.l2
    have b1:=Lib.hid H.below
    clear H
    go_wp2_with fail
    obtain ⟨c0,c1,c2⟩:=Zaj (x:=.slice none 0 0) (y:=.int .i64 0) (z:=.int .i64 0) k0 k1 k2
    refine bodyPost_ret (v:=.tuple #[.agg #[.slice none 0 0,.int .i64 0,.int .i64 0],.int .i64 3]) (by simp [results,Tryz.results35,go_sem,c0,c1,c2]) rfl ⟨_,rfl,Zb.nil _,?_,Zs.none_ _ _ _⟩
    exact ((b1.out.setCell (by show w.heap.size<=w.heap.size+1+1;omega) _).setCell (by show w.heap.size<=w.heap.size+1+1;omega) _).setCell (by show w.heap.size<=w.heap.size+1+1;omega) _
end
end Go.Proofs.YtolookeddknmoaaGreat
