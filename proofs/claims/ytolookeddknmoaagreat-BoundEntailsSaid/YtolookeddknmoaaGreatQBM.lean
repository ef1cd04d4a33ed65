import Derived.Test.YtolookeddknmoaaGreatQBL
set_option maxRecDepth 100000
set_option maxHeartbeats 8000000
namespace Go.Proofs.YtolookeddknmoaaGreat
section
open Go.RowKit
def Zc3 (m:List (Int×Int)) (r:Rw):Bool:=(ZS r.2.1 m r.2.2).2 != 0||!Zcq r.1 (ZS r.2.1 m r.2.2).1.1
theorem Zm7 (w:World) (v:Value) (r:Rw) (b:Nat) (vb:Value) (m:List (Int×Int)) (hB:Blk w b #[vb]) (h:Zb w v r.2.1) (hw:ZX r) (hv:Zb w vb m) (hm:Zv m) :
  Calls Tryz.prog 29 #[.agg #[.int .i64 r.1,v,.int .i64 r.2.2.1,.int .i64 r.2.2.2],.pointer (some ⟨b,0,none⟩)] w fun e w'=>e=.returned (.bool (Zc3 m r))/\Below w.heap.size w w':=by
 have tv:=fun (w':World) (hb:Below w.heap.size w w')=>Zfd w' v vb r.2.1 m r.2.2 (h.below hb) (hv.below hb) hw.1 hm hw.2.1
 obtain ⟨op,l,kn,kd⟩:=r
 unfold Zc3
 dsimp only at *
 generalize ZS l m (kn,kd)=V at *
 obtain ⟨⟨v1,v2⟩,er⟩:=V
 dsimp only at *
 obtain ⟨A,c,rfl⟩:=Zd h
 obtain ⟨Ab,cb,rfl⟩:=Zd hv
 have a:=Za w (.cells #[.int .i64 op,.slice A l.length c,.int .i64 kn,.int .i64 kd] 29)
 have B1:=Lib.hid (And.intro a (And.intro (Blk.start w #[.int .i64 op,.slice A l.length c,.int .i64 kn,.int .i64 kd] 29) (hB.keep a)))
 have TV:=Lib.hid tv
 have ME:=Lib.hid (fun (w':World)=>ZmG w' op v1 v2)
 clear tv h hw hv hm hB a
 generalize l.length=nl at *
 generalize m.length=nm at *
 generalize Zcq op v1=MB at *
 go_enter Tryz.func29,Tryz.ntmps29
 go_upto_region 1 with fail
 generalize hb0:w.heap.size=b0 at *
 generalize w.alloc (.cells #[.int .i64 op,.slice A nl c,.int .i64 kn,.int .i64 kd] 29)=w1 at *
 have r1:=B1.out.2.1.cell 1
 have r2:=B1.out.2.1.cell 2
 have r3:=B1.out.2.1.cell 3
 have x0:=B1.out.2.2.cell 0
 go_upto_region 2 with (go_at_call 28;(with_reducible refine (TV.out _ B1.out.1).mono ?_);rintro e5 w5 ⟨rfl,hb5⟩)
 have a2:=Za w5 (.cells #[.int .i64 v1,.int .i64 v2] 25)
 have b2:=Zl hb0 B1.out.1 hb5
 have B2:=Lib.hid (And.intro (Zl hb0 b2 a2) (And.intro ((B1.out.2.1.keep hb5).keep a2) (Blk.start w5 #[.int .i64 v1,.int .i64 v2] 25)))
 clear a2 b2 hb5 r1 r2 r3 x0 B1
 generalize w5.heap.size=bv at *
 generalize w5.alloc (.cells #[.int .i64 v1,.int .i64 v2] 25)=w6 at *
 by_cases he:er=0
 ·subst he
  have r0:=B2.out.2.1.cell 0
  have y0:=B2.out.2.2.cell 0
  have y1:=B2.out.2.2.cell 1
  go_wp2_with (go_at_call 25;(with_reducible refine (ME.out _).mono ?_);rintro e7 w7 ⟨rfl,hb7⟩)
  go_ret
  exact ⟨rfl,by rw [hb0];exact Zl hb0 B2.out.1 hb7⟩
 ·have ne:(er != 0)=true:=by simpa using he
  have HE:=Lib.hid ne
  clear he
  go_wp2_with fail
  go_ret
  exact ⟨by rw [HE.out];rfl,by rw [hb0];exact B2.out.1⟩
theorem ZlK (w:World) (vs:Value) (ts:List Rw) (b:Nat) (vb:Value) (m:List (Int×Int)) (hB:Blk w b #[vb]) (hv:Zb w vb m) (hm:Zv m) (hw:∀ t∈ts,ZX t) (h:ZD w vs ts) :
  Calls Tryz.prog 43 #[vs,.func (.func 29) #[] #[.pointer (some ⟨b,0,none⟩)]] w (ZeA w (Zc3 m) ts):=by
 obtain ⟨A,c,rs,rfl,h2,h3,h4,h5,h6⟩:=h
 obtain ⟨n,hn⟩:∃ n,n=ts.length:=⟨_,rfl⟩
 have hrn:rs.length=n:=by rw [hn,<- h4,List.length_map]
 have hmx:n<=9223372036854775807:=by unfold maxLen at h3;omega
 rw [<- hn] at h2 h5 ⊢
 have fn:∀ (wx:World),Below w.heap.size w wx->∀ (v:Value) (t:Rw),t∈ts->Zb wx v t.2.1->Calls Tryz.prog 29 #[.agg #[.int .i64 t.1,v,.int .i64 t.2.2.1,.int .i64 t.2.2.2],.pointer (some ⟨b,0,none⟩)] wx fun r w'=>r=.returned (.bool ((Zc3 m) t))/\Below wx.heap.size wx w':=
  fun wx hbx v t ht hr=>Zm7 wx v t b vb m (hB.keep hbx) hr (hw t ht) (hv.below hbx) hm
 have HN:=Lib.hid (And.intro hrn (And.intro h4 (And.intro hmx (And.intro h6 (And.intro hn fn)))))
 have H5:=Lib.hid h5
 clear hn hrn h2 h3 h4 h5 h6 hmx fn hB hv hm hw
 go_enter Tryz.func43,Tryz.ntmps43
 go_wp2_with fail
 go_loopg [8] n (fun g v8 wr=>∃ k:Nat,v8=.int .i64 k/\k<=n/\g=n-k/\(ts.take k).any (Zc3 m)=false/\Below w.heap.size w wr)
 case atStart=>exact ⟨0,rfl,Nat.zero_le _,rfl,rfl,Below.refl _ _⟩
 case round=>
  obtain ⟨k,rfl,hk,hg,hall,hb⟩:=hrel
  by_cases hkn:k=n
  ·have e:ts.take k=ts:=by rw [hkn,HN.out.2.2.2.2.1];exact List.take_length
   rw [e] at hall
   have FIN:=Lib.hid (show ZeA w (Zc3 m) ts (.returned (.int .i64 (-1))) wr from ⟨-1,rfl,by rw [hall];rfl,hb⟩)
   subst hkn
   clear hk hg hall hb e
   go_wp2_with fail
   go_ret
   exact FIN.out
  ·have hlt:k<n:=by omega
   obtain ⟨x,hx⟩:∃ x,rs[k]? = some x:=⟨_,List.getElem?_eq_getElem (by have:=HN.out.1;omega)⟩
   obtain ⟨ad,rfl,d0,d1,d2,d3⟩:=ZaF H5.out hb hx (by omega)
   have hr:=(HN.out.2.2.2.1 x (List.mem_of_getElem? hx)).below hb
   have hxt:ts[k]? = some x.2:=by rw [<- HN.out.2.1,List.getElem?_map,hx];rfl
   have sm:=HN.out.2.2.2.2.2 wr hb x.1 x.2 (List.mem_of_getElem? hxt) hr
   have nxt:(ts.take (k+1)).any (Zc3 m)=(Zc3 m) x.2:=by
    rw [List.take_add_one,hxt,List.any_append,hall,Bool.false_or]
    simp
   have hit:(Zc3 m) x.2=true->decide (0<=(k:Int))=ts.any (Zc3 m):=fun hp=>by
    rw [List.any_eq_true.2 ⟨_,List.mem_of_getElem? hxt,hp⟩]
    exact decide_eq_true (by omega)
   have i1:(k:Int)<(n:Int):=by omega
   have i2:(0:Int)<=(k:Int):=by omega
   have wk:IntKind.i64.wrap ((k:Int)+1)=(k:Int)+1:=IntWalk.i64_in _ (by have:=HN.out.2.2.1;omega)
   generalize (Zc3 m) x.2=R at *
   obtain ⟨x1,xo,x2,x3,x4⟩:=x
   dsimp only at *
   have HB:=Lib.hid hb
   have HK:=Lib.hid (And.intro hlt hg)
   have SM:=Lib.hid sm
   have NX:=Lib.hid (And.intro nxt hit)
   clear hr hxt nxt hit hx hkn hlt hk hg hall hb sm
   cases R
   ·go_wp2_with (go_at_call 29;(with_reducible refine SM.out.mono ?_);rintro e w1 ⟨rfl,hb1⟩)
    go_roundg (n-(k+1))
    case measure=>have:=HK.out;omega
    case rel=>exact ⟨k+1,by push_cast;rfl,by have:=HK.out;omega,rfl,NX.out.1,HB.out.trans (hb1.mono HB.out.size)⟩
   ·go_wp2_with (go_at_call 29;(with_reducible refine SM.out.mono ?_);rintro e w1 ⟨rfl,hb1⟩)
    go_ret
    exact ⟨k,rfl,NX.out.2 trivial,HB.out.trans (hb1.mono HB.out.size)⟩
theorem Zi8 (w:World) (vs:Value) (ts:List Rw) (b:Nat) (vb:Value) (m:List (Int×Int)) (hB:Blk w b #[vb]) (hv:Zb w vb m) (hm:Zv m) (hw:∀ t∈ts,ZX t) (h:ZD w vs ts) :
  Calls Tryz.prog 18 #[vs,.func (.func 29) #[] #[.pointer (some ⟨b,0,none⟩)]] w fun e w'=>e=.returned (.bool (ts.any (Zc3 m)))/\Below w.heap.size w w':=by
 have IXC:=Lib.hid (ZlK w vs ts b vb m hB hv hm hw h)
 clear h hB hv hm hw
 go_enter Tryz.func18,Tryz.ntmps18
 go_wp2_with (go_at_call 43;(with_reducible refine IXC.out.mono ?_);rintro e w1 ⟨z,rfl,hz,hb⟩)
 go_ret
 exact ⟨by rw [<- hz];rfl,hb⟩
def Zed (l:List Rw) (m:List (Int×Int)):Bool:=(ZS [] m (0,1)).2==0&&!(l.any (Zc3 m))
theorem ZgV (w:World) (v vb:Value) (l:List Rw) (m:List (Int×Int)) (h:ZD w v l) (hw:∀ r∈l,ZX r) (hv:Zb w vb m) (hm:Zv m) :
  Calls Tryz.prog 10 #[v,vb] w fun e w'=>e=.returned (.bool (Zed l m))/\Below w.heap.size w w':=by
 have hmf:∀ (fn:Fn) (first cap:Array Value) (w:World),(Instr.makeFunc fn first cap).run Tryz.prog w=.ok (.func fn first cap) w:=fun _ _ _ _=>rfl
 obtain ⟨A,c,rs,rfl,_,_,_⟩:=id h
 obtain ⟨Ab,cb,rfl⟩:=Zd hv
 have a:=Za w (.cells #[.slice Ab m.length cb] 23)
 have BB:=Blk.start w #[.slice Ab m.length cb] 23
 have hm0:Bd (0,1):=by decide
 have tv:=fun (w':World) (hb:Below w.heap.size w w')=>Zfd w' (.slice none 0 0) (.slice Ab m.length cb) [] m (0,1) (Zb.nil w') (hv.below hb) (fun x hx=>by cases hx) hm hm0
 have cc:=fun (w':World) (hb:Below w.heap.size w w') (b:Nat) (hB:Blk w' b #[.slice Ab m.length cb])=>Zi8 w' (.slice A l.length c) l b (.slice Ab m.length cb) m hB (hv.below hb) hm hw (h.below hb)
 have HZ:Zed l m=((ZS [] m (0,1)).2==0&&!(l.any (Zc3 m))):=rfl
 generalize ZS [] m (0,1)=V at *
 obtain ⟨⟨v1,v2⟩,er⟩:=V
 dsimp only at *
 generalize l.any (Zc3 m)=LA at *
 generalize Zed l m=Z at *
 have TV:=Lib.hid tv
 have CC:=Lib.hid cc
 have HZ:=Lib.hid HZ
 have B1:=Lib.hid (And.intro a BB)
 clear tv cc h hw hv hm a BB
 generalize m.length=nm at *
 generalize l.length=nl at *
 go_enter Tryz.func10,Tryz.ntmps10
 go_upto_region 1 with fail
 generalize hb3:w.heap.size=b3 at *
 generalize hwq:w.alloc (.cells #[.slice Ab nm cb] 23)=wq at *
 have x0:=B1.out.2.cell 0
 have TV:=Lib.hid (fun (w':World) (hb:Below wq.heap.size wq w')=>TV.out w' (Zl hb3 B1.out.1 hb))
 go_cut [5,6] from 7 to 19 (fun v5 v6 wx=>v6=.int .i64 er/\ZgH wq v1 v2 v5 wx)
 case first=>
  have STB:=Lib.hid (show ZcD (fun w'=>w'.cell? ⟨b3,0,none⟩=some (.slice Ab nm cb)/\Below wq.heap.size wq w') from ZC (Zz _ _) (ZbD wq))
  have HS:wq.drew.cell? ⟨b3,0,none⟩=some (.slice Ab nm cb)/\Below wq.heap.size wq wq.drew:=⟨x0,Zq _⟩
  clear x0
  refine wp_region_noPanic ?_
  refine wp_region_held_drew (S:=(fun w'=>w'.cell? ⟨b3,0,none⟩=some (.slice Ab nm cb)/\Below wq.heap.size wq w')) (by kernel_rfl) HS (fun hHeld=>?_)
  clear HS
  refine tk 2 rfl ?_
  (try simp only [cl,Act.put])
  refine wpAnyH_ready (rs:=[0,7]) (by kernel_rfl) (by simp) (AllReadyH.cons (o:=_) rfl (fun K hK=>?_) (AllReadyH.cons (o:=_) rfl (fun K hK=>?_) AllReadyH.nil))
  rotate_left
  go_simp
  (first | refine hK.out _ _ (Za9 STB.out (by with_reducible assumption)) (fun hH2=>?_) | refine hK.out _ _ (STB.out _ _ (Za _ _) (by with_reducible assumption)) (fun hH2=>?_))
  clear hK K
  (try dsimp only at hH2)
  (first | have HC:=Lib.hid (ZcZ hH2) | have HC:=Lib.hid (Zcz hH2))
  have hHeld0:=Lib.hid hHeld
  clear hHeld
  have hHeld:=hH2
  clear hH2
  (try simp only [cl,Act.put])
  refine rd 0 rfl fun K hK=>?_
  rotate_right
  all_goals
   go_simp
   (first
    | (go_at_call 14;(with_reducible refine (Za7 _ _).mono ?_);rintro e5 w5 ⟨rfl,hb⟩;(try have HC:=Lib.hid (HC.out.keep hb)))
    | (go_at_call 28;(with_reducible refine (TV.out _ (ZG (by with_reducible assumption))).mono ?_);rintro e6 w6 ⟨rfl,hb⟩;(try have HC:=Lib.hid (HC.out.keep hb))))
   go_wp2_with fail
   refine hK.out _ _ (STB.out _ _ hb (by with_reducible assumption)) (fun hH2=>?_)
   clear hK K hHeld hb;have hHeld:=hH2;clear hH2
   (try simp only [cl,Act.put])
  all_goals
   refine tk 1 rfl ?_
   (try simp only [cl,Act.put])
  all_goals (try (have _:=HC.out;refine rd 3 rfl fun K hK=>?_))
  refine wpAnyH_ready (rs:=[3,7]) (by kernel_rfl) (by simp) (AllReadyH.cons (o:=_) rfl (fun K hK=>?_) (AllReadyH.cons (o:=_) rfl (fun K hK=>?_) AllReadyH.nil))
  rotate_left
  go_simp
  (first | refine hK.out _ _ (Za9 STB.out (by with_reducible assumption)) (fun hH2=>?_) | refine hK.out _ _ (STB.out _ _ (Za _ _) (by with_reducible assumption)) (fun hH2=>?_))
  clear hK K
  (try dsimp only at hH2)
  (first | have HC:=Lib.hid (ZcZ hH2) | have HC:=Lib.hid (Zcz hH2))
  have hHeld0:=Lib.hid hHeld
  clear hHeld
  have hHeld:=hH2
  clear hH2
  (try simp only [cl,Act.put])
  refine rd 3 rfl fun K hK=>?_
  rotate_right
  all_goals
   go_simp
   (first
    | (go_at_call 14;(with_reducible refine (Za7 _ _).mono ?_);rintro e5 w5 ⟨rfl,hb⟩;(try have HC:=Lib.hid (HC.out.keep hb)))
    | (go_at_call 28;(with_reducible refine (TV.out _ (ZG (by with_reducible assumption))).mono ?_);rintro e6 w6 ⟨rfl,hb⟩;(try have HC:=Lib.hid (HC.out.keep hb))))
   go_wp2_with fail
   refine hK.out _ _ (STB.out _ _ hb (by with_reducible assumption)) (fun hH2=>?_)
   clear hK K hHeld hb;have hHeld:=hH2;clear hH2
   (try simp only [cl,Act.put])
  all_goals
   refine tk 4 rfl ?_
   refine tk 5 rfl ?_
   refine tk 6 rfl ?_
   (try simp only [cl,Act.put])
  refine rd 7 rfl fun K hK=>?_
  go_simp
  (first | refine hK.out _ _ (Za9 STB.out (by with_reducible assumption)) (fun hH2=>?_) | refine hK.out _ _ (STB.out _ _ (Za _ _) (by with_reducible assumption)) (fun hH2=>?_))
  clear hK K
  (try dsimp only at hH2)
  (first | have HC:=Lib.hid (ZcZ hH2) | have HC:=Lib.hid (Zcz hH2))
  have hHeld0:=Lib.hid hHeld
  clear hHeld
  have hHeld:=hH2
  clear hH2
  (try simp only [cl,Act.put])
  all_goals
   refine rd 8 rfl fun K hK=>?_
   obtain ⟨h7,h0,h1,h2,h3,h4,h8⟩:=HC.out
   clear h7 h8
   go_simp
   clear h0 h1 h2 h3 h4
   (first
    | refine hK.out _ _ (STB.out _ _ (Za _ _) hHeld0.out) (fun hH2=>?_)
    | refine hK.out _ _ (STB.out _ _ (HC.out.fill _ _).1 hHeld0.out) (fun hH2=>?_))
   clear hK K hHeld
   (try dsimp only at hH2)
   have hHeld:=hH2
   clear hH2
   (try simp only [cl,Act.put])
   refine tk 9 rfl ?_
   (try simp only [cl,Act.put])
   refine wpAnyH_done (by kernel_rfl) ?_ _
   refine NoPanic.normal ?_
   go_wp2_with fail
   go_meet
   case rel=>first | exact ⟨rfl,Zgh hHeld0.out.2 25⟩ | exact ⟨rfl,Zg8 hHeld0.out.2 HC.out⟩
 case rest=>
  obtain ⟨rfl,c5,rfl,_,hbq⟩:=hcut
  have B2:=Lib.hid (And.intro (Zl hb3 B1.out.1 hbq) (B1.out.2.keep hbq))
  clear x0 hbq
  by_cases he:er=0
  ·subst he
   go_wp2_with (go_at_call 18;(with_reducible refine (CC.out _ B2.out.1 b3 B2.out.2).mono ?_);rintro e7 w7 ⟨rfl,hb7⟩)
   go_ret
   exact ⟨by rw [HZ.out];rfl,by rw [hb3];exact Zl hb3 B2.out.1 hb7⟩
  ·have ne:(er != 0)=true:=by simpa using he
   have ee:(er==0)=false:=by simpa using he
   have HE:=Lib.hid ee
   clear he ee
   go_wp2_with fail
   go_ret
   exact ⟨by rw [HZ.out,HE.out];rfl,by rw [hb3];exact B2.out.1⟩
end
end Go.Proofs.YtolookeddknmoaaGreat
