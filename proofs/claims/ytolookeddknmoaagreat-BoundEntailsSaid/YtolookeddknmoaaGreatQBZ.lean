import Derived.Test.YtolookeddknmoaaGreatQBO
import Derived.Test.YtolookeddknmoaaGreatQBX
import Derived.Test.YtolookeddknmoaaGreatQBY
set_option maxRecDepth 100000
set_option maxHeartbeats 8000000
namespace Go.Proofs.YtolookeddknmoaaGreat
section
open Go.RowKit
theorem Zfh:∀ (a b:List (Trm×Int)) (t:Trm),Za6 (a++b) t=(Za6 a t).bind (Za6 b)
 | [],b,t=>rfl
 | s::r,b,t=>by
  rw [List.cons_append,Za6,Za6]
  cases ZQ s.1 s.2 t with
  | none=>rfl
  | some u=>exact Zfh r b u
theorem Zf5:∀ (sel:List (Trm×Int)) (t u:Trm),(∀ s∈sel,TrmOk s.1)->TrmOk t->Za6 sel t=some u->TrmOk u
 | [],t,u,_,ht,h=>by
  obtain rfl:=Option.some.inj h
  exact ht
 | s::r,t,u,hs,ht,h=>by
  rw [Za6,Option.bind_eq_some_iff] at h
  obtain ⟨x,h1,h2⟩:=h
  exact Zf5 r x u (fun y hy=>hs y (List.mem_cons_of_mem _ hy)) (Zmx (hs s (by simp)) ht h1) h2
theorem ZgZ (sel:List (Trm×Int)):∀ (a b:List Rw),ZaY sel (a++b)=(ZaY sel a).bind fun l=>(ZaY sel b).map fun m=>l++m
 | [],b=>by simp [ZaY]
 | r::a,b=>by
  rw [List.cons_append,ZaY,ZaY,ZgZ sel a b]
  by_cases h0:r.1=0
  ·rw [if_pos h0,if_pos h0]
  ·rw [if_neg h0,if_neg h0]
   cases Za6 sel (ZR r.2) with
   | none=>rfl
   | some t=>
    simp only [Option.bind_some]
    cases ZaY sel a with
    | none=>rfl
    | some l=>cases ZaY sel b<;>rfl
theorem Ze1 (sel:List (Trm×Int)):∀ (a l:List Rw),ZaY sel a=some l->l.length<=a.length
 | [],l,h=>by
  obtain rfl:=Option.some.inj h
  exact Nat.le_refl _
 | r::a,l,h=>by
  rw [ZaY] at h
  by_cases h0:r.1=0
  ·rw [if_pos h0] at h
   have:=Ze1 sel a l h
   rw [List.length_cons]
   omega
  ·rw [if_neg h0,Option.bind_eq_some_iff] at h
   obtain ⟨t,_,h⟩:=h
   obtain ⟨m,hm,rfl⟩:=Option.map_eq_some_iff.1 h
   rw [List.length_cons,List.length_cons]
   have:=Ze1 sel a m hm
   omega
def Zft (w:World) (o:Option (List Rw)) (e:Ending) (w':World):Prop:=
 (∃ l A c,o=some l/\e=.returned (.tuple #[.slice A l.length c,.bool true])/\ZD w' (.slice A l.length c) l/\Below w.heap.size w w') ∨
 (o=none/\e=.returned (.tuple #[.slice none 0 0,.bool false])/\Below w.heap.size w w')
structure LsrS (S:Nat->Prop) (wo wr:World) (bt:Nat) (vt:Value) (t:Trm):Prop where
 B:Blk wr bt #[vt,.int .i64 t.2.1,.int .i64 t.2.2]
 r:Zb wr vt t.1
 off:Off S vt t.1
 below:Below wo.heap.size wo wr
 le:wo.heap.size<=bt
theorem LsrS.keep {S:Nat->Prop} {wo wr w2:World} {bt:Nat} {vt:Value} {t:Trm} (h:LsrS S wo wr bt vt t) (hb:Below wr.heap.size wr w2):LsrS S wo w2 bt vt t:=
 ⟨h.B.keep hb,h.r.below hb,h.off,h.below.trans (hb.mono h.below.size),h.le⟩
section
variable {wq wA wo wr w6:World} {A:Prop} {ty:TypeId} {c d:Nat} {M:List (Int×Int)} {m1 m2:Int} {Ad:Option Addr}
def ZfR (wq:World) (M:List (Int×Int)) (m1 m2:Int) (v:Value) (wx:World):Prop:=
 ∃ c A d,v=.pointer (some ⟨c,0,none⟩)/\FracBox wx c (.slice A M.length d) (.int .i64 m1) (.int .i64 m2)/\Zb wx (.slice A M.length d) M/\Below wq.heap.size wq wx/\Zs wq.heap.size (.slice A M.length d)
theorem Zh6 (h:Below wq.heap.size wq w6) (ty:TypeId) (hr:Zb w6 (.slice Ad M.length d) M) (hf:Zs wq.heap.size (.slice Ad M.length d)):ZfR wq M m1 m2 (.pointer (some ⟨w6.heap.size,0,none⟩)) (w6.alloc (.cells #[.slice Ad M.length d,.int .i64 m1,.int .i64 m2] ty)):=
 ⟨_,Ad,d,rfl,FracBox.start _ _ _ _ _,hr.below (Za _ _),h.trans ((Za _ _).mono h.size),hf⟩
theorem ZiZ (h:Below wq.heap.size wq wA) (hc:HoleT wA wr c) (hr:Zb wr (.slice Ad M.length d) M) (hf:Off (fun b=>b=c) (.slice Ad M.length d) M) (hq:Zs wq.heap.size (.slice Ad M.length d)) :
  ZfR wq M m1 m2 (.pointer (some ⟨c,0,none⟩)) (((wr.setCell ⟨c,0,none⟩ (.slice Ad M.length d)).setCell ⟨c,1,none⟩ (.int .i64 m1)).setCell ⟨c,2,none⟩ (.int .i64 m2)):=by
 obtain ⟨c',A',d',e,F,r,b⟩:=Zfb (m1:=m1) (m2:=m2) h hc hr hf
 obtain ⟨a,F⟩:=hc.fill (.slice Ad M.length d) (.int .i64 m1) (.int .i64 m2)
 exact ⟨_,Ad,d,rfl,F,hr.off hf (Zaa (Zaa ZaK ZaK) ZaK) (fun b hb=>by injection hb with hb;exact hb.symm),h.trans (a.mono h.size),hq⟩
end
section
variable {wq w1 w2 wo:World} {p:Addr} {v x:Value} {o:Obj} {xs:Array Value} {ty:TypeId} {row:Option Nat}
theorem Zqp (_:(wo.alloc (.cells xs ty)).cell? p=some v):Zbl (wo.alloc (.cells xs ty)) 0 wo.heap.size xs.toList:=Zav (Nat.zero_le _)
theorem ZpA (_:(wo.alloc (.cells xs ty)).drew.cell? p=some v):Zbl (wo.alloc (.cells xs ty)).drew 0 wo.heap.size xs.toList:=(Zav (wo:=wo) (ty:=ty) (Nat.zero_le _)).keep (Zq _)
theorem Zrd (_:(wq.drew.alloc o).cell? p=some v):Below wq.heap.size wq (wq.drew.alloc o):=(Zq wq).trans (Za wq.drew o)
theorem ZqS (_:(wq.alloc o).drew.cell? p=some v):Below wq.heap.size wq (wq.alloc o).drew:=(Za wq o).drew
theorem Zeu (hg:w1.grownBy w2 row) (h:w1.cell? p=some x) (hne:row≠some p.block):w2.cell? p=some x:=
 (World.cell?_of_block (hg.block p.block (World.block_lt_of_cell? _ _ h) (fun e=>hne e.symm))).trans h
end
theorem ZoE (w:World) (v vs vp:Value) (ts:List Rw) (sel:List Trm) (piv:List Int) (h:ZD w v ts) (hs:Zal w vs sel) (hp:ZaT w vp piv) (hlen:sel.length=piv.length) (hok:∀ r∈ts,TrmOk r.2) (hso:∀ s∈sel,TrmOk s) (hl:ts.length<=1000) (hl2:sel.length<=1000) :
  Calls Tryz.prog 79 #[v,vs,vp] w (Zft w (ZaY (sel.zip piv) ts)):=by
 obtain ⟨iR,hiR,zR0,zR1,zR2⟩:=info_parts Zc6
 obtain ⟨A,c,rs,rfl,h2,h3,h4,h5,h6⟩:=h
 obtain ⟨As0,cs0,ss,rfl,g2,g3,g4,g5,g6⟩:=hs
 obtain ⟨Ap,cp,rfl,f2,f3,f4⟩:=hp
 obtain ⟨n,hn⟩:∃ n,n=ts.length:=⟨_,rfl⟩
 obtain ⟨m,hm⟩:∃ m,m=sel.length:=⟨_,rfl⟩
 have hrn:rs.length=n:=by rw [hn,<- h4,List.length_map]
 have hsm:ss.length=m:=by rw [hm,<- g4,List.length_map]
 rw [<- hlen] at f2 f4 ⊢
 rw [<- hn] at h2 h5 hl ⊢
 rw [<- hm] at g2 g5 f2 f4 hl2 ⊢
 have hpm:piv.length=m:=by rw [hm,hlen]
 have HN:=Lib.hid (And.intro hrn (And.intro h4 (And.intro h5 (And.intro h6 (And.intro hn (And.intro hl hok))))))
 have HM:=Lib.hid (And.intro hsm (And.intro g4 (And.intro g5 (And.intro g6 (And.intro hm (And.intro hl2 (And.intro hso (And.intro hpm f4))))))))
 obtain ⟨Z,hZ⟩:∃ Z,Z=sel.zip piv:=⟨_,rfl⟩
 rw [<- hZ]
 have HZ:=Lib.hid hZ
 clear hn hrn h2 h3 h4 h5 h6 hl hok hm hsm g2 g3 g4 g5 g6 f2 f3 f4 hpm hlen hso hl2 hZ
 go_enter Tryz.func79,Tryz.ntmps79
 go_wp2_with fail
 go_loopg [8,9] n (fun g v8 v9 wr=>∃ (k:Nat) (l:List Rw) (va:Value),va=v8/\v9=.int .i64 k/\k<=n/\g=n-k/\ZaY Z (ts.take k)=some l/\Tri noB w wr va l Zce [] Zce [])
 case atStart=>exact ⟨0,[],_,rfl,rfl,Nat.zero_le _,rfl,rfl,Tri.start (fun _ q=>q.elim)⟩
 case round=>
  obtain ⟨k,l,va,rfl,rfl,hk,hg,hso,D⟩:=hrel
  by_cases hkn:k=n
  ·have he:ts.take k=ts:=by rw [hkn,HN.out.2.2.2.2.1];exact List.take_length
   rw [he] at hso
   have FIN:=Lib.hid (show Zft w (ZaY Z ts) (.returned (.tuple #[va,.bool true])) wr from by
    have hr:=D.a.rows
    obtain ⟨A,c,e⟩:∃ A c,va=.slice A l.length c:=by obtain ⟨A,c,_,e,_⟩:=hr;exact ⟨A,c,e⟩
    subst e
    exact .inl ⟨_,A,c,hso,rfl,hr,D.below⟩)
   subst hkn
   clear hk hg D he hso
   go_wp2_with fail
   go_ret2
   exact FIN.out
  ·have hlt:k<n:=by omega
   obtain ⟨y,hy⟩:∃ y,rs[k]? = some y:=⟨_,List.getElem?_eq_getElem (by have:=HN.out.1;omega)⟩
   have hyt:ts[k]? = some y.2:=by rw [<- HN.out.2.1,List.getElem?_map,hy];rfl
   obtain ⟨ad,rfl,d0,d1,d2,d3⟩:=ZaF HN.out.2.2.1 D.below hy (by omega)
   have hadl:ad.block<w.heap.size:=by
    obtain ⟨ad',e,q,_⟩:=HN.out.2.2.1.2 (show 0<n by omega)
    injection e with e
    rw [e]
    exact q
   have hry:=HN.out.2.2.2.1 y (List.mem_of_getElem? hy)
   have hok:=HN.out.2.2.2.2.2.2 y.2 (List.mem_of_getElem? hyt)
   have hr:=hry.below D.below
   have slen:=Ze1 Z _ _ hso
   have nx:ZaY Z (ts.take (k+1))=if y.2.1=0 then some l else (Za6 Z (ZR y.2.2)).map fun t=>l++[(y.2.1,t)]:=by
    rw [List.take_add_one,hyt]
    show ZaY Z (ts.take k++[y.2])=_
    rw [ZgZ,hso,Option.bind_some,ZaY,ZaY]
    split
    ·simp
    ·cases Za6 Z (ZR y.2.2)<;>rfl
   have nn:¬ y.2.1=0->Za6 Z (ZR y.2.2)=none->ZaY Z ts=none:=fun q0 q=>by
    rw [<- List.take_append_drop (k+1) ts,ZgZ,nx,if_neg q0,q]
    rfl
   have i1:(k:Int)<(n:Int):=by omega
   have i2:(0:Int)<=(k:Int):=by omega
   have wk:IntKind.i64.wrap ((k:Int)+1)=(k:Int)+1:=IntWalk.i64_in _ (by have:=HN.out.2.2.2.2.2.1;omega)
   have hll:l.length<=1000:=by
    have:=HN.out.2.2.2.2.2.1
    rw [List.length_take] at slen
    omega
   have ow:=fun (w':World) (hb:Below wr.heap.size wr w')=>Zev w' y.1 y.2.2.1 y.2.2.2.1 y.2.2.2.2 (hr.below hb) hok.ok.wide hok.k.wide.1.1 hok.k.wide.1.2 hok.k.wide.2.1 hok.k.wide.2.2 (ZaA hok.len hok.ok hok.k)
   have tko:=Zdl hok
   obtain ⟨yv,xo,xl,x1,x2⟩:=y
   unfold ZR at nx nn tko
   dsimp only at *
   obtain ⟨Ax,cx,rfl⟩:=Zd hr
   generalize Zw xl=yl at *
   have HK:=Lib.hid (And.intro hlt (And.intro hg (And.intro nx (And.intro nn tko))))
   have LK:=Lib.hid (show l.length+1<=maxLen/\(l.length+1)*48<=140737488355328 from by unfold maxLen;omega)
   have OWN:=Lib.hid ow
   have DD:=Lib.hid D
   have HAD:=Lib.hid hadl
   clear hkn hk hg hyt hy hry hok hr slen nx nn hlt hll D ow tko hadl
   by_cases h0:xo=0
   ·have e0:(xo==0)=true:=by rw [h0];rfl
    have NX:=Lib.hid (show ZaY Z (ts.take (k+1))=some l from by rw [HK.out.2.2.1,if_pos h0])
    clear h0
    go_wp2_with fail
    go_roundg (n-(k+1))
    case measure=>have:=HK.out.1;have:=HK.out.2.1;omega
    case rel=>exact ⟨k+1,l,_,rfl,by push_cast;rfl,by have:=HK.out.1;omega,rfl,NX.out,DD.out⟩
   have e0:(xo==0)=false:=by simpa using h0
   have H0:=Lib.hid h0
   clear h0
   go_upto_region 7 with (go_at_call 42;(with_reducible refine (OWN.out _ (Below.refl _ _)).mono ?_);rintro e5 w5 ⟨v5,rfl,hv5,hb5,fr5⟩;obtain ⟨A5,c5,rfl⟩:=Zd hv5)
   have a6:=Za w5 (.cells #[.slice A5 yl.length c5,.int .i64 x1,.int .i64 x2] 27)
   have S1:=Lib.hid (show LsrS (Zaf noB va Zce Zce) wr (w5.alloc (.cells #[.slice A5 yl.length c5,.int .i64 x1,.int .i64 x2] 27)) w5.heap.size (.slice A5 yl.length c5) (yl,x1,x2) from ⟨Blk.start w5 #[.slice A5 yl.length c5,.int .i64 x1,.int .i64 x2] 27,hv5.below a6,Off.fresh fr5 (fun b q=>DD.out.lt b q),hb5.trans (a6.mono hb5.size),hb5.size⟩)
   clear d1 d2 d3 a6 hv5 hb5 fr5 OWN
   replace d0:=ZU S1.out.below d0
   generalize w5.alloc (.cells #[.slice A5 yl.length c5,.int .i64 x1,.int .i64 x2] 27)=w1 at *
   generalize w5.heap.size=bt at *
   generalize wr=wo at *
   have S1:=Lib.hid (And.intro S1.out (And.intro (show Za6 (Z.take 0) (yl,x1,x2)=some (yl,x1,x2) from rfl) d0))
   clear d0
   go_wp2_with fail
   go_loopg [11] m (fun g v11 wr=>∃ (j:Nat) (t:Trm) (vt:Value),v11=.int .i64 j/\j<=m/\g=m-j/\Za6 (Z.take j) (yl,x1,x2)=some t/\LsrS (Zaf noB va Zce Zce) wo wr bt vt t/\wr.cell? (ad.add (k*4))=some (.int .i64 xo))
   case atStart=>exact ⟨0,(yl,x1,x2),_,rfl,Nat.zero_le _,rfl,S1.out.2.1,S1.out.1,S1.out.2.2⟩
   case round=>
    clear S1
    obtain ⟨j,t,vt,rfl,hj,hgj,hst,D,d0⟩:=hrel
    by_cases hjm:j=m
    ·have ez:Z.take j=Z:=by
      rw [hjm,HZ.out]
      have e:(sel.zip piv).length<=m:=by
       rw [List.length_zip,<- HM.out.2.2.2.2.1]
       omega
      exact List.take_of_length_le e
     rw [ez] at hst
     obtain ⟨At,ct,rfl⟩:=Zd D.r
     obtain ⟨tl,t1,t2⟩:=t
     dsimp only at D
     have NX:=Lib.hid (show ZaY Z (ts.take (k+1))=some (l++[(xo,tl,t1,t2)]) from by rw [HK.out.2.2.1,if_neg H0.out,hst];rfl)
     have nb:va.ownBlock≠some bt:=fun e=>by have:=DD.out.lt bt (.inl e);have:=D.le;omega
     have na:va.ownBlock≠some (ad.add (k*4)).block:=fun e=>by
      rw [ZL] at e
      have:=(DD.out.a.lt _ e).1
      have:=HAD.out
      omega
     have t0:wr.cell? ⟨bt,0,none⟩=some (.slice At tl.length ct):=D.B.cell 0
     have t1':wr.cell? ⟨bt,1,none⟩=some (.int .i64 t1):=D.B.cell 1
     have t2':wr.cell? ⟨bt,2,none⟩=some (.int .i64 t2):=D.B.cell 2
     have DT:=Lib.hid (And.intro (show Below wo.heap.size wo wr from D.below) (And.intro D.r D.off))
     dsimp only at DT
     subst hjm
     clear hst ez hj hgj D
     generalize tl.length=tn at *
     have SG:=Lib.hid (fun (w1 w2:World) (hg:w1.grownBy w2 va.ownBlock) (h:(fun w'=>(w'.cell? ⟨bt,0,none⟩=some (.slice At tn ct)/\w'.cell? ⟨bt,1,none⟩=some (.int .i64 t1)/\w'.cell? ⟨bt,2,none⟩=some (.int .i64 t2))/\w'.cell? (ad.add (k*4))=some (.int .i64 xo)) w1)=>show (fun w'=>(w'.cell? ⟨bt,0,none⟩=some (.slice At tn ct)/\w'.cell? ⟨bt,1,none⟩=some (.int .i64 t1)/\w'.cell? ⟨bt,2,none⟩=some (.int .i64 t2))/\w'.cell? (ad.add (k*4))=some (.int .i64 xo)) w2 from ⟨⟨Zeu hg h.1.1 nb,Zeu hg h.1.2.1 nb,Zeu hg h.1.2.2 nb⟩,Zeu hg h.2 na⟩)
     have STB:=Lib.hid (show ZcD (fun w'=>(w'.cell? ⟨bt,0,none⟩=some (.slice At tn ct)/\w'.cell? ⟨bt,1,none⟩=some (.int .i64 t1)/\w'.cell? ⟨bt,2,none⟩=some (.int .i64 t2))/\w'.cell? (ad.add (k*4))=some (.int .i64 xo)) from ZC (ZC (Zz _ _) (ZC (Zz _ _) (Zz _ _))) (Zz _ _))
     clear nb na
     have i3:¬ (j:Int)<(j:Int):=by omega
     go_upto_region 16 with fail
     generalize wr=wq at *
     have HS:((wq.drew.cell? ⟨bt,0,none⟩=some (.slice At tn ct)/\wq.drew.cell? ⟨bt,1,none⟩=some (.int .i64 t1)/\wq.drew.cell? ⟨bt,2,none⟩=some (.int .i64 t2))/\wq.drew.cell? (ad.add (k*4))=some (.int .i64 xo)):=⟨⟨t0,t1',t2'⟩,d0⟩
     clear t0 t1' t2' d0
     refine wp_region_noPanic ?_
     refine wp_region_held_drew (S:=(fun w'=>(w'.cell? ⟨bt,0,none⟩=some (.slice At tn ct)/\w'.cell? ⟨bt,1,none⟩=some (.int .i64 t1)/\w'.cell? ⟨bt,2,none⟩=some (.int .i64 t2))/\w'.cell? (ad.add (k*4))=some (.int .i64 xo))) (by kernel_rfl) HS (fun hHeld=>?_)
     clear HS
     refine tk 0 rfl ?_
     refine tk 1 rfl ?_
     refine tk 2 rfl ?_
     refine tk 3 rfl ?_
     refine tk 4 rfl ?_
     refine tk 5 rfl ?_
     refine tk 6 rfl ?_
     refine tk 7 rfl ?_
     (try simp only [cl,Act.put])
     refine rd 8 rfl fun K hK=>?_
     go_simp
     (first | refine hK.out _ _ (Za9 STB.out (by with_reducible assumption)) (fun hH2=>?_) | refine hK.out _ _ (STB.out _ _ (Za _ _) (by with_reducible assumption)) (fun hH2=>?_))
     clear hK K
     (try dsimp only at hH2)
     (first | (have NA0:=Zqp hH2.1.1;have b16:=Zrd hH2.1.1) | (have NA0:=ZpA hH2.1.1;have b16:=ZqS hH2.1.1))
     have NA:=Lib.hid NA0
     clear NA0
     clear hHeld
     have hHeld:=hH2
     clear hH2
     have D16:=DD.out.keep (Zl rfl DT.out.1 b16)
     have hr16:=DT.out.2.1.below b16
     obtain ⟨rs2,z1,z2,z3⟩:=id D16.a
     have QW:=Lib.hid (And.intro D16 (And.intro z1 (And.intro z2 (And.intro z3 hr16))))
     clear D16 z1 z2 z3 hr16 b16
     (try simp only [cl,Act.put])
     refine rd 9 rfl fun K hK=>?_
     refine Zab _ rfl _ _ 22 rfl w.heap.size 29 iR (.agg #[.int .i64 0,.slice none 0 0,.int .i64 0,.int .i64 0]) 4 48 Tryz.underlying22 hiR zR0 zR1 zR2 rfl (by decide) va l.length (Zt rs2) rfl QW.out.2.2.1 _ (some _) 1 1 [.int .i64 xo,.slice At tn ct,.int .i64 t1,.int .i64 t2] rfl (NA.out.reads rfl) (Zcw _ _ _ _ _ _) (by have:=LK.out;omega) (by have:=LK.out;omega) QW.out.1.below.size (fun v16 w16 hown hgrow hat=>?_)
     have D8:=Lib.hid (Tri.push (t:=(xo,tl,t1,t2)) (vt:=.slice At tn ct) QW.out.1 QW.out.2.1 QW.out.2.2.2.1 hown hgrow (by first | exact hat | simpa using hat) QW.out.2.2.2.2 DT.out.2.2)
     refine hK.out _ _ (SG.out _ _ hgrow hHeld) (fun hH2=>?_)
     (try dsimp only at hH2)
     clear hK K hHeld hown hgrow hat NA QW
     have hHeld:=hH2
     clear hH2
     (try simp only [cl,Act.put])
     refine tk 10 rfl ?_
     (try simp only [cl,Act.put])
     refine wpAnyH_done (by kernel_rfl) ?_ _
     refine NoPanic.normal ?_
     clear hHeld
     go_wp2_with fail
     go_roundg (n-(k+1))
     case measure=>have:=HK.out.1;have:=HK.out.2.1;omega
     case rel=>exact ⟨k+1,l++[(xo,tl,t1,t2)],_,rfl,by push_cast;rfl,by have:=HK.out.1;omega,rfl,NX.out,D8.out⟩
    ·have hltj:j<m:=by omega
     obtain ⟨x,hx⟩:∃ x,ss[j]? = some x:=⟨_,List.getElem?_eq_getElem (by have:=HM.out.1;omega)⟩
     have hxt:sel[j]? = some x.2:=by rw [<- HM.out.2.1,List.getElem?_map,hx];rfl
     obtain ⟨p,hpj⟩:∃ p,piv[j]? = some p:=⟨_,List.getElem?_eq_getElem (by have:=HM.out.2.2.2.2.2.2.2.1;omega)⟩
     have bl:Below w.heap.size w wr:=DD.out.below.trans (D.below.mono DD.out.below.size)
     obtain ⟨ads,rfl,e0,e1,e2⟩:=ZaZ HM.out.2.2.1 bl hx (by omega)
     obtain ⟨adp,rfl,pj⟩:=ZbL HM.out.2.2.2.2.2.2.2.2 bl hpj (by omega)
     have hrs:=(HM.out.2.2.2.1 x (List.mem_of_getElem? hx)).below bl
     have hsok:=HM.out.2.2.2.2.2.2.1 x.2 (List.mem_of_getElem? hxt)
     have hzj:Z[j]? = some (x.2,p):=by rw [HZ.out,List.getElem?_zip_eq_some];exact ⟨hxt,hpj⟩
     have nxj:Za6 (Z.take (j+1)) (yl,x1,x2)=ZQ x.2 p t:=by
      rw [List.take_add_one,hzj]
      show Za6 (Z.take j++[(x.2,p)]) _=_
      rw [Zfh,hst,Option.bind_some,Za6]
      cases ZQ x.2 p t<;>rfl
     have nnj:ZQ x.2 p t=none->Za6 Z (yl,x1,x2)=none:=fun q=>by
      rw [<- List.take_append_drop (j+1) Z,Zfh,nxj,q]
      rfl
     have tok:TrmOk t:=by
      refine Zf5 (Z.take j) _ t (fun s hs=>?_) HK.out.2.2.2.2 hst
      have:=List.mem_of_mem_take hs
      rw [HZ.out] at this
      exact HM.out.2.2.2.2.2.2.1 _ (List.of_mem_zip this).1
     have okc:=tok.ok.at p
     have elz:(atL t.1 p).1=0->ZQ x.2 p t=some t:=fun q=>by
      have e:Zar t.1 t.2 x.2.1 x.2.2 p=(t.1,t.2,0):=if_pos q
      unfold ZQ
      rw [e]
      rfl
     have eln:(atL t.1 p).1≠0->ZQ x.2 p t=if (ZdB t.1 t.2 x.2.1 x.2.2 (atL t.1 p)).2.2=0 then some ((ZdB t.1 t.2 x.2.1 x.2.2 (atL t.1 p)).1,(ZdB t.1 t.2 x.2.1 x.2.2 (atL t.1 p)).2.1) else none:=fun q=>by
      unfold ZQ
      rw [ZjI q]
     obtain ⟨At,ct,rfl⟩:=Zd D.r
     have ta:=fun (w':World) (hb:Below wr.heap.size wr w')=>ZaX w' (.slice At t.1.length ct) t.1 t.2.1 t.2.2 p (D.r.below hb)
     have ls:=fun (w':World) (hb:Below wr.heap.size wr w')=>ZjW w' (.slice At t.1.length ct) x.1 t.1 x.2.1 t.2 x.2.2 (atL t.1 p) (D.r.below hb) (hrs.below hb) tok.ok.wide hsok.ok.wide tok.k.wide hsok.k.wide okc
     have i3:(j:Int)<(m:Int):=by omega
     have i4:(0:Int)<=(j:Int):=by omega
     have wj:IntKind.i64.wrap ((j:Int)+1)=(j:Int)+1:=IntWalk.i64_in _ (by have:=HM.out.2.2.2.2.2.1;omega)
     generalize hPP:ZdB t.1 t.2 x.2.1 x.2.2 (atL t.1 p)=P at *
     clear hPP
     generalize atL t.1 p=cq at *
     obtain ⟨cn,cd⟩:=cq
     obtain ⟨M,⟨m1,m2⟩,er⟩:=P
     obtain ⟨tl,t1,t2⟩:=t
     obtain ⟨xv,sl,s1,s2⟩:=x
     dsimp only at *
     obtain ⟨As,cs,rfl⟩:=Zd hrs
     have hfd:∀ w:World,(Instr.field 25 (.agg #[.int .i64 cn,.int .i64 cd]) 0).run Tryz.prog w=.ok (.int .i64 cn) w:=fun _=>by kernel_rfl
     have TA:=Lib.hid ta
     have LS:=Lib.hid ls
     have HJ:=Lib.hid (And.intro hltj (And.intro hgj (And.intro nxj (And.intro nnj (And.intro elz eln)))))
     have DJ:=Lib.hid (And.intro D d0)
     have t0:wr.cell? ⟨bt,0,none⟩=some (.slice At tl.length ct):=D.B.cell 0
     have t1':wr.cell? ⟨bt,1,none⟩=some (.int .i64 t1):=D.B.cell 1
     have t2':wr.cell? ⟨bt,2,none⟩=some (.int .i64 t2):=D.B.cell 2
     clear hjm hj hgj hst D d0 hxt hx bl hpj hrs hsok hzj nxj nnj tok okc ta ls elz eln hltj
     generalize tl.length=tn at *
     generalize sl.length=sn at *
     go_upto_region 10 with fail
     generalize hwr:wr=wq at *
     clear hwr
     go_cut [12] from 33 to 60 (fun v12 wx=>ZgH wq cn cd v12 wx)
     case first=>
       have STB:=Lib.hid (show ZcD (fun w'=>((w'.cell? ⟨bt,0,none⟩=some (.slice At tn ct)/\w'.cell? ⟨bt,1,none⟩=some (.int .i64 t1)/\w'.cell? ⟨bt,2,none⟩=some (.int .i64 t2))/\w'.cell? (adp.add j)=some (.int .i64 p))/\Below wq.heap.size wq w') from ZC (ZC (ZC (Zz _ _) (ZC (Zz _ _) (Zz _ _))) (Zz _ _)) (ZbD wq))
       have HS:(((wq.drew.cell? ⟨bt,0,none⟩=some (.slice At tn ct)/\wq.drew.cell? ⟨bt,1,none⟩=some (.int .i64 t1)/\wq.drew.cell? ⟨bt,2,none⟩=some (.int .i64 t2))/\wq.drew.cell? (adp.add j)=some (.int .i64 p))/\Below wq.heap.size wq wq.drew):=⟨⟨⟨t0,t1',t2'⟩,pj⟩,Zq _⟩
       clear t0 t1' t2' pj e0 e1 e2
       refine wp_region_noPanic ?_
       refine wp_region_held_drew (S:=(fun w'=>((w'.cell? ⟨bt,0,none⟩=some (.slice At tn ct)/\w'.cell? ⟨bt,1,none⟩=some (.int .i64 t1)/\w'.cell? ⟨bt,2,none⟩=some (.int .i64 t2))/\w'.cell? (adp.add j)=some (.int .i64 p))/\Below wq.heap.size wq w')) (by kernel_rfl) HS (fun hHeld=>?_)
       clear HS
       refine tk 0 rfl ?_
       refine tk 1 rfl ?_
       refine tk 2 rfl ?_
       refine tk 3 rfl ?_
       refine tk 4 rfl ?_
       (try simp only [cl,Act.put])
       refine wpAnyH_ready (rs:=[5,6]) (by kernel_rfl) (by simp) (AllReadyH.cons (o:=_) rfl (fun K hK=>?_) (AllReadyH.cons (o:=_) rfl (fun K hK=>?_) AllReadyH.nil))
       rotate_left
       go_simp
       (first | refine hK.out _ _ (Za9 STB.out (by with_reducible assumption)) (fun hH2=>?_) | refine hK.out _ _ (STB.out _ _ (Za _ _) (by with_reducible assumption)) (fun hH2=>?_))
       clear hK K
       (try dsimp only at hH2)
       (first | have HC:=Lib.hid (ZcZ hH2) | have HC:=Lib.hid (Zcz hH2))
       have hHeld0:=Lib.hid hHeld
       clear hHeld
       have hHeld:=hH2
       clear hH2
       (try simp only [cl,Act.put])
       refine rd 5 rfl fun K hK=>?_
       rotate_right
       all_goals
        go_simp
        (go_at_call 41;(with_reducible refine (TA.out _ (ZG (by with_reducible assumption))).mono ?_);rintro e4 w4 ⟨rfl,hb⟩;(try have HC:=Lib.hid (HC.out.keep hb)))
        go_wp2_with fail
        refine hK.out _ _ (STB.out _ _ hb (by with_reducible assumption)) (fun hH2=>?_)
        clear hK K hHeld hb;have hHeld:=hH2;clear hH2
        (try simp only [cl,Act.put])
       refine rd 6 rfl fun K hK=>?_
       go_simp
       (first | refine hK.out _ _ (Za9 STB.out (by with_reducible assumption)) (fun hH2=>?_) | refine hK.out _ _ (STB.out _ _ (Za _ _) (by with_reducible assumption)) (fun hH2=>?_))
       clear hK K
       (try dsimp only at hH2)
       (first | have HC:=Lib.hid (ZcZ hH2) | have HC:=Lib.hid (Zcz hH2))
       have hHeld0:=Lib.hid hHeld
       clear hHeld
       have hHeld:=hH2
       clear hH2
       (try simp only [cl,Act.put])
       all_goals
        refine rd 7 rfl fun K hK=>?_
        obtain ⟨h7,h0,h1,h2,h3,h4,h8⟩:=HC.out
        clear h7 h8
        go_simp
        clear h0 h1 h2 h3 h4
        (first
         | refine hK.out _ _ (STB.out _ _ (Za _ _) hHeld0.out) (fun hH2=>?_)
         | refine hK.out _ _ (STB.out _ _ (HC.out.fill _ _).1 hHeld0.out) (fun hH2=>?_))
        clear hK K hHeld
        (try dsimp only at hH2)
        have hHeld:=hH2
        clear hH2
        (try simp only [cl,Act.put])
        refine wpAnyH_done (by kernel_rfl) ?_ _
        refine NoPanic.normal ?_
        go_wp2_with fail
        go_meet
        case rel=>first | exact Zgh hHeld0.out.2 25 | exact Zg8 hHeld0.out.2 HC.out
     case rest=>
      obtain ⟨bc,rfl,RA,hbq⟩:=hcut
      have D3:=Lib.hid (And.intro (DJ.out.1.keep hbq) (ZU hbq DJ.out.2))
      replace t0:=ZU hbq t0
      replace t1':=ZU hbq t1'
      replace t2':=ZU hbq t2'
      replace e0:=ZU hbq e0
      replace e1:=ZU hbq e1
      replace e2:=ZU hbq e2
      have j0:=RA.k0;have j1:=RA.k1
      have LS:=Lib.hid (fun (w':World) (hb:Below wc.heap.size wc w')=>LS.out w' (hbq.trans (hb.mono hbq.size)))
      clear hbq RA pj DJ
      by_cases hc0:cn=0
      ·have ec:(cn==0)=true:=by rw [hc0];rfl
       have NXJ:=Lib.hid (HJ.out.2.2.1.trans (HJ.out.2.2.2.2.1 hc0))
       clear hc0
       go_wp2_with fail
       go_roundg (m-(j+1))
       case measure=>have:=HJ.out.1;have:=HJ.out.2.1;omega
       case rel=>exact ⟨j+1,(tl,t1,t2),_,by push_cast;rfl,by have:=HJ.out.1;omega,rfl,NXJ.out,D3.out.1,D3.out.2⟩
      ·have ec:(cn==0)=false:=by simpa using hc0
       have elo:=Lib.hid (HJ.out.2.2.2.2.2 hc0)
       clear hc0
       go_upto_region 12 with fail
       generalize wc=wq at *
       go_cut [13,14] from 33 to 60 (fun v13 v14 wx=>v14=.int .i64 er/\ZfR wq M m1 m2 v13 wx)
       case first=>
        have STB:=Lib.hid (show ZcD (fun w'=>((w'.cell? ⟨bt,0,none⟩=some (.slice At tn ct)/\w'.cell? ⟨bt,1,none⟩=some (.int .i64 t1)/\w'.cell? ⟨bt,2,none⟩=some (.int .i64 t2))/\((w'.cell? (ads.add (j*3))=some (.slice As sn cs)/\w'.cell? ⟨(ads.add (j*3)).block,(ads.add (j*3)).off+1,none⟩=some (.int .i64 s1)/\w'.cell? ⟨(ads.add (j*3)).block,(ads.add (j*3)).off+2,none⟩=some (.int .i64 s2))/\(w'.cell? ⟨bc,0,none⟩=some (.int .i64 cn)/\w'.cell? ⟨bc,1,none⟩=some (.int .i64 cd))))/\Below wq.heap.size wq w') from ZC (ZC (ZC (Zz _ _) (ZC (Zz _ _) (Zz _ _))) (ZC (ZC (Zz _ _) (ZC (Zz _ _) (Zz _ _))) (ZC (Zz _ _) (Zz _ _)))) (ZbD wq))
        have HS:(((wq.drew.cell? ⟨bt,0,none⟩=some (.slice At tn ct)/\wq.drew.cell? ⟨bt,1,none⟩=some (.int .i64 t1)/\wq.drew.cell? ⟨bt,2,none⟩=some (.int .i64 t2))/\((wq.drew.cell? (ads.add (j*3))=some (.slice As sn cs)/\wq.drew.cell? ⟨(ads.add (j*3)).block,(ads.add (j*3)).off+1,none⟩=some (.int .i64 s1)/\wq.drew.cell? ⟨(ads.add (j*3)).block,(ads.add (j*3)).off+2,none⟩=some (.int .i64 s2))/\(wq.drew.cell? ⟨bc,0,none⟩=some (.int .i64 cn)/\wq.drew.cell? ⟨bc,1,none⟩=some (.int .i64 cd))))/\Below wq.heap.size wq wq.drew):=⟨⟨⟨t0,t1',t2'⟩,⟨⟨e0,e1,e2⟩,⟨j0,j1⟩⟩⟩,Zq _⟩
        clear t0 t1' t2' e0 e1 e2 j0 j1
        refine wp_region_noPanic ?_
        refine wp_region_held_drew (S:=(fun w'=>((w'.cell? ⟨bt,0,none⟩=some (.slice At tn ct)/\w'.cell? ⟨bt,1,none⟩=some (.int .i64 t1)/\w'.cell? ⟨bt,2,none⟩=some (.int .i64 t2))/\((w'.cell? (ads.add (j*3))=some (.slice As sn cs)/\w'.cell? ⟨(ads.add (j*3)).block,(ads.add (j*3)).off+1,none⟩=some (.int .i64 s1)/\w'.cell? ⟨(ads.add (j*3)).block,(ads.add (j*3)).off+2,none⟩=some (.int .i64 s2))/\(w'.cell? ⟨bc,0,none⟩=some (.int .i64 cn)/\w'.cell? ⟨bc,1,none⟩=some (.int .i64 cd))))/\Below wq.heap.size wq w')) (by kernel_rfl) HS (fun hHeld=>?_)
        clear HS
        refine tk 0 rfl ?_
        refine tk 1 rfl ?_
        refine tk 2 rfl ?_
        refine tk 3 rfl ?_
        refine tk 4 rfl ?_
        refine tk 5 rfl ?_
        (try simp only [cl,Act.put])
        refine wpAnyH_ready (rs:=[6,10]) (by kernel_rfl) (by simp) (AllReadyH.cons (o:=_) rfl (fun K hK=>?_) (AllReadyH.cons (o:=_) rfl (fun K hK=>?_) AllReadyH.nil))
        rotate_left
        go_simp
        (first | refine hK.out _ _ (Za9 STB.out (by with_reducible assumption)) (fun hH2=>?_) | refine hK.out _ _ (STB.out _ _ (Za _ _) (by with_reducible assumption)) (fun hH2=>?_))
        clear hK K
        (try dsimp only at hH2)
        (first | have HC:=Lib.hid (ZbB hH2) | have HC:=Lib.hid (Zbm hH2))
        have hHeld0:=Lib.hid hHeld
        clear hHeld
        have hHeld:=hH2
        clear hH2
        (try simp only [cl,Act.put])
        refine rd 6 rfl fun K hK=>?_
        rotate_right
        all_goals
         go_simp
         (go_at_call 104;(with_reducible refine (LS.out _ (ZG (by with_reducible assumption))).mono ?_);rintro e6 w6 ⟨v6,rfl,hv6,hb,fr6⟩;obtain ⟨A6,c6,rfl⟩:=Zd hv6;have HFR:=Lib.hid (fr6.mono (ZG hHeld).size);(try (have HF:=Lib.hid (Off.fresh (l:=M) (S:=fun b=>b=_) fr6 (fun b q=>by rw [q];exact HC.out.F.lt));have HC:=Lib.hid (HC.out.keep hb)));have HV:=Lib.hid hv6;clear hv6 fr6)
         go_wp2_with fail
         refine hK.out _ _ (STB.out _ _ hb (by with_reducible assumption)) (fun hH2=>?_)
         clear hK K hHeld hb;have hHeld:=hH2;clear hH2
         (try simp only [cl,Act.put])
        all_goals
         refine tk 7 rfl ?_
         refine tk 8 rfl ?_
         refine tk 9 rfl ?_
         (try simp only [cl,Act.put])
        refine rd 10 rfl fun K hK=>?_
        go_simp
        (first | refine hK.out _ _ (Za9 STB.out (by with_reducible assumption)) (fun hH2=>?_) | refine hK.out _ _ (STB.out _ _ (Za _ _) (by with_reducible assumption)) (fun hH2=>?_))
        clear hK K
        (try dsimp only at hH2)
        (first | have HC:=Lib.hid (ZbB hH2) | have HC:=Lib.hid (Zbm hH2))
        have hHeld0:=Lib.hid hHeld
        clear hHeld
        have hHeld:=hH2
        clear hH2
        (try simp only [cl,Act.put])
        all_goals
         refine rd 11 rfl fun K hK=>?_
         obtain ⟨⟨h0,h1,h2,h3,h4,h5,h6⟩,h7,h8⟩:=HC.out
         clear h7 h8
         go_simp
         clear h0 h1 h2 h3 h4 h5 h6
         (first
          | refine hK.out _ _ (STB.out _ _ (Za _ _) hHeld0.out) (fun hH2=>?_)
          | refine hK.out _ _ (STB.out _ _ (HC.out.fill _ _ _).1 hHeld0.out) (fun hH2=>?_))
         clear hK K hHeld
         (try dsimp only at hH2)
         have hHeld:=hH2
         clear hH2
         (try simp only [cl,Act.put])
         refine tk 12 rfl ?_
         (try simp only [cl,Act.put])
         refine wpAnyH_done (by kernel_rfl) ?_ _
         refine NoPanic.normal ?_
         go_wp2_with fail
         go_meet
         case rel=>first | exact ⟨rfl,Zh6 hHeld0.out.2 27 HV.out HFR.out⟩ | exact ⟨rfl,ZiZ hHeld0.out.2 HC.out HV.out HF.out HFR.out⟩
       case rest=>
        obtain ⟨rfl,c,A6,c6,rfl,F6,r6,hbq,fr6⟩:=hcut
        have D4:=Lib.hid (And.intro (D3.out.1.keep hbq) (ZU hbq D3.out.2))
        have hltb:bt<wq.heap.size:=D3.out.1.B.lt
        have HL:=Lib.hid (And.intro hltb (And.intro r6 fr6))
        have k0:=F6.k0;have k1:=F6.k1;have k2:=F6.k2
        clear t0 t1' t2' e0 e1 e2 j0 j1 F6 r6 hbq fr6 hltb
        have n0:=D4.out.1.B.free 0
        have n1:=D4.out.1.B.free 1
        have n2:=D4.out.1.B.free 2
        have t0:=D4.out.1.B.cell 0
        have t1':=D4.out.1.B.cell 1
        have t2':=D4.out.1.B.cell 2
        by_cases he:er=0
        ·subst he
         have NXJ:=Lib.hid (HJ.out.2.2.1.trans (elo.out.trans (if_pos rfl)))
         have B8:Blk (((wc.setCell ⟨bt,0,none⟩ (.slice A6 M.length c6)).setCell ⟨bt,1,none⟩ (.int .i64 m1)).setCell ⟨bt,2,none⟩ (.int .i64 m2)) bt #[.slice A6 M.length c6,.int .i64 m1,.int .i64 m2]:=by
          have:=((D4.out.1.B.set 0 (.slice A6 M.length c6)).set 1 (.int .i64 m1)).set 2 (.int .i64 m2)
          simpa using this
         have b8:=((D4.out.1.below.setCell (p:=⟨bt,0,none⟩) D4.out.1.le (.slice A6 M.length c6)).setCell (p:=⟨bt,1,none⟩) D4.out.1.le (.int .i64 m1)).setCell (p:=⟨bt,2,none⟩) D4.out.1.le (.int .i64 m2)
         have hv8:=((HL.out.2.1.setCell HL.out.2.2 (p:=⟨bt,0,none⟩) HL.out.1 (.slice A6 M.length c6)).setCell HL.out.2.2 (p:=⟨bt,1,none⟩) HL.out.1 (.int .i64 m1)).setCell HL.out.2.2 (p:=⟨bt,2,none⟩) HL.out.1 (.int .i64 m2)
         have fo:Off (Zaf noB va Zce Zce) (.slice A6 M.length c6) M:=Off.fresh HL.out.2.2 (fun b q=>by have:=DD.out.lt b q;have:=HL.out.1;have:=D4.out.1.le;omega)
         have hne:(ad.add (k*4)).block≠bt:=by
          rw [ZL]
          have:=HAD.out;have:=D4.out.1.le;have:=DD.out.below.size
          omega
         have ho:∀ (w':World) (i:Nat) (x:Value),w'.cell? (ad.add (k*4))=some (.int .i64 xo)->(w'.setCell ⟨bt,i,none⟩ x).cell? (ad.add (k*4))=some (.int .i64 xo):=fun w' i x q=>(World.cell?_setCell_other _ _ _ _ (fun e=>hne (by rw [<- e]))).trans q
         have c8:=ho _ 2 (.int .i64 m2) (ho _ 1 (.int .i64 m1) (ho _ 0 (.slice A6 M.length c6) D4.out.2))
         have D8:=Lib.hid (And.intro (show LsrS (Zaf noB va Zce Zce) wo (((wc.setCell ⟨bt,0,none⟩ (.slice A6 M.length c6)).setCell ⟨bt,1,none⟩ (.int .i64 m1)).setCell ⟨bt,2,none⟩ (.int .i64 m2)) bt (.slice A6 M.length c6) (M,m1,m2) from ⟨B8,hv8,fo,b8,D4.out.1.le⟩) c8)
         clear B8 b8 hv8 fo c8 ho hne elo
         go_wp2_with fail
         go_roundg (m-(j+1))
         case measure=>have:=HJ.out.1;have:=HJ.out.2.1;omega
         case rel=>exact ⟨j+1,(M,m1,m2),_,by push_cast;rfl,by have:=HJ.out.1;omega,rfl,NXJ.out,D8.out.1,D8.out.2⟩
        ·have ne:(er != 0)=true:=by simpa using he
         have FIN:=Lib.hid (show Zft w (ZaY Z ts) (.returned (.tuple #[.slice none 0 0,.bool false])) wc from .inr ⟨HK.out.2.2.2.1 H0.out (HJ.out.2.2.2.1 (elo.out.trans (if_neg he))),rfl,DD.out.below.trans (D4.out.1.below.mono DD.out.below.size)⟩)
         clear he elo
         go_wp2_with fail
         go_ret2
         exact FIN.out
end
section
open Go.RowKit
structure TriB (S0:Nat->Prop) (W w:World) (va:Value) (xa:List Rw) (vb:Value) (xb:List Rw) (vc:Value) (xc:List Rw):Prop where
 a:Zaw w W.heap.size va xa (Zaf S0 va vb vc)
 b:Zaw w W.heap.size vb xb (Zaf S0 va vb vc)
 c:Zaw w W.heap.size vc xc (Zaf S0 va vb vc)
 ab:∀ k,va.ownBlock=some k->vb.ownBlock≠some k
 ac:∀ k,va.ownBlock=some k->vc.ownBlock≠some k
 bc:∀ k,vb.ownBlock=some k->vc.ownBlock≠some k
 s0:∀ b,S0 b->b<w.heap.size
 na:∀ b,S0 b->va.ownBlock≠some b
 nb:∀ b,S0 b->vb.ownBlock≠some b
 nc:∀ b,S0 b->vc.ownBlock≠some b
 below:Below W.heap.size W w
section
variable {S0:Nat->Prop} {W w w':World} {va va' vb vc vt:Value} {xa xb xc:List Rw}
theorem TriB.start (hb:Below W.heap.size W w) (hs:∀ b,S0 b->b<w.heap.size):TriB S0 W w (.slice none 0 0) [] (.slice none 0 0) [] (.slice none 0 0) []:=
 ⟨Zaw.nil _ _ _,Zaw.nil _ _ _,Zaw.nil _ _ _,fun b h=>(by cases h),fun b h=>(by cases h),fun b h=>(by cases h),hs,fun _ _ h=>(by cases h),fun _ _ h=>(by cases h),fun _ _ h=>(by cases h),hb⟩
theorem TriB.keep (h:TriB S0 W w va xa vb xb vc xc) (hb:Below w.heap.size w w'):TriB S0 W w' va xa vb xb vc xc:=
 ⟨h.a.below hb,h.b.below hb,h.c.below hb,h.ab,h.ac,h.bc,fun b q=>Nat.lt_of_lt_of_le (h.s0 b q) hb.size,h.na,h.nb,h.nc,h.below.trans (hb.mono h.below.size)⟩
theorem TriB.swab (h:TriB S0 W w va xa vb xb vc xc):TriB S0 W w vb xb va xa vc xc:=by
 have e:∀ b,Zaf S0 vb va vc b->Zaf S0 va vb vc b\/w.heap.size<=b:=fun b q=>.inl (by
  rcases q with q | q | q
  ·exact .inr (.inl q)
  ·exact .inl q
  ·exact .inr (.inr q))
 exact ⟨h.b.mono e,h.a.mono e,h.c.mono e,fun k p q=>h.ab k q p,h.bc,h.ac,h.s0,h.nb,h.na,h.nc,h.below⟩
theorem TriB.swac (h:TriB S0 W w va xa vb xb vc xc):TriB S0 W w vc xc vb xb va xa:=by
 have e:∀ b,Zaf S0 vc vb va b->Zaf S0 va vb vc b\/w.heap.size<=b:=fun b q=>.inl (by
  rcases q with q | q | q | q
  ·exact .inr (.inr (.inl q))
  ·exact .inr (.inl q)
  ·exact .inl q
  ·exact .inr (.inr (.inr q)))
 exact ⟨h.c.mono e,h.b.mono e,h.a.mono e,fun k p q=>h.bc k q p,fun k p q=>h.ac k q p,fun k p q=>h.ab k q p,h.s0,h.nc,h.nb,h.na,h.below⟩
theorem TriB.lt (h:TriB S0 W w va xa vb xb vc xc):∀ b,Zaf S0 va vb vc b->b<w.heap.size:=fun b q=>by
 rcases q with q | q | q | q
 ·exact (h.a.lt b q).2
 ·exact (h.b.lt b q).2
 ·exact (h.c.lt b q).2
 ·exact h.s0 b q
theorem TriB.old (h:TriB S0 W w va xa vb xb vc xc):∀ b,Zaf S0 va vb vc b->S0 b\/W.heap.size<=b:=fun b q=>by
 rcases q with q | q | q | q
 ·exact .inr (h.a.lt b q).1
 ·exact .inr (h.b.lt b q).1
 ·exact .inr (h.c.lt b q).1
 ·exact .inl q
theorem TriB.store (h:TriB S0 W w va xa vb xb vc xc) {b:Nat} (hp:S0 b) (hge:W.heap.size<=b) (i:Nat) (x:Value):TriB S0 W (w.setCell ⟨b,i,none⟩ x) va xa vb xb vc xc:=by
 have hg:w.grownBy (w.setCell ⟨b,i,none⟩ x) (some b):=ZaK
 exact ⟨h.a.other hg fun k e=>by injection e with e;subst e;exact ⟨.inr (.inr (.inr hp)),h.na _ hp⟩,
  h.b.other hg fun k e=>by injection e with e;subst e;exact ⟨.inr (.inr (.inr hp)),h.nb _ hp⟩,
  h.c.other hg fun k e=>by injection e with e;subst e;exact ⟨.inr (.inr (.inr hp)),h.nc _ hp⟩,
  h.ab,h.ac,h.bc,fun k q=>by rw [World.size_setCell];exact h.s0 k q,h.na,h.nb,h.nc,h.below.setCell (p:=⟨b,i,none⟩) hge x⟩
theorem TriB.push {t:Rw} {rs:List (Value×Rw)} (h:TriB S0 W w va xa vb xb vc xc) (h1:rs.map (·.2)=xa) (h3:∀ x∈rs,Zb w x.1 x.2.2.1/\Off (Zaf S0 va vb vc) x.1 x.2.2.1)
  (hown:w'.ownsRow W.heap.size 29 4 va' (xa.length+1) (Zt rs++[.int .i64 t.1,vt,.int .i64 t.2.2.1,.int .i64 t.2.2.2])) (hg:w.grownBy w' va.ownBlock) (hv:va'.ownBlock=va.ownBlock\/va'.ownBlock=some w.heap.size) (hr:Zb w vt t.2.1) (ho:Off (Zaf S0 va vb vc) vt t.2.1) :
  TriB S0 W w' va' (xa++[t]) vb xb vc xc:=by
 have hs3:∀ b,Zaf S0 va' vb vc b->Zaf S0 va vb vc b\/w.heap.size<=b:=by
  intro b q
  rcases q with q | q
  ·rcases hv with e | e
   ·rw [e] at q;exact .inl (.inl q)
   ·rw [e] at q;injection q with q;exact .inr (by omega)
  ·exact .inl (.inr q)
 have a:=Zaw.appended (S:=Zaf S0 va vb vc) (S':=Zaf S0 va' vb vc) h1 h3 hown hg (fun b hb=>.inl hb) hr ho hs3
 have b0:Zaw w W.heap.size vb xb (fun b=>Zaf S0 va vb vc b\/Zaf S0 va' vb vc b):=h.b.mono fun b hb=>hb.elim .inl (hs3 b)
 have c0:Zaw w W.heap.size vc xc (fun b=>Zaf S0 va vb vc b\/Zaf S0 va' vb vc b):=h.c.mono fun b hb=>hb.elim .inl (hs3 b)
 have b1:=b0.other hg fun b hb=>⟨.inl (.inl hb),h.ab b hb⟩
 have c1:=c0.other hg fun b hb=>⟨.inl (.inl hb),h.ac b hb⟩
 refine ⟨a,b1.mono fun b hb=>.inl (.inr hb),c1.mono fun b hb=>.inl (.inr hb),fun k hk q=>?_,fun k hk q=>?_,h.bc,fun b q=>Nat.lt_of_lt_of_le (h.s0 b q) hg.size,fun b q e2=>?_,h.nb,h.nc,h.below.grown hg h.below.size fun k hk=>(h.a.lt k hk).1⟩
 ·rcases hv with e | e
  ·exact h.ab k (e▸hk) q
  ·rw [e] at hk
   injection hk with hk
   have:=(h.b.lt k q).2
   omega
 ·rcases hv with e | e
  ·exact h.ac k (e▸hk) q
  ·rw [e] at hk
   injection hk with hk
   have:=(h.c.lt k q).2
   omega
 ·rcases hv with e | e
  ·exact h.na b q (e▸e2)
  ·rw [e] at e2
   injection e2 with e2
   have:=h.s0 b q
   omega
theorem TriB.ahead {n:Nat} {op kn kd:Int} {A:Option Addr} {c k:Nat} (P:TriB S0 W w va xa vb xb vc xc) (hk:xa.length=k) (ty:TypeId) :
  ∃ rs,rs.map (·.2)=xa/\(w.alloc (.cells #[.int .i64 op,.slice A n c,.int .i64 kn,.int .i64 kd] ty)).ownsRow W.heap.size 29 4 va k (Zt rs)/\(∀ x∈rs,Zb (w.alloc (.cells #[.int .i64 op,.slice A n c,.int .i64 kn,.int .i64 kd] ty)) x.1 x.2.2.1/\Off (Zaf S0 va vb vc) x.1 x.2.2.1)/\TriB S0 W (w.alloc (.cells #[.int .i64 op,.slice A n c,.int .i64 kn,.int .i64 kd] ty)) va xa vb xb vc xc ∧
   ZB (w.alloc (.cells #[.int .i64 op,.slice A n c,.int .i64 kn,.int .i64 kd] ty)) (w.heap.size+1) 4 (some ⟨w.heap.size,0,none⟩) 1 [.int .i64 op,.slice A n c,.int .i64 kn,.int .i64 kd]:=by
 have LA:=P.keep (Za w (.cells #[.int .i64 op,.slice A n c,.int .i64 kn,.int .i64 kd] ty))
 obtain ⟨rs,z1,z2,z3⟩:=LA.a
 rw [hk] at z2
 exact ⟨rs,z1,z2,z3,LA,(Zav (wo:=w) (x:=#[.int .i64 op,.slice A n c,.int .i64 kn,.int .i64 kd]) (ty:=ty) (Nat.zero_le _)).reads (size:=4) rfl⟩
end
structure HoleW (wA wr:World) (c:Nat):Prop where
 F:Blk wr c #[.int .i64 0,.slice none 0 0,.int .i64 0,.int .i64 0]
 hc:c=wA.heap.size
 below:Below wA.heap.size wA wr
section
variable {wq wA wo wr w6 w2:World} {A:Prop} {ty:TypeId} {c d:Nat} {M:List (Int×Int)} {m1 m2 op:Int} {Ad:Option Addr}
theorem HoleW.start (wA:World) (ty:TypeId):HoleW wA (wA.alloc (.cells #[.int .i64 0,.slice none 0 0,.int .i64 0,.int .i64 0] ty)) wA.heap.size:=⟨Blk.start _ _ _,rfl,Za _ _⟩
theorem HoleW.keep (h:HoleW wA wr c) (hb:Below wr.heap.size wr w2):HoleW wA w2 c:=⟨h.F.keep hb,h.hc,h.below.trans (hb.mono h.below.size)⟩
theorem ZkU (_:A/\Below wq.heap.size wq (wA.alloc (.cells #[.int .i64 0,.slice none 0 0,.int .i64 0,.int .i64 0] ty))):HoleW wA (wA.alloc (.cells #[.int .i64 0,.slice none 0 0,.int .i64 0,.int .i64 0] ty)) wA.heap.size:=HoleW.start wA ty
theorem ZjF (_:A/\Below wq.heap.size wq (wo.alloc (.cells #[.int .i64 0,.slice none 0 0,.int .i64 0,.int .i64 0] ty)).drew):HoleW wo.drew (wo.alloc (.cells #[.int .i64 0,.slice none 0 0,.int .i64 0,.int .i64 0] ty)).drew wo.heap.size:=HoleW.start wo.drew ty
theorem HoleW.parts (h:HoleW wA wr c):(wr.cell? ⟨c,0,none⟩=some (.int .i64 0)/\wr.cell? ⟨c,1,none⟩=some (.slice none 0 0)/\wr.cell? ⟨c,2,none⟩=some (.int .i64 0)/\wr.cell? ⟨c,3,none⟩=some (.int .i64 0))/\wr.frozen? ⟨c,0,none⟩=false/\wr.frozen? ⟨c,1,none⟩=false/\wr.frozen? ⟨c,2,none⟩=false/\wr.frozen? ⟨c,3,none⟩=false:=
 ⟨⟨h.F.cell 0,h.F.cell 1,h.F.cell 2,h.F.cell 3⟩,h.F.free 0,h.F.free 1,h.F.free 2,h.F.free 3⟩
theorem HoleW.fill (h:HoleW wA wr c) (x0 x1 x2 x3:Value):Below wA.heap.size wA ((((wr.setCell ⟨c,0,none⟩ x0).setCell ⟨c,1,none⟩ x1).setCell ⟨c,2,none⟩ x2).setCell ⟨c,3,none⟩ x3)/\Blk ((((wr.setCell ⟨c,0,none⟩ x0).setCell ⟨c,1,none⟩ x1).setCell ⟨c,2,none⟩ x2).setCell ⟨c,3,none⟩ x3) c #[x0,x1,x2,x3]:=by
 have e:=h.hc
 refine ⟨(((h.below.setCell (p:=⟨c,0,none⟩) (by show _<=c;omega) _).setCell (p:=⟨c,1,none⟩) (by show _<=c;omega) _).setCell (p:=⟨c,2,none⟩) (by show _<=c;omega) _).setCell (p:=⟨c,3,none⟩) (by show _<=c;omega) _,?_⟩
 have:=(((h.F.set 0 x0).set 1 x1).set 2 x2).set 3 x3
 simpa using this
def Zky (wq:World) (op:Int) (M:List (Int×Int)) (m1 m2:Int) (v:Value) (wx:World):Prop:=
 ∃ c A d,v=.pointer (some ⟨c,0,none⟩)/\Blk wx c #[.int .i64 op,.slice A M.length d,.int .i64 m1,.int .i64 m2]/\Zb wx (.slice A M.length d) M/\Below wq.heap.size wq wx/\Zs wq.heap.size (.slice A M.length d)
theorem ZnR (h:Below wq.heap.size wq w6) (ty:TypeId) (hr:Zb w6 (.slice Ad M.length d) M) (hf:Zs wq.heap.size (.slice Ad M.length d)):Zky wq op M m1 m2 (.pointer (some ⟨w6.heap.size,0,none⟩)) (w6.alloc (.cells #[.int .i64 op,.slice Ad M.length d,.int .i64 m1,.int .i64 m2] ty)):=
 ⟨_,Ad,d,rfl,Blk.start _ _ _,hr.below (Za _ _),h.trans ((Za _ _).mono h.size),hf⟩
theorem Zo0 (h:Below wq.heap.size wq wA) (hc:HoleW wA wr c) (hr:Zb wr (.slice Ad M.length d) M) (hf:Off (fun b=>b=c) (.slice Ad M.length d) M) (hq:Zs wq.heap.size (.slice Ad M.length d)) :
  Zky wq op M m1 m2 (.pointer (some ⟨c,0,none⟩)) ((((wr.setCell ⟨c,0,none⟩ (.int .i64 op)).setCell ⟨c,1,none⟩ (.slice Ad M.length d)).setCell ⟨c,2,none⟩ (.int .i64 m1)).setCell ⟨c,3,none⟩ (.int .i64 m2)):=by
 obtain ⟨a,F⟩:=hc.fill (.int .i64 op) (.slice Ad M.length d) (.int .i64 m1) (.int .i64 m2)
 exact ⟨_,Ad,d,rfl,F,hr.off hf (Zaa (Zaa (Zaa ZaK ZaK) ZaK) ZaK) (fun b hb=>by injection hb with hb;exact hb.symm),h.trans (a.mono h.size),hq⟩
end
end
end Go.Proofs.YtolookeddknmoaaGreat
