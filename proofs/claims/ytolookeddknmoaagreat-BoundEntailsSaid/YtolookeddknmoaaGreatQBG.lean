import Derived.Test.YtolookeddknmoaaGreatQAR
import Derived.Test.YtolookeddknmoaaGreatQBC
import Derived.Test.YtolookeddknmoaaGreatQBE
import Derived.Test.YtolookeddknmoaaGreatQBF
set_option maxRecDepth 100000
set_option maxHeartbeats 8000000
namespace Go.Proofs.YtolookeddknmoaaGreat
section
open Go.RowKit
section
variable {wq w1 w2 wo wA wr:World} {p q:Addr} {x y:Value} {A:Prop} {ty:TypeId} {c:Nat} {m d e:Int}
theorem ZU (hb:Below w1.heap.size w1 w2) (h:w1.cell? p=some x):w2.cell? p=some x:=(hb.cell (World.block_lt_of_cell? _ _ h)).trans h
theorem Zl {B:Nat} {a b c:World} (e:a.heap.size=B) (h:Below B a b) (h2:Below b.heap.size b c):Below B a c:=by subst e;exact h.trans (h2.mono h.size)
theorem ZcY (hb:Below w1.heap.size w1 w2) (h:(w1.cell? p=some x/\w1.cell? q=some y)/\Below wq.heap.size wq w1):(w2.cell? p=some x/\w2.cell? q=some y)/\Below wq.heap.size wq w2:=
 ⟨⟨ZU hb h.1.1,ZU hb h.1.2⟩,h.2.trans (hb.mono h.2.size)⟩
theorem ZgU {o:Obj} (h:(wo.drew.cell? p=some x/\wo.drew.cell? q=some y)/\Below wq.heap.size wq wo.drew):((wo.alloc o).drew.cell? p=some x/\(wo.alloc o).drew.cell? q=some y)/\Below wq.heap.size wq (wo.alloc o).drew:=ZcY (Za wo.drew o) h
theorem ZcZ (_:A/\Below wq.heap.size wq (wA.alloc (.cells #[.int .i64 0,.int .i64 0] ty))):HoleC wA (wA.alloc (.cells #[.int .i64 0,.int .i64 0] ty)) wA.heap.size:=HoleC.start wA ty
theorem Zcz (_:A/\Below wq.heap.size wq (wo.alloc (.cells #[.int .i64 0,.int .i64 0] ty)).drew):HoleC wo.drew (wo.alloc (.cells #[.int .i64 0,.int .i64 0] ty)).drew wo.heap.size:=HoleC.start wo.drew ty
def ZgH (wq:World) (m d:Int) (v:Value) (wx:World):Prop:=∃ c,v=.pointer (some ⟨c,0,none⟩)/\RatAt wx c m d/\Below wq.heap.size wq wx
theorem Zgh (h:Below wq.heap.size wq wA) (ty:TypeId):ZgH wq m d (.pointer (some ⟨wA.heap.size,0,none⟩)) (wA.alloc (.cells #[.int .i64 m,.int .i64 d] ty)):=
 ⟨_,rfl,RatAt.start wA m d ty,h.trans ((Za _ _).mono h.size)⟩
theorem Zg8 (h:Below wq.heap.size wq wA) (hc:HoleC wA wr c):ZgH wq m d (.pointer (some ⟨c,0,none⟩)) ((wr.setCell ⟨c,0,none⟩ (.int .i64 m)).setCell ⟨c,1,none⟩ (.int .i64 d)):=
 ⟨_,rfl,(hc.fill m d).2,h.trans ((hc.fill m d).1.mono h.size)⟩
end
theorem Zhf (v:Int) (m:List Rw):∀ (l:List Rw) (s:Zbc),ZZ v s (l++m)=(ZZ v s l).bind fun s'=>ZZ v s' m
 | [],s=>by simp only [List.nil_append,ZZ,Option.bind_some]
 | x::l,s=>by
  rw [List.cons_append,ZZ,ZZ]
  cases Zau v s x with
  | none=>rfl
  | some s'=>exact Zhf v m l s'
theorem Zlr {v:Int} {s s':Zbc} {r:Rw} (h:Zau v s r=some s'):s'.1.length+s'.2.1.length+s'.2.2.length=s.1.length+s.2.1.length+s.2.2.length+1:=by
 unfold Zau at h
 split at h
 ·obtain rfl:=Option.some.inj h
  simp only [List.length_append,List.length_singleton]
  omega
 ·split at h
  ·cases h
  ·split at h<;>(obtain rfl:=Option.some.inj h;simp only [List.length_append,List.length_singleton];omega)
theorem Zdr (v:Int):∀ (l:List Rw) (s s':Zbc),ZZ v s l=some s'->s'.1.length+s'.2.1.length+s'.2.2.length=s.1.length+s.2.1.length+s.2.2.length+l.length
 | [],s,s',h=>by
  obtain rfl:=Option.some.inj h
  rfl
 | x::l,s,s',h=>by
  rw [ZZ,Option.bind_eq_some_iff] at h
  obtain ⟨t,h1,h2⟩:=h
  have a:=Zlr h1
  have b:=Zdr v l t s' h2
  rw [List.length_cons]
  omega
theorem Zpr (w:World) (x:Int×Int) (h:OkR x) (hn:x.1≠0) :
  Calls Tryz.prog 83 #[Ze 1 1,Ze (max x.1 (-x.1)) x.2] w fun r w'=>r=.returned (.tuple #[Ze (ZbC x).1 (ZbC x).2,.int .i64 0])/\Below w.heap.size w w':=by
 have h2:OkR ((x.1.natAbs:Int),x.2):=by
  obtain ⟨d,e,v⟩:=h
  exact ⟨d,e,v.pos,v.d_le,by have:=v.n_le;omega,by have:=v.low;rw [Int.natAbs_natCast];exact this⟩
 have:=ZmD w ((x.1.natAbs:Int),x.2) h2 (by show (x.1.natAbs:Int)≠0;omega)
 unfold Zb7 at this
 have e:¬ ((x.1.natAbs:Int)<0):=by omega
 have e2:(((x.1.natAbs:Int)).natAbs:Int)=(x.1.natAbs:Int):=by omega
 dsimp only at this
 rw [if_neg e,e2] at this
 rw [show max x.1 (-x.1)=(x.1.natAbs:Int) by omega]
 exact this
def Zi4 (S0:Nat->Prop) (w:World) (o:Option Zbc) (e:Ending) (w':World):Prop:=
 (∃ s va vb vc,o=some s/\e=.returned (.tuple #[va,vb,vc,.int .i64 0])/\Tri S0 w w' va s.1 vb s.2.1 vc s.2.2) ∨
 (o=none/\∃ z:Int,(z != 0)=true/\e=.returned (.tuple #[.slice none 0 0,.slice none 0 0,.slice none 0 0,.int .i64 z])/\Below w.heap.size w w')
theorem ZnG (S0:Nat->Prop) (w:World) (v:Value) (ts:List Rw) (i:Int) (h:ZV w v ts S0) (hs:∀ b,S0 b->b<w.heap.size) (hok:∀ r∈ts,TrmOk r.2) (hl:ts.length<=1000) :
  Calls Tryz.prog 58 #[v,.int .i64 i] w (Zi4 S0 w (ZZ i ([],[],[]) ts)):=by
 obtain ⟨iR,hiR,zR0,zR1,zR2⟩:=info_parts Zc6
 obtain ⟨A,c,rs,rfl,h2,h3,h4,h5,h7,h6⟩:=h
 obtain ⟨n,hn⟩:∃ n,n=ts.length:=⟨_,rfl⟩
 have hrn:rs.length=n:=by rw [hn,<- h4,List.length_map]
 rw [<- hn] at h2 h5 hl ⊢
 have HN:=Lib.hid (And.intro hrn (And.intro h4 (And.intro h5 (And.intro h6 (And.intro hn (And.intro hl (And.intro hok hs)))))))
 clear hn hrn h2 h3 h4 h5 h6 h7 hl hok hs
 go_enter Tryz.func58,Tryz.ntmps58
 go_wp2_with fail
 go_loopg [4,5,6,15] n (fun g v4 v5 v6 v15 wr=>∃ (k:Nat) (s:Zbc) (va vb vc:Value),va=v4/\vb=v5/\vc=v6/\v15=.int .i64 k/\k<=n/\g=n-k/\ZZ i ([],[],[]) (ts.take k)=some s/\Tri S0 w wr va s.1 vb s.2.1 vc s.2.2)
 case atStart=>exact ⟨0,([],[],[]),_,_,_,rfl,rfl,rfl,rfl,Nat.zero_le _,rfl,rfl,Tri.start HN.out.2.2.2.2.2.2.2⟩
 case round=>
  obtain ⟨k,⟨xa,xb,xc⟩,va,vb,vc,rfl,rfl,rfl,rfl,hk,hg,hso,D⟩:=hrel
  dsimp only at D
  by_cases hkn:k=n
  ·have he:ts.take k=ts:=by rw [hkn,HN.out.2.2.2.2.1];exact List.take_length
   rw [he] at hso
   have FIN:=Lib.hid (show Zi4 S0 w (ZZ i ([],[],[]) ts) (.returned (.tuple #[va,vb,vc,.int .i64 0])) wr from .inl ⟨_,va,vb,vc,hso,rfl,D⟩)
   subst hkn
   clear hk hg D he hso
   go_wp2_with fail
   exact bodyPost_ret (v:=.tuple #[va,vb,vc,.int .i64 0]) (by simp [results,Tryz.results58,go_sem]) rfl FIN.out
  ·have hlt:k<n:=by omega
   obtain ⟨y,hy⟩:∃ y,rs[k]? = some y:=⟨_,List.getElem?_eq_getElem (by have:=HN.out.1;omega)⟩
   have hyt:ts[k]? = some y.2:=by rw [<- HN.out.2.1,List.getElem?_map,hy];rfl
   obtain ⟨ad,rfl,d0,d1,d2,d3⟩:=ZaF HN.out.2.2.1 D.below hy (by omega)
   have hry:=HN.out.2.2.2.1 y (List.mem_of_getElem? hy)
   have hok:=HN.out.2.2.2.2.2.2.1 y.2 (List.mem_of_getElem? hyt)
   have hoff:Off (Zaf S0 va vb vc) y.1 y.2.2.1:=hry.2.more hry.1 D.old
   have hr:=hry.1.below D.below
   have slen:=Zdr i _ _ _ hso
   have nx:ZZ i ([],[],[]) (ts.take (k+1))=Zau i (xa,xb,xc) y.2:=by
    rw [List.take_add_one,hyt]
    show ZZ i ([],[],[]) (ts.take k++[y.2])=_
    rw [Zgo,hso]
    rfl
   have nn:Zau i (xa,xb,xc) y.2=none->ZZ i ([],[],[]) ts=none:=fun q=>by
    rw [<- List.take_append_drop (k+1) ts,Zhf,nx,q]
    rfl
   have i1:(k:Int)<(n:Int):=by omega
   have i2:(0:Int)<=(k:Int):=by omega
   have wk:IntKind.i64.wrap ((k:Int)+1)=(k:Int)+1:=IntWalk.i64_in _ (by have:=HN.out.2.2.2.2.2.1;omega)
   have okc:=hok.ok.at i
   have ta:=fun (w':World) (hb:Below wr.heap.size wr w')=>Zbx w' y.1 y.2.2.1 y.2.2.2.1 y.2.2.2.2 i (hr.below hb)
   have sc:=fun (w':World) (hb:Below wr.heap.size wr w') (hn:(atL y.2.2.1 i).1≠0)=>ZcN w' y.1 y.2.2.1 y.2.2.2 (ZbC (atL y.2.2.1 i)) (hr.below hb) hok.ok.wide hok.k.wide (Zgc okc hn).wide
   have dv:=fun (w':World) (hn:(atL y.2.2.1 i).1≠0)=>Zpr w' (atL y.2.2.1 i) okc hn
   have st:Zau i (xa,xb,xc) y.2=if (atL y.2.2.1 i).1=0 then some (xa++[y.2],xb,xc) else match ZaL y.2.2 (ZbC (atL y.2.2.1 i)) with | none=>none | some t=>if 0<(atL y.2.2.1 i).1 then some (xa,xb++[(y.2.1,t)],xc) else some (xa,xb,xc++[(y.2.1,t)]):=rfl
   unfold ZaL at st
   have hcb:=okc.wide
   have hlx:xa.length+xb.length+xc.length<=1000:=by
    have:=HN.out.2.2.2.2.2.1
    rw [List.length_take] at slen
    simp only [List.length_nil] at slen
    omega
   generalize Zh y.2.2.1 y.2.2.2 (ZbC (atL y.2.2.1 i))=P at *
   generalize ZbC (atL y.2.2.1 i)=iv at *
   generalize hcq:atL y.2.2.1 i=cq at *
   obtain ⟨yv,xo,xl,x1,x2⟩:=y
   obtain ⟨L,⟨p1,p2⟩,er⟩:=P
   obtain ⟨cn,cd⟩:=cq
   obtain ⟨iv1,iv2⟩:=iv
   dsimp only at *
   obtain ⟨Ax,cx,rfl⟩:=Zd hr
   have TA:=Lib.hid ta
   have SC:=Lib.hid sc
   have DV0:=Lib.hid dv
   have HK:=Lib.hid (And.intro hlt (And.intro hg (And.intro nx (And.intro nn (And.intro st hr)))))
   have LK:=Lib.hid (show xa.length+1<=maxLen/\xb.length+1<=maxLen/\xc.length+1<=maxLen/\(xa.length+1)*48<=140737488355328/\(xb.length+1)*48<=140737488355328/\(xc.length+1)*48<=140737488355328 from by unfold maxLen;omega)
   have DD:=Lib.hid (And.intro D hoff)
   have wn:IntKind.i64.wrap (-cn)=-cn:=IntWalk.i64_in _ (by obtain ⟨d,e,v⟩:=okc;have:=v.n_le;dsimp only at this;omega)
   clear hkn hk hg hyt hy hry hok hoff hr slen nx nn st ta sc dv hlx hso hcq D hlt hcb okc
   go_upto_region 4 with fail
   have a1:=Za wr (.cells #[.int .i64 xo,.slice Ax xl.length cx,.int .i64 x1,.int .i64 x2] 29)
   have RB:=Blk.start wr #[.int .i64 xo,.slice Ax xl.length cx,.int .i64 x1,.int .i64 x2] 29
   have B1:=Lib.hid (And.intro a1 RB)
   have hbr:wr.heap.size<=wr.heap.size:=Nat.le_refl _
   have HBR:=Lib.hid hbr
   clear a1 RB d0 d1 d2 d3 hbr
   generalize wr.alloc (.cells #[.int .i64 xo,.slice Ax xl.length cx,.int .i64 x1,.int .i64 x2] 29)=w1 at *
   generalize hbr:wr.heap.size=br at *
   have c1:=B1.out.2.cell 1
   have c2:=B1.out.2.cell 2
   have c3:=B1.out.2.cell 3
   go_upto_region 5 with (go_at_call 56;(with_reducible refine (TA.out _ B1.out.1).mono ?_);rintro e2 w2 ⟨rfl,hb2⟩)
   have a3:=Za w2 (.cells #[.int .i64 cn,.int .i64 cd] 25)
   have B2:=(B1.out.2.keep hb2).keep a3
   have b2:=Zl hbr B1.out.1 hb2
   have B3:=Lib.hid (And.intro (Zl hbr b2 a3) (And.intro B2 (And.intro (Blk.start w2 #[.int .i64 cn,.int .i64 cd] 25) (Nat.lt_of_lt_of_le B1.out.2.lt hb2.size))))
   clear a3 B2 b2 hb2 B1 c1 c2 c3
   generalize w2.heap.size=bc at *
   generalize w2.alloc (.cells #[.int .i64 cn,.int .i64 cd] 25)=w3 at *
   have q0:=B3.out.2.2.1.cell 0
   have q1:=B3.out.2.2.1.cell 1
   by_cases h0:cn=0
   ·have e0:(cn==0)=true:=by rw [h0];rfl
    have D3:=DD.out.1.keep (by rw [hbr];exact B3.out.1)
    have QW:=Lib.hid (D3.ahead (n:=xl.length) (op:=xo) (kn:=x1) (kd:=x2) (A:=Ax) (c:=cx) rfl 29)
    obtain ⟨rs2,QV⟩:=QW.out
    have QW:=Lib.hid QV
    have NX:=Lib.hid (show ZZ i ([],[],[]) (ts.take (k+1))=some (xa++[(xo,xl,x1,x2)],xb,xc) from by rw [HK.out.2.2.1,HK.out.2.2.2.2.1,if_pos h0])
    have r0:=B3.out.2.1.cell 0
    have r1:=B3.out.2.1.cell 1
    have r2:=B3.out.2.1.cell 2
    have r3:=B3.out.2.1.cell 3
    clear QV D3 h0
    go_wp2_with (at_builtin;refine Zm _ rfl _ _ 22 rfl w.heap.size 29 iR (.agg #[.int .i64 0,.slice none 0 0,.int .i64 0,.int .i64 0]) 4 48 Tryz.underlying22 hiR zR0 zR1 zR2 rfl (by decide) _ xa.length (Zt rs2) rfl QW.out.2.1 (w3.heap.size+1) (some ⟨w3.heap.size,0,none⟩) 1 1 [.int .i64 xo,.slice Ax xl.length cx,.int .i64 x1,.int .i64 x2] rfl QW.out.2.2.2.2 (Zcw _ _ _ _ _ _) (by have:=LK.out;omega) (by have:=LK.out;omega) QW.out.2.2.2.1.below.size ?_)
    intro v8 w8 hown hgrow hat
    have hrx:=HK.out.2.2.2.2.2.below (w':=w3.alloc (.cells #[.int .i64 xo,.slice Ax xl.length cx,.int .i64 x1,.int .i64 x2] 29)) (by have a:=Za w3 (.cells #[.int .i64 xo,.slice Ax xl.length cx,.int .i64 x1,.int .i64 x2] 29);have b:=B3.out.1;rw [hbr];exact Zl hbr b a)
    have D8:=Lib.hid (Tri.push (t:=(xo,xl,x1,x2)) QW.out.2.2.2.1 QW.out.1 QW.out.2.2.1 hown hgrow (by first | exact hat | simpa using hat) hrx DD.out.2)
    clear hown hgrow hat
    go_wp2_with fail
    go_roundg (n-(k+1))
    case measure=>have:=HK.out.1;have:=HK.out.2.1;omega
    case rel=>exact ⟨k+1,(xa++[(xo,xl,x1,x2)],xb,xc),_,_,_,rfl,rfl,rfl,by push_cast;rfl,by have:=HK.out.1;omega,rfl,NX.out,D8.out⟩
   ·have e0:(cn==0)=false:=by simpa using h0
    have DV:=Lib.hid (fun w'=>DV0.out w' h0)
    have HS0:=Lib.hid h0
    clear DV0
    go_upto_region 7 with fail
    generalize hwq:w3=wq at *
    go_cut [11,12] from 16 to 66 (fun v11 v12 wx=>ZgH wq iv1 iv2 v11 wx)
    case first=>
     have HS:(wq.drew.cell? ⟨bc,0,none⟩=some (.int .i64 cn)/\wq.drew.cell? ⟨bc,1,none⟩=some (.int .i64 cd))/\Below wq.heap.size wq wq.drew:=⟨⟨q0,q1⟩,Zq _⟩
     clear B3 HS0 h0
     refine wp_region_noPanic ?_
     refine wp_region_held_drew (S:=(fun w'=>(w'.cell? ⟨bc,0,none⟩=some (.int .i64 cn)/\w'.cell? ⟨bc,1,none⟩=some (.int .i64 cd))/\Below wq.heap.size wq w')) (by kernel_rfl) HS (fun hHeld=>?_)
     clear HS
     refine tk 1 rfl ?_
     refine tk 2 rfl ?_
     refine tk 3 rfl ?_
     refine tk 4 rfl ?_
     refine tk 5 rfl ?_
     refine tk 6 rfl ?_
     refine tk 7 rfl ?_
     refine tk 8 rfl ?_
     refine tk 9 rfl ?_
     (try simp only [cl,Act.put])
     refine wpAnyH_ready (rs:=[0,14]) (by kernel_rfl) (by simp) (AllReadyH.cons (o:=_) rfl (fun K hK=>?_) (AllReadyH.cons (o:=_) rfl (fun K hK=>?_) AllReadyH.nil))
     rotate_left
     go_simp
     (first | refine hK.out _ _ (ZgU (by with_reducible assumption)) (fun hH2=>?_) | refine hK.out _ _ (ZcY (Za _ _) (by with_reducible assumption)) (fun hH2=>?_))
     clear hK K
     (first | have HC:=Lib.hid (ZcZ hH2) | have HC:=Lib.hid (Zcz hH2))
     have hHeld0:=Lib.hid hHeld
     clear hHeld
     have hHeld:=hH2
     clear hH2
     (try simp only [cl,Act.put])
     refine rd 0 rfl fun K hK=>?_
     rotate_right
     all_goals
      go_simp
      (first
       | (go_at_call 14;(with_reducible refine (Za7 _ _).mono ?_);rintro e5 w5 ⟨rfl,hb⟩;(try have HC:=Lib.hid (HC.out.keep hb)))
       | (go_at_call 83;(with_reducible refine (DV.out _).mono ?_);rintro e6 w6 ⟨rfl,hb⟩;(try have HC:=Lib.hid (HC.out.keep hb))))
      go_wp2_with fail
      refine hK.out _ _ (ZcY hb (by with_reducible assumption)) (fun hH2=>?_)
      clear hK K hHeld hb;have hHeld:=hH2;clear hH2
      (try simp only [cl,Act.put])
     all_goals (try (have _:=HC.out;refine rd 10 rfl fun K hK=>?_))
     refine wpAnyH_ready (rs:=[10,14]) (by kernel_rfl) (by simp) (AllReadyH.cons (o:=_) rfl (fun K hK=>?_) (AllReadyH.cons (o:=_) rfl (fun K hK=>?_) AllReadyH.nil))
     rotate_left
     go_simp
     (first | refine hK.out _ _ (ZgU (by with_reducible assumption)) (fun hH2=>?_) | refine hK.out _ _ (ZcY (Za _ _) (by with_reducible assumption)) (fun hH2=>?_))
     clear hK K
     (first | have HC:=Lib.hid (ZcZ hH2) | have HC:=Lib.hid (Zcz hH2))
     have hHeld0:=Lib.hid hHeld
     clear hHeld
     have hHeld:=hH2
     clear hH2
     (try simp only [cl,Act.put])
     refine rd 10 rfl fun K hK=>?_
     rotate_right
     all_goals
      go_simp
      (first
       | (go_at_call 14;(with_reducible refine (Za7 _ _).mono ?_);rintro e5 w5 ⟨rfl,hb⟩;(try have HC:=Lib.hid (HC.out.keep hb)))
       | (go_at_call 83;(with_reducible refine (DV.out _).mono ?_);rintro e6 w6 ⟨rfl,hb⟩;(try have HC:=Lib.hid (HC.out.keep hb))))
      go_wp2_with fail
      refine hK.out _ _ (ZcY hb (by with_reducible assumption)) (fun hH2=>?_)
      clear hK K hHeld hb;have hHeld:=hH2;clear hH2
      (try simp only [cl,Act.put])
     all_goals
      refine tk 11 rfl ?_
      refine tk 12 rfl ?_
      refine tk 13 rfl ?_
      (try simp only [cl,Act.put])
     refine rd 14 rfl fun K hK=>?_
     go_simp
     (first | refine hK.out _ _ (ZgU (by with_reducible assumption)) (fun hH2=>?_) | refine hK.out _ _ (ZcY (Za _ _) (by with_reducible assumption)) (fun hH2=>?_))
     clear hK K
     (first | have HC:=Lib.hid (ZcZ hH2) | have HC:=Lib.hid (Zcz hH2))
     have hHeld0:=Lib.hid hHeld
     clear hHeld
     have hHeld:=hH2
     clear hH2
     (try simp only [cl,Act.put])
     all_goals
      refine rd 15 rfl fun K hK=>?_
      obtain ⟨h7,h0,h1,h2,h3,h4,h8⟩:=HC.out
      clear h7 h8
      go_simp
      clear h0 h1 h2 h3 h4
      (first
       | refine hK.out _ _ (ZcY (Za _ _) hHeld0.out) (fun hH2=>?_)
       | refine hK.out _ _ (ZcY (HC.out.fill _ _).1 hHeld0.out) (fun hH2=>?_))
      clear hK K hHeld
      have hHeld:=hH2
      clear hH2
      (try simp only [cl,Act.put])
      refine tk 16 rfl ?_
      (try simp only [cl,Act.put])
      refine wpAnyH_done (by kernel_rfl) ?_ _
      refine NoPanic.normal ?_
      go_wp2_with fail
      go_meet
      case rel=>first | exact Zgh hHeld0.out.2 25 | exact Zg8 hHeld0.out.2 HC.out
    case rest=>
     obtain ⟨c,rfl,RA,hbq⟩:=hcut
     have b4:=Zl hbr B3.out.1 hbq
     have B4:=Lib.hid (And.intro b4 (And.intro (B3.out.2.1.keep hbq) (B3.out.2.2.1.keep hbq)))
     have hltc:=Nat.lt_of_lt_of_le (Blk.lt B3.out.2.1) hbq.size
     have hne:br≠bc:=by have:=B3.out.2.2.2;omega
     have HL:=Lib.hid (And.intro hltc hne)
     have j0:=RA.k0;have j1:=RA.k1
     have r1:=B4.out.2.1.cell 1
     have r2:=B4.out.2.1.cell 2
     have r3:=B4.out.2.1.cell 3
     clear b4 hbq RA q0 q1 B3 hltc hne h0
     go_upto_region 9 with (go_at_call 13;go_loud ((with_reducible refine (SC.out _ B4.out.1 HS0.out).mono ?_);rintro e5 w5 ⟨v5,rfl,hv5,hb5,fr5⟩;obtain ⟨A5,c5,rfl⟩:=Zd hv5;have HV:=Lib.hid (And.intro hv5 fr5);have B5:=Lib.hid (And.intro (Zl hbr B4.out.1 hb5) (And.intro (B4.out.2.1.keep hb5) (B4.out.2.2.keep hb5)));clear hv5 fr5 hb5;have m1:=B5.out.2.1.free 1;have m2:=B5.out.2.1.free 2;have m3:=B5.out.2.1.free 3;have r1:=B5.out.2.1.cell 1;have r2:=B5.out.2.1.cell 2;have r3:=B5.out.2.1.cell 3))
     have B6:Blk (((w5.setCell ⟨br,1,none⟩ (.slice A5 L.length c5)).setCell ⟨br,2,none⟩ (.int .i64 p1)).setCell ⟨br,3,none⟩ (.int .i64 p2)) br #[.int .i64 xo,.slice A5 L.length c5,.int .i64 p1,.int .i64 p2]:=by
      have:=((B5.out.2.1.set 1 (.slice A5 L.length c5)).set 2 (.int .i64 p1)).set 3 (.int .i64 p2)
      simpa using this
     have C6:=(((B5.out.2.2.other (p:=⟨br,1,none⟩) HL.out.2 (.slice A5 L.length c5)).other (p:=⟨br,2,none⟩) HL.out.2 (.int .i64 p1)).other (p:=⟨br,3,none⟩) HL.out.2 (.int .i64 p2))
     have b6:=((B5.out.1.setCell (p:=⟨br,1,none⟩) (Nat.le_refl _) (.slice A5 L.length c5)).setCell (p:=⟨br,2,none⟩) (Nat.le_refl _) (.int .i64 p1)).setCell (p:=⟨br,3,none⟩) (Nat.le_refl _) (.int .i64 p2)
     have hv6:=((HV.out.1.setCell HV.out.2 (p:=⟨br,1,none⟩) HL.out.1 (.slice A5 L.length c5)).setCell HV.out.2 (p:=⟨br,2,none⟩) HL.out.1 (.int .i64 p1)).setCell HV.out.2 (p:=⟨br,3,none⟩) HL.out.1 (.int .i64 p2)
     have FR:=Lib.hid (Off.fresh (l:=L) (S:=fun b=>b<br) HV.out.2 (fun b (hb:b<br)=>Nat.lt_trans hb HL.out.1))
     have M6:=Lib.hid (And.intro b6 (And.intro B6 (And.intro C6 hv6)))
     clear B6 C6 b6 hv6 HV B5 m1 m2 m3 r1 r2 r3 j0 j1
     generalize ((w5.setCell ⟨br,1,none⟩ (.slice A5 L.length c5)).setCell ⟨br,2,none⟩ (.int .i64 p1)).setCell ⟨br,3,none⟩ (.int .i64 p2)=w3 at *
     have st:=HK.out.2.2.2.2.1
     rw [if_neg HS0.out] at st
     by_cases he:er=0
     ·subst he
      rw [if_pos rfl] at st
      dsimp only at st
      have r0:=M6.out.2.1.cell 0
      have r1:=M6.out.2.1.cell 1
      have r2:=M6.out.2.1.cell 2
      have r3:=M6.out.2.1.cell 3
      have q0:=M6.out.2.2.1.cell 0
      have D6:=DD.out.1.keep (by rw [hbr];exact M6.out.1)
      by_cases hp:0<cn
      ·rw [if_pos hp] at st
       have NX:=Lib.hid (show ZZ i ([],[],[]) (ts.take (k+1))=some (xa,xb++[(xo,L,p1,p2)],xc) from by rw [HK.out.2.2.1,st])
       have QW:=Lib.hid (D6.swab.ahead (n:=L.length) (op:=xo) (kn:=p1) (kd:=p2) (A:=A5) (c:=c5) rfl 29)
       obtain ⟨rs2,QV⟩:=QW.out
       have QW:=Lib.hid QV
       clear QV D6 st
       go_wp2_with (at_builtin;refine Zm _ rfl _ _ 22 rfl w.heap.size 29 iR (.agg #[.int .i64 0,.slice none 0 0,.int .i64 0,.int .i64 0]) 4 48 Tryz.underlying22 hiR zR0 zR1 zR2 rfl (by decide) _ xb.length (Zt rs2) rfl QW.out.2.1 (w3.heap.size+1) (some ⟨w3.heap.size,0,none⟩) 1 1 [.int .i64 xo,.slice A5 L.length c5,.int .i64 p1,.int .i64 p2] rfl QW.out.2.2.2.2 (Zcw _ _ _ _ _ _) (by have:=LK.out;omega) (by have:=LK.out;omega) QW.out.2.2.2.1.below.size ?_)
       intro v8 w8 hown hgrow hat
       have hrx:=M6.out.2.2.2.below (Za w3 (.cells #[.int .i64 xo,.slice A5 L.length c5,.int .i64 p1,.int .i64 p2] 29))
       have D8:=Lib.hid (Tri.push (t:=(xo,L,p1,p2)) QW.out.2.2.2.1 QW.out.1 QW.out.2.2.1 hown hgrow (by first | exact hat | simpa using hat) hrx (FR.out.mono (fun b q=>by have:=DD.out.1.swab.lt b q;show b<br;omega)))
       clear hown hgrow hat
       go_wp2_with fail
       go_roundg (n-(k+1))
       case measure=>have:=HK.out.1;have:=HK.out.2.1;omega
       case rel=>exact ⟨k+1,(xa,xb++[(xo,L,p1,p2)],xc),_,_,_,rfl,rfl,rfl,by push_cast;rfl,by have:=HK.out.1;omega,rfl,NX.out,D8.out.swab⟩
      ·rw [if_neg hp] at st
       have NX:=Lib.hid (show ZZ i ([],[],[]) (ts.take (k+1))=some (xa,xb,xc++[(xo,L,p1,p2)]) from by rw [HK.out.2.2.1,st])
       have QW:=Lib.hid (D6.swac.ahead (n:=L.length) (op:=xo) (kn:=p1) (kd:=p2) (A:=A5) (c:=c5) rfl 29)
       obtain ⟨rs2,QV⟩:=QW.out
       have QW:=Lib.hid QV
       clear QV D6 st
       go_wp2_with (at_builtin;refine Zm _ rfl _ _ 22 rfl w.heap.size 29 iR (.agg #[.int .i64 0,.slice none 0 0,.int .i64 0,.int .i64 0]) 4 48 Tryz.underlying22 hiR zR0 zR1 zR2 rfl (by decide) _ xc.length (Zt rs2) rfl QW.out.2.1 (w3.heap.size+1) (some ⟨w3.heap.size,0,none⟩) 1 1 [.int .i64 xo,.slice A5 L.length c5,.int .i64 p1,.int .i64 p2] rfl QW.out.2.2.2.2 (Zcw _ _ _ _ _ _) (by have:=LK.out;omega) (by have:=LK.out;omega) QW.out.2.2.2.1.below.size ?_)
       intro v8 w8 hown hgrow hat
       have hrx:=M6.out.2.2.2.below (Za w3 (.cells #[.int .i64 xo,.slice A5 L.length c5,.int .i64 p1,.int .i64 p2] 29))
       have D8:=Lib.hid (Tri.push (t:=(xo,L,p1,p2)) QW.out.2.2.2.1 QW.out.1 QW.out.2.2.1 hown hgrow (by first | exact hat | simpa using hat) hrx (FR.out.mono (fun b q=>by have:=DD.out.1.swac.lt b q;show b<br;omega)))
       clear hown hgrow hat
       go_wp2_with fail
       go_roundg (n-(k+1))
       case measure=>have:=HK.out.1;have:=HK.out.2.1;omega
       case rel=>exact ⟨k+1,(xa,xb,xc++[(xo,L,p1,p2)]),_,_,_,rfl,rfl,rfl,by push_cast;rfl,by have:=HK.out.1;omega,rfl,NX.out,D8.out.swac⟩
     ·have ne:(er != 0)=true:=by simpa using he
      rw [if_neg he] at st
      have FIN:=Lib.hid (show Zi4 S0 w (ZZ i ([],[],[]) ts) (.returned (.tuple #[.slice none 0 0,.slice none 0 0,.slice none 0 0,.int .i64 er])) w3 from .inr ⟨HK.out.2.2.2.1 st,er,ne,rfl,DD.out.1.below.trans ((show Below wr.heap.size wr w3 by rw [hbr];exact M6.out.1).mono DD.out.1.below.size)⟩)
      clear st he
      go_wp2_with fail
      exact bodyPost_ret (v:=.tuple #[.slice none 0 0,.slice none 0 0,.slice none 0 0,.int .i64 er]) (by simp [results,Tryz.results58,go_sem]) rfl FIN.out
end
end Go.Proofs.YtolookeddknmoaaGreat
