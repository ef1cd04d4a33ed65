import Derived.Deep.DeepFit
import Derived.Test.YtbfnnolakggbfaaGreatDoorQAK
import Derived.Test.YtbfnnolakggbfaaGreatDoorQAQ
import Derived.Test.YtbfnnolakggbfaaGreatDoorQAY
import Derived.Test.YtbfnnolakggbfaaGreatDoorQBC
set_option maxRecDepth 100000
set_option maxHeartbeats 8000000
open Option renaming some → Ya, none → Yb
open Go.Value renaming slice → Yc, int → Yd
open Go.IntKind renaming i64 → Yf
open Go.Obj renaming cells → Yg
open Go renaming World → Yh
namespace Go.Proofs.YtbfnnolakggbfaaGreatDoor
section
open Go.RowKit
section
variable {wq w1 w2 wo wA wr:Yh} {p q:Addr} {x y:Value} {A:Prop} {ty:TypeId} {c:Nat} {m d e:Int}
theorem ZS (a:Below w1.heap.size w1 w2) (h:w1.cell? p=Ya x):w2.cell? p=Ya x:=(a.cell (World.block_lt_of_cell? _ _ h)).trans h
theorem ZF {B:Nat} {a b c:Yh} (e:a.heap.size=B) (h:Below B a b) (d:Below b.heap.size b c):Below B a c:=by subst e;exact h.trans (d.mono h.size)
theorem ZcZ (a:Below w1.heap.size w1 w2) (h:(w1.cell? p=Ya x/\w1.cell? q=Ya y)/\Below wq.heap.size wq w1):(w2.cell? p=Ya x/\w2.cell? q=Ya y)/\Below wq.heap.size wq w2:=
 ⟨⟨ZS a h.1.1,ZS a h.1.2⟩,h.2.trans (a.mono h.2.size)⟩
theorem Zha {o:Obj} (h:(wo.drew.cell? p=Ya x/\wo.drew.cell? q=Ya y)/\Below wq.heap.size wq wo.drew):((wo.alloc o).drew.cell? p=Ya x/\(wo.alloc o).drew.cell? q=Ya y)/\Below wq.heap.size wq (wo.alloc o).drew:=ZcZ (below_alloc1 wo.drew o) h
theorem ZeW (_:A/\Below wq.heap.size wq (wA.alloc (Yg #[Yd Yf 0,Yd Yf 0] ty))):HoleC wA (wA.alloc (Yg #[Yd Yf 0,Yd Yf 0] ty)) wA.heap.size:=HoleC.start wA ty
theorem Zej (_:A/\Below wq.heap.size wq (wo.alloc (Yg #[Yd Yf 0,Yd Yf 0] ty)).drew):HoleC wo.drew (wo.alloc (Yg #[Yd Yf 0,Yd Yf 0] ty)).drew wo.heap.size:=HoleC.start wo.drew ty
def ZiN (a:Yh) (m d:Int) (v:Value) (b:Yh):Prop:=∃c,v=.pointer (Ya ⟨c,0,Yb⟩)/\RatAt b c m d/\Below a.heap.size a b
theorem Zi9 (h:Below wq.heap.size wq wA) (ty:TypeId):ZiN wq m d (.pointer (Ya ⟨wA.heap.size,0,Yb⟩)) (wA.alloc (Yg #[Yd Yf m,Yd Yf d] ty)):=
 ⟨_,rfl,RatAt.start wA m d ty,h.trans ((below_alloc1 _ _).mono h.size)⟩
theorem Zkk (h:Below wq.heap.size wq wA) (hc:HoleC wA wr c):ZiN wq m d (.pointer (Ya ⟨c,0,Yb⟩)) ((wr.setCell ⟨c,0,Yb⟩ (Yd Yf m)).setCell ⟨c,1,Yb⟩ (Yd Yf d)):=
 ⟨_,rfl,(hc.fill m d).2,h.trans ((hc.fill m d).1.mono h.size)⟩
end
theorem Zhq (v:Int) (m:List Rw):∀(l:List Rw) (s:Za5),ZW v s (l++m)=(ZW v s l).bind fun a=>ZW v a m
 |[],s=>by simp only[List.nil_append,ZW,Option.bind_some]
 |x::l,s=>by
  rw[List.cons_append,ZW,ZW];cases Zar v s x with
  |none=>rfl
  |some a=>exact Zhq v m l a
theorem ZlY {v:Int} {s a:Za5} {r:Rw} (h:Zar v s r=Ya a):a.1.length+a.2.1.length+a.2.2.length=s.1.length+s.2.1.length+s.2.2.length+1:=by
 unfold Zar at h
 split at h
 ·obtain rfl:=Option.some.inj h;simp only[Yj,List.length_singleton];omega
 ·split at h
  ·cases h
  ·split at h<;>(obtain rfl:=Option.some.inj h;simp only[Yj,List.length_singleton];omega)
theorem Zdw (v:Int):∀(l:List Rw) (s c:Za5),ZW v s l=Ya c->c.1.length+c.2.1.length+c.2.2.length=s.1.length+s.2.1.length+s.2.2.length+l.length
 |[],s,c,h=>by
  obtain rfl:=Option.some.inj h;rfl
 |x::l,s,c,h=>by
  rw[ZW,Option.bind_eq_some_iff]at h;obtain⟨t,d,e⟩:=h;have a:=ZlY d;have b:=Zdw v l t c e;rw[Yk];omega
theorem Zqb (w:Yh) (x:Int×Int) (h:OkR x) (c:x.1≠0) :
  Calls Tryz.prog 145 #[Zb 1 1,Zb (max x.1 (-x.1)) x.2] w fun r w'=>r=.returned (.tuple #[Zb (ZbC x).1 (ZbC x).2,Yd Yf 0])/\Below w.heap.size w w':=by
 have b:OkR ((x.1.natAbs:Int),x.2):=by obtain⟨d,e,v⟩:=h;exact⟨d,e,v.pos,v.d_le,by have:=v.n_le;omega,by have:=v.low;rw[Int.natAbs_natCast];exact this⟩
 have:=Znc w ((x.1.natAbs:Int),x.2) b (by show(x.1.natAbs:Int)≠0;omega);unfold Zb9 at this;have e:¬((x.1.natAbs:Int)<0):=by omega
 have a:(((x.1.natAbs:Int)).natAbs:Int)=(x.1.natAbs:Int):=by omega
 dsimp only at this;rw[Yn e,a]at this;rw[show max x.1 (-x.1)=(x.1.natAbs:Int)by omega];exact this
def Zjm (d:Nat->Prop) (w:Yh) (o:Option Za5) (e:Ending) (w':Yh):Prop:=
 (∃s a b c,o=Ya s/\e=.returned (.tuple #[a,b,c,Yd Yf 0])/\Tri d w w' a s.1 b s.2.1 c s.2.2) ∨
 (o=Yb/\∃z:Int,(z != 0)=true/\e=.returned (.tuple #[Yc Yb 0 0,Yc Yb 0 0,Yc Yb 0 0,Yd Yf z])/\Below w.heap.size w w')
theorem Zoj (S0:Nat->Prop) (w:Yh) (v:Value) (ts:List Rw) (i:Int) (h:RowsIn w v ts S0) (hs:∀b,S0 b->b<w.heap.size) (V:∀r∈ts,TrmOk r.2) (hl:ts.length<=1000) :
  Calls Tryz.prog 115 #[v,Yd Yf i] w (Zjm S0 w (ZW i ([],[],[]) ts)):=by
 obtain⟨iR,bf,bm,bn,bo⟩:=info_parts ZcP;obtain⟨A,c,rs,rfl,h2,h3,h4,h5,h7,h6⟩:=h;obtain⟨n,hn⟩:∃n,n=ts.length:=⟨_,rfl⟩
 have b7:rs.length=n:=by rw[hn,<-h4,List.length_map]
 rw[<-hn]at h2 h5 hl⊢;have HN:=zh (zi b7 (zi h4 (zi h5 (zi h6 (zi hn (zi hl (zi V hs)))))));clear hn b7 h2 h3 h4 h5 h6 h7 hl V hs;go_enter Tryz.func115,Tryz.ntmps115;go_wp2_with fail;go_loopg [4,5,6,15] n (fun g v4 v5 v6 c7 wr=>∃(k:Nat) (s:Za5) (va vb vc:Value),va=v4/\vb=v5/\vc=v6/\c7=Yd Yf k/\k<=n/\g=n-k/\ZW i ([],[],[]) (ts.take k)=Ya s/\Tri S0 w wr va s.1 vb s.2.1 vc s.2.2)
 case atStart=>exact⟨0,([],[],[]),_,_,_,rfl,rfl,rfl,rfl,Nat.zero_le _,rfl,rfl,Tri.start HN.out.2.2.2.2.2.2.2⟩
 case round=>
  obtain⟨k,⟨Q,R,T⟩,va,vb,vc,rfl,rfl,rfl,rfl,hk,hg,Z,D⟩:=hrel;dsimp only at D;by_cases bg:k=n
  ·have he:ts.take k=ts:=by rw[bg,HN.out.2.2.2.2.1];exact List.take_length
   rw[he]at Z;have a8:=zh (show Zjm S0 w (ZW i ([],[],[]) ts) (.returned (.tuple #[va,vb,vc,Yd Yf 0])) wr from .inl ⟨_,va,vb,vc,Z,rfl,D⟩);subst bg;clear hk hg D he Z;go_wp2_with fail;exact bodyPost_ret (v:=.tuple #[va,vb,vc,Yd Yf 0]) (by simp[results,Tryz.results115,go_sem]) rfl a8.out
  ·have b1:k<n:=by omega
   obtain⟨y,hy⟩:∃y,rs[k]? = Ya y:=⟨_,Ym (by have:=HN.out.1;omega)⟩
   have bi:ts[k]? = Ya y.2:=by rw[<-HN.out.2.1,List.getElem?_map,hy];rfl
   obtain⟨ad,rfl,d0,d1,d2,d3⟩:=ZaT HN.out.2.2.1 D.below hy (by omega);have aq:=HN.out.2.2.2.1 y (List.mem_of_getElem? hy);have V:=HN.out.2.2.2.2.2.2.1 y.2 (List.mem_of_getElem? bi);have ax:Off (four S0 va vb vc) y.1 y.2.2.1:=aq.2.more aq.1 D.old;have hr:=aq.1.below D.below;have ag:=Zdw i _ _ _ Z;have nx:ZW i ([],[],[]) (ts.take (k+1))=Zar i (Q,R,T) y.2:=by rw[List.take_add_one,bi];show ZW i ([],[],[]) (ts.take k++[y.2])=_;rw[Zgy,Z];rfl
   have nn:Zar i (Q,R,T) y.2=Yb->ZW i ([],[],[]) ts=Yb:=fun q=>by
    rw[<-List.take_append_drop (k+1) ts,Zhq,nx,q];rfl
   have i1:(k:Int)<(n:Int):=by omega
   have i2:(0:Int)<=(k:Int):=by omega
   have wk:IntKind.i64.wrap ((k:Int)+1)=(k:Int)+1:=IntWalk.i64_in _ (by have:=HN.out.2.2.2.2.2.1;omega);have ae:=V.ok.at i;have ta:=fun(W:Yh) (M:Below wr.heap.size wr W)=>Zbv W y.1 y.2.2.1 y.2.2.2.1 y.2.2.2.2 i (hr.below M);have sc:=fun(W:Yh) (M:Below wr.heap.size wr W) (hn:(atL y.2.2.1 i).1≠0)=>ZcN W y.1 y.2.2.1 y.2.2.2 (ZbC (atL y.2.2.1 i)) (hr.below M) V.ok.wide V.k.wide (Zgq ae hn).wide;have dv:=fun(W:Yh) (hn:(atL y.2.2.1 i).1≠0)=>Zqb W (atL y.2.2.1 i) ae hn;have O:Zar i (Q,R,T) y.2=if(atL y.2.2.1 i).1=0 then Ya (Q++[y.2],R,T)else match ZaW y.2.2 (ZbC (atL y.2.2.1 i))with|none=>Yb|some t=>if 0<(atL y.2.2.1 i).1 then Ya (Q,R++[(y.2.1,t)],T)else Ya (Q,R,T++[(y.2.1,t)]):=rfl
   unfold ZaW at O;have cp:=ae.wide;have cu:Q.length+R.length+T.length<=1000:=by have:=HN.out.2.2.2.2.2.1;rw[List.length_take]at ag;simp only[Yl]at ag;omega
   generalize Zh y.2.2.1 y.2.2.2 (ZbC (atL y.2.2.1 i))=P at *;generalize ZbC (atL y.2.2.1 i)=iv at *;generalize cr:atL y.2.2.1 i=cq at *;obtain⟨yv,F,xl,x1,x2⟩:=y;obtain⟨L,⟨H,I⟩,er⟩:=P;obtain⟨cn,cd⟩:=cq;obtain⟨cw,cy⟩:=iv;dsimp only at *;obtain⟨Ax,cx,rfl⟩:=Zc hr;have TA:=zh ta;have SC:=zh sc;have bt:=zh dv;have N:=zh (zi b1 (zi hg (zi nx (zi nn (zi O hr)))));have LK:=zh (show Q.length+1<=maxLen/\R.length+1<=maxLen/\T.length+1<=maxLen/\(Q.length+1)*48<=140737488355328/\(R.length+1)*48<=140737488355328/\(T.length+1)*48<=140737488355328 from by unfold maxLen;omega);have DD:=zh (zi D ax);have wn:IntKind.i64.wrap (-cn)=-cn:=IntWalk.i64_in _ (by obtain⟨d,e,v⟩:=ae;have:=v.n_le;dsimp only at this;omega);clear bg hk hg bi hy aq V ax hr ag nx nn O ta sc dv cu Z cr D b1 cp ae;go_upto_region 4 with fail;have a1:=below_alloc1 wr (Yg #[Yd Yf F,Yc Ax xl.length cx,Yd Yf x1,Yd Yf x2] 39);have RB:=Blk.start wr #[Yd Yf F,Yc Ax xl.length cx,Yd Yf x1,Yd Yf x2] 39;have B1:=zh (zi a1 RB);have B:wr.heap.size<=wr.heap.size:=Nat.le_refl _;have dy:=zh B;clear a1 RB d0 d1 d2 d3 B;generalize wr.alloc (Yg #[Yd Yf F,Yc Ax xl.length cx,Yd Yf x1,Yd Yf x2] 39)=w1 at *;generalize B:wr.heap.size=G at *;have c1:=B1.out.2.cell 1;have c2:=B1.out.2.cell 2;have c3:=B1.out.2.cell 3;go_upto_region 5 with(go_at_call 66;go_fit (TA.out _ B1.out.1);rintro e2 w2 ⟨rfl,ao⟩)
   have a3:=below_alloc1 w2 (Yg #[Yd Yf cn,Yd Yf cd] 23);have B2:=(B1.out.2.keep ao).keep a3;have b2:=ZF B B1.out.1 ao;have U:=zh (zi (ZF B b2 a3) (zi B2 (zi (Blk.start w2 #[Yd Yf cn,Yd Yf cd] 23) (Nat.lt_of_lt_of_le B1.out.2.lt ao.size))));clear a3 B2 b2 ao B1 c1 c2 c3;generalize w2.heap.size=bc at *;generalize w2.alloc (Yg #[Yd Yf cn,Yd Yf cd] 23)=X at *;have q0:=U.out.2.2.1.cell 0;have q1:=U.out.2.2.1.cell 1;by_cases h0:cn=0
   ·have e0:(cn==0)=true:=by rw[h0];rfl
    have D3:=DD.out.1.keep (by rw[B];exact U.out.1);have x:=zh (D3.ahead (n:=xl.length) (op:=F) (kn:=x1) (kd:=x2) (A:=Ax) (c:=cx) rfl 39);obtain⟨af,QV⟩:=x.out;have x:=zh QV;have NX:=zh (show ZW i ([],[],[]) (ts.take (k+1))=Ya (Q++[(F,xl,x1,x2)],R,T)from by rw[N.out.2.2.1,N.out.2.2.2.2.1,Yo h0]);have r0:=U.out.2.1.cell 0;have r1:=U.out.2.1.cell 1;have r2:=U.out.2.1.cell 2;have r3:=U.out.2.1.cell 3;clear QV D3 h0;go_wp2_with (at_builtin;refine Zj _ rfl _ _ 43 rfl w.heap.size 39 iR (.agg #[Yd Yf 0,Yc Yb 0 0,Yd Yf 0,Yd Yf 0]) 4 48 Tryz.underlying43 bf bm bn bo rfl (by decide) _ Q.length (Zr af) rfl x.out.2.1 (X.heap.size+1) (Ya ⟨X.heap.size,0,Yb⟩) 1 1 [Yd Yf F,Yc Ax xl.length cx,Yd Yf x1,Yd Yf x2] rfl x.out.2.2.2.2 (Zb2 _ _ _ _ _ _) (by have:=LK.out;omega) (by have:=LK.out;omega) x.out.2.2.2.1.below.size ?_);intro v8 w8 z m E;have ac:=N.out.2.2.2.2.2.below (w':=X.alloc (Yg #[Yd Yf F,Yc Ax xl.length cx,Yd Yf x1,Yd Yf x2] 39)) (by have a:=below_alloc1 X (Yg #[Yd Yf F,Yc Ax xl.length cx,Yd Yf x1,Yd Yf x2] 39);have b:=U.out.1;rw[B];exact ZF B b a);have D8:=zh (Tri.push (t:=(F,xl,x1,x2)) x.out.2.2.2.1 x.out.1 x.out.2.2.1 z m (by first|exact E|simpa using E) ac DD.out.2);clear z m E;go_wp2_with fail;go_roundg (n-(k+1))
    case measure=>have:=N.out.1;have:=N.out.2.1;omega
    case rel=>exact⟨k+1,(Q++[(F,xl,x1,x2)],R,T),_,_,_,rfl,rfl,rfl,by push_cast;rfl,by have:=N.out.1;omega,rfl,NX.out,D8.out⟩
   ·have e0:(cn==0)=false:=by simpa using h0
    have DV:=zh (fun W=>bt.out W h0);have bb:=zh h0;clear bt;go_upto_region 7 with fail;generalize ec:X=wq at *;go_cut [11,12]from 16 to 66 (fun c6 ej wx=>ZiN wq cw cy c6 wx)
    case first=>
     have HS:(wq.drew.cell? ⟨bc,0,Yb⟩=Ya (Yd Yf cn)/\wq.drew.cell? ⟨bc,1,Yb⟩=Ya (Yd Yf cd))/\Below wq.heap.size wq wq.drew:=⟨⟨q0,q1⟩,Zn _⟩
     clear U bb h0;refine wp_region_noPanic ?_;refine wp_region_held_drew (S:=(fun W=>(W.cell? ⟨bc,0,Yb⟩=Ya (Yd Yf cn)/\W.cell? ⟨bc,1,Yb⟩=Ya (Yd Yf cd))/\Below wq.heap.size wq W)) (by kernel_rfl) HS (fun f=>?_);clear HS;refine tk 1 rfl ?_;refine tk 2 rfl ?_;refine tk 3 rfl ?_;refine tk 4 rfl ?_;refine tk 5 rfl ?_;refine tk 6 rfl ?_;refine tk 7 rfl ?_;refine tk 8 rfl ?_;refine tk 9 rfl ?_;(try simp only[cl,Act.put]);refine wpAnyH_ready (rs:=[0,14]) (by kernel_rfl) (by simp) (AllReadyH.cons (o:=_) rfl (fun K C=>?_) (AllReadyH.cons (o:=_) rfl (fun K C=>?_) AllReadyH.nil))
     rotate_left
     go_simp
     (first|refine C.out _ _ (Zha (by with_reducible assumption)) (fun j=>?_)|refine C.out _ _ (ZcZ (below_alloc1 _ _) (by with_reducible assumption)) (fun j=>?_))
     clear C K
     (first|have J:=zh (ZeW j)|have J:=zh (Zej j))
     have u:=zh f;clear f;have f:=j;clear j;(try simp only[cl,Act.put]);refine rd 0 rfl fun K C=>?_
     rotate_right
     all_goals
      go_simp
      (first
       |(go_at_call 30;go_fit (Zbl _ _);rintro e5 w5 ⟨rfl,M⟩;(try have J:=zh (J.out.keep M)))
       |(go_at_call 145;go_fit (DV.out _);rintro e6 w6 ⟨rfl,M⟩;(try have J:=zh (J.out.keep M))))
      go_wp2_with fail;refine C.out _ _ (ZcZ M (by with_reducible assumption)) (fun j=>?_);clear C K f M;have f:=j;clear j;(try simp only[cl,Act.put])
     all_goals (try (have _:=J.out;refine rd 10 rfl fun K C=>?_))
     refine wpAnyH_ready (rs:=[10,14]) (by kernel_rfl) (by simp) (AllReadyH.cons (o:=_) rfl (fun K C=>?_) (AllReadyH.cons (o:=_) rfl (fun K C=>?_) AllReadyH.nil))
     rotate_left
     go_simp
     (first|refine C.out _ _ (Zha (by with_reducible assumption)) (fun j=>?_)|refine C.out _ _ (ZcZ (below_alloc1 _ _) (by with_reducible assumption)) (fun j=>?_))
     clear C K
     (first|have J:=zh (ZeW j)|have J:=zh (Zej j))
     have u:=zh f;clear f;have f:=j;clear j;(try simp only[cl,Act.put]);refine rd 10 rfl fun K C=>?_
     rotate_right
     all_goals
      go_simp
      (first
       |(go_at_call 30;go_fit (Zbl _ _);rintro e5 w5 ⟨rfl,M⟩;(try have J:=zh (J.out.keep M)))
       |(go_at_call 145;go_fit (DV.out _);rintro e6 w6 ⟨rfl,M⟩;(try have J:=zh (J.out.keep M))))
      go_wp2_with fail;refine C.out _ _ (ZcZ M (by with_reducible assumption)) (fun j=>?_);clear C K f M;have f:=j;clear j;(try simp only[cl,Act.put])
     all_goals
      refine tk 11 rfl ?_;refine tk 12 rfl ?_;refine tk 13 rfl ?_;(try simp only[cl,Act.put])
     refine rd 14 rfl fun K C=>?_;go_simp
     (first|refine C.out _ _ (Zha (by with_reducible assumption)) (fun j=>?_)|refine C.out _ _ (ZcZ (below_alloc1 _ _) (by with_reducible assumption)) (fun j=>?_))
     clear C K
     (first|have J:=zh (ZeW j)|have J:=zh (Zej j))
     have u:=zh f;clear f;have f:=j;clear j;(try simp only[cl,Act.put])
     all_goals
      refine rd 15 rfl fun K C=>?_;obtain⟨h7,h0,h1,h2,h3,h4,h8⟩:=J.out;clear h7 h8;go_simp;clear h0 h1 h2 h3 h4
      (first
       |refine C.out _ _ (ZcZ (below_alloc1 _ _) u.out) (fun j=>?_)
       |refine C.out _ _ (ZcZ (J.out.fill _ _).1 u.out) (fun j=>?_))
      clear C K f;have f:=j;clear j;(try simp only[cl,Act.put]);refine tk 16 rfl ?_;(try simp only[cl,Act.put]);refine wpAnyH_done (by kernel_rfl) ?_ _;refine NoPanic.normal ?_;go_wp2_with fail;go_meet
      case rel=>first|exact Zi9 u.out.2 23|exact Zkk u.out.2 J.out
    case rest=>
     obtain⟨c,rfl,RA,ab⟩:=hcut;have b4:=ZF B U.out.1 ab;have B4:=zh (zi b4 (zi (U.out.2.1.keep ab) (U.out.2.2.1.keep ab)));have av:=Nat.lt_of_lt_of_le (Blk.lt U.out.2.1) ab.size;have b3:G≠bc:=by have:=U.out.2.2.2;omega
     have HL:=zh (zi av b3);have j0:=RA.k0;have j1:=RA.k1;have r1:=B4.out.2.1.cell 1;have r2:=B4.out.2.1.cell 2;have r3:=B4.out.2.1.cell 3;clear b4 ab RA q0 q1 U av b3 h0;go_upto_region 9 with(go_at_call 29;go_loud (go_fit (SC.out _ B4.out.1 bb.out);rintro e5 w5 ⟨v5,rfl,bh,ap,bz⟩;obtain⟨Y,c5,rfl⟩:=Zc bh;have HV:=zh (zi bh bz);have B5:=zh (zi (ZF B B4.out.1 ap) (zi (B4.out.2.1.keep ap) (B4.out.2.2.keep ap)));clear bh bz ap;have m1:=B5.out.2.1.free 1;have m2:=B5.out.2.1.free 2;have m3:=B5.out.2.1.free 3;have r1:=B5.out.2.1.cell 1;have r2:=B5.out.2.1.cell 2;have r3:=B5.out.2.1.cell 3))
     have B6:Blk (((w5.setCell ⟨G,1,Yb⟩ (Yc Y L.length c5)).setCell ⟨G,2,Yb⟩ (Yd Yf H)).setCell ⟨G,3,Yb⟩ (Yd Yf I)) G #[Yd Yf F,Yc Y L.length c5,Yd Yf H,Yd Yf I]:=by have:=((B5.out.2.1.set 1 (Yc Y L.length c5)).set 2 (Yd Yf H)).set 3 (Yd Yf I);simpa using this
     have C6:=(((B5.out.2.2.other (p:=⟨G,1,Yb⟩) HL.out.2 (Yc Y L.length c5)).other (p:=⟨G,2,Yb⟩) HL.out.2 (Yd Yf H)).other (p:=⟨G,3,Yb⟩) HL.out.2 (Yd Yf I))
     have b6:=((B5.out.1.setCell (p:=⟨G,1,Yb⟩) (Nat.le_refl _) (Yc Y L.length c5)).setCell (p:=⟨G,2,Yb⟩) (Nat.le_refl _) (Yd Yf H)).setCell (p:=⟨G,3,Yb⟩) (Nat.le_refl _) (Yd Yf I);have b8:=((HV.out.1.setCell HV.out.2 (p:=⟨G,1,Yb⟩) HL.out.1 (Yc Y L.length c5)).setCell HV.out.2 (p:=⟨G,2,Yb⟩) HL.out.1 (Yd Yf H)).setCell HV.out.2 (p:=⟨G,3,Yb⟩) HL.out.1 (Yd Yf I);have FR:=zh (Off.fresh (l:=L) (S:=fun b=>b<G) HV.out.2 (fun b (M:b<G)=>Nat.lt_trans M HL.out.1));have M6:=zh (zi b6 (zi B6 (zi C6 b8)));clear B6 C6 b6 b8 HV B5 m1 m2 m3 r1 r2 r3 j0 j1;generalize((w5.setCell ⟨G,1,Yb⟩ (Yc Y L.length c5)).setCell ⟨G,2,Yb⟩ (Yd Yf H)).setCell ⟨G,3,Yb⟩ (Yd Yf I)=X at *;have O:=N.out.2.2.2.2.1;rw[Yn bb.out]at O;by_cases he:er=0
     ·subst he;rw[Yo rfl]at O;dsimp only at O;have r0:=M6.out.2.1.cell 0;have r1:=M6.out.2.1.cell 1;have r2:=M6.out.2.1.cell 2;have r3:=M6.out.2.1.cell 3;have q0:=M6.out.2.2.1.cell 0;have D6:=DD.out.1.keep (by rw[B];exact M6.out.1);by_cases hp:0<cn
      ·rw[Yo hp]at O;have NX:=zh (show ZW i ([],[],[]) (ts.take (k+1))=Ya (Q,R++[(F,L,H,I)],T)from by rw[N.out.2.2.1,O]);have x:=zh (D6.swab.ahead (n:=L.length) (op:=F) (kn:=H) (kd:=I) (A:=Y) (c:=c5) rfl 39);obtain⟨af,QV⟩:=x.out;have x:=zh QV;clear QV D6 O;go_wp2_with (at_builtin;refine Zj _ rfl _ _ 43 rfl w.heap.size 39 iR (.agg #[Yd Yf 0,Yc Yb 0 0,Yd Yf 0,Yd Yf 0]) 4 48 Tryz.underlying43 bf bm bn bo rfl (by decide) _ R.length (Zr af) rfl x.out.2.1 (X.heap.size+1) (Ya ⟨X.heap.size,0,Yb⟩) 1 1 [Yd Yf F,Yc Y L.length c5,Yd Yf H,Yd Yf I] rfl x.out.2.2.2.2 (Zb2 _ _ _ _ _ _) (by have:=LK.out;omega) (by have:=LK.out;omega) x.out.2.2.2.1.below.size ?_);intro v8 w8 z m E;have ac:=M6.out.2.2.2.below (below_alloc1 X (Yg #[Yd Yf F,Yc Y L.length c5,Yd Yf H,Yd Yf I] 39));have D8:=zh (Tri.push (t:=(F,L,H,I)) x.out.2.2.2.1 x.out.1 x.out.2.2.1 z m (by first|exact E|simpa using E) ac (FR.out.mono (fun b q=>by have:=DD.out.1.swab.lt b q;show b<G;omega)));clear z m E;go_wp2_with fail;go_roundg (n-(k+1))
       case measure=>have:=N.out.1;have:=N.out.2.1;omega
       case rel=>exact⟨k+1,(Q,R++[(F,L,H,I)],T),_,_,_,rfl,rfl,rfl,by push_cast;rfl,by have:=N.out.1;omega,rfl,NX.out,D8.out.swab⟩
      ·rw[Yn hp]at O;have NX:=zh (show ZW i ([],[],[]) (ts.take (k+1))=Ya (Q,R,T++[(F,L,H,I)])from by rw[N.out.2.2.1,O]);have x:=zh (D6.swac.ahead (n:=L.length) (op:=F) (kn:=H) (kd:=I) (A:=Y) (c:=c5) rfl 39);obtain⟨af,QV⟩:=x.out;have x:=zh QV;clear QV D6 O;go_wp2_with (at_builtin;refine Zj _ rfl _ _ 43 rfl w.heap.size 39 iR (.agg #[Yd Yf 0,Yc Yb 0 0,Yd Yf 0,Yd Yf 0]) 4 48 Tryz.underlying43 bf bm bn bo rfl (by decide) _ T.length (Zr af) rfl x.out.2.1 (X.heap.size+1) (Ya ⟨X.heap.size,0,Yb⟩) 1 1 [Yd Yf F,Yc Y L.length c5,Yd Yf H,Yd Yf I] rfl x.out.2.2.2.2 (Zb2 _ _ _ _ _ _) (by have:=LK.out;omega) (by have:=LK.out;omega) x.out.2.2.2.1.below.size ?_);intro v8 w8 z m E;have ac:=M6.out.2.2.2.below (below_alloc1 X (Yg #[Yd Yf F,Yc Y L.length c5,Yd Yf H,Yd Yf I] 39));have D8:=zh (Tri.push (t:=(F,L,H,I)) x.out.2.2.2.1 x.out.1 x.out.2.2.1 z m (by first|exact E|simpa using E) ac (FR.out.mono (fun b q=>by have:=DD.out.1.swac.lt b q;show b<G;omega)));clear z m E;go_wp2_with fail;go_roundg (n-(k+1))
       case measure=>have:=N.out.1;have:=N.out.2.1;omega
       case rel=>exact⟨k+1,(Q,R,T++[(F,L,H,I)]),_,_,_,rfl,rfl,rfl,by push_cast;rfl,by have:=N.out.1;omega,rfl,NX.out,D8.out.swac⟩
     ·have ne:(er != 0)=true:=by simpa using he
      rw[Yn he]at O;have a8:=zh (show Zjm S0 w (ZW i ([],[],[]) ts) (.returned (.tuple #[Yc Yb 0 0,Yc Yb 0 0,Yc Yb 0 0,Yd Yf er])) X from .inr ⟨N.out.2.2.2.1 O,er,ne,rfl,DD.out.1.below.trans ((show Below wr.heap.size wr X by rw[B];exact M6.out.1).mono DD.out.1.below.size)⟩);clear O he;go_wp2_with fail;exact bodyPost_ret (v:=.tuple #[Yc Yb 0 0,Yc Yb 0 0,Yc Yb 0 0,Yd Yf er]) (by simp[results,Tryz.results115,go_sem]) rfl a8.out
end
end Go.Proofs.YtbfnnolakggbfaaGreatDoor
