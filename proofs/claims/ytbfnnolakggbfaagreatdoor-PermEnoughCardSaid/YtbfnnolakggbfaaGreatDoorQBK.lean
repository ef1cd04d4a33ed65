import Derived.Deep.DeepFit
import Derived.Test.YtbfnnolakggbfaaGreatDoorQBJ
set_option maxRecDepth 100000
set_option maxHeartbeats 8000000
open Option renaming some → Ya, none → Yb
open Go.Value renaming slice → Yc, int → Yd
open Go.IntKind renaming i64 → Yf
open Go.Obj renaming cells → Yg
open Go renaming World → Yh
open Go.RowKit
namespace Go.Proofs.YtbfnnolakggbfaaGreatDoor
def ZbD (op:Int) (r:Rw):Rw:=(op,(Zh r.2.1 r.2.2 (-1,1)).1,(Zh r.2.1 r.2.2 (-1,1)).2.1)
def Zdd (l:List Rw) (r:Rw):Int:=if ZU r=true then 2 else Zfe (ZcK (l++[ZbD (if r.1=1 then 2 else 1) r])).2
def Zfw (l:List Rw) (r:Rw):Int:=if ZU r=true then 2 else if r.1=0 then(if Zdd l (1,r.2)=0 then Zdd l (ZbD 1 r)else Zdd l (1,r.2))else Zdd l r
theorem Zb7:Bd (-1,1):=by decide
theorem Zfr {r:Rw} {op:Int} (h:Zac r) (a:-9223372036854775808<=op/\op<=9223372036854775807):Zac (ZbD op r):=by have:=ZaP (kb:=(-1,1)) h.1 h.2.1 Zb7;exact⟨this.1,this.2,a⟩
theorem Zmv (w:Yh) (v j:Value) (l:List Rw) (r:Rw) (h:ZA w v l) (i:Za w j r.2.1) (b:Zac r) (g:ZU r=true) :
  Calls Tryz.prog 14 #[v,.agg #[Yd Yf r.1,j,Yd Yf r.2.2.1,Yd Yf r.2.2.2]] w fun e w'=>e=.returned (Yd Yf (2))/\Below w.heap.size w w':=by
 have wr:=fun(w':Yh) (u:Below w.heap.size w w')=>Zey w' j r (i.below u) b.1 b.2.1;have C:=ZaP (kb:=(-1,1)) b.1 b.2.1 Zb7;have B:=fun(w':Yh) (u:Below w.heap.size w w')=>ZcN w' j r.2.1 r.2.2 (-1,1) (i.below u) b.1 b.2.1 Zb7;obtain⟨y,o,k,m⟩:=r;dsimp only at *;obtain⟨p,t,rfl⟩:=Zc i;obtain⟨A,c,_,e,_⟩:=id h;subst e;have a:=below_alloc1 w (Yg #[Yd Yf y,.slice p o.length t,Yd Yf k,Yd Yf m] 39);have z:=Blk.start w #[Yd Yf y,.slice p o.length t,Yd Yf k,Yd Yf m] 39;have d:=zh (zi a z);have D:=zh B;have F:=zh C;generalize Zh o (k,m) (-1,1)=P at *;obtain⟨M,⟨J,K⟩,I⟩:=P;dsimp only at *;clear B C a z;rw[g]at wr;have s:=zh wr;clear wr g h i b;generalize o.length=E at *;generalize l.length=n at *;go_enter Tryz.func14,Tryz.ntmps14;go_upto_region 1 with fail;generalize f:w.heap.size=G at *;generalize w.alloc (Yg #[Yd Yf y,.slice p E t,Yd Yf k,Yd Yf m] 39)=R at *;have L:=d.out.2.cell 0;have N:=d.out.2.cell 1;have O:=d.out.2.cell 2;have Q:=d.out.2.cell 3;go_wp2_with (go_at_call 28;go_fit (s.out _ d.out.1);rintro H S ⟨rfl,x⟩);go_ret;exact⟨rfl,by rw[f];exact ZF f d.out.1 x⟩
theorem Zfx (w:Yh) (v vr:Value) (l:List Rw) (r:Rw) (h:ZA w v l) (hw:∀r∈l,Zac r) (hl:l.length<=1000) (hr:Za w vr r.2.1) (I:Zac r) (Z:r.1=1\/r.1=2) :
  Calls Tryz.prog 14 #[v,.agg #[Yd Yf r.1,vr,Yd Yf r.2.2.1,Yd Yf r.2.2.2]] w fun e w'=>e=.returned (Yd Yf (Zdd l r))/\Below w.heap.size w w':=by
 have wr:=fun(w':Yh) (p:Below w.heap.size w w')=>Zey w' vr r (hr.below p) I.1 I.2.1;have tw:=ZaP (kb:=(-1,1)) I.1 I.2.1 Zb7;have sc:=fun(w':Yh) (p:Below w.heap.size w w')=>ZcN w' vr r.2.1 r.2.2 (-1,1) (hr.below p) I.1 I.2.1 Zb7;have ex:=fun(w':Yh) (v':Value) (h':ZA w' v l) (h2:Za w' v' (ZbD (if r.1=1 then 2 else 1) r).2.1)=>Zlj w' v v' l (ZbD (if r.1=1 then 2 else 1) r) h' hw hl h2 (Zfr I (by split<;>decide));obtain⟨L,J,C,D⟩:=r;unfold ZbD at ex;dsimp only at *;obtain⟨N,Q,rfl⟩:=Zc hr;obtain⟨A,c,_,e,_⟩:=id h;subst e;have a:=below_alloc1 w (Yg #[Yd Yf L,Yc N J.length Q,Yd Yf C,Yd Yf D] 39);have BB:=Blk.start w #[Yd Yf L,Yc N J.length Q,Yd Yf C,Yd Yf D] 39;have x:=zh (zi a BB);have H:=zh sc;have TW:=zh tw;generalize hP:Zh J (C,D) (-1,1)=P at *;obtain⟨M,⟨m1,m2⟩,er⟩:=P;dsimp only at *;clear sc tw a BB;cases hwr:ZU (L,J,C,D)with
 |true=>
  rw[hwr]at wr;have O:=zh wr;have E:=zh (show Zdd l (L,J,C,D)=2 from by unfold Zdd;rw[Yo hwr]);clear wr hwr h hw hr I ex Z hl;generalize J.length=Y at *;generalize l.length=n at *;go_enter Tryz.func14,Tryz.ntmps14;go_upto_region 1 with fail;generalize k:w.heap.size=G at *;generalize w.alloc (Yg #[Yd Yf L,Yc N Y Q,Yd Yf C,Yd Yf D] 39)=w0 at *;have r0:=x.out.2.cell 0;have V:=x.out.2.cell 1;have W:=x.out.2.cell 2;have X:=x.out.2.cell 3;go_wp2_with (go_at_call 28;go_fit (O.out _ x.out.1);rintro e1 w1 ⟨rfl,B⟩);go_ret;exact⟨by rw[E.out];rfl,by rw[k];exact ZF k x.out.1 B⟩
 |false=>
 rw[hwr]at wr;have O:=zh wr;have HG:=zh (show Zdd l (L,J,C,D)=Zfe (ZcK (l++[(if L=1 then 2 else 1,M,m1,m2)])).2 from by unfold Zdd;rw[Yn (by rw[hwr];simp)];unfold ZbD;dsimp only;rw[hP]);have y:=zh ex;have HW:=zh (fun(w':Yh) (p:Below w.heap.size w w')=>h.below p);clear wr hwr h hw hr I ex hl hP;generalize J.length=Y at *;generalize l.length=n at *;go_enter Tryz.func14,Tryz.ntmps14;go_upto_region 1 with fail;generalize k:w.heap.size=G at *;generalize w.alloc (Yg #[Yd Yf L,Yc N Y Q,Yd Yf C,Yd Yf D] 39)=w0 at *;have r0:=x.out.2.cell 0;have V:=x.out.2.cell 1;have W:=x.out.2.cell 2;have X:=x.out.2.cell 3;go_upto_region 3 with(go_at_call 28;go_fit (O.out _ x.out.1);rintro e1 w1 ⟨rfl,B⟩)
 have U:=zh (zi (ZF k x.out.1 B) (x.out.2.keep B));clear r0 V W X B;generalize bm:w1=u at *;have V:=U.out.2.cell 1;have W:=U.out.2.cell 2;have X:=U.out.2.cell 3;have H:=zh (fun(w':Yh) (p:Below u.heap.size u w')=>H.out w' (ZF k U.out.1 p));go_cut [5,6]from 7 to 42 (fun v5 v6 wx=>ZfM u M m1 m2 v5 wx)
 case first=>
  have j:=zh (show ZcQ (fun w'=>((w'.cell? ⟨G,1,Yb⟩=Ya (Yc N Y Q)/\w'.cell? ⟨G,2,Yb⟩=Ya (Yd Yf C))/\w'.cell? ⟨G,3,Yb⟩=Ya (Yd Yf D))/\Below u.heap.size u w')from Zx (Zx (Zx (Zu _ _) (Zu _ _)) (Zu _ _)) (ZbO u));have HS:((u.drew.cell? ⟨G,1,Yb⟩=Ya (Yc N Y Q)/\u.drew.cell? ⟨G,2,Yb⟩=Ya (Yd Yf C))/\u.drew.cell? ⟨G,3,Yb⟩=Ya (Yd Yf D))/\Below u.heap.size u u.drew:=⟨⟨⟨V,W⟩,X⟩,Zn _⟩
  clear V W X;refine wp_region_noPanic ?_;refine wp_region_held_drew (S:=(fun w'=>((w'.cell? ⟨G,1,Yb⟩=Ya (Yc N Y Q)/\w'.cell? ⟨G,2,Yb⟩=Ya (Yd Yf C))/\w'.cell? ⟨G,3,Yb⟩=Ya (Yd Yf D))/\Below u.heap.size u w')) (by kernel_rfl) HS (fun f=>?_);clear HS;refine tk 0 rfl ?_;refine tk 1 rfl ?_;(try simp only[cl,Act.put]);refine wpAnyH_ready (rs:=[2,7]) (by kernel_rfl) (by simp) (AllReadyH.cons (o:=_) rfl (fun K i=>?_) (AllReadyH.cons (o:=_) rfl (fun K i=>?_) AllReadyH.nil))
  rotate_left
  go_simp
  (first|refine i.out _ _ (Zbh j.out (by with_reducible assumption)) (fun d=>?_)|refine i.out _ _ (j.out _ _ (below_alloc1 _ _) (by with_reducible assumption)) (fun d=>?_))
  clear i K;(try dsimp only at d)
  (first|have m:=zh (ZbB d)|have m:=zh (Zbg d))
  have g:=zh f;clear f;have f:=d;clear d;(try simp only[cl,Act.put]);refine rd 2 rfl fun K i=>?_
  rotate_right
  all_goals
   go_simp
   (first
    |(go_at_call 30;go_fit (Zbl _ _);rintro e5 w5 ⟨rfl,p⟩;(try have m:=zh (m.out.keep p)))
    |(go_at_call 29;go_fit (H.out _ (ZG (by with_reducible assumption)));rintro e6 w6 ⟨v6,rfl,t,p,z⟩;obtain⟨A6,c6,rfl⟩:=Zc t;(try (have HF:=zh (Off.fresh (l:=M) (S:=fun b=>b=_) z (fun b q=>by rw[q];exact m.out.F.lt));have m:=zh (m.out.keep p)));have HV:=zh t;clear t z))
   go_wp2_with fail;refine i.out _ _ (j.out _ _ p (by with_reducible assumption)) (fun d=>?_);clear i K f p;have f:=d;clear d;(try simp only[cl,Act.put])
  all_goals (try (have _:=m.out;refine rd 3 rfl fun K i=>?_))
  refine wpAnyH_ready (rs:=[3,7]) (by kernel_rfl) (by simp) (AllReadyH.cons (o:=_) rfl (fun K i=>?_) (AllReadyH.cons (o:=_) rfl (fun K i=>?_) AllReadyH.nil))
  rotate_left
  go_simp
  (first|refine i.out _ _ (Zbh j.out (by with_reducible assumption)) (fun d=>?_)|refine i.out _ _ (j.out _ _ (below_alloc1 _ _) (by with_reducible assumption)) (fun d=>?_))
  clear i K;(try dsimp only at d)
  (first|have m:=zh (ZbB d)|have m:=zh (Zbg d))
  have g:=zh f;clear f;have f:=d;clear d;(try simp only[cl,Act.put]);refine rd 3 rfl fun K i=>?_
  rotate_right
  all_goals
   go_simp
   (first
    |(go_at_call 30;go_fit (Zbl _ _);rintro e5 w5 ⟨rfl,p⟩;(try have m:=zh (m.out.keep p)))
    |(go_at_call 29;go_fit (H.out _ (ZG (by with_reducible assumption)));rintro e6 w6 ⟨v6,rfl,t,p,z⟩;obtain⟨A6,c6,rfl⟩:=Zc t;(try (have HF:=zh (Off.fresh (l:=M) (S:=fun b=>b=_) z (fun b q=>by rw[q];exact m.out.F.lt));have m:=zh (m.out.keep p)));have HV:=zh t;clear t z))
   go_wp2_with fail;refine i.out _ _ (j.out _ _ p (by with_reducible assumption)) (fun d=>?_);clear i K f p;have f:=d;clear d;(try simp only[cl,Act.put])
  all_goals
   refine tk 4 rfl ?_;refine tk 5 rfl ?_;refine tk 6 rfl ?_;(try simp only[cl,Act.put])
  refine rd 7 rfl fun K i=>?_;go_simp
  (first|refine i.out _ _ (Zbh j.out (by with_reducible assumption)) (fun d=>?_)|refine i.out _ _ (j.out _ _ (below_alloc1 _ _) (by with_reducible assumption)) (fun d=>?_))
  clear i K;(try dsimp only at d)
  (first|have m:=zh (ZbB d)|have m:=zh (Zbg d))
  have g:=zh f;clear f;have f:=d;clear d;(try simp only[cl,Act.put])
  all_goals
   refine rd 8 rfl fun K i=>?_;obtain⟨⟨h0,h1,h2,h3,h4,h5,h6⟩,h7,h8⟩:=m.out;clear h7 h8;go_simp;clear h0 h1 h2 h3 h4 h5 h6
   (first
    |refine i.out _ _ (j.out _ _ (below_alloc1 _ _) g.out) (fun d=>?_)
    |refine i.out _ _ (j.out _ _ (m.out.fill _ _ _).1 g.out) (fun d=>?_))
   clear i K f;(try dsimp only at d);have f:=d;clear d;(try simp only[cl,Act.put]);refine tk 9 rfl ?_;(try simp only[cl,Act.put]);refine wpAnyH_done (by kernel_rfl) ?_ _;refine NoPanic.normal ?_;go_wp2_with fail;go_meet
   case rel=>first|exact ZgD g.out.2 37 HV.out|exact Zfu g.out.2 m.out HV.out HF.out
 case rest=>
  obtain⟨c5,A6,c6,rfl,F6,r6,T⟩:=hcut;have B4:=zh (zi (ZF k U.out.1 T) (U.out.2.keep T));clear V W X T;have r0:=B4.out.2.cell 0;have k0:=F6.k0;have k1:=F6.k1;have k2:=F6.k2;have HH:=zh (HW.out _ B4.out.1);rcases Z with rfl|rfl
  ·have s:=y.out;simp only[↓reduceIte]at s;have y:=zh s;clear s;go_wp2_with (go_at_call 31;go_fit (y.out _ _ HH.out r6);rintro e7 w7 ⟨rfl,R⟩);go_ret;exact⟨by rw[HG.out];rfl,by rw[k];exact ZF k B4.out.1 R⟩
  ·have s:=y.out;rw[Yn (by decide)]at s;have y:=zh s;clear s;go_wp2_with (go_at_call 31;go_fit (y.out _ _ HH.out r6);rintro e7 w7 ⟨rfl,R⟩);go_ret;exact⟨by rw[HG.out];rfl,by rw[k];exact ZF k B4.out.1 R⟩
theorem Zli (w:Yh) (v vr:Value) (l:List Rw) (r:Rw) (h:ZA w v l) (hw:∀r∈l,Zac r) (hl:l.length<=1000) (hr:Za w vr r.2.1) (z:Zac r) (aq:r.1=0) (ac:ZU r=false) :
  Calls Tryz.prog 14 #[v,.agg #[Yd Yf r.1,vr,Yd Yf r.2.2.1,Yd Yf r.2.2.2]] w fun e w'=>e=.returned (Yd Yf (if Zdd l (1,r.2)=0 then Zdd l (ZbD 1 r)else Zdd l (1,r.2)))/\Below w.heap.size w w':=by
 have wr:=fun(w':Yh) (m:Below w.heap.size w w')=>Zey w' vr r (hr.below m) z.1 z.2.1;have tw:=ZaP (kb:=(-1,1)) z.1 z.2.1 Zb7;have sc:=fun(w':Yh) (m:Below w.heap.size w w')=>ZcN w' vr r.2.1 r.2.2 (-1,1) (hr.below m) z.1 z.2.1 Zb7;have e1:=fun(w':Yh) (v':Value) (h':ZA w' v l) (X:Za w' v' r.2.1)=>Zfx w' v v' l (1,r.2) h' hw hl X ⟨z.1,z.2.1,(show -9223372036854775808<=(1:Int)/\(1:Int)<=9223372036854775807 by decide)⟩ (.inl rfl);have e2:=fun(w':Yh) (v':Value) (h':ZA w' v l) (X:Za w' v' (ZbD 1 r).2.1)=>Zfx w' v v' l (ZbD 1 r) h' hw hl X (Zfr z (by decide)) (.inl rfl);obtain⟨g1,Z⟩:∃g1,g1=Zdd l (1,r.2):=⟨_,rfl⟩
 obtain⟨g2,aa⟩:∃g2,g2=Zdd l (ZbD 1 r):=⟨_,rfl⟩
 rw[<-Z]at e1⊢;rw[<-aa]at e2⊢;clear Z aa;unfold ZbD at e2;obtain⟨xo,xl,H,I⟩:=r;dsimp only at *;obtain⟨J,N,rfl⟩:=Zc hr;obtain⟨A,c,_,e,_⟩:=id h;subst e;have a:=below_alloc1 w (Yg #[Yd Yf 0,Yc J xl.length N,Yd Yf H,Yd Yf I] 39);have BB:=Blk.start w #[Yd Yf 0,Yc J xl.length N,Yd Yf H,Yd Yf I] 39;have C:=zh (zi a BB);have x:=zh sc;have TW:=zh tw;generalize Zh xl (H,I) (-1,1)=P at *;obtain⟨M,⟨m1,m2⟩,er⟩:=P;dsimp only at *;clear sc tw a BB;subst aq;rw[ac]at wr;have W:=zh wr;have E1:=zh e1;have E2:=zh e2;have HW:=zh (fun(w':Yh) (m:Below w.heap.size w w')=>zi (h.below m) (hr.below m));obtain⟨U,ad⟩:∃U,xl.length=U:=⟨_,rfl⟩
 have bf:=zh ad;clear wr ac h hw hr z e1 e2 hl;rw[ad]at x C HW W⊢;generalize l.length=n at *;go_enter Tryz.func14,Tryz.ntmps14;go_upto_region 1 with fail;generalize k:w.heap.size=B at *;generalize w.alloc (Yg #[Yd Yf 0,Yc J U N,Yd Yf H,Yd Yf I] 39)=w0 at *;have r0:=C.out.2.cell 0;have Q:=C.out.2.cell 1;have R:=C.out.2.cell 2;have T:=C.out.2.cell 3;go_upto_region 3 with(go_at_call 28;go_fit (W.out _ C.out.1);rintro e1 w1 ⟨rfl,E⟩)
 have L:=zh (zi (ZF k C.out.1 E) (C.out.2.keep E));clear r0 Q R T E;generalize br:w1=u at *;have Q:=L.out.2.cell 1;have R:=L.out.2.cell 2;have T:=L.out.2.cell 3;have x:=zh (fun(w':Yh) (m:Below u.heap.size u w')=>x.out w' (ZF k L.out.1 m));go_cut [5,6]from 7 to 42 (fun v5 v6 wx=>ZfM u M m1 m2 v5 wx)
 case first=>
  have j:=zh (show ZcQ (fun w'=>((w'.cell? ⟨B,1,Yb⟩=Ya (Yc J U N)/\w'.cell? ⟨B,2,Yb⟩=Ya (Yd Yf H))/\w'.cell? ⟨B,3,Yb⟩=Ya (Yd Yf I))/\Below u.heap.size u w')from Zx (Zx (Zx (Zu _ _) (Zu _ _)) (Zu _ _)) (ZbO u));have HS:((u.drew.cell? ⟨B,1,Yb⟩=Ya (Yc J U N)/\u.drew.cell? ⟨B,2,Yb⟩=Ya (Yd Yf H))/\u.drew.cell? ⟨B,3,Yb⟩=Ya (Yd Yf I))/\Below u.heap.size u u.drew:=⟨⟨⟨Q,R⟩,T⟩,Zn _⟩
  clear Q R T;refine wp_region_noPanic ?_;refine wp_region_held_drew (S:=(fun w'=>((w'.cell? ⟨B,1,Yb⟩=Ya (Yc J U N)/\w'.cell? ⟨B,2,Yb⟩=Ya (Yd Yf H))/\w'.cell? ⟨B,3,Yb⟩=Ya (Yd Yf I))/\Below u.heap.size u w')) (by kernel_rfl) HS (fun f=>?_);clear HS;refine tk 0 rfl ?_;refine tk 1 rfl ?_;(try simp only[cl,Act.put]);refine wpAnyH_ready (rs:=[2,7]) (by kernel_rfl) (by simp) (AllReadyH.cons (o:=_) rfl (fun K i=>?_) (AllReadyH.cons (o:=_) rfl (fun K i=>?_) AllReadyH.nil))
  rotate_left
  go_simp
  (first|refine i.out _ _ (Zbh j.out (by with_reducible assumption)) (fun d=>?_)|refine i.out _ _ (j.out _ _ (below_alloc1 _ _) (by with_reducible assumption)) (fun d=>?_))
  clear i K;(try dsimp only at d)
  (first|have p:=zh (ZbB d)|have p:=zh (Zbg d))
  have g:=zh f;clear f;have f:=d;clear d;(try simp only[cl,Act.put]);refine rd 2 rfl fun K i=>?_
  rotate_right
  all_goals
   go_simp
   (first
    |(go_at_call 30;go_fit (Zbl _ _);rintro e5 w5 ⟨rfl,m⟩;(try have p:=zh (p.out.keep m)))
    |(go_at_call 29;go_fit (x.out _ (ZG (by with_reducible assumption)));rintro e6 w6 ⟨v6,rfl,t,m,y⟩;obtain⟨A6,c6,rfl⟩:=Zc t;(try (have HF:=zh (Off.fresh (l:=M) (S:=fun b=>b=_) y (fun b q=>by rw[q];exact p.out.F.lt));have p:=zh (p.out.keep m)));have HV:=zh t;clear t y))
   go_wp2_with fail;refine i.out _ _ (j.out _ _ m (by with_reducible assumption)) (fun d=>?_);clear i K f m;have f:=d;clear d;(try simp only[cl,Act.put])
  all_goals (try (have _:=p.out;refine rd 3 rfl fun K i=>?_))
  refine wpAnyH_ready (rs:=[3,7]) (by kernel_rfl) (by simp) (AllReadyH.cons (o:=_) rfl (fun K i=>?_) (AllReadyH.cons (o:=_) rfl (fun K i=>?_) AllReadyH.nil))
  rotate_left
  go_simp
  (first|refine i.out _ _ (Zbh j.out (by with_reducible assumption)) (fun d=>?_)|refine i.out _ _ (j.out _ _ (below_alloc1 _ _) (by with_reducible assumption)) (fun d=>?_))
  clear i K;(try dsimp only at d)
  (first|have p:=zh (ZbB d)|have p:=zh (Zbg d))
  have g:=zh f;clear f;have f:=d;clear d;(try simp only[cl,Act.put]);refine rd 3 rfl fun K i=>?_
  rotate_right
  all_goals
   go_simp
   (first
    |(go_at_call 30;go_fit (Zbl _ _);rintro e5 w5 ⟨rfl,m⟩;(try have p:=zh (p.out.keep m)))
    |(go_at_call 29;go_fit (x.out _ (ZG (by with_reducible assumption)));rintro e6 w6 ⟨v6,rfl,t,m,y⟩;obtain⟨A6,c6,rfl⟩:=Zc t;(try (have HF:=zh (Off.fresh (l:=M) (S:=fun b=>b=_) y (fun b q=>by rw[q];exact p.out.F.lt));have p:=zh (p.out.keep m)));have HV:=zh t;clear t y))
   go_wp2_with fail;refine i.out _ _ (j.out _ _ m (by with_reducible assumption)) (fun d=>?_);clear i K f m;have f:=d;clear d;(try simp only[cl,Act.put])
  all_goals
   refine tk 4 rfl ?_;refine tk 5 rfl ?_;refine tk 6 rfl ?_;(try simp only[cl,Act.put])
  refine rd 7 rfl fun K i=>?_;go_simp
  (first|refine i.out _ _ (Zbh j.out (by with_reducible assumption)) (fun d=>?_)|refine i.out _ _ (j.out _ _ (below_alloc1 _ _) (by with_reducible assumption)) (fun d=>?_))
  clear i K;(try dsimp only at d)
  (first|have p:=zh (ZbB d)|have p:=zh (Zbg d))
  have g:=zh f;clear f;have f:=d;clear d;(try simp only[cl,Act.put])
  all_goals
   refine rd 8 rfl fun K i=>?_;obtain⟨⟨h0,O,X,h3,h4,h5,h6⟩,h7,h8⟩:=p.out;clear h7 h8;go_simp;clear h0 O X h3 h4 h5 h6
   (first
    |refine i.out _ _ (j.out _ _ (below_alloc1 _ _) g.out) (fun d=>?_)
    |refine i.out _ _ (j.out _ _ (p.out.fill _ _ _).1 g.out) (fun d=>?_))
   clear i K f;(try dsimp only at d);have f:=d;clear d;(try simp only[cl,Act.put]);refine tk 9 rfl ?_;(try simp only[cl,Act.put]);refine wpAnyH_done (by kernel_rfl) ?_ _;refine NoPanic.normal ?_;go_wp2_with fail;go_meet
   case rel=>first|exact ZgD g.out.2 37 HV.out|exact Zfu g.out.2 p.out HV.out HF.out
 case rest=>
  obtain⟨c5,A6,c6,rfl,F6,r6,G⟩:=hcut;have D:=zh (zi (ZF k L.out.1 G) (L.out.2.keep G));clear Q R T G;have r0:=D.out.2.cell 0;have k0:=F6.k0;have k1:=F6.k1;have k2:=F6.k2;have V:=zh (HW.out _ D.out.1);have Q:=D.out.2.cell 1;have R:=D.out.2.cell 2;have T:=D.out.2.cell 3;by_cases O:g1=0
  ·subst O
   go_wp2_with (go_at_call 14;(first
    |go_fit (E1.out _ _ V.out.1 V.out.2);rintro e7 w7 ⟨rfl,s⟩;have am:=zh (V.out.1.below s);have R6:=zh (r6.below s);have B5:=zh (ZF k D.out.1 s);have G6:=F6.keep s;clear k0 k1 k2 s;have k0:=G6.k0;have k1:=G6.k1;have k2:=G6.k2
    |go_fit (E2.out _ _ am.out R6.out);rintro e8 w8 ⟨rfl,Y⟩))
   go_ret;exact⟨by first|rfl|(rw[Yo rfl];rfl),by first|exact ZF k B5.out Y|(rw[k];exact ZF k B5.out Y)⟩
  ·have H1:=zh O;have ne:(g1 != 0)=true:=by simpa using O
   clear O;go_wp2_with (go_at_call 14;go_fit (E1.out _ _ V.out.1 V.out.2);rintro e7 w7 ⟨rfl,s⟩);go_ret;exact⟨by first|rfl|(rw[Yn H1.out];rfl),by first|exact ZF k D.out.1 s|(rw[k];exact ZF k D.out.1 s)⟩
theorem Zmu (w:Yh) (v a:Value) (l:List Rw) (r:Rw) (h:ZA w v l) (j:∀r∈l,Zac r) (i:l.length<=1000) (c:Za w a r.2.1) (d:Zac r) :
  Calls Tryz.prog 14 #[v,.agg #[Yd Yf r.1,a,Yd Yf r.2.2.1,Yd Yf r.2.2.2]] w fun e w'=>e=.returned (Yd Yf (Zfw l r))/\Below w.heap.size w w':=by
 unfold Zfw;cases hwr:ZU r with
 |true=>
  rw[Yo rfl];exact Zmv w v a l r h c d hwr
 |false=>
  rw[Yn (by simp)];by_cases b:r.1=0
  ·rw[Yo b];exact Zli w v a l r h j i c d b hwr
  ·rw[Yn b];refine Zfx w v a l r h j i c d ?_;unfold ZU at hwr;by_cases f:r.1=1
   ·exact .inl f
   ·by_cases g:r.1=2
    ·exact .inr g
    ·have a0:(r.1==0)=false:=by simpa using b
     have k:(r.1==1)=false:=by simpa using f
     have a2:(r.1==2)=false:=by simpa using g
     rw[a0,k,a2]at hwr;cases hwr
end Go.Proofs.YtbfnnolakggbfaaGreatDoor
