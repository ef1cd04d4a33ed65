import Derived.Deep.DeepFit
import Derived.Test.YtdkegpkfjgloeaaGreatDoorQAH
set_option maxRecDepth 100000
set_option maxHeartbeats 8000000
open Option renaming some → Ya, none → Yb
open Go.Value renaming slice → Yc, int → Yd, pointer → Ye
open Go.IntKind renaming i64 → Yf
open Go.Obj renaming cells → Yg
open Go renaming World → Yh
open Go.RowKit
namespace Go.Proofs.YtdkegpkfjgloeaaGreatDoor
theorem Zkz {w:Yh} {A:Option Addr} {c m:Nat} {v:Value} {l:List Int} (h:Za7 w v l) (e:v=Yc A l.length c) (hm:m<=l.length) :
  Za7 w (Yc A m c) (l.take m)/\Za7 w (.slice (if c=m then A else A.map (·.add m)) (l.length-m) (c-m)) (l.drop m):=by
 obtain⟨q,r,f,n,o,g⟩:=h;rw[e]at f;injection f with a _ b;subst a b;refine⟨⟨A,c,by rw[List.length_take,Nat.min_eq_left hm],by rw[List.length_take];omega,o,?_⟩,⟨_,c-m,by rw[List.length_drop],by rw[List.length_drop];omega,by omega,?_⟩⟩
 ·rw[List.length_take,Nat.min_eq_left hm];refine⟨by simp;omega,fun hn=>?_⟩;obtain⟨i,e,p,hc⟩:=g.2 (by omega);refine⟨i,e,p,fun j u d=>hc j u ?_⟩;rw[List.map_take,List.getElem?_take]at d
  split at d
  ·exact d
  ·cases d
 ·have:=g.cut (k:=m) (cap:=c) hm n;rw[Nat.mul_one]at this;rw[List.length_drop,List.map_drop];exact this
theorem Znm (w:Yh) (v:Value) (ns:List Nd) (va vb vc:Value) (kd:Int) (p:List (List UInt8)) (c g:List Int) (s:Int) (hN:Zi w v ns) (hx:ZU w ((va,vb,vc),⟨kd,p,c,g,s⟩)) (hk:ZaB g ns.length) (J:Zo ns ⟨kd,p,c,g,s⟩=true) :
  Calls Tryz.prog 56 #[v,ndV ((va,vb,vc),⟨kd,p,c,g,s⟩)] w fun e w'=>e=.returned (.bool true)/\Below w.heap.size w w':=by
 obtain⟨h1,h2,h3⟩:=id hx;dsimp only at h1 h2 h3;have AR:=zh (fun(wr:Yh) (i:Below w.heap.size w wr) (vf:Value) (ts:List Tst) (hF:ZfR wr vf ts) (h:Zj ns g (ts.map Tst.f)=true)=>Zkg wr v vc vf ns g ts (hN.below i) (h3.below i) hF hk h);have am:=zh (fun(wr:Yh) (i:Below w.heap.size w wr) (u:Value) (t:Tst) (hu:Za8 wr t u) (h:Zat ns g t.f=true)=>Zmh wr v vc u ns g t (hN.below i) (h3.below i) hu hk h);have M:=zh (fun(wr:Yh) (i:Below w.heap.size w wr) (a b:Nat) (h:Zr ⟨kd,p,c,g,s⟩ a b=true)=>ZoH wr _ a b (hx.below i) h);have K3:=zh (zi h3 (zi hN hk));have ba:=zh (fun(wr:Yh) (i:Below w.heap.size w wr) (a b:Nat) (h:Zr ⟨kd,p,c,g,s⟩ a b=false)=>ZoH wr _ a b (hx.below i) h);have bp:=zh (fun(wr:Yh) (i:Below w.heap.size w wr) (vf:Value) (ts:List Tst) (hF:ZfR wr vf ts) (h:Zj ns g (ts.map Tst.f)=false)=>Zkg wr v vc vf ns g ts (hN.below i) (h3.below i) hF hk h);have PT:=zh (fun(J:c.length=3) (hq:Zfa ns ⟨kd,p,c,g,s⟩=true) (wr:Yh) (i:Below w.heap.size w wr)=>ZqG wr v ns _ _ _ kd p c g s (hN.below i) (hx.below i) hk J hq);have CT:=zh (fun(J:c.length=3) (hq:ZcU ns ⟨kd,p,c,g,s⟩=true) (wr:Yh) (i:Below w.heap.size w wr)=>Zko wr v ns _ _ _ kd p c g s (hN.below i) (hx.below i) hk J hq);obtain⟨O,Q,rfl,_⟩:=h1;obtain⟨P,R,rfl,_,_,bs⟩:=h2;have R2:=zh bs;clear bs;obtain⟨G,E,rfl,_⟩:=h3;unfold ndV at M ba PT CT⊢;dsimp only at M ba PT CT⊢;clear hx hN hk;have z:=zh (show Stb (fun w'=>(w'.cell? ⟨w.heap.size,0,Yb⟩=Ya (Yd Yf kd)/\w'.cell? ⟨w.heap.size,1,Yb⟩=Ya (Yc O p.length Q)/\w'.cell? ⟨w.heap.size,2,Yb⟩=Ya (Yc P c.length R)/\w'.cell? ⟨w.heap.size,3,Yb⟩=Ya (Yc G g.length E)/\w'.cell? ⟨w.heap.size,4,Yb⟩=Ya (Yd Yf s))/\Below w.heap.size w w')from Zaj (Zaj (ZV _ _) (Zaj (ZV _ _) (Zaj (ZV _ _) (Zaj (ZV _ _) (ZV _ _))))) (ZcG w));go_enter Tryz.func56,Tryz.ntmps56;go_upto_region 1 with fail;have bg:((w.alloc (Yg #[Yd Yf kd,Yc O p.length Q,Yc P c.length R,Yc G g.length E,Yd Yf s] 36)).cell? ⟨w.heap.size,0,Yb⟩=Ya (Yd Yf kd)/\(w.alloc (Yg #[Yd Yf kd,Yc O p.length Q,Yc P c.length R,Yc G g.length E,Yd Yf s] 36)).cell? ⟨w.heap.size,1,Yb⟩=Ya (Yc O p.length Q)/\(w.alloc (Yg #[Yd Yf kd,Yc O p.length Q,Yc P c.length R,Yc G g.length E,Yd Yf s] 36)).cell? ⟨w.heap.size,2,Yb⟩=Ya (Yc P c.length R)/\(w.alloc (Yg #[Yd Yf kd,Yc O p.length Q,Yc P c.length R,Yc G g.length E,Yd Yf s] 36)).cell? ⟨w.heap.size,3,Yb⟩=Ya (Yc G g.length E)/\(w.alloc (Yg #[Yd Yf kd,Yc O p.length Q,Yc P c.length R,Yc G g.length E,Yd Yf s] 36)).cell? ⟨w.heap.size,4,Yb⟩=Ya (Yd Yf s))/\Below w.heap.size w (w.alloc (Yg #[Yd Yf kd,Yc O p.length Q,Yc P c.length R,Yc G g.length E,Yd Yf s] 36)):=⟨⟨(Blk.start w _ _).cell 0,(Blk.start w _ _).cell 1,(Blk.start w _ _).cell 2,(Blk.start w _ _).cell 3,(Blk.start w _ _).cell 4⟩,below_alloc1 w _⟩
 generalize(w.alloc (Yg #[Yd Yf kd,Yc O p.length Q,Yc P c.length R,Yc G g.length E,Yd Yf s] 36))=w1 at *;have HS:(w1.drew.cell? ⟨w.heap.size,0,Yb⟩=Ya (Yd Yf kd)/\w1.drew.cell? ⟨w.heap.size,1,Yb⟩=Ya (Yc O p.length Q)/\w1.drew.cell? ⟨w.heap.size,2,Yb⟩=Ya (Yc P c.length R)/\w1.drew.cell? ⟨w.heap.size,3,Yb⟩=Ya (Yc G g.length E)/\w1.drew.cell? ⟨w.heap.size,4,Yb⟩=Ya (Yd Yf s))/\Below w.heap.size w w1.drew:=⟨bg.1,bg.2.drew⟩
 clear bg;refine wp_region_noPanic ?_;refine wp_region_held_drew (S:=(fun w'=>(w'.cell? ⟨w.heap.size,0,Yb⟩=Ya (Yd Yf kd)/\w'.cell? ⟨w.heap.size,1,Yb⟩=Ya (Yc O p.length Q)/\w'.cell? ⟨w.heap.size,2,Yb⟩=Ya (Yc P c.length R)/\w'.cell? ⟨w.heap.size,3,Yb⟩=Ya (Yc G g.length E)/\w'.cell? ⟨w.heap.size,4,Yb⟩=Ya (Yd Yf s))/\Below w.heap.size w w')) (by kernel_rfl) HS (fun d=>?_);clear HS;refine tk 0 rfl ?_;refine tk 1 rfl ?_;refine tk 2 rfl ?_;(try simp only[cl,Act.put]);refine rd 3 rfl fun K F=>?_;go_simp;refine F.out _ _ ?_ (fun l=>?_)
 ·exact z.out _ _ (below_alloc1 _ _) (by with_reducible assumption)
 clear F K d;have d:=l;clear l;(try simp only[cl,Act.put]);refine rd 4 rfl fun K F=>?_;go_simp;(go_at_call 72;go_fit (Zdq _ _ _);rintro e5 w5 ⟨⟨u,rfl,hT⟩,i⟩;obtain⟨U,Au,cu,rfl,_,_⟩:=id hT);go_wp2_with fail;refine F.out _ _ (z.out _ _ i (by with_reducible assumption)) (fun l=>?_);clear F K d i;have d:=l;clear l;(try simp only[cl,Act.put]);refine tk 5 rfl ?_;refine tk 6 rfl ?_;(try simp only[cl,Act.put]);refine wpAnyH_done (by kernel_rfl) ?_ _;refine NoPanic.normal ?_;have T3:=zh hT;have H3:=zh (Za d);have HH:=zh d;clear hT;obtain⟨⟨g0,g1,g2,g3,g4⟩,_⟩:=d;have ce:=ZkN J;rcases ce with rfl|rfl|rfl|rfl|rfl|rfl|rfl|rfl|rfl|rfl|rfl|rfl|rfl|rfl|rfl|rfl|rfl|rfl|rfl|rfl|rfl|rfl|rfl|rfl
 ·obtain⟨C,D⟩:Zr ⟨0,p,c,g,s⟩ 0 0=true/\Zat ns g (isB [1,4])=true:=by simpa only[Bool.and_eq_true,Bool.or_eq_true,decide_eq_true_eq,and_assoc]using show(Zr ⟨0,p,c,g,s⟩ 0 0&&Zat ns g (isB [1,4]))=true from J
  have r:=zh (show ∀wr:Yh,Below w.heap.size w wr->Calls Tryz.prog 73 #[.agg #[Yd Yf 0,Yc O p.length Q,Yc P c.length R,Yc G g.length E,Yd Yf s],Yd Yf 0,Yd Yf 0] wr fun e w'=>e=.returned (.bool true)/\Below wr.heap.size wr w' from fun wr i=>M.out wr i 0 0 C);have QA:=zh (show Zat ns g (Tst.is [1,4]).f=true from D);clear C D J;go_upto_region 4 with fail;have HS:(w5.drew.cell? ⟨w.heap.size,0,Yb⟩=Ya (Yd Yf 0)/\w5.drew.cell? ⟨w.heap.size,1,Yb⟩=Ya (Yc O p.length Q)/\w5.drew.cell? ⟨w.heap.size,2,Yb⟩=Ya (Yc P c.length R)/\w5.drew.cell? ⟨w.heap.size,3,Yb⟩=Ya (Yc G g.length E)/\w5.drew.cell? ⟨w.heap.size,4,Yb⟩=Ya (Yd Yf s))/\Below w.heap.size w w5.drew:=⟨HH.out.1,H3.out.drew⟩
  clear HH g0 g1 g2 g3 g4;refine wp_region_noPanic ?_;refine wp_region_held_drew (S:=(fun w'=>(w'.cell? ⟨w.heap.size,0,Yb⟩=Ya (Yd Yf 0)/\w'.cell? ⟨w.heap.size,1,Yb⟩=Ya (Yc O p.length Q)/\w'.cell? ⟨w.heap.size,2,Yb⟩=Ya (Yc P c.length R)/\w'.cell? ⟨w.heap.size,3,Yb⟩=Ya (Yc G g.length E)/\w'.cell? ⟨w.heap.size,4,Yb⟩=Ya (Yd Yf s))/\Below w.heap.size w w')) (by kernel_rfl) HS (fun d=>?_);clear HS;refine tkk 0 rfl ?_;(try simp only[cl,Act.put]);refine rd 1 rfl fun K F=>?_;go_simp
  (first
   |(go_at_call 73;go_fit (r.out _ (Za (by with_reducible assumption)));rintro e6 L ⟨rfl,i⟩)
   |(go_at_call 72;go_fit (ZfO _ _ _ _);rintro e7 w7 ⟨⟨u2,rfl,I⟩,i⟩)
   |(go_at_call 74;go_fit (am.out _ (Za (by with_reducible assumption)) _ _ I QA.out);rintro e8 w8 ⟨rfl,i⟩))
  go_wp2_with fail;refine F.out _ _ (z.out _ _ i (by with_reducible assumption)) (fun l=>?_);clear F K d i;have d:=l;clear l;(try simp only[cl,Act.put]);refine tkk 2 rfl ?_;refine tkk 3 rfl ?_;refine tkk 4 rfl ?_;refine tkk 5 rfl ?_;(try simp only[cl,Act.put]);refine rd 6 rfl fun K F=>?_;go_simp;refine F.out _ _ ?_ (fun l=>?_)
  ·exact z.out _ _ (below_alloc1 _ _) (by with_reducible assumption)
  clear F K d;have d:=l;clear l;(try simp only[cl,Act.put]);refine rd 7 rfl fun K F=>?_;go_simp
  (first
   |(go_at_call 73;go_fit (r.out _ (Za (by with_reducible assumption)));rintro e6 L ⟨rfl,i⟩)
   |(go_at_call 72;go_fit (ZfO _ _ _ _);rintro e7 w7 ⟨⟨u2,rfl,I⟩,i⟩)
   |(go_at_call 74;go_fit (am.out _ (Za (by with_reducible assumption)) _ _ I QA.out);rintro e8 w8 ⟨rfl,i⟩))
  go_wp2_with fail;refine F.out _ _ (z.out _ _ i (by with_reducible assumption)) (fun l=>?_);clear F K d i;have d:=l;clear l;(try simp only[cl,Act.put]);refine rd 8 rfl fun K F=>?_;go_simp
  (first
   |(go_at_call 73;go_fit (r.out _ (Za (by with_reducible assumption)));rintro e6 L ⟨rfl,i⟩)
   |(go_at_call 72;go_fit (ZfO _ _ _ _);rintro e7 w7 ⟨⟨u2,rfl,I⟩,i⟩)
   |(go_at_call 74;go_fit (am.out _ (Za (by with_reducible assumption)) _ _ I QA.out);rintro e8 w8 ⟨rfl,i⟩))
  go_wp2_with fail;refine F.out _ _ (z.out _ _ i (by with_reducible assumption)) (fun l=>?_);clear F K d i;have d:=l;clear l;(try simp only[cl,Act.put]);refine tkk 9 rfl ?_;refine tkk 10 rfl ?_;(try simp only[cl,Act.put]);refine wpAnyH_done (by kernel_rfl) ?_ _;refine NoPanic.normal ?_;have B9:=zh (Za d);clear d;go_wp2_with fail;go_ret;exact⟨rfl,B9.out⟩
 ·obtain⟨C,D⟩:Zr ⟨1,p,c,g,s⟩ 1 0=true/\Zat ns g (isB [2,3])=true:=by simpa only[Bool.and_eq_true,Bool.or_eq_true,decide_eq_true_eq,and_assoc]using show(Zr ⟨1,p,c,g,s⟩ 1 0&&Zat ns g (isB [2,3]))=true from J
  have r:=zh (show ∀wr:Yh,Below w.heap.size w wr->Calls Tryz.prog 73 #[.agg #[Yd Yf 1,Yc O p.length Q,Yc P c.length R,Yc G g.length E,Yd Yf s],Yd Yf 1,Yd Yf 0] wr fun e w'=>e=.returned (.bool true)/\Below wr.heap.size wr w' from fun wr i=>M.out wr i 1 0 C);have QA:=zh (show Zat ns g (Tst.is [2,3]).f=true from D);clear C D J;go_upto_region 6 with fail;have HS:(w5.drew.cell? ⟨w.heap.size,0,Yb⟩=Ya (Yd Yf 1)/\w5.drew.cell? ⟨w.heap.size,1,Yb⟩=Ya (Yc O p.length Q)/\w5.drew.cell? ⟨w.heap.size,2,Yb⟩=Ya (Yc P c.length R)/\w5.drew.cell? ⟨w.heap.size,3,Yb⟩=Ya (Yc G g.length E)/\w5.drew.cell? ⟨w.heap.size,4,Yb⟩=Ya (Yd Yf s))/\Below w.heap.size w w5.drew:=⟨HH.out.1,H3.out.drew⟩
  clear HH g0 g1 g2 g3 g4;refine wp_region_noPanic ?_;refine wp_region_held_drew (S:=(fun w'=>(w'.cell? ⟨w.heap.size,0,Yb⟩=Ya (Yd Yf 1)/\w'.cell? ⟨w.heap.size,1,Yb⟩=Ya (Yc O p.length Q)/\w'.cell? ⟨w.heap.size,2,Yb⟩=Ya (Yc P c.length R)/\w'.cell? ⟨w.heap.size,3,Yb⟩=Ya (Yc G g.length E)/\w'.cell? ⟨w.heap.size,4,Yb⟩=Ya (Yd Yf s))/\Below w.heap.size w w')) (by kernel_rfl) HS (fun d=>?_);clear HS;refine tkk 0 rfl ?_;(try simp only[cl,Act.put]);refine rd 1 rfl fun K F=>?_;go_simp
  (first
   |(go_at_call 73;go_fit (r.out _ (Za (by with_reducible assumption)));rintro e6 L ⟨rfl,i⟩)
   |(go_at_call 72;go_fit (ZfO _ _ _ _);rintro e7 w7 ⟨⟨u2,rfl,I⟩,i⟩)
   |(go_at_call 74;go_fit (am.out _ (Za (by with_reducible assumption)) _ _ I QA.out);rintro e8 w8 ⟨rfl,i⟩))
  go_wp2_with fail;refine F.out _ _ (z.out _ _ i (by with_reducible assumption)) (fun l=>?_);clear F K d i;have d:=l;clear l;(try simp only[cl,Act.put]);refine tkk 2 rfl ?_;refine tkk 3 rfl ?_;refine tkk 4 rfl ?_;refine tkk 5 rfl ?_;(try simp only[cl,Act.put]);refine rd 6 rfl fun K F=>?_;go_simp;refine F.out _ _ ?_ (fun l=>?_)
  ·exact z.out _ _ (below_alloc1 _ _) (by with_reducible assumption)
  clear F K d;have d:=l;clear l;(try simp only[cl,Act.put]);refine rd 7 rfl fun K F=>?_;go_simp
  (first
   |(go_at_call 73;go_fit (r.out _ (Za (by with_reducible assumption)));rintro e6 L ⟨rfl,i⟩)
   |(go_at_call 72;go_fit (ZfO _ _ _ _);rintro e7 w7 ⟨⟨u2,rfl,I⟩,i⟩)
   |(go_at_call 74;go_fit (am.out _ (Za (by with_reducible assumption)) _ _ I QA.out);rintro e8 w8 ⟨rfl,i⟩))
  go_wp2_with fail;refine F.out _ _ (z.out _ _ i (by with_reducible assumption)) (fun l=>?_);clear F K d i;have d:=l;clear l;(try simp only[cl,Act.put]);refine rd 8 rfl fun K F=>?_;go_simp
  (first
   |(go_at_call 73;go_fit (r.out _ (Za (by with_reducible assumption)));rintro e6 L ⟨rfl,i⟩)
   |(go_at_call 72;go_fit (ZfO _ _ _ _);rintro e7 w7 ⟨⟨u2,rfl,I⟩,i⟩)
   |(go_at_call 74;go_fit (am.out _ (Za (by with_reducible assumption)) _ _ I QA.out);rintro e8 w8 ⟨rfl,i⟩))
  go_wp2_with fail;refine F.out _ _ (z.out _ _ i (by with_reducible assumption)) (fun l=>?_);clear F K d i;have d:=l;clear l;(try simp only[cl,Act.put]);refine tkk 9 rfl ?_;refine tkk 10 rfl ?_;(try simp only[cl,Act.put]);refine wpAnyH_done (by kernel_rfl) ?_ _;refine NoPanic.normal ?_;have B9:=zh (Za d);clear d;go_wp2_with fail;go_ret;exact⟨rfl,B9.out⟩
 ·obtain⟨C,q3,D⟩:Zr ⟨2,p,c,g,s⟩ 1 1=true/\num ⟨2,p,c,g,s⟩ 0<=1/\Zj ns g []=true:=by simpa only[Bool.and_eq_true,Bool.or_eq_true,decide_eq_true_eq,and_assoc]using show(Zr ⟨2,p,c,g,s⟩ 1 1&&decide (num ⟨2,p,c,g,s⟩ 0<=1)&&Zj ns g [])=true from J
  have A6:=zh (fun(wr:Yh) (B:Below w.heap.size w wr) (T:Za8 wr (.is [7]) (.func (.func 102) #[] #[Ye (Ya ⟨U,0,Yb⟩)]))=>show Calls Tryz.prog 75 #[v,Yc G g.length E,Yc Yb 0 0] wr (fun e w'=>e=.returned (.bool true)/\Below wr.heap.size wr w')from AR.out wr B _ [] (ZeB wr) D);have r:=zh (show ∀wr:Yh,Below w.heap.size w wr->Calls Tryz.prog 73 #[.agg #[Yd Yf 2,Yc O p.length Q,Yc P c.length R,Yc G g.length E,Yd Yf s],Yd Yf 1,Yd Yf 1] wr fun e w'=>e=.returned (.bool true)/\Below wr.heap.size wr w' from fun wr i=>M.out wr i 1 1 C);have ay:=zh C;have J:=(ZfL ay.out).2;dsimp only at J;obtain⟨y,hy⟩:∃y,c[0]? = Ya y:=⟨_,Ym (by omega)⟩
  obtain⟨an,rfl,_⟩:=ints_at R2.out (Below.refl _ _) hy (by omega);have NC:=zh (fun(wr:Yh) (i:Below w.heap.size w wr)=>show wr.cell? an=Ya (Yd Yf y)from by obtain⟨a2,e2,D⟩:=ints_at R2.out i hy (by omega);injection e2 with e2;subst e2;rwa[show an.add 0=an by unfold Addr.add;simp]at D);have i3:(0:Int)<(c.length:Int):=by omega
  clear J;rw[Zdw (n:=(⟨2,p,c,g,s⟩:Nd)) hy]at q3;clear C D J hy ay
  go_wp2_with (first
   |(go_at_call 73;go_fit (r.out _ H3.out);rintro e6 L ⟨rfl,j⟩;have H:=zh (z.out _ _ j HH.out);have T6:=zh (T3.out.below j);have A:=zh (Za H.out);obtain⟨⟨W,X,Y,Z,aa⟩,_⟩:=id H.out;have y6:=NC.out L A.out;clear j)
   |(go_at_call 75;go_fit (A6.out L A.out T6.out);rintro e7 w7 ⟨rfl,o⟩;have N:=zh (A.out.trans (o.mono A.out.size));clear o))
  go_ret;exact⟨rfl,N.out⟩
 ·obtain⟨qf,qm,C,D⟩:4<=p.length/\p.length % 2=0/\Zr ⟨3,p,c,g,s⟩ p.length 0=true/\Zj ns g []=true:=by simpa only[Bool.and_eq_true,Bool.or_eq_true,decide_eq_true_eq,and_assoc]using show(decide (4<=p.length)&&decide (p.length % 2=0)&&Zr ⟨3,p,c,g,s⟩ p.length 0&&Zj ns g [])=true from J
  have A6:=zh (fun(wr:Yh) (B:Below w.heap.size w wr) (T:Za8 wr (.is [7]) (.func (.func 102) #[] #[Ye (Ya ⟨U,0,Yb⟩)]))=>show Calls Tryz.prog 75 #[v,Yc G g.length E,Yc Yb 0 0] wr (fun e w'=>e=.returned (.bool true)/\Below wr.heap.size wr w')from AR.out wr B _ [] (ZeB wr) D);have r:=zh (show ∀wr:Yh,Below w.heap.size w wr->Calls Tryz.prog 73 #[.agg #[Yd Yf 3,Yc O p.length Q,Yc P c.length R,Yc G g.length E,Yd Yf s],Yd Yf (p.length:Int),Yd Yf 0] wr fun e w'=>e=.returned (.bool true)/\Below wr.heap.size wr w' from fun wr i=>M.out wr i p.length 0 C);have ch:(4:Int)<=(p.length:Int):=by omega
  have cw:(p.length:Int).tmod 2=0:=by rw[Int.tmod_eq_emod_of_nonneg (by omega)];omega
  clear C D J qf qm
  go_wp2_with (first
   |(go_at_call 73;go_fit (r.out _ H3.out);rintro e6 L ⟨rfl,j⟩;have H:=zh (z.out _ _ j HH.out);have T6:=zh (T3.out.below j);have A:=zh (Za H.out);obtain⟨⟨W,X,Y,Z,aa⟩,_⟩:=id H.out;skip;clear j)
   |(go_at_call 75;go_fit (A6.out L A.out T6.out);rintro e7 w7 ⟨rfl,o⟩;have N:=zh (A.out.trans (o.mono A.out.size));clear o))
  go_ret;exact⟨rfl,N.out⟩
 ·obtain⟨C,D,q3⟩:Zr ⟨4,p,c,g,s⟩ 1 0=true/\Zat ns (g.take (g.length-1)) (isB [5])=true/\Zj ns (g.drop (g.length-1)) [isB [7]]=true:=by simpa only[Bool.and_eq_true,Bool.or_eq_true,decide_eq_true_eq,and_assoc]using show(Zr ⟨4,p,c,g,s⟩ 1 0&&Zat ns (g.take (g.length-1)) (isB [5])&&Zj ns (g.drop (g.length-1)) [isB [7]])=true from J
  have r:=zh (show ∀wr:Yh,Below w.heap.size w wr->Calls Tryz.prog 73 #[.agg #[Yd Yf 4,Yc O p.length Q,Yc P c.length R,Yc G g.length E,Yd Yf s],Yd Yf 1,Yd Yf 0] wr fun e w'=>e=.returned (.bool true)/\Below wr.heap.size wr w' from fun wr i=>M.out wr i 1 0 C);have CU:=zh (fun(wr:Yh) (i:Below w.heap.size w wr)=>Zkz (m:=g.length-1) (K3.out.1.below i) rfl (by omega));have aw:=zh (show ∀wr:Yh,Below w.heap.size w wr->∀u:Value,Za8 wr (.is [5]) u->Calls Tryz.prog 74 #[v,Yc G (g.length-1) E,u] wr fun e w'=>e=.returned (.bool true)/\Below wr.heap.size wr w' from fun wr i u hu=>Zmh wr v _ u ns _ _ (K3.out.2.1.below i) (CU.out wr i).1 hu (fun k h=>K3.out.2.2 k (List.mem_of_mem_take h)) D);have ap:=zh (fun(wr:Yh) (i:Below w.heap.size w wr) (T:Za8 wr (.is [7]) (.func (.func 102) #[] #[Ye (Ya ⟨U,0,Yb⟩)]))=>show Calls Tryz.prog 75 #[v,.slice (if E=g.length-1 then G else G.map (·.add (g.length-1))) (g.length-(g.length-1)) (E-(g.length-1)),Yc (Ya ⟨wr.heap.size,0,Yb⟩) 1 1] (wr.alloc (Yg #[.func (.func 102) #[] #[Ye (Ya ⟨U,0,Yb⟩)]] 61)) (fun e w'=>e=.returned (.bool true)/\Below (wr.alloc (Yg #[.func (.func 102) #[] #[Ye (Ya ⟨U,0,Yb⟩)]] 61)).heap.size (wr.alloc (Yg #[.func (.func 102) #[] #[Ye (Ya ⟨U,0,Yb⟩)]] 61)) w')from Zri _ v _ _ ns _ _ (K3.out.2.1.below (i.trans ((below_alloc1 _ _).mono i.size))) (CU.out _ (i.trans ((below_alloc1 _ _).mono i.size))).2 (ZcW wr [.is [7]] [.func (.func 102) #[] #[Ye (Ya ⟨U,0,Yb⟩)]] 61 (by simp[maxLen]) ⟨T.below (below_alloc1 _ _),trivial⟩) (fun k h=>K3.out.2.2 k (List.mem_of_mem_drop h)) q3);have mx:(max (IntKind.i64.wrap ((g.length:Int)-1)) 0)=((g.length-1:Nat):Int):=by rw[IntWalk.i64_in _ (by have:=K3.out.1.len;unfold maxLen at this;omega)];omega
  have ct:(max (wrap64 ((g.length:Int)-1)) 0)=((g.length-1:Nat):Int):=by rw[<-IntWalk.i64_left];exact mx
  have ci:g.length<=E:=by obtain⟨cp,cr,e2,q,_⟩:=K3.out.1;injection e2 with _ _ e2;omega
  generalize hm:g.length-1=m at *;have m1:m<=g.length:=by omega
  have m2:m<=E:=by omega
  have m3:(0:Int)<=(m:Int):=by omega
  have m4:(m:Int)<=(g.length:Int):=by omega
  have m5:(m:Int)<=(E:Int):=by omega
  have m6:(g.length:Int)<=(E:Int):=by omega
  clear hm C D q3 J CU K3 am AR M ba bp;by_cases b0:E=m
  ·subst b0;rw[Yo rfl,Nat.sub_self,show g.length-E=0 by omega]at ap;go_upto_region 13 with fail;have HS:(w5.drew.cell? ⟨w.heap.size,0,Yb⟩=Ya (Yd Yf 4)/\w5.drew.cell? ⟨w.heap.size,1,Yb⟩=Ya (Yc O p.length Q)/\w5.drew.cell? ⟨w.heap.size,2,Yb⟩=Ya (Yc P c.length R)/\w5.drew.cell? ⟨w.heap.size,3,Yb⟩=Ya (Yc G g.length E)/\w5.drew.cell? ⟨w.heap.size,4,Yb⟩=Ya (Yd Yf s))/\Below w.heap.size w w5.drew:=⟨HH.out.1,H3.out.drew⟩
   clear HH g0 g1 g2 g3 g4;refine wp_region_noPanic ?_;refine wp_region_held_drew (S:=(fun w'=>(w'.cell? ⟨w.heap.size,0,Yb⟩=Ya (Yd Yf 4)/\w'.cell? ⟨w.heap.size,1,Yb⟩=Ya (Yc O p.length Q)/\w'.cell? ⟨w.heap.size,2,Yb⟩=Ya (Yc P c.length R)/\w'.cell? ⟨w.heap.size,3,Yb⟩=Ya (Yc G g.length E)/\w'.cell? ⟨w.heap.size,4,Yb⟩=Ya (Yd Yf s))/\Below w.heap.size w w')) (by kernel_rfl) HS (fun d=>?_);clear HS;refine tkk 0 rfl ?_;(try simp only[cl,Act.put]);refine rd 1 rfl fun K F=>?_;go_simp
   (first
    |(go_at_call 73;go_fit (r.out _ (Za (by with_reducible assumption)));rintro e6 L ⟨rfl,i⟩;have ah:=zh (T3.out.below ((Za9 _).trans (i.mono (Za9 _).size))))
    |(go_at_call 72;go_fit (ZbJ _ _ _);rintro e7 w7 ⟨⟨u2,rfl,I⟩,i⟩;have ai:=zh ((ah.out.below (below_alloc1 _ _)).below i))
    |(go_at_call 74;go_fit (aw.out _ (Za (by with_reducible assumption)) _ I);rintro e8 w8 ⟨rfl,i⟩;have V:=zh (zi ((Za d).trans (i.mono (Za d).size)) (ai.out.below i)))
    |(go_at_call 75;go_fit (ap.out _ V.out.1 V.out.2);rintro e9 w9 ⟨rfl,i⟩))
   go_wp2_with fail;refine F.out _ _ (z.out _ _ i (by with_reducible assumption)) (fun l=>?_);clear F K d i;have d:=l;clear l;(try simp only[cl,Act.put]);refine tkk 2 rfl ?_;refine tkk 3 rfl ?_;refine tkk 4 rfl ?_;refine tkk 5 rfl ?_;refine tkk 6 rfl ?_;refine tkk 7 rfl ?_;(try simp only[cl,Act.put]);refine rd 8 rfl fun K F=>?_;go_simp;refine F.out _ _ ?_ (fun l=>?_)
   ·exact z.out _ _ (below_alloc1 _ _) (by with_reducible assumption)
   clear F K d;have d:=l;clear l;(try simp only[cl,Act.put]);refine rd 9 rfl fun K F=>?_;go_simp
   (first
    |(go_at_call 73;go_fit (r.out _ (Za (by with_reducible assumption)));rintro e6 L ⟨rfl,i⟩;have ah:=zh (T3.out.below ((Za9 _).trans (i.mono (Za9 _).size))))
    |(go_at_call 72;go_fit (ZbJ _ _ _);rintro e7 w7 ⟨⟨u2,rfl,I⟩,i⟩;have ai:=zh ((ah.out.below (below_alloc1 _ _)).below i))
    |(go_at_call 74;go_fit (aw.out _ (Za (by with_reducible assumption)) _ I);rintro e8 w8 ⟨rfl,i⟩;have V:=zh (zi ((Za d).trans (i.mono (Za d).size)) (ai.out.below i)))
    |(go_at_call 75;go_fit (ap.out _ V.out.1 V.out.2);rintro e9 w9 ⟨rfl,i⟩))
   go_wp2_with fail;refine F.out _ _ (z.out _ _ i (by with_reducible assumption)) (fun l=>?_);clear F K d i;have d:=l;clear l;(try simp only[cl,Act.put]);refine rd 10 rfl fun K F=>?_;go_simp
   (first
    |(go_at_call 73;go_fit (r.out _ (Za (by with_reducible assumption)));rintro e6 L ⟨rfl,i⟩;have ah:=zh (T3.out.below ((Za9 _).trans (i.mono (Za9 _).size))))
    |(go_at_call 72;go_fit (ZbJ _ _ _);rintro e7 w7 ⟨⟨u2,rfl,I⟩,i⟩;have ai:=zh ((ah.out.below (below_alloc1 _ _)).below i))
    |(go_at_call 74;go_fit (aw.out _ (Za (by with_reducible assumption)) _ I);rintro e8 w8 ⟨rfl,i⟩;have V:=zh (zi ((Za d).trans (i.mono (Za d).size)) (ai.out.below i)))
    |(go_at_call 75;go_fit (ap.out _ V.out.1 V.out.2);rintro e9 w9 ⟨rfl,i⟩))
   go_wp2_with fail;refine F.out _ _ (z.out _ _ i (by with_reducible assumption)) (fun l=>?_);clear F K d i;have d:=l;clear l;(try simp only[cl,Act.put]);refine tkk 11 rfl ?_;refine tkk 12 rfl ?_;refine tkk 13 rfl ?_;refine tkk 14 rfl ?_;refine tkk 15 rfl ?_;refine tkk 16 rfl ?_;refine tkk 17 rfl ?_;refine tkk 18 rfl ?_;(try simp only[cl,Act.put]);refine rd 19 rfl fun K F=>?_;go_simp;refine F.out _ _ ?_ (fun l=>?_)
   ·exact z.out _ _ (below_alloc1 _ _) (by with_reducible assumption)
   clear F K d;have d:=l;clear l;(try simp only[cl,Act.put]);refine rd 20 rfl fun K F=>?_;go_simp
   (first
    |(go_at_call 73;go_fit (r.out _ (Za (by with_reducible assumption)));rintro e6 L ⟨rfl,i⟩;have ah:=zh (T3.out.below ((Za9 _).trans (i.mono (Za9 _).size))))
    |(go_at_call 72;go_fit (ZbJ _ _ _);rintro e7 w7 ⟨⟨u2,rfl,I⟩,i⟩;have ai:=zh ((ah.out.below (below_alloc1 _ _)).below i))
    |(go_at_call 74;go_fit (aw.out _ (Za (by with_reducible assumption)) _ I);rintro e8 w8 ⟨rfl,i⟩;have V:=zh (zi ((Za d).trans (i.mono (Za d).size)) (ai.out.below i)))
    |(go_at_call 75;go_fit (ap.out _ V.out.1 V.out.2);rintro e9 w9 ⟨rfl,i⟩))
   go_wp2_with fail;refine F.out _ _ (z.out _ _ i (by with_reducible assumption)) (fun l=>?_);clear F K d i;have d:=l;clear l;(try simp only[cl,Act.put]);refine tkk 21 rfl ?_;refine tkk 22 rfl ?_;(try simp only[cl,Act.put]);refine wpAnyH_done (by kernel_rfl) ?_ _;refine NoPanic.normal ?_;have B9:=zh (Za d);clear d;go_wp2_with fail;go_ret;exact⟨rfl,B9.out⟩
  ·rw[Yn b0]at ap;go_upto_region 13 with fail;have HS:(w5.drew.cell? ⟨w.heap.size,0,Yb⟩=Ya (Yd Yf 4)/\w5.drew.cell? ⟨w.heap.size,1,Yb⟩=Ya (Yc O p.length Q)/\w5.drew.cell? ⟨w.heap.size,2,Yb⟩=Ya (Yc P c.length R)/\w5.drew.cell? ⟨w.heap.size,3,Yb⟩=Ya (Yc G g.length E)/\w5.drew.cell? ⟨w.heap.size,4,Yb⟩=Ya (Yd Yf s))/\Below w.heap.size w w5.drew:=⟨HH.out.1,H3.out.drew⟩
   clear HH g0 g1 g2 g3 g4;refine wp_region_noPanic ?_;refine wp_region_held_drew (S:=(fun w'=>(w'.cell? ⟨w.heap.size,0,Yb⟩=Ya (Yd Yf 4)/\w'.cell? ⟨w.heap.size,1,Yb⟩=Ya (Yc O p.length Q)/\w'.cell? ⟨w.heap.size,2,Yb⟩=Ya (Yc P c.length R)/\w'.cell? ⟨w.heap.size,3,Yb⟩=Ya (Yc G g.length E)/\w'.cell? ⟨w.heap.size,4,Yb⟩=Ya (Yd Yf s))/\Below w.heap.size w w')) (by kernel_rfl) HS (fun d=>?_);clear HS;refine tkk 0 rfl ?_;(try simp only[cl,Act.put]);refine rd 1 rfl fun K F=>?_;go_simp
   (first
    |(go_at_call 73;go_fit (r.out _ (Za (by with_reducible assumption)));rintro e6 L ⟨rfl,i⟩;have ah:=zh (T3.out.below ((Za9 _).trans (i.mono (Za9 _).size))))
    |(go_at_call 72;go_fit (ZbJ _ _ _);rintro e7 w7 ⟨⟨u2,rfl,I⟩,i⟩;have ai:=zh ((ah.out.below (below_alloc1 _ _)).below i))
    |(go_at_call 74;go_fit (aw.out _ (Za (by with_reducible assumption)) _ I);rintro e8 w8 ⟨rfl,i⟩;have V:=zh (zi ((Za d).trans (i.mono (Za d).size)) (ai.out.below i)))
    |(go_at_call 75;go_fit (ap.out _ V.out.1 V.out.2);rintro e9 w9 ⟨rfl,i⟩))
   go_wp2_with fail;refine F.out _ _ (z.out _ _ i (by with_reducible assumption)) (fun l=>?_);clear F K d i;have d:=l;clear l;(try simp only[cl,Act.put]);refine tkk 2 rfl ?_;refine tkk 3 rfl ?_;refine tkk 4 rfl ?_;refine tkk 5 rfl ?_;refine tkk 6 rfl ?_;refine tkk 7 rfl ?_;(try simp only[cl,Act.put]);refine rd 8 rfl fun K F=>?_;go_simp;refine F.out _ _ ?_ (fun l=>?_)
   ·exact z.out _ _ (below_alloc1 _ _) (by with_reducible assumption)
   clear F K d;have d:=l;clear l;(try simp only[cl,Act.put]);refine rd 9 rfl fun K F=>?_;go_simp
   (first
    |(go_at_call 73;go_fit (r.out _ (Za (by with_reducible assumption)));rintro e6 L ⟨rfl,i⟩;have ah:=zh (T3.out.below ((Za9 _).trans (i.mono (Za9 _).size))))
    |(go_at_call 72;go_fit (ZbJ _ _ _);rintro e7 w7 ⟨⟨u2,rfl,I⟩,i⟩;have ai:=zh ((ah.out.below (below_alloc1 _ _)).below i))
    |(go_at_call 74;go_fit (aw.out _ (Za (by with_reducible assumption)) _ I);rintro e8 w8 ⟨rfl,i⟩;have V:=zh (zi ((Za d).trans (i.mono (Za d).size)) (ai.out.below i)))
    |(go_at_call 75;go_fit (ap.out _ V.out.1 V.out.2);rintro e9 w9 ⟨rfl,i⟩))
   go_wp2_with fail;refine F.out _ _ (z.out _ _ i (by with_reducible assumption)) (fun l=>?_);clear F K d i;have d:=l;clear l;(try simp only[cl,Act.put]);refine rd 10 rfl fun K F=>?_;go_simp
   (first
    |(go_at_call 73;go_fit (r.out _ (Za (by with_reducible assumption)));rintro e6 L ⟨rfl,i⟩;have ah:=zh (T3.out.below ((Za9 _).trans (i.mono (Za9 _).size))))
    |(go_at_call 72;go_fit (ZbJ _ _ _);rintro e7 w7 ⟨⟨u2,rfl,I⟩,i⟩;have ai:=zh ((ah.out.below (below_alloc1 _ _)).below i))
    |(go_at_call 74;go_fit (aw.out _ (Za (by with_reducible assumption)) _ I);rintro e8 w8 ⟨rfl,i⟩;have V:=zh (zi ((Za d).trans (i.mono (Za d).size)) (ai.out.below i)))
    |(go_at_call 75;go_fit (ap.out _ V.out.1 V.out.2);rintro e9 w9 ⟨rfl,i⟩))
   go_wp2_with fail;refine F.out _ _ (z.out _ _ i (by with_reducible assumption)) (fun l=>?_);clear F K d i;have d:=l;clear l;(try simp only[cl,Act.put]);refine tkk 11 rfl ?_;refine tkk 12 rfl ?_;refine tkk 13 rfl ?_;refine tkk 14 rfl ?_;refine tkk 15 rfl ?_;refine tkk 16 rfl ?_;refine tkk 17 rfl ?_;refine tkk 18 rfl ?_;(try simp only[cl,Act.put]);refine rd 19 rfl fun K F=>?_;go_simp;refine F.out _ _ ?_ (fun l=>?_)
   ·exact z.out _ _ (below_alloc1 _ _) (by with_reducible assumption)
   clear F K d;have d:=l;clear l;(try simp only[cl,Act.put]);refine rd 20 rfl fun K F=>?_;go_simp
   (first
    |(go_at_call 73;go_fit (r.out _ (Za (by with_reducible assumption)));rintro e6 L ⟨rfl,i⟩;have ah:=zh (T3.out.below ((Za9 _).trans (i.mono (Za9 _).size))))
    |(go_at_call 72;go_fit (ZbJ _ _ _);rintro e7 w7 ⟨⟨u2,rfl,I⟩,i⟩;have ai:=zh ((ah.out.below (below_alloc1 _ _)).below i))
    |(go_at_call 74;go_fit (aw.out _ (Za (by with_reducible assumption)) _ I);rintro e8 w8 ⟨rfl,i⟩;have V:=zh (zi ((Za d).trans (i.mono (Za d).size)) (ai.out.below i)))
    |(go_at_call 75;go_fit (ap.out _ V.out.1 V.out.2);rintro e9 w9 ⟨rfl,i⟩))
   go_wp2_with fail;refine F.out _ _ (z.out _ _ i (by with_reducible assumption)) (fun l=>?_);clear F K d i;have d:=l;clear l;(try simp only[cl,Act.put]);refine tkk 21 rfl ?_;refine tkk 22 rfl ?_;(try simp only[cl,Act.put]);refine wpAnyH_done (by kernel_rfl) ?_ _;refine NoPanic.normal ?_;have B9:=zh (Za d);clear d;go_wp2_with fail;go_ret;exact⟨rfl,B9.out⟩
 ·obtain J:(Zr ⟨5,p,c,g,s⟩ 1 0=true/\Zj ns g []=true)\/(Zr ⟨5,p,c,g,s⟩ 2 3=true/\ZcU ns ⟨5,p,c,g,s⟩=true):=by simpa only[Bool.and_eq_true,Bool.or_eq_true,decide_eq_true_eq,and_assoc]using show((Zr ⟨5,p,c,g,s⟩ 1 0&&Zj ns g [])||(Zr ⟨5,p,c,g,s⟩ 2 3&&ZcU ns ⟨5,p,c,g,s⟩))=true from J
  rcases J with⟨C,D⟩|⟨C,D⟩
  ·have A6:=zh (fun(wr:Yh) (B:Below w.heap.size w wr) (T:Za8 wr (.is [7]) (.func (.func 102) #[] #[Ye (Ya ⟨U,0,Yb⟩)]))=>show Calls Tryz.prog 75 #[v,Yc G g.length E,Yc Yb 0 0] wr (fun e w'=>e=.returned (.bool true)/\Below wr.heap.size wr w')from AR.out wr B _ [] (ZeB wr) D);have r:=zh (show ∀wr:Yh,Below w.heap.size w wr->Calls Tryz.prog 73 #[.agg #[Yd Yf 5,Yc O p.length Q,Yc P c.length R,Yc G g.length E,Yd Yf s],Yd Yf 1,Yd Yf 0] wr fun e w'=>e=.returned (.bool true)/\Below wr.heap.size wr w' from fun wr i=>M.out wr i 1 0 C);clear C D
   go_wp2_with (first
    |(go_at_call 73;go_fit (r.out _ H3.out);rintro e6 L ⟨rfl,j⟩;have H:=zh (z.out _ _ j HH.out);have T6:=zh (T3.out.below j);have A:=zh (Za H.out);obtain⟨⟨W,X,Y,Z,aa⟩,_⟩:=id H.out;skip;clear j)
    |(go_at_call 75;go_fit (A6.out L A.out T6.out);rintro e7 w7 ⟨rfl,o⟩;have N:=zh (A.out.trans (o.mono A.out.size));clear o))
   go_ret;exact⟨rfl,N.out⟩
  ·have q3:Zr ⟨5,p,c,g,s⟩ 1 0=false:=by have:=(ZfL C).1;unfold Zr;rw[decide_eq_false (by omega)];rfl
   have r:=zh (show ∀wr:Yh,Below w.heap.size w wr->Calls Tryz.prog 73 #[.agg #[Yd Yf 5,Yc O p.length Q,Yc P c.length R,Yc G g.length E,Yd Yf s],Yd Yf 1,Yd Yf 0] wr fun e w'=>e=.returned (.bool false)/\Below wr.heap.size wr w' from fun wr i=>ba.out wr i 1 0 q3);have bf:=zh (show ∀wr:Yh,Below w.heap.size w wr->Calls Tryz.prog 73 #[.agg #[Yd Yf 5,Yc O p.length Q,Yc P c.length R,Yc G g.length E,Yd Yf s],Yd Yf 2,Yd Yf 3] wr fun e w'=>e=.returned (.bool true)/\Below wr.heap.size wr w' from fun wr i=>M.out wr i 2 3 C);have bh:=zh (CT.out (by have:=(ZfL C).2;exact this) D);clear C D q3
   go_wp2_with (first
    |(go_at_call 73;go_fit (r.out _ H3.out);rintro e6 L ⟨rfl,j⟩;have H:=zh (z.out _ _ j HH.out);have T6:=zh (T3.out.below j);have A:=zh (Za H.out);obtain⟨⟨W,X,Y,Z,aa⟩,_⟩:=id H.out;skip;clear j)
    |(go_at_call 73;go_fit (bf.out _ A.out);rintro e7 w7 ⟨rfl,o⟩;have K7:=zh (z.out _ _ o H.out);have T7:=zh (T6.out.below o);have N:=zh (Za K7.out);obtain⟨⟨b1,b2,b3,b4,b5⟩,_⟩:=id K7.out;skip;clear o)
    |(go_at_call 76;go_fit (bh.out _ N.out);rintro e8 w8 ⟨rfl,az⟩;have B8:=zh (N.out.trans (az.mono N.out.size));clear az))
   go_ret;exact⟨rfl,B8.out⟩
 ·obtain⟨qf,C,q3,D⟩:1<=p.length/\Zr ⟨6,p,c,g,s⟩ p.length 1=true/\num ⟨6,p,c,g,s⟩ 0<=2/\Zj ns g []=true:=by simpa only[Bool.and_eq_true,Bool.or_eq_true,decide_eq_true_eq,and_assoc]using show(decide (1<=p.length)&&Zr ⟨6,p,c,g,s⟩ p.length 1&&decide (num ⟨6,p,c,g,s⟩ 0<=2)&&Zj ns g [])=true from J
  have A6:=zh (fun(wr:Yh) (B:Below w.heap.size w wr) (T:Za8 wr (.is [7]) (.func (.func 102) #[] #[Ye (Ya ⟨U,0,Yb⟩)]))=>show Calls Tryz.prog 75 #[v,Yc G g.length E,Yc Yb 0 0] wr (fun e w'=>e=.returned (.bool true)/\Below wr.heap.size wr w')from AR.out wr B _ [] (ZeB wr) D);have r:=zh (show ∀wr:Yh,Below w.heap.size w wr->Calls Tryz.prog 73 #[.agg #[Yd Yf 6,Yc O p.length Q,Yc P c.length R,Yc G g.length E,Yd Yf s],Yd Yf (p.length:Int),Yd Yf 1] wr fun e w'=>e=.returned (.bool true)/\Below wr.heap.size wr w' from fun wr i=>M.out wr i p.length 1 C);have ch:(1:Int)<=(p.length:Int):=by omega
  clear qf;have ay:=zh C;have J:=(ZfL ay.out).2;dsimp only at J;obtain⟨y,hy⟩:∃y,c[0]? = Ya y:=⟨_,Ym (by omega)⟩
  obtain⟨an,rfl,_⟩:=ints_at R2.out (Below.refl _ _) hy (by omega);have NC:=zh (fun(wr:Yh) (i:Below w.heap.size w wr)=>show wr.cell? an=Ya (Yd Yf y)from by obtain⟨a2,e2,D⟩:=ints_at R2.out i hy (by omega);injection e2 with e2;subst e2;rwa[show an.add 0=an by unfold Addr.add;simp]at D);have i3:(0:Int)<(c.length:Int):=by omega
  clear J;rw[Zdw (n:=(⟨6,p,c,g,s⟩:Nd)) hy]at q3;clear C D J hy ay
  go_wp2_with (first
   |(go_at_call 73;go_fit (r.out _ H3.out);rintro e6 L ⟨rfl,j⟩;have H:=zh (z.out _ _ j HH.out);have T6:=zh (T3.out.below j);have A:=zh (Za H.out);obtain⟨⟨W,X,Y,Z,aa⟩,_⟩:=id H.out;have y6:=NC.out L A.out;clear j)
   |(go_at_call 75;go_fit (A6.out L A.out T6.out);rintro e7 w7 ⟨rfl,o⟩;have N:=zh (A.out.trans (o.mono A.out.size));clear o))
  go_ret;exact⟨rfl,N.out⟩
 ·obtain⟨C,D⟩:Zr ⟨7,p,c,g,s⟩ 0 0=true/\Zat ns g ZcT=true:=by simpa only[Bool.and_eq_true,Bool.or_eq_true,decide_eq_true_eq,and_assoc]using show(Zr ⟨7,p,c,g,s⟩ 0 0&&Zat ns g ZcT)=true from J
  have r:=zh (show ∀wr:Yh,Below w.heap.size w wr->Calls Tryz.prog 73 #[.agg #[Yd Yf 7,Yc O p.length Q,Yc P c.length R,Yc G g.length E,Yd Yf s],Yd Yf 0,Yd Yf 0] wr fun e w'=>e=.returned (.bool true)/\Below wr.heap.size wr w' from fun wr i=>M.out wr i 0 0 C);have QA:=zh D;clear C D J
  go_wp2_with (first
   |(go_at_call 73;go_fit (r.out _ H3.out);rintro e6 L ⟨rfl,j⟩;have H:=zh (z.out _ _ j HH.out);have T6:=zh (T3.out.below j);have A:=zh (Za H.out);obtain⟨⟨W,X,Y,Z,aa⟩,_⟩:=id H.out;have A6:=zh (am.out L A.out (.func (.func 77) #[] #[]) .stmt rfl QA.out);clear j)
   |(go_at_call 74;go_fit (A6.out);rintro e7 w7 ⟨rfl,o⟩;have N:=zh (A.out.trans (o.mono A.out.size));clear o))
  go_ret;exact⟨rfl,N.out⟩
 ·obtain⟨C,D⟩:Zr ⟨8,p,c,g,s⟩ 1 0=true/\Zj ns g [ZR]=true:=by simpa only[Bool.and_eq_true,Bool.or_eq_true,decide_eq_true_eq,and_assoc]using show(Zr ⟨8,p,c,g,s⟩ 1 0&&Zj ns g [ZR])=true from J
  have A6:=zh (fun(wr:Yh) (B:Below w.heap.size w wr) (T:Za8 wr (.is [7]) (.func (.func 102) #[] #[Ye (Ya ⟨U,0,Yb⟩)]))=>show Calls Tryz.prog 75 #[v,Yc G g.length E,Yc (Ya ⟨wr.heap.size,0,Yb⟩) 1 1] (wr.alloc (Yg #[.func (.func 78) #[] #[]] 61)) (fun e w'=>e=.returned (.bool true)/\Below wr.heap.size wr w')from Zc7 (AR.out (wr.alloc (Yg #[.func (.func 78) #[] #[]] 61)) (B.trans ((below_alloc1 _ _).mono B.size)) _ [.expr] (ZcW wr [.expr] [.func (.func 78) #[] #[]] 61 (by simp[maxLen]) ⟨rfl,trivial⟩) D));have r:=zh (show ∀wr:Yh,Below w.heap.size w wr->Calls Tryz.prog 73 #[.agg #[Yd Yf 8,Yc O p.length Q,Yc P c.length R,Yc G g.length E,Yd Yf s],Yd Yf 1,Yd Yf 0] wr fun e w'=>e=.returned (.bool true)/\Below wr.heap.size wr w' from fun wr i=>M.out wr i 1 0 C);clear C D J
  go_wp2_with (first
   |(go_at_call 73;go_fit (r.out _ H3.out);rintro e6 L ⟨rfl,j⟩;have H:=zh (z.out _ _ j HH.out);have T6:=zh (T3.out.below j);have A:=zh (Za H.out);obtain⟨⟨W,X,Y,Z,aa⟩,_⟩:=id H.out;skip;clear j)
   |(go_at_call 75;go_fit (A6.out L A.out T6.out);rintro e7 w7 ⟨rfl,o⟩;have N:=zh (A.out.trans (o.mono A.out.size));clear o))
  go_ret;exact⟨rfl,N.out⟩
 ·obtain⟨C,D⟩:Zr ⟨9,p,c,g,s⟩ 1 0=true/\Zj ns g [ZR]=true:=by simpa only[Bool.and_eq_true,Bool.or_eq_true,decide_eq_true_eq,and_assoc]using show(Zr ⟨9,p,c,g,s⟩ 1 0&&Zj ns g [ZR])=true from J
  have A6:=zh (fun(wr:Yh) (B:Below w.heap.size w wr) (T:Za8 wr (.is [7]) (.func (.func 102) #[] #[Ye (Ya ⟨U,0,Yb⟩)]))=>show Calls Tryz.prog 75 #[v,Yc G g.length E,Yc (Ya ⟨wr.heap.size,0,Yb⟩) 1 1] (wr.alloc (Yg #[.func (.func 78) #[] #[]] 61)) (fun e w'=>e=.returned (.bool true)/\Below wr.heap.size wr w')from Zc7 (AR.out (wr.alloc (Yg #[.func (.func 78) #[] #[]] 61)) (B.trans ((below_alloc1 _ _).mono B.size)) _ [.expr] (ZcW wr [.expr] [.func (.func 78) #[] #[]] 61 (by simp[maxLen]) ⟨rfl,trivial⟩) D));have r:=zh (show ∀wr:Yh,Below w.heap.size w wr->Calls Tryz.prog 73 #[.agg #[Yd Yf 9,Yc O p.length Q,Yc P c.length R,Yc G g.length E,Yd Yf s],Yd Yf 1,Yd Yf 0] wr fun e w'=>e=.returned (.bool true)/\Below wr.heap.size wr w' from fun wr i=>M.out wr i 1 0 C);clear C D J
  go_wp2_with (first
   |(go_at_call 73;go_fit (r.out _ H3.out);rintro e6 L ⟨rfl,j⟩;have H:=zh (z.out _ _ j HH.out);have T6:=zh (T3.out.below j);have A:=zh (Za H.out);obtain⟨⟨W,X,Y,Z,aa⟩,_⟩:=id H.out;skip;clear j)
   |(go_at_call 75;go_fit (A6.out L A.out T6.out);rintro e7 w7 ⟨rfl,o⟩;have N:=zh (A.out.trans (o.mono A.out.size));clear o))
  go_ret;exact⟨rfl,N.out⟩
 ·obtain⟨C,D⟩:Zr ⟨10,p,c,g,s⟩ 2 0=true/\Zj ns g [isB [7],isB [7]]=true:=by simpa only[Bool.and_eq_true,Bool.or_eq_true,decide_eq_true_eq,and_assoc]using show(Zr ⟨10,p,c,g,s⟩ 2 0&&Zj ns g [isB [7],isB [7]])=true from J
  have A6:=zh (fun(wr:Yh) (B:Below w.heap.size w wr) (T:Za8 wr (.is [7]) (.func (.func 102) #[] #[Ye (Ya ⟨U,0,Yb⟩)]))=>show Calls Tryz.prog 75 #[v,Yc G g.length E,Yc (Ya ⟨wr.heap.size,0,Yb⟩) 2 2] (wr.alloc (Yg #[.func (.func 102) #[] #[Ye (Ya ⟨U,0,Yb⟩)],.func (.func 102) #[] #[Ye (Ya ⟨U,0,Yb⟩)]] 61)) (fun e w'=>e=.returned (.bool true)/\Below wr.heap.size wr w')from Zc7 (AR.out (wr.alloc (Yg #[.func (.func 102) #[] #[Ye (Ya ⟨U,0,Yb⟩)],.func (.func 102) #[] #[Ye (Ya ⟨U,0,Yb⟩)]] 61)) (B.trans ((below_alloc1 _ _).mono B.size)) _ [.is [7],.is [7]] (ZcW wr [.is [7],.is [7]] [.func (.func 102) #[] #[Ye (Ya ⟨U,0,Yb⟩)],.func (.func 102) #[] #[Ye (Ya ⟨U,0,Yb⟩)]] 61 (by simp[maxLen]) ⟨T.below (below_alloc1 _ _),T.below (below_alloc1 _ _),trivial⟩) D));have r:=zh (show ∀wr:Yh,Below w.heap.size w wr->Calls Tryz.prog 73 #[.agg #[Yd Yf 10,Yc O p.length Q,Yc P c.length R,Yc G g.length E,Yd Yf s],Yd Yf 2,Yd Yf 0] wr fun e w'=>e=.returned (.bool true)/\Below wr.heap.size wr w' from fun wr i=>M.out wr i 2 0 C);clear C D J
  go_wp2_with (first
   |(go_at_call 73;go_fit (r.out _ H3.out);rintro e6 L ⟨rfl,j⟩;have H:=zh (z.out _ _ j HH.out);have T6:=zh (T3.out.below j);have A:=zh (Za H.out);obtain⟨⟨W,X,Y,Z,aa⟩,_⟩:=id H.out;skip;clear j)
   |(go_at_call 75;go_fit (A6.out L A.out T6.out);rintro e7 w7 ⟨rfl,o⟩;have N:=zh (A.out.trans (o.mono A.out.size));clear o))
  go_ret;exact⟨rfl,N.out⟩
 ·obtain⟨C,D⟩:Zr ⟨11,p,c,g,s⟩ 2 0=true/\Zat ns g (isB [12])=true:=by simpa only[Bool.and_eq_true,Bool.or_eq_true,decide_eq_true_eq,and_assoc]using show(Zr ⟨11,p,c,g,s⟩ 2 0&&Zat ns g (isB [12]))=true from J
  have r:=zh (show ∀wr:Yh,Below w.heap.size w wr->Calls Tryz.prog 73 #[.agg #[Yd Yf 11,Yc O p.length Q,Yc P c.length R,Yc G g.length E,Yd Yf s],Yd Yf 2,Yd Yf 0] wr fun e w'=>e=.returned (.bool true)/\Below wr.heap.size wr w' from fun wr i=>M.out wr i 2 0 C);have QA:=zh (show Zat ns g (Tst.is [12]).f=true from D);clear C D J;go_upto_region 26 with fail;have HS:(w5.drew.cell? ⟨w.heap.size,0,Yb⟩=Ya (Yd Yf 11)/\w5.drew.cell? ⟨w.heap.size,1,Yb⟩=Ya (Yc O p.length Q)/\w5.drew.cell? ⟨w.heap.size,2,Yb⟩=Ya (Yc P c.length R)/\w5.drew.cell? ⟨w.heap.size,3,Yb⟩=Ya (Yc G g.length E)/\w5.drew.cell? ⟨w.heap.size,4,Yb⟩=Ya (Yd Yf s))/\Below w.heap.size w w5.drew:=⟨HH.out.1,H3.out.drew⟩
  clear HH g0 g1 g2 g3 g4;refine wp_region_noPanic ?_;refine wp_region_held_drew (S:=(fun w'=>(w'.cell? ⟨w.heap.size,0,Yb⟩=Ya (Yd Yf 11)/\w'.cell? ⟨w.heap.size,1,Yb⟩=Ya (Yc O p.length Q)/\w'.cell? ⟨w.heap.size,2,Yb⟩=Ya (Yc P c.length R)/\w'.cell? ⟨w.heap.size,3,Yb⟩=Ya (Yc G g.length E)/\w'.cell? ⟨w.heap.size,4,Yb⟩=Ya (Yd Yf s))/\Below w.heap.size w w')) (by kernel_rfl) HS (fun d=>?_);clear HS;refine tkk 0 rfl ?_;(try simp only[cl,Act.put]);refine rd 1 rfl fun K F=>?_;go_simp
  (first
   |(go_at_call 73;go_fit (r.out _ (Za (by with_reducible assumption)));rintro e6 L ⟨rfl,i⟩)
   |(go_at_call 72;go_fit (ZbJ _ _ _);rintro e7 w7 ⟨⟨u2,rfl,I⟩,i⟩)
   |(go_at_call 74;go_fit (am.out _ (Za (by with_reducible assumption)) _ _ I QA.out);rintro e8 w8 ⟨rfl,i⟩))
  go_wp2_with fail;refine F.out _ _ (z.out _ _ i (by with_reducible assumption)) (fun l=>?_);clear F K d i;have d:=l;clear l;(try simp only[cl,Act.put]);refine tkk 2 rfl ?_;refine tkk 3 rfl ?_;refine tkk 4 rfl ?_;refine tkk 5 rfl ?_;(try simp only[cl,Act.put]);refine rd 6 rfl fun K F=>?_;go_simp;refine F.out _ _ ?_ (fun l=>?_)
  ·exact z.out _ _ (below_alloc1 _ _) (by with_reducible assumption)
  clear F K d;have d:=l;clear l;(try simp only[cl,Act.put]);refine rd 7 rfl fun K F=>?_;go_simp
  (first
   |(go_at_call 73;go_fit (r.out _ (Za (by with_reducible assumption)));rintro e6 L ⟨rfl,i⟩)
   |(go_at_call 72;go_fit (ZbJ _ _ _);rintro e7 w7 ⟨⟨u2,rfl,I⟩,i⟩)
   |(go_at_call 74;go_fit (am.out _ (Za (by with_reducible assumption)) _ _ I QA.out);rintro e8 w8 ⟨rfl,i⟩))
  go_wp2_with fail;refine F.out _ _ (z.out _ _ i (by with_reducible assumption)) (fun l=>?_);clear F K d i;have d:=l;clear l;(try simp only[cl,Act.put]);refine rd 8 rfl fun K F=>?_;go_simp
  (first
   |(go_at_call 73;go_fit (r.out _ (Za (by with_reducible assumption)));rintro e6 L ⟨rfl,i⟩)
   |(go_at_call 72;go_fit (ZbJ _ _ _);rintro e7 w7 ⟨⟨u2,rfl,I⟩,i⟩)
   |(go_at_call 74;go_fit (am.out _ (Za (by with_reducible assumption)) _ _ I QA.out);rintro e8 w8 ⟨rfl,i⟩))
  go_wp2_with fail;refine F.out _ _ (z.out _ _ i (by with_reducible assumption)) (fun l=>?_);clear F K d i;have d:=l;clear l;(try simp only[cl,Act.put]);refine tkk 9 rfl ?_;refine tkk 10 rfl ?_;(try simp only[cl,Act.put]);refine wpAnyH_done (by kernel_rfl) ?_ _;refine NoPanic.normal ?_;have B9:=zh (Za d);clear d;go_wp2_with fail;go_ret;exact⟨rfl,B9.out⟩
 ·obtain⟨C,D⟩:Zr ⟨12,p,c,g,s⟩ 1 0=true/\Zj ns g [isB [7]]=true:=by simpa only[Bool.and_eq_true,Bool.or_eq_true,decide_eq_true_eq,and_assoc]using show(Zr ⟨12,p,c,g,s⟩ 1 0&&Zj ns g [isB [7]])=true from J
  have A6:=zh (fun(wr:Yh) (B:Below w.heap.size w wr) (T:Za8 wr (.is [7]) (.func (.func 102) #[] #[Ye (Ya ⟨U,0,Yb⟩)]))=>show Calls Tryz.prog 75 #[v,Yc G g.length E,Yc (Ya ⟨wr.heap.size,0,Yb⟩) 1 1] (wr.alloc (Yg #[.func (.func 102) #[] #[Ye (Ya ⟨U,0,Yb⟩)]] 61)) (fun e w'=>e=.returned (.bool true)/\Below wr.heap.size wr w')from Zc7 (AR.out (wr.alloc (Yg #[.func (.func 102) #[] #[Ye (Ya ⟨U,0,Yb⟩)]] 61)) (B.trans ((below_alloc1 _ _).mono B.size)) _ [.is [7]] (ZcW wr [.is [7]] [.func (.func 102) #[] #[Ye (Ya ⟨U,0,Yb⟩)]] 61 (by simp[maxLen]) ⟨T.below (below_alloc1 _ _),trivial⟩) D));have r:=zh (show ∀wr:Yh,Below w.heap.size w wr->Calls Tryz.prog 73 #[.agg #[Yd Yf 12,Yc O p.length Q,Yc P c.length R,Yc G g.length E,Yd Yf s],Yd Yf 1,Yd Yf 0] wr fun e w'=>e=.returned (.bool true)/\Below wr.heap.size wr w' from fun wr i=>M.out wr i 1 0 C);clear C D J
  go_wp2_with (first
   |(go_at_call 73;go_fit (r.out _ H3.out);rintro e6 L ⟨rfl,j⟩;have H:=zh (z.out _ _ j HH.out);have T6:=zh (T3.out.below j);have A:=zh (Za H.out);obtain⟨⟨W,X,Y,Z,aa⟩,_⟩:=id H.out;skip;clear j)
   |(go_at_call 75;go_fit (A6.out L A.out T6.out);rintro e7 w7 ⟨rfl,o⟩;have N:=zh (A.out.trans (o.mono A.out.size));clear o))
  go_ret;exact⟨rfl,N.out⟩
 ·obtain⟨C,D⟩:Zr ⟨13,p,c,g,s⟩ 2 3=true/\Zfa ns ⟨13,p,c,g,s⟩=true:=by simpa only[Bool.and_eq_true,Bool.or_eq_true,decide_eq_true_eq,and_assoc]using show(Zr ⟨13,p,c,g,s⟩ 2 3&&Zfa ns ⟨13,p,c,g,s⟩)=true from J
  have r:=zh (show ∀wr:Yh,Below w.heap.size w wr->Calls Tryz.prog 73 #[.agg #[Yd Yf 13,Yc O p.length Q,Yc P c.length R,Yc G g.length E,Yd Yf s],Yd Yf 2,Yd Yf 3] wr fun e w'=>e=.returned (.bool true)/\Below wr.heap.size wr w' from fun wr i=>M.out wr i 2 3 C);have bh:=zh (PT.out (by have:=(ZfL C).2;exact this) D);clear C D J
  go_wp2_with (first
   |(go_at_call 73;go_fit (r.out _ H3.out);rintro e6 L ⟨rfl,j⟩;have H:=zh (z.out _ _ j HH.out);have T6:=zh (T3.out.below j);have A:=zh (Za H.out);obtain⟨⟨W,X,Y,Z,aa⟩,_⟩:=id H.out;skip;clear j)
   |(go_at_call 79;go_fit (bh.out _ A.out);rintro e7 w7 ⟨rfl,o⟩;have N:=zh (A.out.trans (o.mono A.out.size));clear o))
  go_ret;exact⟨rfl,N.out⟩
 ·obtain⟨C,D⟩:(Zr ⟨14,p,c,g,s⟩ 1 0=true\/Zr ⟨14,p,c,g,s⟩ 2 0=true)/\Zat ns g ZdE=true:=by simpa only[Bool.and_eq_true,Bool.or_eq_true,decide_eq_true_eq,and_assoc]using show((Zr ⟨14,p,c,g,s⟩ 1 0||Zr ⟨14,p,c,g,s⟩ 2 0)&&Zat ns g ZdE)=true from J
  have QA:=zh D;clear D J;cases q3:Zr ⟨14,p,c,g,s⟩ 1 0
  ·have C:=C.resolve_left (by rw[q3];decide);have r:=zh (show ∀wr:Yh,Below w.heap.size w wr->Calls Tryz.prog 73 #[.agg #[Yd Yf 14,Yc O p.length Q,Yc P c.length R,Yc G g.length E,Yd Yf s],Yd Yf 1,Yd Yf 0] wr fun e w'=>e=.returned (.bool false)/\Below wr.heap.size wr w' from fun wr i=>ba.out wr i 1 0 q3);have bf:=zh (show ∀wr:Yh,Below w.heap.size w wr->Calls Tryz.prog 73 #[.agg #[Yd Yf 14,Yc O p.length Q,Yc P c.length R,Yc G g.length E,Yd Yf s],Yd Yf 2,Yd Yf 0] wr fun e w'=>e=.returned (.bool true)/\Below wr.heap.size wr w' from fun wr i=>M.out wr i 2 0 C);clear C q3
   go_wp2_with (first
    |(go_at_call 73;go_fit (r.out _ H3.out);rintro e6 L ⟨rfl,j⟩;have H:=zh (z.out _ _ j HH.out);have T6:=zh (T3.out.below j);have A:=zh (Za H.out);obtain⟨⟨W,X,Y,Z,aa⟩,_⟩:=id H.out;skip;clear j)
    |(go_at_call 73;go_fit (bf.out _ A.out);rintro e7 w7 ⟨rfl,o⟩;have K7:=zh (z.out _ _ o H.out);have T7:=zh (T6.out.below o);have N:=zh (Za K7.out);obtain⟨⟨b1,b2,b3,b4,b5⟩,_⟩:=id K7.out;have A7:=zh (am.out w7 N.out (.func (.func 80) #[] #[]) .arg rfl QA.out);clear o)
    |(go_at_call 74;go_fit (A7.out);rintro e8 w8 ⟨rfl,az⟩;have B8:=zh (N.out.trans (az.mono N.out.size));clear az))
   go_ret;exact⟨rfl,B8.out⟩
  ·have r:=zh (show ∀wr:Yh,Below w.heap.size w wr->Calls Tryz.prog 73 #[.agg #[Yd Yf 14,Yc O p.length Q,Yc P c.length R,Yc G g.length E,Yd Yf s],Yd Yf 1,Yd Yf 0] wr fun e w'=>e=.returned (.bool true)/\Below wr.heap.size wr w' from fun wr i=>M.out wr i 1 0 q3);clear C q3
   go_wp2_with (first
    |(go_at_call 73;go_fit (r.out _ H3.out);rintro e6 L ⟨rfl,j⟩;have H:=zh (z.out _ _ j HH.out);have T6:=zh (T3.out.below j);have A:=zh (Za H.out);obtain⟨⟨W,X,Y,Z,aa⟩,_⟩:=id H.out;have A6:=zh (am.out L A.out (.func (.func 80) #[] #[]) .arg rfl QA.out);clear j)
    |(go_at_call 74;go_fit (A6.out);rintro e7 w7 ⟨rfl,o⟩;have N:=zh (A.out.trans (o.mono A.out.size));clear o))
   go_ret;exact⟨rfl,N.out⟩
 ·obtain⟨C,D⟩:Zr ⟨15,p,c,g,s⟩ 1 0=true/\Zj ns g []=true:=by simpa only[Bool.and_eq_true,Bool.or_eq_true,decide_eq_true_eq,and_assoc]using show(Zr ⟨15,p,c,g,s⟩ 1 0&&Zj ns g [])=true from J
  have A6:=zh (fun(wr:Yh) (B:Below w.heap.size w wr) (T:Za8 wr (.is [7]) (.func (.func 102) #[] #[Ye (Ya ⟨U,0,Yb⟩)]))=>show Calls Tryz.prog 75 #[v,Yc G g.length E,Yc Yb 0 0] wr (fun e w'=>e=.returned (.bool true)/\Below wr.heap.size wr w')from AR.out wr B _ [] (ZeB wr) D);have r:=zh (show ∀wr:Yh,Below w.heap.size w wr->Calls Tryz.prog 73 #[.agg #[Yd Yf 15,Yc O p.length Q,Yc P c.length R,Yc G g.length E,Yd Yf s],Yd Yf 1,Yd Yf 0] wr fun e w'=>e=.returned (.bool true)/\Below wr.heap.size wr w' from fun wr i=>M.out wr i 1 0 C);clear C D J
  go_wp2_with (first
   |(go_at_call 73;go_fit (r.out _ H3.out);rintro e6 L ⟨rfl,j⟩;have H:=zh (z.out _ _ j HH.out);have T6:=zh (T3.out.below j);have A:=zh (Za H.out);obtain⟨⟨W,X,Y,Z,aa⟩,_⟩:=id H.out;skip;clear j)
   |(go_at_call 75;go_fit (A6.out L A.out T6.out);rintro e7 w7 ⟨rfl,o⟩;have N:=zh (A.out.trans (o.mono A.out.size));clear o))
  go_ret;exact⟨rfl,N.out⟩
 ·obtain⟨C,D⟩:Zr ⟨16,p,c,g,s⟩ 0 0=true/\(Zj ns g [ZR,isB [7]]=true\/Zj ns g [ZR,isB [7],isB [7]]=true):=by simpa only[Bool.and_eq_true,Bool.or_eq_true,decide_eq_true_eq,and_assoc]using show(Zr ⟨16,p,c,g,s⟩ 0 0&&(Zj ns g [ZR,isB [7]]||Zj ns g [ZR,isB [7],isB [7]]))=true from J
  have r:=zh (show ∀wr:Yh,Below w.heap.size w wr->Calls Tryz.prog 73 #[.agg #[Yd Yf 16,Yc O p.length Q,Yc P c.length R,Yc G g.length E,Yd Yf s],Yd Yf 0,Yd Yf 0] wr fun e w'=>e=.returned (.bool true)/\Below wr.heap.size wr w' from fun wr i=>M.out wr i 0 0 C);clear C J;cases q3:Zj ns g [ZR,isB [7]]
  ·have D:=D.resolve_left (by rw[q3];decide);have be:=zh (fun(wr:Yh) (B:Below w.heap.size w wr) (T:Za8 wr (.is [7]) (.func (.func 102) #[] #[Ye (Ya ⟨U,0,Yb⟩)]))=>show Calls Tryz.prog 75 #[v,Yc G g.length E,Yc (Ya ⟨wr.heap.size,0,Yb⟩) 2 2] (wr.alloc (Yg #[.func (.func 78) #[] #[],.func (.func 102) #[] #[Ye (Ya ⟨U,0,Yb⟩)]] 61)) (fun e w'=>e=.returned (.bool false)/\Below wr.heap.size wr w')from Zc7 (bp.out (wr.alloc (Yg #[.func (.func 78) #[] #[],.func (.func 102) #[] #[Ye (Ya ⟨U,0,Yb⟩)]] 61)) (B.trans ((below_alloc1 _ _).mono B.size)) _ [.expr,.is [7]] (ZcW wr [.expr,.is [7]] [.func (.func 78) #[] #[],.func (.func 102) #[] #[Ye (Ya ⟨U,0,Yb⟩)]] 61 (by simp[maxLen]) ⟨rfl,T.below (below_alloc1 _ _),trivial⟩) q3));have b8:=zh (fun(wr:Yh) (B:Below w.heap.size w wr) (T:Za8 wr (.is [7]) (.func (.func 102) #[] #[Ye (Ya ⟨U,0,Yb⟩)]))=>show Calls Tryz.prog 75 #[v,Yc G g.length E,Yc (Ya ⟨wr.heap.size,0,Yb⟩) 3 3] (wr.alloc (Yg #[.func (.func 78) #[] #[],.func (.func 102) #[] #[Ye (Ya ⟨U,0,Yb⟩)],.func (.func 102) #[] #[Ye (Ya ⟨U,0,Yb⟩)]] 61)) (fun e w'=>e=.returned (.bool true)/\Below wr.heap.size wr w')from Zc7 (AR.out (wr.alloc (Yg #[.func (.func 78) #[] #[],.func (.func 102) #[] #[Ye (Ya ⟨U,0,Yb⟩)],.func (.func 102) #[] #[Ye (Ya ⟨U,0,Yb⟩)]] 61)) (B.trans ((below_alloc1 _ _).mono B.size)) _ [.expr,.is [7],.is [7]] (ZcW wr [.expr,.is [7],.is [7]] [.func (.func 78) #[] #[],.func (.func 102) #[] #[Ye (Ya ⟨U,0,Yb⟩)],.func (.func 102) #[] #[Ye (Ya ⟨U,0,Yb⟩)]] 61 (by simp[maxLen]) ⟨rfl,T.below (below_alloc1 _ _),T.below (below_alloc1 _ _),trivial⟩) D));clear D q3
   go_wp2_with (first
    |(go_at_call 73;go_fit (r.out _ H3.out);rintro e6 L ⟨rfl,j⟩;have H:=zh (z.out _ _ j HH.out);have T6:=zh (T3.out.below j);have A:=zh (Za H.out);obtain⟨⟨W,X,Y,Z,aa⟩,_⟩:=id H.out;skip;clear j)
    |(go_at_call 75;go_fit (be.out L A.out T6.out);rintro e7 w7 ⟨rfl,o⟩;have K7:=zh (z.out _ _ o H.out);have T7:=zh (T6.out.below o);have N:=zh (Za K7.out);obtain⟨⟨b1,b2,b3,b4,b5⟩,_⟩:=id K7.out;clear o)
    |(go_at_call 75;go_fit (b8.out w7 N.out T7.out);rintro e8 w8 ⟨rfl,az⟩;have B8:=zh (N.out.trans (az.mono N.out.size));clear az))
   go_ret;exact⟨rfl,B8.out⟩
  ·have be:=zh (fun(wr:Yh) (B:Below w.heap.size w wr) (T:Za8 wr (.is [7]) (.func (.func 102) #[] #[Ye (Ya ⟨U,0,Yb⟩)]))=>show Calls Tryz.prog 75 #[v,Yc G g.length E,Yc (Ya ⟨wr.heap.size,0,Yb⟩) 2 2] (wr.alloc (Yg #[.func (.func 78) #[] #[],.func (.func 102) #[] #[Ye (Ya ⟨U,0,Yb⟩)]] 61)) (fun e w'=>e=.returned (.bool true)/\Below wr.heap.size wr w')from Zc7 (AR.out (wr.alloc (Yg #[.func (.func 78) #[] #[],.func (.func 102) #[] #[Ye (Ya ⟨U,0,Yb⟩)]] 61)) (B.trans ((below_alloc1 _ _).mono B.size)) _ [.expr,.is [7]] (ZcW wr [.expr,.is [7]] [.func (.func 78) #[] #[],.func (.func 102) #[] #[Ye (Ya ⟨U,0,Yb⟩)]] 61 (by simp[maxLen]) ⟨rfl,T.below (below_alloc1 _ _),trivial⟩) q3));clear D q3
   go_wp2_with (first
    |(go_at_call 73;go_fit (r.out _ H3.out);rintro e6 L ⟨rfl,j⟩;have H:=zh (z.out _ _ j HH.out);have T6:=zh (T3.out.below j);have A:=zh (Za H.out);obtain⟨⟨W,X,Y,Z,aa⟩,_⟩:=id H.out;skip;clear j)
    |(go_at_call 75;go_fit (be.out L A.out T6.out);rintro e7 w7 ⟨rfl,o⟩;have N:=zh (A.out.trans (o.mono A.out.size));clear o))
   go_ret;exact⟨rfl,N.out⟩
 ·obtain⟨C,D⟩:Zr ⟨17,p,c,g,s⟩ 0 0=true/\Zj ns g [ZR,isB [7]]=true:=by simpa only[Bool.and_eq_true,Bool.or_eq_true,decide_eq_true_eq,and_assoc]using show(Zr ⟨17,p,c,g,s⟩ 0 0&&Zj ns g [ZR,isB [7]])=true from J
  have A6:=zh (fun(wr:Yh) (B:Below w.heap.size w wr) (T:Za8 wr (.is [7]) (.func (.func 102) #[] #[Ye (Ya ⟨U,0,Yb⟩)]))=>show Calls Tryz.prog 75 #[v,Yc G g.length E,Yc (Ya ⟨wr.heap.size,0,Yb⟩) 2 2] (wr.alloc (Yg #[.func (.func 78) #[] #[],.func (.func 102) #[] #[Ye (Ya ⟨U,0,Yb⟩)]] 61)) (fun e w'=>e=.returned (.bool true)/\Below wr.heap.size wr w')from Zc7 (AR.out (wr.alloc (Yg #[.func (.func 78) #[] #[],.func (.func 102) #[] #[Ye (Ya ⟨U,0,Yb⟩)]] 61)) (B.trans ((below_alloc1 _ _).mono B.size)) _ [.expr,.is [7]] (ZcW wr [.expr,.is [7]] [.func (.func 78) #[] #[],.func (.func 102) #[] #[Ye (Ya ⟨U,0,Yb⟩)]] 61 (by simp[maxLen]) ⟨rfl,T.below (below_alloc1 _ _),trivial⟩) D));have r:=zh (show ∀wr:Yh,Below w.heap.size w wr->Calls Tryz.prog 73 #[.agg #[Yd Yf 17,Yc O p.length Q,Yc P c.length R,Yc G g.length E,Yd Yf s],Yd Yf 0,Yd Yf 0] wr fun e w'=>e=.returned (.bool true)/\Below wr.heap.size wr w' from fun wr i=>M.out wr i 0 0 C);clear C D J
  go_wp2_with (first
   |(go_at_call 73;go_fit (r.out _ H3.out);rintro e6 L ⟨rfl,j⟩;have H:=zh (z.out _ _ j HH.out);have T6:=zh (T3.out.below j);have A:=zh (Za H.out);obtain⟨⟨W,X,Y,Z,aa⟩,_⟩:=id H.out;skip;clear j)
   |(go_at_call 75;go_fit (A6.out L A.out T6.out);rintro e7 w7 ⟨rfl,o⟩;have N:=zh (A.out.trans (o.mono A.out.size));clear o))
  go_ret;exact⟨rfl,N.out⟩
 ·obtain⟨C,D⟩:Zr ⟨18,p,c,g,s⟩ 0 0=true/\Zj ns g [ZR]=true:=by simpa only[Bool.and_eq_true,Bool.or_eq_true,decide_eq_true_eq,and_assoc]using show(Zr ⟨18,p,c,g,s⟩ 0 0&&Zj ns g [ZR])=true from J
  have A6:=zh (fun(wr:Yh) (B:Below w.heap.size w wr) (T:Za8 wr (.is [7]) (.func (.func 102) #[] #[Ye (Ya ⟨U,0,Yb⟩)]))=>show Calls Tryz.prog 75 #[v,Yc G g.length E,Yc (Ya ⟨wr.heap.size,0,Yb⟩) 1 1] (wr.alloc (Yg #[.func (.func 78) #[] #[]] 61)) (fun e w'=>e=.returned (.bool true)/\Below wr.heap.size wr w')from Zc7 (AR.out (wr.alloc (Yg #[.func (.func 78) #[] #[]] 61)) (B.trans ((below_alloc1 _ _).mono B.size)) _ [.expr] (ZcW wr [.expr] [.func (.func 78) #[] #[]] 61 (by simp[maxLen]) ⟨rfl,trivial⟩) D));have r:=zh (show ∀wr:Yh,Below w.heap.size w wr->Calls Tryz.prog 73 #[.agg #[Yd Yf 18,Yc O p.length Q,Yc P c.length R,Yc G g.length E,Yd Yf s],Yd Yf 0,Yd Yf 0] wr fun e w'=>e=.returned (.bool true)/\Below wr.heap.size wr w' from fun wr i=>M.out wr i 0 0 C);clear C D J
  go_wp2_with (first
   |(go_at_call 73;go_fit (r.out _ H3.out);rintro e6 L ⟨rfl,j⟩;have H:=zh (z.out _ _ j HH.out);have T6:=zh (T3.out.below j);have A:=zh (Za H.out);obtain⟨⟨W,X,Y,Z,aa⟩,_⟩:=id H.out;skip;clear j)
   |(go_at_call 75;go_fit (A6.out L A.out T6.out);rintro e7 w7 ⟨rfl,o⟩;have N:=zh (A.out.trans (o.mono A.out.size));clear o))
  go_ret;exact⟨rfl,N.out⟩
 ·obtain⟨C,D⟩:Zr ⟨19,p,c,g,s⟩ 0 0=true/\Zj ns g []=true:=by simpa only[Bool.and_eq_true,Bool.or_eq_true,decide_eq_true_eq,and_assoc]using show(Zr ⟨19,p,c,g,s⟩ 0 0&&Zj ns g [])=true from J
  have A6:=zh (fun(wr:Yh) (B:Below w.heap.size w wr) (T:Za8 wr (.is [7]) (.func (.func 102) #[] #[Ye (Ya ⟨U,0,Yb⟩)]))=>show Calls Tryz.prog 75 #[v,Yc G g.length E,Yc Yb 0 0] wr (fun e w'=>e=.returned (.bool true)/\Below wr.heap.size wr w')from AR.out wr B _ [] (ZeB wr) D);have r:=zh (show ∀wr:Yh,Below w.heap.size w wr->Calls Tryz.prog 73 #[.agg #[Yd Yf 19,Yc O p.length Q,Yc P c.length R,Yc G g.length E,Yd Yf s],Yd Yf 0,Yd Yf 0] wr fun e w'=>e=.returned (.bool true)/\Below wr.heap.size wr w' from fun wr i=>M.out wr i 0 0 C);clear C D J
  go_wp2_with (first
   |(go_at_call 73;go_fit (r.out _ H3.out);rintro e6 L ⟨rfl,j⟩;have H:=zh (z.out _ _ j HH.out);have T6:=zh (T3.out.below j);have A:=zh (Za H.out);obtain⟨⟨W,X,Y,Z,aa⟩,_⟩:=id H.out;skip;clear j)
   |(go_at_call 75;go_fit (A6.out L A.out T6.out);rintro e7 w7 ⟨rfl,o⟩;have N:=zh (A.out.trans (o.mono A.out.size));clear o))
  go_ret;exact⟨rfl,N.out⟩
 ·obtain⟨C,D⟩:Zr ⟨20,p,c,g,s⟩ 0 1=true/\Zj ns g []=true:=by simpa only[Bool.and_eq_true,Bool.or_eq_true,decide_eq_true_eq,and_assoc]using show(Zr ⟨20,p,c,g,s⟩ 0 1&&Zj ns g [])=true from J
  have A6:=zh (fun(wr:Yh) (B:Below w.heap.size w wr) (T:Za8 wr (.is [7]) (.func (.func 102) #[] #[Ye (Ya ⟨U,0,Yb⟩)]))=>show Calls Tryz.prog 75 #[v,Yc G g.length E,Yc Yb 0 0] wr (fun e w'=>e=.returned (.bool true)/\Below wr.heap.size wr w')from AR.out wr B _ [] (ZeB wr) D);have r:=zh (show ∀wr:Yh,Below w.heap.size w wr->Calls Tryz.prog 73 #[.agg #[Yd Yf 20,Yc O p.length Q,Yc P c.length R,Yc G g.length E,Yd Yf s],Yd Yf 0,Yd Yf 1] wr fun e w'=>e=.returned (.bool true)/\Below wr.heap.size wr w' from fun wr i=>M.out wr i 0 1 C);clear C D J
  go_wp2_with (first
   |(go_at_call 73;go_fit (r.out _ H3.out);rintro e6 L ⟨rfl,j⟩;have H:=zh (z.out _ _ j HH.out);have T6:=zh (T3.out.below j);have A:=zh (Za H.out);obtain⟨⟨W,X,Y,Z,aa⟩,_⟩:=id H.out;skip;clear j)
   |(go_at_call 75;go_fit (A6.out L A.out T6.out);rintro e7 w7 ⟨rfl,o⟩;have N:=zh (A.out.trans (o.mono A.out.size));clear o))
  go_ret;exact⟨rfl,N.out⟩
 ·obtain⟨C,D⟩:Zr ⟨21,p,c,g,s⟩ 1 0=true/\Zj ns g []=true:=by simpa only[Bool.and_eq_true,Bool.or_eq_true,decide_eq_true_eq,and_assoc]using show(Zr ⟨21,p,c,g,s⟩ 1 0&&Zj ns g [])=true from J
  have A6:=zh (fun(wr:Yh) (B:Below w.heap.size w wr) (T:Za8 wr (.is [7]) (.func (.func 102) #[] #[Ye (Ya ⟨U,0,Yb⟩)]))=>show Calls Tryz.prog 75 #[v,Yc G g.length E,Yc Yb 0 0] wr (fun e w'=>e=.returned (.bool true)/\Below wr.heap.size wr w')from AR.out wr B _ [] (ZeB wr) D);have r:=zh (show ∀wr:Yh,Below w.heap.size w wr->Calls Tryz.prog 73 #[.agg #[Yd Yf 21,Yc O p.length Q,Yc P c.length R,Yc G g.length E,Yd Yf s],Yd Yf 1,Yd Yf 0] wr fun e w'=>e=.returned (.bool true)/\Below wr.heap.size wr w' from fun wr i=>M.out wr i 1 0 C);clear C D J
  go_wp2_with (first
   |(go_at_call 73;go_fit (r.out _ H3.out);rintro e6 L ⟨rfl,j⟩;have H:=zh (z.out _ _ j HH.out);have T6:=zh (T3.out.below j);have A:=zh (Za H.out);obtain⟨⟨W,X,Y,Z,aa⟩,_⟩:=id H.out;skip;clear j)
   |(go_at_call 75;go_fit (A6.out L A.out T6.out);rintro e7 w7 ⟨rfl,o⟩;have N:=zh (A.out.trans (o.mono A.out.size));clear o))
  go_ret;exact⟨rfl,N.out⟩
 ·obtain⟨C,q3,D⟩:Zr ⟨22,p,c,g,s⟩ 0 1=true/\num ⟨22,p,c,g,s⟩ 0<=5/\Zj ns g [ZR,ZR]=true:=by simpa only[Bool.and_eq_true,Bool.or_eq_true,decide_eq_true_eq,and_assoc]using show(Zr ⟨22,p,c,g,s⟩ 0 1&&decide (num ⟨22,p,c,g,s⟩ 0<=5)&&Zj ns g [ZR,ZR])=true from J
  have A6:=zh (fun(wr:Yh) (B:Below w.heap.size w wr) (T:Za8 wr (.is [7]) (.func (.func 102) #[] #[Ye (Ya ⟨U,0,Yb⟩)]))=>show Calls Tryz.prog 75 #[v,Yc G g.length E,Yc (Ya ⟨wr.heap.size,0,Yb⟩) 2 2] (wr.alloc (Yg #[.func (.func 78) #[] #[],.func (.func 78) #[] #[]] 61)) (fun e w'=>e=.returned (.bool true)/\Below wr.heap.size wr w')from Zc7 (AR.out (wr.alloc (Yg #[.func (.func 78) #[] #[],.func (.func 78) #[] #[]] 61)) (B.trans ((below_alloc1 _ _).mono B.size)) _ [.expr,.expr] (ZcW wr [.expr,.expr] [.func (.func 78) #[] #[],.func (.func 78) #[] #[]] 61 (by simp[maxLen]) ⟨rfl,rfl,trivial⟩) D));have r:=zh (show ∀wr:Yh,Below w.heap.size w wr->Calls Tryz.prog 73 #[.agg #[Yd Yf 22,Yc O p.length Q,Yc P c.length R,Yc G g.length E,Yd Yf s],Yd Yf 0,Yd Yf 1] wr fun e w'=>e=.returned (.bool true)/\Below wr.heap.size wr w' from fun wr i=>M.out wr i 0 1 C);have ay:=zh C;have J:=(ZfL ay.out).2;dsimp only at J;obtain⟨y,hy⟩:∃y,c[0]? = Ya y:=⟨_,Ym (by omega)⟩
  obtain⟨an,rfl,_⟩:=ints_at R2.out (Below.refl _ _) hy (by omega);have NC:=zh (fun(wr:Yh) (i:Below w.heap.size w wr)=>show wr.cell? an=Ya (Yd Yf y)from by obtain⟨a2,e2,D⟩:=ints_at R2.out i hy (by omega);injection e2 with e2;subst e2;rwa[show an.add 0=an by unfold Addr.add;simp]at D);have i3:(0:Int)<(c.length:Int):=by omega
  clear J;rw[Zdw (n:=(⟨22,p,c,g,s⟩:Nd)) hy]at q3;clear C D J hy ay
  go_wp2_with (first
   |(go_at_call 73;go_fit (r.out _ H3.out);rintro e6 L ⟨rfl,j⟩;have H:=zh (z.out _ _ j HH.out);have T6:=zh (T3.out.below j);have A:=zh (Za H.out);obtain⟨⟨W,X,Y,Z,aa⟩,_⟩:=id H.out;have y6:=NC.out L A.out;clear j)
   |(go_at_call 75;go_fit (A6.out L A.out T6.out);rintro e7 w7 ⟨rfl,o⟩;have N:=zh (A.out.trans (o.mono A.out.size));clear o))
  go_ret;exact⟨rfl,N.out⟩
 ·obtain⟨C,D⟩:Zr ⟨23,p,c,g,s⟩ 0 0=true/\Zj ns g [ZR]=true:=by simpa only[Bool.and_eq_true,Bool.or_eq_true,decide_eq_true_eq,and_assoc]using show(Zr ⟨23,p,c,g,s⟩ 0 0&&Zj ns g [ZR])=true from J
  have A6:=zh (fun(wr:Yh) (B:Below w.heap.size w wr) (T:Za8 wr (.is [7]) (.func (.func 102) #[] #[Ye (Ya ⟨U,0,Yb⟩)]))=>show Calls Tryz.prog 75 #[v,Yc G g.length E,Yc (Ya ⟨wr.heap.size,0,Yb⟩) 1 1] (wr.alloc (Yg #[.func (.func 78) #[] #[]] 61)) (fun e w'=>e=.returned (.bool true)/\Below wr.heap.size wr w')from Zc7 (AR.out (wr.alloc (Yg #[.func (.func 78) #[] #[]] 61)) (B.trans ((below_alloc1 _ _).mono B.size)) _ [.expr] (ZcW wr [.expr] [.func (.func 78) #[] #[]] 61 (by simp[maxLen]) ⟨rfl,trivial⟩) D));have r:=zh (show ∀wr:Yh,Below w.heap.size w wr->Calls Tryz.prog 73 #[.agg #[Yd Yf 23,Yc O p.length Q,Yc P c.length R,Yc G g.length E,Yd Yf s],Yd Yf 0,Yd Yf 0] wr fun e w'=>e=.returned (.bool true)/\Below wr.heap.size wr w' from fun wr i=>M.out wr i 0 0 C);clear C D J
  go_wp2_with (first
   |(go_at_call 73;go_fit (r.out _ H3.out);rintro e6 L ⟨rfl,j⟩;have H:=zh (z.out _ _ j HH.out);have T6:=zh (T3.out.below j);have A:=zh (Za H.out);obtain⟨⟨W,X,Y,Z,aa⟩,_⟩:=id H.out;skip;clear j)
   |(go_at_call 75;go_fit (A6.out L A.out T6.out);rintro e7 w7 ⟨rfl,o⟩;have N:=zh (A.out.trans (o.mono A.out.size));clear o))
  go_ret;exact⟨rfl,N.out⟩
end Go.Proofs.YtdkegpkfjgloeaaGreatDoor
