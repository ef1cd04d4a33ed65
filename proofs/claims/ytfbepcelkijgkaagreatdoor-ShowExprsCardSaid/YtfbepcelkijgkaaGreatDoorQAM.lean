import Derived.RegionTactic
import Derived.Test.YtfbepcelkijgkaaGreatDoorQAB
import Derived.Test.YtfbepcelkijgkaaGreatDoorQAL
set_option maxRecDepth 100000
set_option maxHeartbeats 8000000
open Option renaming some → Ya, none → Yb
open Go.Value renaming slice → Yc, int → Yd, pointer → Ye
open Go.IntKind renaming i64 → Yf
open Go.Obj renaming cells → Yg
open Go renaming World → Yh, Value → Yi
namespace Go.Proofs.YtfbepcelkijgkaaGreatDoor
section
open Go.RowKit
structure PrN (w0 w:Yh) (bp:Nat) (t:Txt) (dp:Nat) (vn:Yi) (ns:List Nd):Prop where
 p:PrS w0 w bp t dp vn
 n:Zi w0 vn ns
abbrev ndX (x:NdV×Nd):Yi:=.agg #[Yd Yf x.2.kind,x.1.1,x.1.2.1,x.1.2.2,Yd Yf x.2.pos]
abbrev ZiX:Array Yi:=#[Yd Yf 0,Yc Yb 0 0,Yc Yb 0 0,Yc Yb 0 0,Yd Yf 0]
theorem ZnR (X:Yh) (b i j:Nat) (v:Yi) (h:i≠j):(X.setCell ⟨b,i,Yb⟩ v).cell? ⟨b,j,Yb⟩=X.cell? ⟨b,j,Yb⟩:=World.cell?_setCell_other _ _ _ _ (fun e=>h (by injection e with _ e))
theorem Zp2 {X:Yh} {b:Nat} (h:Blk X b ZiX) (a c d e f:Yi):(X.setCell ⟨b,0,Yb⟩ a).cell? ⟨b,0,Yb⟩=Ya a/\((X.setCell ⟨b,0,Yb⟩ a).setCell ⟨b,1,Yb⟩ c).cell? ⟨b,1,Yb⟩=Ya c/\(((X.setCell ⟨b,0,Yb⟩ a).setCell ⟨b,1,Yb⟩ c).setCell ⟨b,2,Yb⟩ d).cell? ⟨b,2,Yb⟩=Ya d/\((((X.setCell ⟨b,0,Yb⟩ a).setCell ⟨b,1,Yb⟩ c).setCell ⟨b,2,Yb⟩ d).setCell ⟨b,3,Yb⟩ e).cell? ⟨b,3,Yb⟩=Ya e/\(((((X.setCell ⟨b,0,Yb⟩ a).setCell ⟨b,1,Yb⟩ c).setCell ⟨b,2,Yb⟩ d).setCell ⟨b,3,Yb⟩ e).setCell ⟨b,4,Yb⟩ f).cell? ⟨b,4,Yb⟩=Ya f:=
 ⟨by rw[(h.set 0 a).cell 0];rfl,by rw[((h.set 0 a).set 1 c).cell 1];rfl,by rw[(((h.set 0 a).set 1 c).set 2 d).cell 2];rfl,by rw[((((h.set 0 a).set 1 c).set 2 d).set 3 e).cell 3];rfl,by rw[(((((h.set 0 a).set 1 c).set 2 d).set 3 e).set 4 f).cell 4];rfl⟩
theorem ZmR {w X:Yh} (h:Below w.heap.size w X) {b:Nat} (a:w.heap.size<=b) (c d e f g:Yi):Below w.heap.size w (((((X.setCell ⟨b,0,Yb⟩ c).setCell ⟨b,1,Yb⟩ d).setCell ⟨b,2,Yb⟩ e).setCell ⟨b,3,Yb⟩ f).setCell ⟨b,4,Yb⟩ g):=
 ((((h.setCell (p:=⟨b,0,Yb⟩) a _).setCell (p:=⟨b,1,Yb⟩) a _).setCell (p:=⟨b,2,Yb⟩) a _).setCell (p:=⟨b,3,Yb⟩) a _).setCell (p:=⟨b,4,Yb⟩) a _
theorem Zb0 (V w:Yh) (Z dp:Nat) (t:Txt) (vn:Yi) (ns:List Nd) (x:NdV×Nd) (i k:Nat) (h:PrN V w Z t dp vn ns) (hx:ZS V x) (J:x.2.kids[i]? = Ya (k:Int)) (hk:k<ns.length) :
  Calls Tryz.prog 42 #[Ye (Ya ⟨Z,0,Yb⟩),ndX x,Yd Yf (i:Int)] w fun e w'=>∃y:NdV×Nd,e=.returned (ndX y)/\ns[k]? = Ya y.2/\ZS V y/\Below w.heap.size w w':=by
 obtain⟨⟨vw,vu,vk⟩,E,G,c,j,F⟩:=x;obtain⟨hw,hu,C⟩:=hx;dsimp only at hw hu C J⊢;obtain⟨q,u,rfl,_⟩:=hw;obtain⟨o,s,rfl,_⟩:=hu;obtain⟨m,r,rfl,_,_,hK⟩:=C;obtain⟨An,cn,rs,rfl,_,aj,hm,hN,hE⟩:=h.n;have T:=(List.getElem?_eq_some_iff.1 J).1;have U:j.length<=maxLen:=by omega
 obtain⟨v,hv,_⟩:=h.p.box;obtain⟨y,K⟩:∃y,rs[k]? = Ya y:=⟨_,Ym (by rw[<-hm,List.length_map]at hk;exact hk)⟩
 have D:ns[k]? = Ya y.2:=by rw[<-hm,List.getElem?_map,K];rfl
 have P:=below_alloc1 w (Yg #[Yd Yf E,.slice q G.length u,.slice o c.length s,.slice m j.length r,Yd Yf F] 37);have X:=Blk.start w #[Yd Yf E,.slice q G.length u,.slice o c.length s,.slice m j.length r,Yd Yf F] 37;have a2:=below_alloc1 (w.alloc (Yg #[Yd Yf E,.slice q G.length u,.slice o c.length s,.slice m j.length r,Yd Yf F] 37)) (.cells ZiX 37);have L:=Blk.start (w.alloc (Yg #[Yd Yf E,.slice q G.length u,.slice o c.length s,.slice m j.length r,Yd Yf F] 37)) ZiX 37;rw[World.size_alloc]at L;have I:=P.trans (a2.mono P.size);have Y:=h.p.below.trans (I.mono h.p.below.size);have a:=zh (zi (X.keep a2) (zi L (zi (hv.keep I) (zi I (zi Y (zi D (hE y (List.mem_of_getElem? K))))))));have H:=zh (zi hK (zi hN (zi J K)));clear h hK hN hE hm hv K D P X a2 L I Y J;go_enter Tryz.func42,Tryz.ntmps42;go_upto_region 1 with fail;generalize((w.alloc (Yg #[Yd Yf E,.slice q G.length u,.slice o c.length s,.slice m j.length r,Yd Yf F] 37)).alloc (.cells ZiX 37))=W at *;obtain⟨ak,rfl,d0⟩:=ints_at H.out.1 a.out.2.2.2.2.1 H.out.2.2.1 (by omega);obtain⟨an,rfl,n0,n1,n2,n3,n4⟩:=Zan H.out.2.1 a.out.2.2.2.2.1 H.out.2.2.2 (by omega);have c2:=a.out.2.2.1.blk.cell 2;have c3:=a.out.1.cell 3;simp only[List.getElem?_toArray,List.getElem?_cons_zero,List.getElem?_cons_succ]at c2 c3;have z0:=a.out.2.1.cell 0;have z1:=a.out.2.1.cell 1;have z2:=a.out.2.1.cell 2;have z3:=a.out.2.1.cell 3;have z4:=a.out.2.1.cell 4;simp only[List.getElem?_toArray,List.getElem?_cons_zero,List.getElem?_cons_succ]at z0 z1 z2 z3 z4;have f0:=a.out.2.1.free 0;have f1:=a.out.2.1.free 1;have f2:=a.out.2.1.free 2;have f3:=a.out.2.1.free 3;have f4:=a.out.2.1.free 4;have i0:(0:Int)<=(i:Int):=by omega
 have i1:(i:Int)<(j.length:Int):=by omega
 have k0:(0:Int)<=(k:Int):=by omega
 have k1:(k:Int)<(ns.length:Int):=by omega
 obtain⟨⟨yw,yu,yk⟩,g,f,b,d,l⟩:=y;obtain⟨z,A,B⟩:=a.out.2.2.2.2.2.2;dsimp only at z A B;obtain⟨O,S,rfl,_⟩:=z;obtain⟨N,R,rfl,_⟩:=A;obtain⟨M,Q,rfl,_⟩:=B;dsimp only at n0 n1 n2 n3 n4;clear T U hk;have so:=ZnR;refine wp_region_still_tail 11 (by kernel_rfl) (by kernel_rfl) ?_;simp only[List.take_succ_cons,List.take_zero,List.drop_succ_cons,List.drop_zero]
 iterate 11 still_step
 refine wpStill_nil ?_;change wpList _ _ _ _ _ W.drew;go_wp2_with fail;obtain⟨r0,r1,r2,r3,r4⟩:=Zp2 a.out.2.1 (Yd Yf g) (Yc O f.length S) (Yc N b.length R) (Yc M d.length Q) (Yd Yf l);exact bodyPost_ret (v:=.agg #[Yd Yf g,Yc O f.length S,Yc N b.length R,Yc M d.length Q,Yd Yf l]) (by simp[results,Tryz.results42,go_sem,so,r0,r1,r2,r3,r4]) rfl ⟨Yc O f.length S,Yc N b.length R,Yc M d.length Q,⟨g,f,b,d,l⟩,rfl,a.out.2.2.2.2.2.1,a.out.2.2.2.2.2.2,(ZmR a.out.2.2.2.1 (Nat.le_succ _) _ _ _ _ _).drew⟩
end
section
open Go.RowKit
def Zhz (n:Nd):Prop:=n.kind=22->∃s r,n.nums=s::r/\0<=s/\s<=5
theorem ZeL (z w:Yh) (x:NdV×Nd) (hx:ZS z x) (y:Below z.heap.size z w) (j:Zhz x.2) :
  Calls Tryz.prog 54 #[ndX x] w fun e w'=>e=.returned (Yd Yf (Zz x.2:Nat))/\Below w.heap.size w w':=by
 obtain⟨⟨O,N,M⟩,f,i,a,g,h⟩:=x;obtain⟨F,E,d⟩:=hx;dsimp only at F E d j⊢;obtain⟨m,u,rfl,_⟩:=F;obtain⟨A,t,rfl,_,_,v⟩:=E;obtain⟨l,q,rfl,_⟩:=d;have o:=below_alloc1 w (Yg #[Yd Yf f,.slice m i.length u,Yc A a.length t,.slice l g.length q,Yd Yf h] 37);have n:=Blk.start w #[Yd Yf f,.slice m i.length u,Yc A a.length t,.slice l g.length q,Yd Yf h] 37;have G:=n.cell 0;have H:=n.cell 2;simp only[List.getElem?_toArray,List.getElem?_cons_zero,List.getElem?_cons_succ]at G H;have B:=zh o;have p:=y.trans (o.mono y.size);clear o n y;by_cases hk:f=22
 ·subst hk;obtain⟨s,r,b,I,J⟩:=j rfl;dsimp only at b;obtain⟨C,rfl,D⟩:=ints_at (k:=0) (x:=s) v p (by rw[b];rfl) (by rw[b];exact Nat.succ_pos _);have K:(w.alloc (Yg #[Yd Yf 22,.slice m i.length u,Yc (Ya C) a.length t,.slice l g.length q,Yd Yf h] 37)).cell? C=Ya (Yd Yf s):=D;clear D;have L:(0:Int)<(a.length:Int):=by rw[b];simp only[Yk];omega
  have c:Zz ⟨22,i,a,g,h⟩=if s<=1 then 0 else if s<=3 then 1 else 2:=by unfold Zz num;rw[Yo rfl];dsimp only;rw[b];rfl
  rw[c];clear v b c p j;have:s=0\/s=1\/s=2\/s=3\/s=4\/s=5:=by omega
  rcases this with rfl|rfl|rfl|rfl|rfl|rfl <;>
  ·clear I J;go_enter Tryz.func54,Tryz.ntmps54;go_wp2_with fail;go_ret;exact⟨rfl,B.out⟩
 ·have c:Zz ⟨f,i,a,g,h⟩=3:=by unfold Zz;rw[Yn hk]
  rw[c];have t0:(f != 22)=true:=by rw[bne_iff_ne];exact hk
  clear v c p j hk;go_enter Tryz.func54,Tryz.ntmps54;go_wp2_with fail;go_ret;exact⟨rfl,B.out⟩
end
section
open Go.RowKit
def ZV (ns:List Nd):Nat->Nd->Prop
 |0,_=>False
 |f+1,n=>Zhz n/\((n.kind=20/\∃v r,n.nums=v::r/\-9223372036854775808<=v/\v<=9223372036854775807)\/(n.kind=21/\∃s r,n.words=s::r) ∨
  (n.kind=23/\∃k:Nat,n.kids[0]? = Ya (k:Int)/\k<ns.length/\ZV ns f (Zf ns k)) ∨
  (n.kind=22/\∃j k:Nat,n.kids[0]? = Ya (j:Int)/\j<ns.length/\ZV ns f (Zf ns j)/\n.kids[1]? = Ya (k:Int)/\k<ns.length/\ZV ns f (Zf ns k)))
theorem ZV.bin {ns:List Nd} {f:Nat} {n:Nd} (h:ZV ns f n):Zhz n:=by
 cases f with
 |zero=>exact h.elim
 |succ f=>exact h.1
def opT (ns:List Nd) (f:Nat) (m:Nd) (a:Nat):Txt:=if a<=Zz m then ZH ns f m else [40]++ZH ns f m++[41]
theorem ZdP {g w:Yh} {a c b:Nat} {t:Txt} {f:Yi} {cs:Array Yi} (h:PrS g w a t c f) (k:Zk w b 37 cs):b≠a:=by obtain⟨v,d,_⟩:=h.box;intro e;subst e;exact absurd (Zhw k d) (by decide)
def ZbA (b:Yh) (ns:List Nd) (f:Nat):Prop:=
 ∀(w:Yh) (a d:Nat) (t:Txt) (c:Yi) (x:NdV×Nd),PrS b w a t d c->Zi b c ns->ZS b x->ZV ns f x.2->t.length+(ZH ns f x.2).length+100<=140737488355328 ->
  Calls Tryz.prog 23 #[Ye (Ya ⟨a,0,Yb⟩),ndX x] w fun e g=>e=.returned (.tuple #[])/\PrS b g a (t++ZH ns f x.2) d c/\Fr w g a
abbrev ndC (x:NdV×Nd):Array Yi:=#[Yd Yf x.2.kind,x.1.1,x.1.2.1,x.1.2.2,Yd Yf x.2.pos]
theorem Zm {w:Yh} {b:Nat} {x:NdV×Nd} (h:Zk w b 37 (ndC x)):w.cell? ⟨b,0,Yb⟩=Ya (Yd Yf x.2.kind)/\w.cell? ⟨b,1,Yb⟩=Ya x.1.1/\w.cell? ⟨b,2,Yb⟩=Ya x.1.2.1/\w.cell? ⟨b,3,Yb⟩=Ya x.1.2.2/\w.cell? ⟨b,4,Yb⟩=Ya (Yd Yf x.2.pos):=by have a:=h.blk.cell 0;have c:=h.blk.cell 1;have d:=h.blk.cell 2;have e:=h.blk.cell 3;have f:=h.blk.cell 4;simp only[List.getElem?_toArray,List.getElem?_cons_zero,List.getElem?_cons_succ]at a c d e f;exact⟨a,c,d,e,f⟩
theorem Zda (u w:Yh) (i H f b:Nat) (t:Txt) (y:Yi) (ns:List Nd) (x:NdV×Nd) (hE:ZbA u ns f) (h:PrS u w i t H y) (hN:Zi u y ns) (hx:ZS u x) (O:ZV ns f x.2) (r:t.length+(opT ns f x.2 b).length+100<=140737488355328) :
  Calls Tryz.prog 53 #[Ye (Ya ⟨i,0,Yb⟩),ndX x,Yd Yf (b:Nat)] w fun e w'=>e=.returned (.tuple #[])/\PrS u w' i (t++opT ns f x.2 b) H y/\Fr w w' i:=by
 have hq:=hx;have o:=O.bin;obtain⟨⟨vw,vu,vk⟩,m,g,a,d,n⟩:=x;obtain⟨hw,hu,K⟩:=hx;dsimp only at hw hu K O r o⊢;obtain⟨B,G,rfl,_⟩:=hw;obtain⟨A,F,rfl,_⟩:=hu;obtain⟨z,E,rfl,_⟩:=K;have R:=below_alloc1 w (Yg #[Yd Yf m,Yc B g.length G,Yc A a.length F,.slice z d.length E,Yd Yf n] 37);have P:Zk _ _ _ _:=Zk.start w #[Yd Yf m,Yc B g.length G,Yc A a.length F,.slice z d.length E,Yd Yf n] 37;obtain⟨c0,c1,c2,c3,c4⟩:=Zm (x:=((Yc B g.length G,Yc A a.length F,.slice z d.length E),⟨m,g,a,d,n⟩)) P;dsimp only at c0 c1 c2 c3 c4;have X:=h.keep R;have M:=zh (ZeL u _ _ hq X.below o);generalize N:Zz ⟨m,g,a,d,n⟩=s at M;have c:=zh (zi X (zi P (zi R (zi hN (zi hq (zi O hE))))));have HP:=zh h;clear X P R hN hq O hE h o;generalize L:w.alloc (Yg #[Yd Yf m,Yc B g.length G,Yc A a.length F,.slice z d.length E,Yd Yf n] 37)=w1 at M c c0 c1 c2 c3 c4;by_cases p:b<=s
 ·have J:opT ns f ⟨m,g,a,d,n⟩ b=ZH ns f ⟨m,g,a,d,n⟩:=by unfold opT;rw[N,Yo p]
  rw[J]at r⊢;have j:(b:Int)<=(s:Int):=by omega
  have I:=zh r;clear r J N p;go_enter Tryz.func53,Tryz.ntmps53;go_upto_region 2 with(go_at_call 54;(refine M.out.mono ?_);rintro e Y ⟨rfl,o⟩;have q:=zh o;clear o)
  have D:=c.out.2.1.keep q.out;obtain⟨S,T,U,V,W⟩:=Zm (x:=((Yc B g.length G,Yc A a.length F,.slice z d.length E),⟨m,g,a,d,n⟩)) D;dsimp only at S T U V W;have Q:=zh (c.out.2.2.2.2.2.2 Y i H t y _ (c.out.1.keep q.out) c.out.2.2.2.1 c.out.2.2.2.2.1 c.out.2.2.2.2.2.1 I.out);clear D;go_wp2_with (go_at_call 23;(refine Q.out.mono ?_);rintro e w3 ⟨rfl,l,k⟩;have C:=zh (zi l k);clear l k);refine bodyPost_ret (v:=.tuple #[]) (results_none (by kernel_rfl) _ _ _) rfl ⟨rfl,C.out.1,((Fr.of_below i (L▸c.out.2.2.1)).trans (Fr.of_below i q.out)).trans C.out.2⟩
 ·have J:opT ns f ⟨m,g,a,d,n⟩ b=[40]++ZH ns f ⟨m,g,a,d,n⟩++[41]:=by unfold opT;rw[N,Yn p]
  rw[J]at r⊢;simp only[Yj,Yk,Yl]at r;have j:¬((b:Int)<=(s:Int)):=by omega
  have I:=zh r;clear r J N p;go_enter Tryz.func53,Tryz.ntmps53;go_upto_region 3 with(go_at_call 54;(refine M.out.mono ?_);rintro e Y ⟨rfl,o⟩;have q:=zh o;clear o)
  have A2:=zh (Zao u Y i H t y [40] (c.out.1.keep q.out) (by have:=I.out;simp only[Yk,Yl];omega));go_upto_region 4 with(go_at_call 36;(refine A2.out.mono ?_);rintro e w3 ⟨rfl,l,k⟩;have C:=zh (zi l k);clear l k)
  have D:=c.out.2.1.keep q.out;have K3:=C.out.2.at_ _ _ _ (ZdP (c.out.1.keep q.out) D) (by decide) D;obtain⟨S,T,U,V,W⟩:=Zm (x:=((Yc B g.length G,Yc A a.length F,.slice z d.length E),⟨m,g,a,d,n⟩)) K3;dsimp only at S T U V W;have Q:=zh (c.out.2.2.2.2.2.2 w3 i H _ y _ C.out.1 c.out.2.2.2.1 c.out.2.2.2.2.1 c.out.2.2.2.2.2.1 (by have:=I.out;simp only[Yj,Yk,Yl];omega));clear D K3;go_upto_region 5 with(go_at_call 23;(refine Q.out.mono ?_);rintro e w4 ⟨rfl,l,k⟩;have Z:=zh (zi l k);clear l k)
  have A4:=zh (Zao u w4 i H _ y [41] Z.out.1 (by have:=I.out;simp only[Yj,Yk,Yl];omega));go_wp2_with (go_at_call 36;(refine A4.out.mono ?_);rintro e w5 ⟨rfl,l,k⟩;have H5:=zh (zi l k);clear l k);go_end0;refine⟨rfl,?_,((((Fr.of_below i (L▸c.out.2.2.1)).trans (Fr.of_below i q.out)).trans C.out.2).trans Z.out.2).trans H5.out.2⟩;have:=H5.out.1;simp only[List.append_assoc]at this⊢;exact this
end
section
open Go.RowKit
theorem Zo (w:Yh):Below w.heap.size w w.drew:=(Below.refl _ _).drew
theorem Zp0 (l w:Yh) (g C f:Nat) (t:Txt) (O:Yi) (ns:List Nd) (x:NdV×Nd) (h:PrS l w g t C O) (hx:ZS l x) (U:ZeW l l) (v:Int) (r:List Int) (hk:x.2.kind=20) (i:x.2.nums=v::r) (J:-9223372036854775808<=v/\v<=9223372036854775807) (G:t.length+(ZH ns (f+1) x.2).length+100<=140737488355328) :
  Calls Tryz.prog 23 #[Ye (Ya ⟨g,0,Yb⟩),ndX x] w fun e w'=>e=.returned (.tuple #[])/\PrS l w' g (t++ZH ns (f+1) x.2) C O/\Fr w w' g:=by
 have hq:=hx;obtain⟨⟨vw,vu,vk⟩,kd,d,a,c,j⟩:=x;obtain⟨W,V,s⟩:=hx;dsimp only at hk i W V s G⊢;obtain⟨n,q,rfl,L,M,hW,D⟩:=W;obtain⟨u,p,rfl,H,I,Q⟩:=V;obtain⟨m,o,rfl,E,F,hK⟩:=s;subst hk;have A:=below_alloc1 w (Yg #[Yd Yf 20,.slice n d.length q,.slice u a.length p,.slice m c.length o,Yd Yf j] 37);have z:Zk _ _ _ _:=Zk.start w #[Yd Yf 20,.slice n d.length q,.slice u a.length p,.slice m c.length o,Yd Yf j] 37;have y:=h.keep A;have R:ZH ns (f+1) ⟨20,d,a,c,j⟩=ZbE v:=by simp only[ZH,num,i];rfl
 rw[R]at G⊢;obtain⟨Z,c1,c2,c3,c4⟩:=Zm (x:=((.slice n d.length q,.slice u a.length p,.slice m c.length o),⟨20,d,a,c,j⟩)) (z);dsimp only at Z c1 c2 c3 c4;generalize K:w.alloc (Yg #[Yd Yf 20,.slice n d.length q,.slice u a.length p,.slice m c.length o,Yd Yf j] 37)=b at *;obtain⟨B,rfl,N⟩:=ints_at (k:=0) (x:=v) Q (y.keep (Zo b)).below (by rw[i];rfl) (by rw[i];exact Nat.succ_pos _);have u1:b.drew.cell? B=Ya (Yd Yf v):=N;have u2:b.cell? B=Ya (Yd Yf v):=N;have al:0<a.length:=by rw[i];exact Nat.succ_pos _
 obtain⟨d0,d1,d2,d3,d4⟩:=Zm (x:=((.slice n d.length q,Yc (Ya B) a.length p,.slice m c.length o),⟨20,d,a,c,j⟩)) (z.keep (Zo b));dsimp only at d0 d1 d2 d3 d4;have Y:=zh (ZgK l b.drew g C t O v (y.keep (Zo b)) (U.on (y.keep (Zo b)).below) J.1 J.2 (by omega));have X:=zh A;clear y z A hq L M hW D H I Q E F hK h J G R U N i;go_enter Tryz.func23,Tryz.ntmps23;go_upto_region 3 with fail;refine wp_region_still_tail 7 (by kernel_rfl) (by kernel_rfl) ?_;simp only[List.take_succ_cons,List.take_zero,List.drop_succ_cons,List.drop_zero]
 iterate 7 still_step
 refine wpStill_nil ?_;change wpList _ _ _ _ _ b.drew;go_wp2_with (go_at_call 52;(refine Y.out.mono ?_);rintro e w3 ⟨rfl,T,S⟩;have P:=zh (zi T S);clear T S);go_end0;exact⟨rfl,P.out.1,((Fr.of_below g (K▸X.out)).trans (Fr.of_below g (Zo b))).trans P.out.2⟩
theorem Zp1 (v w:Yh) (d B f:Nat) (t:Txt) (N:Yi) (ns:List Nd) (x:NdV×Nd) (h:PrS v w d t B N) (hx:ZS v x) (s:Txt) (r:List Txt) (hk:x.2.kind=21) (i:x.2.words=s::r) (F:t.length+(ZH ns (f+1) x.2).length+100<=140737488355328) :
  Calls Tryz.prog 23 #[Ye (Ya ⟨d,0,Yb⟩),ndX x] w fun e w'=>e=.returned (.tuple #[])/\PrS v w' d (t++ZH ns (f+1) x.2) B N/\Fr w w' d:=by
 have hq:=hx;obtain⟨⟨vw,vu,vk⟩,kd,b,a,c,j⟩:=x;obtain⟨U,T,q⟩:=hx;dsimp only at hk i U T q F⊢;obtain⟨u,p,rfl,J,K,P,C⟩:=U;obtain⟨m,o,rfl,G,H,hU⟩:=T;obtain⟨l,n,rfl,D,E,hK⟩:=q;subst hk;have z:=below_alloc1 w (Yg #[Yd Yf 21,.slice u b.length p,.slice m a.length o,.slice l c.length n,Yd Yf j] 37);have y:Zk _ _ _ _:=Zk.start w #[Yd Yf 21,.slice u b.length p,.slice m a.length o,.slice l c.length n,Yd Yf j] 37;have L:=h.keep z;have Q:ZH ns (f+1) ⟨21,b,a,c,j⟩=s:=by simp only[ZH,word,i];rfl
 rw[Q]at F⊢;obtain⟨X,Y,Z,c3,c4⟩:=Zm (x:=((.slice u b.length p,.slice m a.length o,.slice l c.length n),⟨21,b,a,c,j⟩)) (y);dsimp only at X Y Z c3 c4;generalize I:w.alloc (Yg #[Yd Yf 21,.slice u b.length p,.slice m a.length o,.slice l c.length n,Yd Yf j] 37)=g at *;obtain⟨A,rfl,M⟩:=ZbH (k:=0) (x:=s) P (L.keep (Zo g)).below (by rw[i];rfl) (by rw[i];exact Nat.succ_pos _);have u1:g.drew.cell? A=Ya (txt s):=M;have u2:g.cell? A=Ya (txt s):=M;have aj:0<b.length:=by rw[i];exact Nat.succ_pos _
 obtain⟨d0,d1,d2,d3,d4⟩:=Zm (x:=((Yc (Ya A) b.length p,.slice m a.length o,.slice l c.length n),⟨21,b,a,c,j⟩)) (y.keep (Zo g));dsimp only at d0 d1 d2 d3 d4;have V:=zh (Zao v g.drew d B t N s (L.keep (Zo g)) (by omega));have W:=zh z;clear L y z hq J K P C G H hU D E hK h F Q M i;go_enter Tryz.func23,Tryz.ntmps23;go_upto_region 5 with fail;go_region_with (go_at_call 36;(refine V.out.mono ?_);rintro e w3 ⟨rfl,S,R⟩;have O:=zh (zi S R);clear S R)
 all_goals
  go_wp2_with fail;go_end0;exact⟨rfl,O.out.1,((Fr.of_below d (I▸W.out)).trans (Fr.of_below d (Zo g))).trans O.out.2⟩
theorem ZbP {ns:List Nd} {k:Nat} {y:Nd} (h:ns[k]? = Ya y):Zf ns k=y:=by unfold Zf;rw[Int.toNat_natCast,h];rfl
theorem Zcu {ns:List Nd} {n:Nd} {i k:Nat} {y:Nd} (a:n.kids[i]? = Ya (k:Int)) (h:ns[k]? = Ya y):Zaa ns n i=y:=by
 have:atI n.kids i=k:=by unfold atI;rw[Int.toNat_natCast,a];rfl
 unfold Zaa;rw[this];exact ZbP h
theorem ZpZ (i w:Yh) (c A f:Nat) (t:Txt) (o:Yi) (ns:List Nd) (x:NdV×Nd) (h:PrS i w c t A o) (Z:Zi i o ns) (hx:ZS i x) (Y:ZbA i ns f) (k:Nat) (hk:x.2.kind=23) (H:x.2.kids[0]? = Ya (k:Int)) (j:k<ns.length) (Q:ZV ns f (Zf ns k)) (D:t.length+(ZH ns (f+1) x.2).length+100<=140737488355328) :
  Calls Tryz.prog 23 #[Ye (Ya ⟨c,0,Yb⟩),ndX x] w fun e w'=>e=.returned (.tuple #[])/\PrS i w' c (t++ZH ns (f+1) x.2) A o/\Fr w w' c:=by
 have hq:=hx;obtain⟨⟨vw,vu,vk⟩,kd,g,a,d,l⟩:=x;obtain⟨hw,hu,C⟩:=hx;dsimp only at hk H hw hu C D⊢;obtain⟨r,v,rfl,S,T,hW,L⟩:=hw;obtain⟨q,u,rfl,O,P,hU⟩:=hu;obtain⟨p,s,rfl,M,N,hK⟩:=C;subst hk;have K:=below_alloc1 w (Yg #[Yd Yf 23,.slice r g.length v,.slice q a.length u,.slice p d.length s,Yd Yf l] 37);have J:Zk _ _ _ _:=Zk.start w #[Yd Yf 23,.slice r g.length v,.slice q a.length u,.slice p d.length s,Yd Yf l] 37;have U:=h.keep K;obtain⟨z,I⟩:∃z,ns[k]? = Ya z:=⟨_,Ym j⟩
 have he:ZH ns (f+1) ⟨23,g,a,d,l⟩=[45]++opT ns f z 3:=by rw[<-Zcu (n:=⟨23,g,a,d,l⟩) H I];simp only[ZH,opT];rfl
 rw[ZbP I]at Q;rw[he]at D⊢;simp only[Yj,Yk,Yl]at D;obtain⟨c0,c1,c2,c3,c4⟩:=Zm (x:=((.slice r g.length v,.slice q a.length u,.slice p d.length s),⟨23,g,a,d,l⟩)) (J);dsimp only at c0 c1 c2 c3 c4;generalize R:w.alloc (Yg #[Yd Yf 23,.slice r g.length v,.slice q a.length u,.slice p d.length s,Yd Yf l] 37)=w1 at *;have AD:=zh (Zao i w1 c A t o [45] U (by simp only[Yk,Yl];omega));have b:=zh (zi K (zi J (zi hq (zi H (zi j (zi I (zi Q (zi Y (zi Z (zi D U))))))))));clear U J K hq S T hW L O P hU M N hK h D he H j I Q Y Z;go_enter Tryz.func23,Tryz.ntmps23;go_upto_region 8 with(go_at_call 36;(refine AD.out.mono ?_);rintro e w3 ⟨rfl,E,B⟩;have G:=zh (zi E B);clear E B)
 have W:=G.out.2.at_ _ _ _ (ZdP b.out.2.2.2.2.2.2.2.2.2.2 b.out.2.1) (by decide) b.out.2.1;obtain⟨d0,d1,d2,d3,d4⟩:=Zm (x:=((.slice r g.length v,.slice q a.length u,.slice p d.length s),⟨23,g,a,d,l⟩)) (W);dsimp only at d0 d1 d2 d3 d4;have KI:=zh (Zb0 i w3 c A _ o ns _ 0 k ⟨G.out.1,b.out.2.2.2.2.2.2.2.2.1⟩ b.out.2.2.1 b.out.2.2.2.1 b.out.2.2.2.2.1);clear W
 go_wp2_with (first
  |(go_at_call 42;(refine KI.out.mono ?_);rintro e w4 ⟨y,rfl,hy,F,hb⟩;have X:y.2=z:=Option.some.inj (hy.symm.trans b.out.2.2.2.2.2.1);have m:=zh (zi F (zi hb X));clear hy F hb X;have OP:=zh (Zda i w4 c A f 3 _ o ns y b.out.2.2.2.2.2.2.2.1 (G.out.1.keep m.out.2.1) b.out.2.2.2.2.2.2.2.2.1 m.out.1 (m.out.2.2▸b.out.2.2.2.2.2.2.1) (by rw[m.out.2.2];have:=b.out.2.2.2.2.2.2.2.2.2.1;simp only[Yj,Yk,Yl];omega)))
  |(go_at_call 53;(refine OP.out.mono ?_);rintro e w5 ⟨rfl,E,B⟩;have V:=zh (zi E B);clear E B))
 go_end0;refine⟨rfl,?_,(((Fr.of_below c (R▸b.out.1)).trans G.out.2).trans (Fr.of_below c m.out.2.1)).trans V.out.2⟩;have:=V.out.1;rw[m.out.2.2]at this;simp only[List.append_assoc]at this⊢;exact this
def Ze7:List Txt:=[ZbZ 0,ZbZ 1,ZbZ 2,ZbZ 3,ZbZ 4,ZbZ 5]
theorem Zhr {a W:Yh} (h:ZaI a 0 Ze7) (b:Below a.heap.size a W) (k:Nat) (hk:k<6):W.cell? ⟨0,k,Yb⟩=Ya (txt (ZbZ k)):=by
 obtain⟨t,c,e⟩:=h.below b;have:k=0\/k=1\/k=2\/k=3\/k=4\/k=5:=by omega
 rcases this with rfl|rfl|rfl|rfl|rfl|rfl<;>simp[World.cell?,e,Ze7]
theorem Zop (c:Nat) (hc:c=0\/c=1) (m w:Yh) (g A f:Nat) (t:Txt) (u:Yi) (ns:List Nd) (x:NdV×Nd) (h:PrS m w g t A u) (hN:Zi m u ns) (hx:ZS m x) (ht:ZaI m 0 Ze7) (hE:ZbA m ns f) (r:List Int) (j k:Nat) (hk:x.2.kind=22) (P:x.2.nums=(c:Int)::r) (hi:x.2.kids[0]? = Ya (j:Int)) (K:j<ns.length) (hv:ZV ns f (Zf ns j)) (s:x.2.kids[1]? = Ya (k:Int)) (L:k<ns.length) (M:ZV ns f (Zf ns k)) (W:t.length+(ZH ns (f+1) x.2).length+100<=140737488355328) :
  Calls Tryz.prog 23 #[Ye (Ya ⟨g,0,Yb⟩),ndX x] w fun e w'=>e=.returned (.tuple #[])/\PrS m w' g (t++ZH ns (f+1) x.2) A u/\Fr w w' g:=by
 have hq:=hx;obtain⟨⟨vw,vu,vk⟩,kd,d,a,b,l⟩:=x;obtain⟨hw,hu,V⟩:=hx;dsimp only at hk P hi s hw hu V W⊢;obtain⟨G,J,rfl,ay,az,hW,am⟩:=hw;obtain⟨N,I,rfl,ar,av,hU⟩:=hu;obtain⟨F,H,rfl,ao,ap,hK⟩:=V;subst hk;have S:=below_alloc1 w (Yg #[Yd Yf 22,Yc G d.length J,Yc N a.length I,Yc F b.length H,Yd Yf l] 37);have B1:Zk _ _ _ _:=Zk.start w #[Yd Yf 22,Yc G d.length J,Yc N a.length I,Yc F b.length H,Yd Yf l] 37;have p1:=h.keep S;obtain⟨z,hz⟩:∃z,ns[j]? = Ya z:=⟨_,Ym K⟩
 obtain⟨y,p⟩:∃y,ns[k]? = Ya y:=⟨_,Ym L⟩
 have hs:Zz ⟨22,d,a,b,l⟩=0:=by unfold Zz num;rw[Yo rfl];dsimp only;rw[P];rcases hc with rfl|rfl<;>rfl
 have hg:num ⟨22,d,a,b,l⟩ 0=c:=by unfold num;dsimp only;rw[P];rfl
 have he:ZH ns (f+1) ⟨22,d,a,b,l⟩=opT ns f z 1++ZbZ c++opT ns f y 1:=by rw[<-Zcu (n:=⟨22,d,a,b,l⟩) hi hz,<-Zcu (n:=⟨22,d,a,b,l⟩) s p];simp only[ZH,opT,hs,hg];rfl
 rw[ZbP hz]at hv;rw[ZbP p]at M;rw[he]at W⊢;simp only[Yj]at W;have X:(ZbZ c).length<=4:=by rcases hc with rfl|rfl<;>decide
 have an:c<6:=by omega
 have cg:(0:Int)<=(c:Int):=by omega
 have ch:(c:Int)<6:=by omega
 clear hc;have U:Zhz ⟨22,d,a,b,l⟩:=fun _=>⟨c,r,P,by omega,by omega⟩;obtain⟨c0,c1,c2,c3,c4⟩:=Zm (x:=((Yc G d.length J,Yc N a.length I,Yc F b.length H),⟨22,d,a,b,l⟩)) (B1);dsimp only at c0 c1 c2 c3 c4;generalize ax:w.alloc (Yg #[Yd Yf 22,Yc G d.length J,Yc N a.length I,Yc F b.length H,Yd Yf l] 37)=w1 at *;have ST:=zh (ZeL m w1 _ hq p1.below U);rw[hs]at ST;have i:=zh (zi S (zi B1 (zi hq (zi hN (zi hE (zi W (zi X p1)))))));have Z:=zh (zi hi (zi K (zi hz hv)));have HJ:=zh (zi s (zi L (zi p M)));have Q:=zh (zi hU (zi P ht));clear p1 B1 S hq ay az hW am ar av hU ao ap hK h W X he hi K hz hv s L p M hE hN hs hg U P ht;go_enter Tryz.func23,Tryz.ntmps23;go_upto_region 11 with(go_at_call 54;(refine ST.out.mono ?_);rintro e w2 ⟨rfl,B⟩;have HB:=zh B;clear B)
 have K2:=i.out.2.1.keep HB.out;have P2:=zh (i.out.2.2.2.2.2.2.2.keep HB.out);obtain⟨d0,d1,d2,d3,d4⟩:=Zm (x:=((Yc G d.length J,Yc N a.length I,Yc F b.length H),⟨22,d,a,b,l⟩)) (K2);dsimp only at d0 d1 d2 d3 d4;have KI:=zh (Zb0 m w2 g A _ u ns _ 0 j ⟨P2.out,i.out.2.2.2.1⟩ i.out.2.2.1 Z.out.1 Z.out.2.1);have R:=K2;clear K2
 go_upto_region 12 with(first
  |(go_at_call 42;(refine KI.out.mono ?_);rintro e w3 ⟨q,rfl,p,o,B⟩;have T:q.2=z:=Option.some.inj (p.symm.trans Z.out.2.2.1);have v:=zh (zi o (zi B T));clear p o B T;have OP:=zh (Zda m w3 g A f 1 _ u ns q i.out.2.2.2.2.1 (P2.out.keep v.out.2.1) i.out.2.2.2.1 v.out.1 (v.out.2.2▸Z.out.2.2.2) (by rw[v.out.2.2];have:=i.out.2.2.2.2.2.1;omega)))
  |(go_at_call 53;(refine OP.out.mono ?_);rintro e E ⟨rfl,D,C⟩;have H4:=zh (zi (show PrS m E g (t++opT ns f z 1) A u from v.out.2.2▸D) C);clear D C))
 have K3:=R.keep v.out.2.1;have K4:=(H4.out.2.at_ _ _ _ (ZdP (P2.out.keep v.out.2.1) K3) (by decide) K3).keep (Zo E);obtain⟨a0,S,a2,a3,a4⟩:=Zm (x:=((Yc G d.length J,Yc N a.length I,Yc F b.length H),⟨22,d,a,b,l⟩)) (K4);dsimp only at a0 S a2 a3 a4;have P4:=zh (H4.out.1.keep (Zo E));obtain⟨au,rfl,u0⟩:=ints_at (k:=0) (x:=(c:Int)) Q.out.1 P4.out.below (by rw[Q.out.2.1];rfl) (by rw[Q.out.2.1];exact Nat.succ_pos _);have u1:E.drew.cell? au=Ya (Yd Yf c):=u0;have u2:E.cell? au=Ya (Yd Yf c):=u0;have v1:=Zhr Q.out.2.2 P4.out.below c an;have v2:E.cell? ⟨0,c,Yb⟩=Ya (txt (ZbZ c)):=v1;have cf:0<a.length:=by rw[Q.out.2.1];exact Nat.succ_pos _
 have KS:=zh K4;have AD:=zh (Zao m E.drew g A _ u (ZbZ c) P4.out (by have:=i.out.2.2.2.2.2.1;simp only[Yj];omega));clear u0 K3 K4 R;go_region_with (go_at_call 36;(refine AD.out.mono ?_);rintro e w5 ⟨rfl,D,C⟩;have Y:=zh (zi D C);clear D C);have K5:=Y.out.2.at_ _ _ _ (ZdP P4.out KS.out) (by decide) KS.out;obtain⟨b0,b1,b2,b3,b4⟩:=Zm (x:=((Yc G d.length J,Yc (Ya au) a.length I,Yc F b.length H),⟨22,d,a,b,l⟩)) (K5);dsimp only at b0 b1 b2 b3 b4;have KJ:=zh (Zb0 m w5 g A _ u ns _ 1 k ⟨Y.out.1,i.out.2.2.2.1⟩ i.out.2.2.1 HJ.out.1 HJ.out.2.1);have wk:IntKind.i64.wrap (0+1)=1:=by decide
 clear K5
 go_wp2_with (first
  |(go_at_call 42;(refine KJ.out.mono ?_);rintro e w6 ⟨q2,rfl,p,o,B⟩;have T:q2.2=y:=Option.some.inj (p.symm.trans HJ.out.2.2.1);have O:=zh (zi o (zi B T));clear p o B T;have OQ:=zh (Zda m w6 g A f 1 _ u ns q2 i.out.2.2.2.2.1 (Y.out.1.keep O.out.2.1) i.out.2.2.2.1 O.out.1 (O.out.2.2▸HJ.out.2.2.2) (by rw[O.out.2.2];have:=i.out.2.2.2.2.2.1;simp only[Yj];omega)))
  |(go_at_call 53;(refine OQ.out.mono ?_);rintro e w7 ⟨rfl,D,C⟩;have H7:=zh (zi D C);clear D C))
 go_end0;refine⟨rfl,?_,(((((((Fr.of_below g (ax▸i.out.1)).trans (Fr.of_below g HB.out)).trans (Fr.of_below g v.out.2.1)).trans H4.out.2).trans (Fr.of_below g (Zo E))).trans Y.out.2).trans (Fr.of_below g O.out.2.1)).trans H7.out.2⟩;have:=H7.out.1;rw[O.out.2.2]at this;simp only[List.append_assoc]at this⊢;exact this
theorem Zoq (c:Nat) (hc:c=2\/c=3) (m w:Yh) (g A f:Nat) (t:Txt) (u:Yi) (ns:List Nd) (x:NdV×Nd) (h:PrS m w g t A u) (hN:Zi m u ns) (hx:ZS m x) (ht:ZaI m 0 Ze7) (hE:ZbA m ns f) (r:List Int) (j k:Nat) (hk:x.2.kind=22) (P:x.2.nums=(c:Int)::r) (hi:x.2.kids[0]? = Ya (j:Int)) (K:j<ns.length) (hv:ZV ns f (Zf ns j)) (s:x.2.kids[1]? = Ya (k:Int)) (L:k<ns.length) (M:ZV ns f (Zf ns k)) (W:t.length+(ZH ns (f+1) x.2).length+100<=140737488355328) :
  Calls Tryz.prog 23 #[Ye (Ya ⟨g,0,Yb⟩),ndX x] w fun e w'=>e=.returned (.tuple #[])/\PrS m w' g (t++ZH ns (f+1) x.2) A u/\Fr w w' g:=by
 have hq:=hx;obtain⟨⟨vw,vu,vk⟩,kd,d,a,b,l⟩:=x;obtain⟨hw,hu,V⟩:=hx;dsimp only at hk P hi s hw hu V W⊢;obtain⟨G,J,rfl,ay,az,hW,am⟩:=hw;obtain⟨N,I,rfl,ar,av,hU⟩:=hu;obtain⟨F,H,rfl,ao,ap,hK⟩:=V;subst hk;have S:=below_alloc1 w (Yg #[Yd Yf 22,Yc G d.length J,Yc N a.length I,Yc F b.length H,Yd Yf l] 37);have B1:Zk _ _ _ _:=Zk.start w #[Yd Yf 22,Yc G d.length J,Yc N a.length I,Yc F b.length H,Yd Yf l] 37;have p1:=h.keep S;obtain⟨z,hz⟩:∃z,ns[j]? = Ya z:=⟨_,Ym K⟩
 obtain⟨y,p⟩:∃y,ns[k]? = Ya y:=⟨_,Ym L⟩
 have hs:Zz ⟨22,d,a,b,l⟩=1:=by unfold Zz num;rw[Yo rfl];dsimp only;rw[P];rcases hc with rfl|rfl<;>rfl
 have hg:num ⟨22,d,a,b,l⟩ 0=c:=by unfold num;dsimp only;rw[P];rfl
 have he:ZH ns (f+1) ⟨22,d,a,b,l⟩=opT ns f z 1++ZbZ c++opT ns f y 2:=by rw[<-Zcu (n:=⟨22,d,a,b,l⟩) hi hz,<-Zcu (n:=⟨22,d,a,b,l⟩) s p];simp only[ZH,opT,hs,hg];rfl
 rw[ZbP hz]at hv;rw[ZbP p]at M;rw[he]at W⊢;simp only[Yj]at W;have X:(ZbZ c).length<=4:=by rcases hc with rfl|rfl<;>decide
 have an:c<6:=by omega
 have cg:(0:Int)<=(c:Int):=by omega
 have ch:(c:Int)<6:=by omega
 clear hc;have U:Zhz ⟨22,d,a,b,l⟩:=fun _=>⟨c,r,P,by omega,by omega⟩;obtain⟨c0,c1,c2,c3,c4⟩:=Zm (x:=((Yc G d.length J,Yc N a.length I,Yc F b.length H),⟨22,d,a,b,l⟩)) (B1);dsimp only at c0 c1 c2 c3 c4;generalize ax:w.alloc (Yg #[Yd Yf 22,Yc G d.length J,Yc N a.length I,Yc F b.length H,Yd Yf l] 37)=w1 at *;have ST:=zh (ZeL m w1 _ hq p1.below U);rw[hs]at ST;have i:=zh (zi S (zi B1 (zi hq (zi hN (zi hE (zi W (zi X p1)))))));have Z:=zh (zi hi (zi K (zi hz hv)));have HJ:=zh (zi s (zi L (zi p M)));have Q:=zh (zi hU (zi P ht));clear p1 B1 S hq ay az hW am ar av hU ao ap hK h W X he hi K hz hv s L p M hE hN hs hg U P ht;go_enter Tryz.func23,Tryz.ntmps23;go_upto_region 11 with(go_at_call 54;(refine ST.out.mono ?_);rintro e w2 ⟨rfl,B⟩;have HB:=zh B;clear B)
 have K2:=i.out.2.1.keep HB.out;have P2:=zh (i.out.2.2.2.2.2.2.2.keep HB.out);obtain⟨d0,d1,d2,d3,d4⟩:=Zm (x:=((Yc G d.length J,Yc N a.length I,Yc F b.length H),⟨22,d,a,b,l⟩)) (K2);dsimp only at d0 d1 d2 d3 d4;have KI:=zh (Zb0 m w2 g A _ u ns _ 0 j ⟨P2.out,i.out.2.2.2.1⟩ i.out.2.2.1 Z.out.1 Z.out.2.1);have R:=K2;clear K2
 go_upto_region 12 with(first
  |(go_at_call 42;(refine KI.out.mono ?_);rintro e w3 ⟨q,rfl,p,o,B⟩;have T:q.2=z:=Option.some.inj (p.symm.trans Z.out.2.2.1);have v:=zh (zi o (zi B T));clear p o B T;have OP:=zh (Zda m w3 g A f 1 _ u ns q i.out.2.2.2.2.1 (P2.out.keep v.out.2.1) i.out.2.2.2.1 v.out.1 (v.out.2.2▸Z.out.2.2.2) (by rw[v.out.2.2];have:=i.out.2.2.2.2.2.1;omega)))
  |(go_at_call 53;(refine OP.out.mono ?_);rintro e E ⟨rfl,D,C⟩;have H4:=zh (zi (show PrS m E g (t++opT ns f z 1) A u from v.out.2.2▸D) C);clear D C))
 have K3:=R.keep v.out.2.1;have K4:=(H4.out.2.at_ _ _ _ (ZdP (P2.out.keep v.out.2.1) K3) (by decide) K3).keep (Zo E);obtain⟨a0,S,a2,a3,a4⟩:=Zm (x:=((Yc G d.length J,Yc N a.length I,Yc F b.length H),⟨22,d,a,b,l⟩)) (K4);dsimp only at a0 S a2 a3 a4;have P4:=zh (H4.out.1.keep (Zo E));obtain⟨au,rfl,u0⟩:=ints_at (k:=0) (x:=(c:Int)) Q.out.1 P4.out.below (by rw[Q.out.2.1];rfl) (by rw[Q.out.2.1];exact Nat.succ_pos _);have u1:E.drew.cell? au=Ya (Yd Yf c):=u0;have u2:E.cell? au=Ya (Yd Yf c):=u0;have v1:=Zhr Q.out.2.2 P4.out.below c an;have v2:E.cell? ⟨0,c,Yb⟩=Ya (txt (ZbZ c)):=v1;have cf:0<a.length:=by rw[Q.out.2.1];exact Nat.succ_pos _
 have KS:=zh K4;have AD:=zh (Zao m E.drew g A _ u (ZbZ c) P4.out (by have:=i.out.2.2.2.2.2.1;simp only[Yj];omega));clear u0 K3 K4 R;go_region_with (go_at_call 36;(refine AD.out.mono ?_);rintro e w5 ⟨rfl,D,C⟩;have Y:=zh (zi D C);clear D C);have K5:=Y.out.2.at_ _ _ _ (ZdP P4.out KS.out) (by decide) KS.out;obtain⟨b0,b1,b2,b3,b4⟩:=Zm (x:=((Yc G d.length J,Yc (Ya au) a.length I,Yc F b.length H),⟨22,d,a,b,l⟩)) (K5);dsimp only at b0 b1 b2 b3 b4;have KJ:=zh (Zb0 m w5 g A _ u ns _ 1 k ⟨Y.out.1,i.out.2.2.2.1⟩ i.out.2.2.1 HJ.out.1 HJ.out.2.1);have wk:IntKind.i64.wrap (1+1)=2:=by decide
 clear K5
 go_wp2_with (first
  |(go_at_call 42;(refine KJ.out.mono ?_);rintro e w6 ⟨q2,rfl,p,o,B⟩;have T:q2.2=y:=Option.some.inj (p.symm.trans HJ.out.2.2.1);have O:=zh (zi o (zi B T));clear p o B T;have OQ:=zh (Zda m w6 g A f 2 _ u ns q2 i.out.2.2.2.2.1 (Y.out.1.keep O.out.2.1) i.out.2.2.2.1 O.out.1 (O.out.2.2▸HJ.out.2.2.2) (by rw[O.out.2.2];have:=i.out.2.2.2.2.2.1;simp only[Yj];omega)))
  |(go_at_call 53;(refine OQ.out.mono ?_);rintro e w7 ⟨rfl,D,C⟩;have H7:=zh (zi D C);clear D C))
 go_end0;refine⟨rfl,?_,(((((((Fr.of_below g (ax▸i.out.1)).trans (Fr.of_below g HB.out)).trans (Fr.of_below g v.out.2.1)).trans H4.out.2).trans (Fr.of_below g (Zo E))).trans Y.out.2).trans (Fr.of_below g O.out.2.1)).trans H7.out.2⟩;have:=H7.out.1;rw[O.out.2.2]at this;simp only[List.append_assoc]at this⊢;exact this
theorem Zor (c:Nat) (hc:c=4\/c=5) (m w:Yh) (g A f:Nat) (t:Txt) (u:Yi) (ns:List Nd) (x:NdV×Nd) (h:PrS m w g t A u) (hN:Zi m u ns) (hx:ZS m x) (ht:ZaI m 0 Ze7) (hE:ZbA m ns f) (r:List Int) (j k:Nat) (hk:x.2.kind=22) (P:x.2.nums=(c:Int)::r) (hi:x.2.kids[0]? = Ya (j:Int)) (K:j<ns.length) (hv:ZV ns f (Zf ns j)) (s:x.2.kids[1]? = Ya (k:Int)) (L:k<ns.length) (M:ZV ns f (Zf ns k)) (W:t.length+(ZH ns (f+1) x.2).length+100<=140737488355328) :
  Calls Tryz.prog 23 #[Ye (Ya ⟨g,0,Yb⟩),ndX x] w fun e w'=>e=.returned (.tuple #[])/\PrS m w' g (t++ZH ns (f+1) x.2) A u/\Fr w w' g:=by
 have hq:=hx;obtain⟨⟨vw,vu,vk⟩,kd,d,a,b,l⟩:=x;obtain⟨hw,hu,V⟩:=hx;dsimp only at hk P hi s hw hu V W⊢;obtain⟨G,J,rfl,ay,az,hW,am⟩:=hw;obtain⟨N,I,rfl,ar,av,hU⟩:=hu;obtain⟨F,H,rfl,ao,ap,hK⟩:=V;subst hk;have S:=below_alloc1 w (Yg #[Yd Yf 22,Yc G d.length J,Yc N a.length I,Yc F b.length H,Yd Yf l] 37);have B1:Zk _ _ _ _:=Zk.start w #[Yd Yf 22,Yc G d.length J,Yc N a.length I,Yc F b.length H,Yd Yf l] 37;have p1:=h.keep S;obtain⟨z,hz⟩:∃z,ns[j]? = Ya z:=⟨_,Ym K⟩
 obtain⟨y,p⟩:∃y,ns[k]? = Ya y:=⟨_,Ym L⟩
 have hs:Zz ⟨22,d,a,b,l⟩=2:=by unfold Zz num;rw[Yo rfl];dsimp only;rw[P];rcases hc with rfl|rfl<;>rfl
 have hg:num ⟨22,d,a,b,l⟩ 0=c:=by unfold num;dsimp only;rw[P];rfl
 have he:ZH ns (f+1) ⟨22,d,a,b,l⟩=opT ns f z 2++ZbZ c++opT ns f y 3:=by rw[<-Zcu (n:=⟨22,d,a,b,l⟩) hi hz,<-Zcu (n:=⟨22,d,a,b,l⟩) s p];simp only[ZH,opT,hs,hg];rfl
 rw[ZbP hz]at hv;rw[ZbP p]at M;rw[he]at W⊢;simp only[Yj]at W;have X:(ZbZ c).length<=4:=by rcases hc with rfl|rfl<;>decide
 have an:c<6:=by omega
 have cg:(0:Int)<=(c:Int):=by omega
 have ch:(c:Int)<6:=by omega
 clear hc;have U:Zhz ⟨22,d,a,b,l⟩:=fun _=>⟨c,r,P,by omega,by omega⟩;obtain⟨c0,c1,c2,c3,c4⟩:=Zm (x:=((Yc G d.length J,Yc N a.length I,Yc F b.length H),⟨22,d,a,b,l⟩)) (B1);dsimp only at c0 c1 c2 c3 c4;generalize ax:w.alloc (Yg #[Yd Yf 22,Yc G d.length J,Yc N a.length I,Yc F b.length H,Yd Yf l] 37)=w1 at *;have ST:=zh (ZeL m w1 _ hq p1.below U);rw[hs]at ST;have i:=zh (zi S (zi B1 (zi hq (zi hN (zi hE (zi W (zi X p1)))))));have Z:=zh (zi hi (zi K (zi hz hv)));have HJ:=zh (zi s (zi L (zi p M)));have Q:=zh (zi hU (zi P ht));clear p1 B1 S hq ay az hW am ar av hU ao ap hK h W X he hi K hz hv s L p M hE hN hs hg U P ht;go_enter Tryz.func23,Tryz.ntmps23;go_upto_region 11 with(go_at_call 54;(refine ST.out.mono ?_);rintro e w2 ⟨rfl,B⟩;have HB:=zh B;clear B)
 have K2:=i.out.2.1.keep HB.out;have P2:=zh (i.out.2.2.2.2.2.2.2.keep HB.out);obtain⟨d0,d1,d2,d3,d4⟩:=Zm (x:=((Yc G d.length J,Yc N a.length I,Yc F b.length H),⟨22,d,a,b,l⟩)) (K2);dsimp only at d0 d1 d2 d3 d4;have KI:=zh (Zb0 m w2 g A _ u ns _ 0 j ⟨P2.out,i.out.2.2.2.1⟩ i.out.2.2.1 Z.out.1 Z.out.2.1);have R:=K2;clear K2
 go_upto_region 12 with(first
  |(go_at_call 42;(refine KI.out.mono ?_);rintro e w3 ⟨q,rfl,p,o,B⟩;have T:q.2=z:=Option.some.inj (p.symm.trans Z.out.2.2.1);have v:=zh (zi o (zi B T));clear p o B T;have OP:=zh (Zda m w3 g A f 2 _ u ns q i.out.2.2.2.2.1 (P2.out.keep v.out.2.1) i.out.2.2.2.1 v.out.1 (v.out.2.2▸Z.out.2.2.2) (by rw[v.out.2.2];have:=i.out.2.2.2.2.2.1;omega)))
  |(go_at_call 53;(refine OP.out.mono ?_);rintro e E ⟨rfl,D,C⟩;have H4:=zh (zi (show PrS m E g (t++opT ns f z 2) A u from v.out.2.2▸D) C);clear D C))
 have K3:=R.keep v.out.2.1;have K4:=(H4.out.2.at_ _ _ _ (ZdP (P2.out.keep v.out.2.1) K3) (by decide) K3).keep (Zo E);obtain⟨a0,S,a2,a3,a4⟩:=Zm (x:=((Yc G d.length J,Yc N a.length I,Yc F b.length H),⟨22,d,a,b,l⟩)) (K4);dsimp only at a0 S a2 a3 a4;have P4:=zh (H4.out.1.keep (Zo E));obtain⟨au,rfl,u0⟩:=ints_at (k:=0) (x:=(c:Int)) Q.out.1 P4.out.below (by rw[Q.out.2.1];rfl) (by rw[Q.out.2.1];exact Nat.succ_pos _);have u1:E.drew.cell? au=Ya (Yd Yf c):=u0;have u2:E.cell? au=Ya (Yd Yf c):=u0;have v1:=Zhr Q.out.2.2 P4.out.below c an;have v2:E.cell? ⟨0,c,Yb⟩=Ya (txt (ZbZ c)):=v1;have cf:0<a.length:=by rw[Q.out.2.1];exact Nat.succ_pos _
 have KS:=zh K4;have AD:=zh (Zao m E.drew g A _ u (ZbZ c) P4.out (by have:=i.out.2.2.2.2.2.1;simp only[Yj];omega));clear u0 K3 K4 R;go_region_with (go_at_call 36;(refine AD.out.mono ?_);rintro e w5 ⟨rfl,D,C⟩;have Y:=zh (zi D C);clear D C);have K5:=Y.out.2.at_ _ _ _ (ZdP P4.out KS.out) (by decide) KS.out;obtain⟨b0,b1,b2,b3,b4⟩:=Zm (x:=((Yc G d.length J,Yc (Ya au) a.length I,Yc F b.length H),⟨22,d,a,b,l⟩)) (K5);dsimp only at b0 b1 b2 b3 b4;have KJ:=zh (Zb0 m w5 g A _ u ns _ 1 k ⟨Y.out.1,i.out.2.2.2.1⟩ i.out.2.2.1 HJ.out.1 HJ.out.2.1);have wk:IntKind.i64.wrap (2+1)=3:=by decide
 clear K5
 go_wp2_with (first
  |(go_at_call 42;(refine KJ.out.mono ?_);rintro e w6 ⟨q2,rfl,p,o,B⟩;have T:q2.2=y:=Option.some.inj (p.symm.trans HJ.out.2.2.1);have O:=zh (zi o (zi B T));clear p o B T;have OQ:=zh (Zda m w6 g A f 3 _ u ns q2 i.out.2.2.2.2.1 (Y.out.1.keep O.out.2.1) i.out.2.2.2.1 O.out.1 (O.out.2.2▸HJ.out.2.2.2) (by rw[O.out.2.2];have:=i.out.2.2.2.2.2.1;simp only[Yj];omega)))
  |(go_at_call 53;(refine OQ.out.mono ?_);rintro e w7 ⟨rfl,D,C⟩;have H7:=zh (zi D C);clear D C))
 go_end0;refine⟨rfl,?_,(((((((Fr.of_below g (ax▸i.out.1)).trans (Fr.of_below g HB.out)).trans (Fr.of_below g v.out.2.1)).trans H4.out.2).trans (Fr.of_below g (Zo E))).trans Y.out.2).trans (Fr.of_below g O.out.2.1)).trans H7.out.2⟩;have:=H7.out.1;rw[O.out.2.2]at this;simp only[List.append_assoc]at this⊢;exact this
theorem Zku (d:Yh) (ns:List Nd) (C:ZeW d d) (A:ZaI d 0 Ze7):∀f,ZbA d ns f:=by
 intro f
 induction f with
 |zero=>intro w e i t p x h u hx a _;exact a.elim
 |succ f z=>
  intro w e i t p x h u hx a q;obtain⟨B,a⟩:=a;rcases a with⟨hk,v,r,n,a⟩|⟨hk,s,r,n⟩|⟨hk,k,y,b,a⟩|⟨hk,j,k,y,m,a,l,b,o⟩
  ·exact Zp0 d w e i f t p ns x h hx C v r hk n a q
  ·exact Zp1 d w e i f t p ns x h hx s r hk n q
  ·exact ZpZ d w e i f t p ns x h u hx z k hk y b a q
  ·obtain⟨g,r,n,D,E⟩:=B hk;obtain⟨c,rfl⟩:∃c:Nat,g=c:=⟨g.toNat,by omega⟩
   have:(c=0\/c=1)\/(c=2\/c=3)\/(c=4\/c=5):=by omega
   rcases this with hc|hc|hc
   ·exact Zop c hc d w e i f t p ns x h u hx A z r j k hk n y m a l b o q
   ·exact Zoq c hc d w e i f t p ns x h u hx A z r j k hk n y m a l b o q
   ·exact Zor c hc d w e i f t p ns x h u hx A z r j k hk n y m a l b o q
end
end Go.Proofs.YtfbepcelkijgkaaGreatDoor
