import Derived.RegionTactic
import Derived.Test.YtfbepcelkijgkaaGreatDoorQAC
import Derived.Test.YtfbepcelkijgkaaGreatDoorQAF
set_option maxRecDepth 100000
set_option maxHeartbeats 8000000
open Option renaming some → Ya, none → Yb
open Go.Value renaming slice → Yc, int → Yd, pointer → Ye
open Go.IntKind renaming i64 → Yf
open Go.Obj renaming cells → Yg
open Go renaming World → Yh, Value → Yi
namespace Go.Proofs.YtfbepcelkijgkaaGreatDoor
section
open Go.RowKit
structure PrN (w0 w:Yh) (bp:Nat) (t:Txt) (dp:Nat) (vn:Yi) (ns:List Nd):Prop where
 p:PrS w0 w bp t dp vn
 n:Zu w0 vn ns
abbrev ndX (x:NdV×Nd):Yi:=.agg #[Yd Yf x.2.kind,x.1.1,x.1.2.1,x.1.2.2,Yd Yf x.2.pos]
abbrev Zjm:Array Yi:=#[Yd Yf 0,Yc Yb 0 0,Yc Yb 0 0,Yc Yb 0 0,Yd Yf 0]
theorem Zn2 (X:Yh) (b i j:Nat) (v:Yi) (h:i≠j):(X.setCell ⟨b,i,Yb⟩ v).cell? ⟨b,j,Yb⟩=X.cell? ⟨b,j,Yb⟩:=World.cell?_setCell_other _ _ _ _ (fun e=>h (by injection e with _ e))
theorem Zp4 {X:Yh} {b:Nat} (h:Blk X b Zjm) (a c d e f:Yi):(X.setCell ⟨b,0,Yb⟩ a).cell? ⟨b,0,Yb⟩=Ya a/\((X.setCell ⟨b,0,Yb⟩ a).setCell ⟨b,1,Yb⟩ c).cell? ⟨b,1,Yb⟩=Ya c/\(((X.setCell ⟨b,0,Yb⟩ a).setCell ⟨b,1,Yb⟩ c).setCell ⟨b,2,Yb⟩ d).cell? ⟨b,2,Yb⟩=Ya d/\((((X.setCell ⟨b,0,Yb⟩ a).setCell ⟨b,1,Yb⟩ c).setCell ⟨b,2,Yb⟩ d).setCell ⟨b,3,Yb⟩ e).cell? ⟨b,3,Yb⟩=Ya e/\(((((X.setCell ⟨b,0,Yb⟩ a).setCell ⟨b,1,Yb⟩ c).setCell ⟨b,2,Yb⟩ d).setCell ⟨b,3,Yb⟩ e).setCell ⟨b,4,Yb⟩ f).cell? ⟨b,4,Yb⟩=Ya f:=
 ⟨by rw[(h.set 0 a).cell 0];rfl,by rw[((h.set 0 a).set 1 c).cell 1];rfl,by rw[(((h.set 0 a).set 1 c).set 2 d).cell 2];rfl,by rw[((((h.set 0 a).set 1 c).set 2 d).set 3 e).cell 3];rfl,by rw[(((((h.set 0 a).set 1 c).set 2 d).set 3 e).set 4 f).cell 4];rfl⟩
theorem Znb {w X:Yh} (h:Below w.heap.size w X) {b:Nat} (a:w.heap.size<=b) (c d e f g:Yi):Below w.heap.size w (((((X.setCell ⟨b,0,Yb⟩ c).setCell ⟨b,1,Yb⟩ d).setCell ⟨b,2,Yb⟩ e).setCell ⟨b,3,Yb⟩ f).setCell ⟨b,4,Yb⟩ g):=
 ((((h.setCell (p:=⟨b,0,Yb⟩) a _).setCell (p:=⟨b,1,Yb⟩) a _).setCell (p:=⟨b,2,Yb⟩) a _).setCell (p:=⟨b,3,Yb⟩) a _).setCell (p:=⟨b,4,Yb⟩) a _
theorem Zci (V w:Yh) (Z dp:Nat) (t:Txt) (vn:Yi) (ns:List Nd) (x:NdV×Nd) (i k:Nat) (h:PrN V w Z t dp vn ns) (hx:Za5 V x) (J:x.2.kids[i]? = Ya (k:Int)) (hk:k<ns.length) :
  Calls Tryz.prog 42 #[Ye (Ya ⟨Z,0,Yb⟩),ndX x,Yd Yf (i:Int)] w fun e w'=>∃y:NdV×Nd,e=.returned (ndX y)/\ns[k]? = Ya y.2/\Za5 V y/\Below w.heap.size w w':=by
 obtain⟨⟨vw,vu,vk⟩,E,G,c,j,F⟩:=x;obtain⟨hw,hu,C⟩:=hx;dsimp only at hw hu C J⊢;obtain⟨q,u,rfl,_⟩:=hw;obtain⟨o,s,rfl,_⟩:=hu;obtain⟨m,r,rfl,_,_,hK⟩:=C;obtain⟨An,cn,rs,rfl,_,ai,hm,hN,hE⟩:=h.n;have T:=(List.getElem?_eq_some_iff.1 J).1;have U:j.length<=maxLen:=by omega
 obtain⟨v,hv,_⟩:=h.p.box;obtain⟨y,K⟩:∃y,rs[k]? = Ya y:=⟨_,Ym (by rw[<-hm,List.length_map]at hk;exact hk)⟩
 have D:ns[k]? = Ya y.2:=by rw[<-hm,List.getElem?_map,K];rfl
 have P:=below_alloc1 w (Yg #[Yd Yf E,.slice q G.length u,.slice o c.length s,.slice m j.length r,Yd Yf F] 37);have X:=Blk.start w #[Yd Yf E,.slice q G.length u,.slice o c.length s,.slice m j.length r,Yd Yf F] 37;have a2:=below_alloc1 (w.alloc (Yg #[Yd Yf E,.slice q G.length u,.slice o c.length s,.slice m j.length r,Yd Yf F] 37)) (.cells Zjm 37);have L:=Blk.start (w.alloc (Yg #[Yd Yf E,.slice q G.length u,.slice o c.length s,.slice m j.length r,Yd Yf F] 37)) Zjm 37;rw[World.size_alloc]at L;have I:=P.trans (a2.mono P.size);have Y:=h.p.below.trans (I.mono h.p.below.size);have a:=zh (zi (X.keep a2) (zi L (zi (hv.keep I) (zi I (zi Y (zi D (hE y (List.mem_of_getElem? K))))))));have H:=zh (zi hK (zi hN (zi J K)));clear h hK hN hE hm hv K D P X a2 L I Y J;go_enter Tryz.func42,Tryz.ntmps42;go_upto_region 1 with fail;generalize((w.alloc (Yg #[Yd Yf E,.slice q G.length u,.slice o c.length s,.slice m j.length r,Yd Yf F] 37)).alloc (.cells Zjm 37))=W at *;obtain⟨ak,rfl,d0⟩:=ints_at H.out.1 a.out.2.2.2.2.1 H.out.2.2.1 (by omega);obtain⟨an,rfl,n0,n1,n2,n3,n4⟩:=Zby H.out.2.1 a.out.2.2.2.2.1 H.out.2.2.2 (by omega);have c2:=a.out.2.2.1.blk.cell 2;have c3:=a.out.1.cell 3;simp only[List.getElem?_toArray,List.getElem?_cons_zero,List.getElem?_cons_succ]at c2 c3;have z0:=a.out.2.1.cell 0;have z1:=a.out.2.1.cell 1;have z2:=a.out.2.1.cell 2;have z3:=a.out.2.1.cell 3;have z4:=a.out.2.1.cell 4;simp only[List.getElem?_toArray,List.getElem?_cons_zero,List.getElem?_cons_succ]at z0 z1 z2 z3 z4;have f0:=a.out.2.1.free 0;have f1:=a.out.2.1.free 1;have f2:=a.out.2.1.free 2;have f3:=a.out.2.1.free 3;have f4:=a.out.2.1.free 4;have i0:(0:Int)<=(i:Int):=by omega
 have i1:(i:Int)<(j.length:Int):=by omega
 have k0:(0:Int)<=(k:Int):=by omega
 have k1:(k:Int)<(ns.length:Int):=by omega
 obtain⟨⟨yw,yu,yk⟩,g,f,b,d,l⟩:=y;obtain⟨z,A,B⟩:=a.out.2.2.2.2.2.2;dsimp only at z A B;obtain⟨O,S,rfl,_⟩:=z;obtain⟨N,R,rfl,_⟩:=A;obtain⟨M,Q,rfl,_⟩:=B;dsimp only at n0 n1 n2 n3 n4;clear T U hk;have so:=Zn2;refine wp_region_still_tail 11 (by kernel_rfl) (by kernel_rfl) ?_;simp only[List.take_succ_cons,List.take_zero,List.drop_succ_cons,List.drop_zero]
 iterate 11 still_step
 refine wpStill_nil ?_;change wpList _ _ _ _ _ W.drew;go_wp2_with fail;obtain⟨r0,r1,r2,r3,r4⟩:=Zp4 a.out.2.1 (Yd Yf g) (Yc O f.length S) (Yc N b.length R) (Yc M d.length Q) (Yd Yf l);exact bodyPost_ret (v:=.agg #[Yd Yf g,Yc O f.length S,Yc N b.length R,Yc M d.length Q,Yd Yf l]) (by simp[results,Tryz.results42,go_sem,so,r0,r1,r2,r3,r4]) rfl ⟨Yc O f.length S,Yc N b.length R,Yc M d.length Q,⟨g,f,b,d,l⟩,rfl,a.out.2.2.2.2.2.1,a.out.2.2.2.2.2.2,(Znb a.out.2.2.2.1 (Nat.le_succ _) _ _ _ _ _).drew⟩
end
section
open Go.RowKit
def ZhU (n:Nd):Prop:=n.kind=22->∃s r,n.nums=s::r/\0<=s/\s<=5
theorem Ze0 (v w:Yh) (x:NdV×Nd) (hx:Za5 v x) (u:Below v.heap.size v w) (hv:ZhU x.2) :
  Calls Tryz.prog 54 #[ndX x] w fun e w'=>e=.returned (Yd Yf (ZB x.2:Nat))/\Below w.heap.size w w':=by
 obtain⟨⟨M,L,K⟩,d,h,a,f,g⟩:=x;obtain⟨D,C,c⟩:=hx;dsimp only at D C c hv⊢;obtain⟨j,q,rfl,_⟩:=D;obtain⟨y,p,rfl,_,_,t⟩:=C;obtain⟨i,o,rfl,_⟩:=c;have m:=below_alloc1 w (Yg #[Yd Yf d,.slice j h.length q,.slice y a.length p,.slice i f.length o,Yd Yf g] 37);have l:=Blk.start w #[Yd Yf d,.slice j h.length q,.slice y a.length p,.slice i f.length o,Yd Yf g] 37;have E:=l.cell 0;have F:=l.cell 2;simp only[List.getElem?_toArray,List.getElem?_cons_zero,List.getElem?_cons_succ]at E F;have z:=zh m;have n:=u.trans (m.mono u.size);clear m l u;by_cases hk:d=22
 ·subst hk;obtain⟨s,r,hn,G,H⟩:=hv rfl;dsimp only at hn;obtain⟨A,rfl,B⟩:=ints_at (k:=0) (x:=s) t n (by rw[hn];rfl) (by rw[hn];exact Nat.succ_pos _);have I:(w.alloc (Yg #[Yd Yf 22,.slice j h.length q,Yc (Ya A) a.length p,.slice i f.length o,Yd Yf g] 37)).cell? A=Ya (Yd Yf s):=B;clear B;have J:(0:Int)<(a.length:Int):=by rw[hn];simp only[Yk];omega
  have b:ZB ⟨22,h,a,f,g⟩=if s<=1 then 0 else if s<=3 then 1 else 2:=by unfold ZB num;rw[Yo rfl];dsimp only;rw[hn];rfl
  rw[b];clear t hn b n hv;have:s=0\/s=1\/s=2\/s=3\/s=4\/s=5:=by omega
  rcases this with rfl|rfl|rfl|rfl|rfl|rfl <;>
  ·clear G H;go_enter Tryz.func54,Tryz.ntmps54;go_wp2_with fail;go_ret;exact⟨rfl,z.out⟩
 ·have b:ZB ⟨d,h,a,f,g⟩=3:=by unfold ZB;rw[Yn hk]
  rw[b];have t0:(d != 22)=true:=by rw[bne_iff_ne];exact hk
  clear t b n hv hk;go_enter Tryz.func54,Tryz.ntmps54;go_wp2_with fail;go_ret;exact⟨rfl,z.out⟩
end
section
open Go.RowKit
def ZS (ns:List Nd):Nat->Nd->Prop
 |0,_=>False
 |f+1,n=>ZhU n/\((n.kind=20/\∃v r,n.nums=v::r/\-9223372036854775808<=v/\v<=9223372036854775807)\/(n.kind=21/\∃s r,n.words=s::r) ∨
  (n.kind=23/\∃k:Nat,n.kids[0]? = Ya (k:Int)/\k<ns.length/\ZS ns f (Za ns k)) ∨
  (n.kind=22/\∃j k:Nat,n.kids[0]? = Ya (j:Int)/\j<ns.length/\ZS ns f (Za ns j)/\n.kids[1]? = Ya (k:Int)/\k<ns.length/\ZS ns f (Za ns k)))
theorem ZS.bin {ns:List Nd} {f:Nat} {n:Nd} (h:ZS ns f n):ZhU n:=by
 cases f with
 |zero=>exact h.elim
 |succ f=>exact h.1
def opT (ns:List Nd) (f:Nat) (m:Nd) (a:Nat):Txt:=if a<=ZB m then ZD ns f m else [40]++ZD ns f m++[41]
theorem Zd1 {g w:Yh} {a c b:Nat} {t:Txt} {f:Yi} {cs:Array Yi} (h:PrS g w a t c f) (k:Zh w b 37 cs):b≠a:=by obtain⟨v,d,_⟩:=h.box;intro e;subst e;exact absurd (ZhQ k d) (by decide)
def ZbH (b:Yh) (ns:List Nd) (f:Nat):Prop:=
 ∀(w:Yh) (a d:Nat) (t:Txt) (c:Yi) (x:NdV×Nd),PrS b w a t d c->Zu b c ns->Za5 b x->ZS ns f x.2->t.length+(ZD ns f x.2).length+100<=140737488355328 ->
  Calls Tryz.prog 23 #[Ye (Ya ⟨a,0,Yb⟩),ndX x] w fun e g=>e=.returned (.tuple #[])/\PrS b g a (t++ZD ns f x.2) d c/\Fr w g a
abbrev ndC (x:NdV×Nd):Array Yi:=#[Yd Yf x.2.kind,x.1.1,x.1.2.1,x.1.2.2,Yd Yf x.2.pos]
theorem Zi {w:Yh} {b:Nat} {x:NdV×Nd} (h:Zh w b 37 (ndC x)):w.cell? ⟨b,0,Yb⟩=Ya (Yd Yf x.2.kind)/\w.cell? ⟨b,1,Yb⟩=Ya x.1.1/\w.cell? ⟨b,2,Yb⟩=Ya x.1.2.1/\w.cell? ⟨b,3,Yb⟩=Ya x.1.2.2/\w.cell? ⟨b,4,Yb⟩=Ya (Yd Yf x.2.pos):=by have a:=h.blk.cell 0;have c:=h.blk.cell 1;have d:=h.blk.cell 2;have e:=h.blk.cell 3;have f:=h.blk.cell 4;simp only[List.getElem?_toArray,List.getElem?_cons_zero,List.getElem?_cons_succ]at a c d e f;exact⟨a,c,d,e,f⟩
theorem Zds (u w:Yh) (i H f b:Nat) (t:Txt) (y:Yi) (ns:List Nd) (x:NdV×Nd) (hE:ZbH u ns f) (h:PrS u w i t H y) (hN:Zu u y ns) (hx:Za5 u x) (hv:ZS ns f x.2) (r:t.length+(opT ns f x.2 b).length+100<=140737488355328) :
  Calls Tryz.prog 53 #[Ye (Ya ⟨i,0,Yb⟩),ndX x,Yd Yf (b:Nat)] w fun e w'=>e=.returned (.tuple #[])/\PrS u w' i (t++opT ns f x.2 b) H y/\Fr w w' i:=by
 have hq:=hx;have o:=hv.bin;obtain⟨⟨vw,vu,vk⟩,m,g,a,d,n⟩:=x;obtain⟨hw,hu,J⟩:=hx;dsimp only at hw hu J hv r o⊢;obtain⟨B,G,rfl,_⟩:=hw;obtain⟨A,F,rfl,_⟩:=hu;obtain⟨z,E,rfl,_⟩:=J;have O:=below_alloc1 w (Yg #[Yd Yf m,Yc B g.length G,Yc A a.length F,.slice z d.length E,Yd Yf n] 37);have M:Zh _ _ _ _:=Zh.start w #[Yd Yf m,Yc B g.length G,Yc A a.length F,.slice z d.length E,Yd Yf n] 37;obtain⟨Z,c1,c2,c3,c4⟩:=Zi (x:=((Yc B g.length G,Yc A a.length F,.slice z d.length E),⟨m,g,a,d,n⟩)) M;dsimp only at Z c1 c2 c3 c4;have U:=h.keep O;have L:=zh (Ze0 u _ _ hq U.below o);generalize hs:ZB ⟨m,g,a,d,n⟩=s at L;have c:=zh (zi U (zi M (zi O (zi hN (zi hq (zi hv hE))))));have HP:=zh h;clear U M O hN hq hv hE h o;generalize K:w.alloc (Yg #[Yd Yf m,Yc B g.length G,Yc A a.length F,.slice z d.length E,Yd Yf n] 37)=w1 at L c Z c1 c2 c3 c4;by_cases p:b<=s
 ·have e1:opT ns f ⟨m,g,a,d,n⟩ b=ZD ns f ⟨m,g,a,d,n⟩:=by unfold opT;rw[hs,Yo p]
  rw[e1]at r⊢;have j:(b:Int)<=(s:Int):=by omega
  have I:=zh r;clear r e1 hs p;go_enter Tryz.func53,Tryz.ntmps53;go_upto_region 2 with(go_at_call 54;(refine L.out.mono ?_);rintro e V ⟨rfl,o⟩;have q:=zh o;clear o)
  have D:=c.out.2.1.keep q.out;obtain⟨P,Q,R,S,T⟩:=Zi (x:=((Yc B g.length G,Yc A a.length F,.slice z d.length E),⟨m,g,a,d,n⟩)) D;dsimp only at P Q R S T;have N:=zh (c.out.2.2.2.2.2.2 V i H t y _ (c.out.1.keep q.out) c.out.2.2.2.1 c.out.2.2.2.2.1 c.out.2.2.2.2.2.1 I.out);clear D;go_wp2_with (go_at_call 23;(refine N.out.mono ?_);rintro e w3 ⟨rfl,l,k⟩;have C:=zh (zi l k);clear l k);refine bodyPost_ret (v:=.tuple #[]) (results_none (by kernel_rfl) _ _ _) rfl ⟨rfl,C.out.1,((Fr.of_below i (K▸c.out.2.2.1)).trans (Fr.of_below i q.out)).trans C.out.2⟩
 ·have e1:opT ns f ⟨m,g,a,d,n⟩ b=[40]++ZD ns f ⟨m,g,a,d,n⟩++[41]:=by unfold opT;rw[hs,Yn p]
  rw[e1]at r⊢;simp only[Yj,Yk,Yl]at r;have j:¬((b:Int)<=(s:Int)):=by omega
  have I:=zh r;clear r e1 hs p;go_enter Tryz.func53,Tryz.ntmps53;go_upto_region 3 with(go_at_call 54;(refine L.out.mono ?_);rintro e V ⟨rfl,o⟩;have q:=zh o;clear o)
  have A2:=zh (Zap u V i H t y [40] (c.out.1.keep q.out) (by have:=I.out;simp only[Yk,Yl];omega));go_upto_region 4 with(go_at_call 36;(refine A2.out.mono ?_);rintro e w3 ⟨rfl,l,k⟩;have C:=zh (zi l k);clear l k)
  have D:=c.out.2.1.keep q.out;have Y:=C.out.2.at_ _ _ _ (Zd1 (c.out.1.keep q.out) D) (by decide) D;obtain⟨P,Q,R,S,T⟩:=Zi (x:=((Yc B g.length G,Yc A a.length F,.slice z d.length E),⟨m,g,a,d,n⟩)) Y;dsimp only at P Q R S T;have N:=zh (c.out.2.2.2.2.2.2 w3 i H _ y _ C.out.1 c.out.2.2.2.1 c.out.2.2.2.2.1 c.out.2.2.2.2.2.1 (by have:=I.out;simp only[Yj,Yk,Yl];omega));clear D Y;go_upto_region 5 with(go_at_call 23;(refine N.out.mono ?_);rintro e w4 ⟨rfl,l,k⟩;have W:=zh (zi l k);clear l k)
  have A4:=zh (Zap u w4 i H _ y [41] W.out.1 (by have:=I.out;simp only[Yj,Yk,Yl];omega));go_wp2_with (go_at_call 36;(refine A4.out.mono ?_);rintro e w5 ⟨rfl,l,k⟩;have X:=zh (zi l k);clear l k);go_end0;refine⟨rfl,?_,((((Fr.of_below i (K▸c.out.2.2.1)).trans (Fr.of_below i q.out)).trans C.out.2).trans W.out.2).trans X.out.2⟩;have:=X.out.1;simp only[List.append_assoc]at this⊢;exact this
end
section
open Go.RowKit
theorem Zn (w:Yh):Below w.heap.size w w.drew:=(Below.refl _ _).drew
theorem Zp2 (j w:Yh) (g B f:Nat) (t:Txt) (M:Yi) (ns:List Nd) (x:NdV×Nd) (h:PrS j w g t B M) (hx:Za5 j x) (S:Zfd j j) (v:Int) (r:List Int) (hk:x.2.kind=20) (hn:x.2.nums=v::r) (hv:-9223372036854775808<=v/\v<=9223372036854775807) (F:t.length+(ZD ns (f+1) x.2).length+100<=140737488355328) :
  Calls Tryz.prog 23 #[Ye (Ya ⟨g,0,Yb⟩),ndX x] w fun e w'=>e=.returned (.tuple #[])/\PrS j w' g (t++ZD ns (f+1) x.2) B M/\Fr w w' g:=by
 have hq:=hx;obtain⟨⟨vw,vu,vk⟩,kd,d,a,c,i⟩:=x;obtain⟨U,T,q⟩:=hx;dsimp only at hk hn U T q F⊢;obtain⟨m,p,rfl,J,K,hW,C⟩:=U;obtain⟨s,o,rfl,G,H,O⟩:=T;obtain⟨l,n,rfl,D,E,hK⟩:=q;subst hk;have z:=below_alloc1 w (Yg #[Yd Yf 20,.slice m d.length p,.slice s a.length o,.slice l c.length n,Yd Yf i] 37);have y:Zh _ _ _ _:=Zh.start w #[Yd Yf 20,.slice m d.length p,.slice s a.length o,.slice l c.length n,Yd Yf i] 37;have u:=h.keep z;have P:ZD ns (f+1) ⟨20,d,a,c,i⟩=ZbM v:=by simp only[ZD,num,hn];rfl
 rw[P]at F⊢;obtain⟨X,Y,Z,c3,c4⟩:=Zi (x:=((.slice m d.length p,.slice s a.length o,.slice l c.length n),⟨20,d,a,c,i⟩)) (y);dsimp only at X Y Z c3 c4;generalize I:w.alloc (Yg #[Yd Yf 20,.slice m d.length p,.slice s a.length o,.slice l c.length n,Yd Yf i] 37)=b at *;obtain⟨A,rfl,L⟩:=ints_at (k:=0) (x:=v) O (u.keep (Zn b)).below (by rw[hn];rfl) (by rw[hn];exact Nat.succ_pos _);have u1:b.drew.cell? A=Ya (Yd Yf v):=L;have u2:b.cell? A=Ya (Yd Yf v):=L;have aj:0<a.length:=by rw[hn];exact Nat.succ_pos _
 obtain⟨d0,d1,d2,d3,d4⟩:=Zi (x:=((.slice m d.length p,Yc (Ya A) a.length o,.slice l c.length n),⟨20,d,a,c,i⟩)) (y.keep (Zn b));dsimp only at d0 d1 d2 d3 d4;have W:=zh (Zg4 j b.drew g B t M v (u.keep (Zn b)) (S.on (u.keep (Zn b)).below) hv.1 hv.2 (by omega));have V:=zh z;clear u y z hq J K hW C G H O D E hK h hv F P S L hn;go_enter Tryz.func23,Tryz.ntmps23;go_upto_region 3 with fail;refine wp_region_still_tail 7 (by kernel_rfl) (by kernel_rfl) ?_;simp only[List.take_succ_cons,List.take_zero,List.drop_succ_cons,List.drop_zero]
 iterate 7 still_step
 refine wpStill_nil ?_;change wpList _ _ _ _ _ b.drew;go_wp2_with (go_at_call 52;(refine W.out.mono ?_);rintro e w3 ⟨rfl,R,Q⟩;have N:=zh (zi R Q);clear R Q);go_end0;exact⟨rfl,N.out.1,((Fr.of_below g (I▸V.out)).trans (Fr.of_below g (Zn b))).trans N.out.2⟩
theorem Zp3 (u w:Yh) (d A f:Nat) (t:Txt) (M:Yi) (ns:List Nd) (x:NdV×Nd) (h:PrS u w d t A M) (hx:Za5 u x) (s:Txt) (r:List Txt) (hk:x.2.kind=21) (hn:x.2.words=s::r) (E:t.length+(ZD ns (f+1) x.2).length+100<=140737488355328) :
  Calls Tryz.prog 23 #[Ye (Ya ⟨d,0,Yb⟩),ndX x] w fun e w'=>e=.returned (.tuple #[])/\PrS u w' d (t++ZD ns (f+1) x.2) A M/\Fr w w' d:=by
 have hq:=hx;obtain⟨⟨vw,vu,vk⟩,kd,b,a,c,i⟩:=x;obtain⟨T,S,p⟩:=hx;dsimp only at hk hn T S p E⊢;obtain⟨q,o,rfl,I,J,O,B⟩:=T;obtain⟨l,n,rfl,F,G,hU⟩:=S;obtain⟨j,m,rfl,C,D,hK⟩:=p;subst hk;have y:=below_alloc1 w (Yg #[Yd Yf 21,.slice q b.length o,.slice l a.length n,.slice j c.length m,Yd Yf i] 37);have v:Zh _ _ _ _:=Zh.start w #[Yd Yf 21,.slice q b.length o,.slice l a.length n,.slice j c.length m,Yd Yf i] 37;have K:=h.keep y;have P:ZD ns (f+1) ⟨21,b,a,c,i⟩=s:=by simp only[ZD,word,hn];rfl
 rw[P]at E⊢;obtain⟨W,X,Y,Z,c4⟩:=Zi (x:=((.slice q b.length o,.slice l a.length n,.slice j c.length m),⟨21,b,a,c,i⟩)) (v);dsimp only at W X Y Z c4;generalize H:w.alloc (Yg #[Yd Yf 21,.slice q b.length o,.slice l a.length n,.slice j c.length m,Yd Yf i] 37)=g at *;obtain⟨z,rfl,L⟩:=Zcj (k:=0) (x:=s) O (K.keep (Zn g)).below (by rw[hn];rfl) (by rw[hn];exact Nat.succ_pos _);have u1:g.drew.cell? z=Ya (txt s):=L;have u2:g.cell? z=Ya (txt s):=L;have ai:0<b.length:=by rw[hn];exact Nat.succ_pos _
 obtain⟨d0,d1,d2,d3,d4⟩:=Zi (x:=((Yc (Ya z) b.length o,.slice l a.length n,.slice j c.length m),⟨21,b,a,c,i⟩)) (v.keep (Zn g));dsimp only at d0 d1 d2 d3 d4;have U:=zh (Zap u g.drew d A t M s (K.keep (Zn g)) (by omega));have V:=zh y;clear K v y hq I J O B F G hU C D hK h E P L hn;go_enter Tryz.func23,Tryz.ntmps23;go_upto_region 5 with fail;go_region_with (go_at_call 36;(refine U.out.mono ?_);rintro e w3 ⟨rfl,R,Q⟩;have N:=zh (zi R Q);clear R Q)
 all_goals
  go_wp2_with fail;go_end0;exact⟨rfl,N.out.1,((Fr.of_below d (H▸V.out)).trans (Fr.of_below d (Zn g))).trans N.out.2⟩
theorem Zb2 {ns:List Nd} {k:Nat} {y:Nd} (h:ns[k]? = Ya y):Za ns k=y:=by unfold Za;rw[Int.toNat_natCast,h];rfl
theorem ZcN {ns:List Nd} {n:Nd} {i k:Nat} {y:Nd} (a:n.kids[i]? = Ya (k:Int)) (h:ns[k]? = Ya y):Zv ns n i=y:=by
 have:atI n.kids i=k:=by unfold atI;rw[Int.toNat_natCast,a];rfl
 unfold Zv;rw[this];exact Zb2 h
theorem Zp1 (i w:Yh) (c A f:Nat) (t:Txt) (o:Yi) (ns:List Nd) (x:NdV×Nd) (h:PrS i w c t A o) (Y:Zu i o ns) (hx:Za5 i x) (X:ZbH i ns f) (k:Nat) (hk:x.2.kind=23) (H:x.2.kids[0]? = Ya (k:Int)) (j:k<ns.length) (hv:ZS ns f (Za ns k)) (D:t.length+(ZD ns (f+1) x.2).length+100<=140737488355328) :
  Calls Tryz.prog 23 #[Ye (Ya ⟨c,0,Yb⟩),ndX x] w fun e w'=>e=.returned (.tuple #[])/\PrS i w' c (t++ZD ns (f+1) x.2) A o/\Fr w w' c:=by
 have hq:=hx;obtain⟨⟨vw,vu,vk⟩,kd,g,a,d,l⟩:=x;obtain⟨hw,hu,C⟩:=hx;dsimp only at hk H hw hu C D⊢;obtain⟨r,v,rfl,R,S,hW,L⟩:=hw;obtain⟨q,u,rfl,O,P,hU⟩:=hu;obtain⟨p,s,rfl,M,N,hK⟩:=C;subst hk;have K:=below_alloc1 w (Yg #[Yd Yf 23,.slice r g.length v,.slice q a.length u,.slice p d.length s,Yd Yf l] 37);have J:Zh _ _ _ _:=Zh.start w #[Yd Yf 23,.slice r g.length v,.slice q a.length u,.slice p d.length s,Yd Yf l] 37;have T:=h.keep K;obtain⟨z,I⟩:∃z,ns[k]? = Ya z:=⟨_,Ym j⟩
 have he:ZD ns (f+1) ⟨23,g,a,d,l⟩=[45]++opT ns f z 3:=by rw[<-ZcN (n:=⟨23,g,a,d,l⟩) H I];simp only[ZD,opT];rfl
 rw[Zb2 I]at hv;rw[he]at D⊢;simp only[Yj,Yk,Yl]at D;obtain⟨c0,c1,c2,c3,c4⟩:=Zi (x:=((.slice r g.length v,.slice q a.length u,.slice p d.length s),⟨23,g,a,d,l⟩)) (J);dsimp only at c0 c1 c2 c3 c4;generalize Q:w.alloc (Yg #[Yd Yf 23,.slice r g.length v,.slice q a.length u,.slice p d.length s,Yd Yf l] 37)=w1 at *;have AD:=zh (Zap i w1 c A t o [45] T (by simp only[Yk,Yl];omega));have b:=zh (zi K (zi J (zi hq (zi H (zi j (zi I (zi hv (zi X (zi Y (zi D T))))))))));clear T J K hq R S hW L O P hU M N hK h D he H j I hv X Y;go_enter Tryz.func23,Tryz.ntmps23;go_upto_region 8 with(go_at_call 36;(refine AD.out.mono ?_);rintro e w3 ⟨rfl,E,B⟩;have G:=zh (zi E B);clear E B)
 have V:=G.out.2.at_ _ _ _ (Zd1 b.out.2.2.2.2.2.2.2.2.2.2 b.out.2.1) (by decide) b.out.2.1;obtain⟨d0,d1,d2,d3,d4⟩:=Zi (x:=((.slice r g.length v,.slice q a.length u,.slice p d.length s),⟨23,g,a,d,l⟩)) (V);dsimp only at d0 d1 d2 d3 d4;have KI:=zh (Zci i w3 c A _ o ns _ 0 k ⟨G.out.1,b.out.2.2.2.2.2.2.2.2.1⟩ b.out.2.2.1 b.out.2.2.2.1 b.out.2.2.2.2.1);clear V
 go_wp2_with (first
  |(go_at_call 42;(refine KI.out.mono ?_);rintro e w4 ⟨y,rfl,hy,F,Z⟩;have W:y.2=z:=Option.some.inj (hy.symm.trans b.out.2.2.2.2.2.1);have m:=zh (zi F (zi Z W));clear hy F Z W;have OP:=zh (Zds i w4 c A f 3 _ o ns y b.out.2.2.2.2.2.2.2.1 (G.out.1.keep m.out.2.1) b.out.2.2.2.2.2.2.2.2.1 m.out.1 (m.out.2.2▸b.out.2.2.2.2.2.2.1) (by rw[m.out.2.2];have:=b.out.2.2.2.2.2.2.2.2.2.1;simp only[Yj,Yk,Yl];omega)))
  |(go_at_call 53;(refine OP.out.mono ?_);rintro e w5 ⟨rfl,E,B⟩;have U:=zh (zi E B);clear E B))
 go_end0;refine⟨rfl,?_,(((Fr.of_below c (Q▸b.out.1)).trans G.out.2).trans (Fr.of_below c m.out.2.1)).trans U.out.2⟩;have:=U.out.1;rw[m.out.2.2]at this;simp only[List.append_assoc]at this⊢;exact this
def Zfr:List Txt:=[Zcg 0,Zcg 1,Zcg 2,Zcg 3,Zcg 4,Zcg 5]
theorem ZhM {a W:Yh} (h:ZaI a 0 Zfr) (b:Below a.heap.size a W) (k:Nat) (hk:k<6):W.cell? ⟨0,k,Yb⟩=Ya (txt (Zcg k)):=by
 obtain⟨t,c,e⟩:=h.below b;have:k=0\/k=1\/k=2\/k=3\/k=4\/k=5:=by omega
 rcases this with rfl|rfl|rfl|rfl|rfl|rfl<;>simp[World.cell?,e,Zfr]
theorem Zou (c:Nat) (hc:c=0\/c=1) (m w:Yh) (g A f:Nat) (t:Txt) (u:Yi) (ns:List Nd) (x:NdV×Nd) (h:PrS m w g t A u) (hN:Zu m u ns) (hx:Za5 m x) (ht:ZaI m 0 Zfr) (hE:ZbH m ns f) (r:List Int) (j k:Nat) (hk:x.2.kind=22) (hn:x.2.nums=(c:Int)::r) (hi:x.2.kids[0]? = Ya (j:Int)) (K:j<ns.length) (hv:ZS ns f (Za ns j)) (s:x.2.kids[1]? = Ya (k:Int)) (L:k<ns.length) (M:ZS ns f (Za ns k)) (V:t.length+(ZD ns (f+1) x.2).length+100<=140737488355328) :
  Calls Tryz.prog 23 #[Ye (Ya ⟨g,0,Yb⟩),ndX x] w fun e w'=>e=.returned (.tuple #[])/\PrS m w' g (t++ZD ns (f+1) x.2) A u/\Fr w w' g:=by
 have hq:=hx;obtain⟨⟨vw,vu,vk⟩,kd,d,a,b,l⟩:=x;obtain⟨hw,hu,U⟩:=hx;dsimp only at hk hn hi s hw hu U V⊢;obtain⟨G,J,rfl,av,aw,hW,al⟩:=hw;obtain⟨N,I,rfl,ap,aq,hU⟩:=hu;obtain⟨F,H,rfl,an,ao,hK⟩:=U;subst hk;have R:=below_alloc1 w (Yg #[Yd Yf 22,Yc G d.length J,Yc N a.length I,Yc F b.length H,Yd Yf l] 37);have B1:Zh _ _ _ _:=Zh.start w #[Yd Yf 22,Yc G d.length J,Yc N a.length I,Yc F b.length H,Yd Yf l] 37;have p1:=h.keep R;obtain⟨z,hz⟩:∃z,ns[j]? = Ya z:=⟨_,Ym K⟩
 obtain⟨y,p⟩:∃y,ns[k]? = Ya y:=⟨_,Ym L⟩
 have hs:ZB ⟨22,d,a,b,l⟩=0:=by unfold ZB num;rw[Yo rfl];dsimp only;rw[hn];rcases hc with rfl|rfl<;>rfl
 have hg:num ⟨22,d,a,b,l⟩ 0=c:=by unfold num;dsimp only;rw[hn];rfl
 have he:ZD ns (f+1) ⟨22,d,a,b,l⟩=opT ns f z 1++Zcg c++opT ns f y 1:=by rw[<-ZcN (n:=⟨22,d,a,b,l⟩) hi hz,<-ZcN (n:=⟨22,d,a,b,l⟩) s p];simp only[ZD,opT,hs,hg];rfl
 rw[Zb2 hz]at hv;rw[Zb2 p]at M;rw[he]at V⊢;simp only[Yj]at V;have W:(Zcg c).length<=4:=by rcases hc with rfl|rfl<;>decide
 have am:c<6:=by omega
 have cd:(0:Int)<=(c:Int):=by omega
 have ce:(c:Int)<6:=by omega
 clear hc;have T:ZhU ⟨22,d,a,b,l⟩:=fun _=>⟨c,r,hn,by omega,by omega⟩;obtain⟨c0,c1,c2,c3,c4⟩:=Zi (x:=((Yc G d.length J,Yc N a.length I,Yc F b.length H),⟨22,d,a,b,l⟩)) (B1);dsimp only at c0 c1 c2 c3 c4;generalize ar:w.alloc (Yg #[Yd Yf 22,Yc G d.length J,Yc N a.length I,Yc F b.length H,Yd Yf l] 37)=w1 at *;have ST:=zh (Ze0 m w1 _ hq p1.below T);rw[hs]at ST;have i:=zh (zi R (zi B1 (zi hq (zi hN (zi hE (zi V (zi W p1)))))));have Y:=zh (zi hi (zi K (zi hz hv)));have Z:=zh (zi s (zi L (zi p M)));have P:=zh (zi hU (zi hn ht));clear p1 B1 R hq av aw hW al ap aq hU an ao hK h V W he hi K hz hv s L p M hE hN hs hg T hn ht;go_enter Tryz.func23,Tryz.ntmps23;go_upto_region 11 with(go_at_call 54;(refine ST.out.mono ?_);rintro e w2 ⟨rfl,B⟩;have HB:=zh B;clear B)
 have K2:=i.out.2.1.keep HB.out;have P2:=zh (i.out.2.2.2.2.2.2.2.keep HB.out);obtain⟨d0,d1,d2,d3,d4⟩:=Zi (x:=((Yc G d.length J,Yc N a.length I,Yc F b.length H),⟨22,d,a,b,l⟩)) (K2);dsimp only at d0 d1 d2 d3 d4;have KI:=zh (Zci m w2 g A _ u ns _ 0 j ⟨P2.out,i.out.2.2.2.1⟩ i.out.2.2.1 Y.out.1 Y.out.2.1);have Q:=K2;clear K2
 go_upto_region 12 with(first
  |(go_at_call 42;(refine KI.out.mono ?_);rintro e w3 ⟨q,rfl,p,o,B⟩;have S:q.2=z:=Option.some.inj (p.symm.trans Y.out.2.2.1);have v:=zh (zi o (zi B S));clear p o B S;have OP:=zh (Zds m w3 g A f 1 _ u ns q i.out.2.2.2.2.1 (P2.out.keep v.out.2.1) i.out.2.2.2.1 v.out.1 (v.out.2.2▸Y.out.2.2.2) (by rw[v.out.2.2];have:=i.out.2.2.2.2.2.1;omega)))
  |(go_at_call 53;(refine OP.out.mono ?_);rintro e E ⟨rfl,D,C⟩;have H4:=zh (zi (show PrS m E g (t++opT ns f z 1) A u from v.out.2.2▸D) C);clear D C))
 have K3:=Q.keep v.out.2.1;have K4:=(H4.out.2.at_ _ _ _ (Zd1 (P2.out.keep v.out.2.1) K3) (by decide) K3).keep (Zn E);obtain⟨a0,R,a2,a3,a4⟩:=Zi (x:=((Yc G d.length J,Yc N a.length I,Yc F b.length H),⟨22,d,a,b,l⟩)) (K4);dsimp only at a0 R a2 a3 a4;have P4:=zh (H4.out.1.keep (Zn E));obtain⟨au,rfl,u0⟩:=ints_at (k:=0) (x:=(c:Int)) P.out.1 P4.out.below (by rw[P.out.2.1];rfl) (by rw[P.out.2.1];exact Nat.succ_pos _);have u1:E.drew.cell? au=Ya (Yd Yf c):=u0;have u2:E.cell? au=Ya (Yd Yf c):=u0;have v1:=ZhM P.out.2.2 P4.out.below c am;have v2:E.cell? ⟨0,c,Yb⟩=Ya (txt (Zcg c)):=v1;have cc:0<a.length:=by rw[P.out.2.1];exact Nat.succ_pos _
 have KS:=zh K4;have AD:=zh (Zap m E.drew g A _ u (Zcg c) P4.out (by have:=i.out.2.2.2.2.2.1;simp only[Yj];omega));clear u0 K3 K4 Q;go_region_with (go_at_call 36;(refine AD.out.mono ?_);rintro e w5 ⟨rfl,D,C⟩;have X:=zh (zi D C);clear D C);have K5:=X.out.2.at_ _ _ _ (Zd1 P4.out KS.out) (by decide) KS.out;obtain⟨b0,b1,b2,b3,b4⟩:=Zi (x:=((Yc G d.length J,Yc (Ya au) a.length I,Yc F b.length H),⟨22,d,a,b,l⟩)) (K5);dsimp only at b0 b1 b2 b3 b4;have KJ:=zh (Zci m w5 g A _ u ns _ 1 k ⟨X.out.1,i.out.2.2.2.1⟩ i.out.2.2.1 Z.out.1 Z.out.2.1);have wk:IntKind.i64.wrap (0+1)=1:=by decide
 clear K5
 go_wp2_with (first
  |(go_at_call 42;(refine KJ.out.mono ?_);rintro e w6 ⟨q2,rfl,p,o,B⟩;have S:q2.2=y:=Option.some.inj (p.symm.trans Z.out.2.2.1);have O:=zh (zi o (zi B S));clear p o B S;have OQ:=zh (Zds m w6 g A f 1 _ u ns q2 i.out.2.2.2.2.1 (X.out.1.keep O.out.2.1) i.out.2.2.2.1 O.out.1 (O.out.2.2▸Z.out.2.2.2) (by rw[O.out.2.2];have:=i.out.2.2.2.2.2.1;simp only[Yj];omega)))
  |(go_at_call 53;(refine OQ.out.mono ?_);rintro e w7 ⟨rfl,D,C⟩;have H7:=zh (zi D C);clear D C))
 go_end0;refine⟨rfl,?_,(((((((Fr.of_below g (ar▸i.out.1)).trans (Fr.of_below g HB.out)).trans (Fr.of_below g v.out.2.1)).trans H4.out.2).trans (Fr.of_below g (Zn E))).trans X.out.2).trans (Fr.of_below g O.out.2.1)).trans H7.out.2⟩;have:=H7.out.1;rw[O.out.2.2]at this;simp only[List.append_assoc]at this⊢;exact this
theorem Zov (c:Nat) (hc:c=2\/c=3) (m w:Yh) (g A f:Nat) (t:Txt) (u:Yi) (ns:List Nd) (x:NdV×Nd) (h:PrS m w g t A u) (hN:Zu m u ns) (hx:Za5 m x) (ht:ZaI m 0 Zfr) (hE:ZbH m ns f) (r:List Int) (j k:Nat) (hk:x.2.kind=22) (hn:x.2.nums=(c:Int)::r) (hi:x.2.kids[0]? = Ya (j:Int)) (K:j<ns.length) (hv:ZS ns f (Za ns j)) (s:x.2.kids[1]? = Ya (k:Int)) (L:k<ns.length) (M:ZS ns f (Za ns k)) (V:t.length+(ZD ns (f+1) x.2).length+100<=140737488355328) :
  Calls Tryz.prog 23 #[Ye (Ya ⟨g,0,Yb⟩),ndX x] w fun e w'=>e=.returned (.tuple #[])/\PrS m w' g (t++ZD ns (f+1) x.2) A u/\Fr w w' g:=by
 have hq:=hx;obtain⟨⟨vw,vu,vk⟩,kd,d,a,b,l⟩:=x;obtain⟨hw,hu,U⟩:=hx;dsimp only at hk hn hi s hw hu U V⊢;obtain⟨G,J,rfl,av,aw,hW,al⟩:=hw;obtain⟨N,I,rfl,ap,aq,hU⟩:=hu;obtain⟨F,H,rfl,an,ao,hK⟩:=U;subst hk;have R:=below_alloc1 w (Yg #[Yd Yf 22,Yc G d.length J,Yc N a.length I,Yc F b.length H,Yd Yf l] 37);have B1:Zh _ _ _ _:=Zh.start w #[Yd Yf 22,Yc G d.length J,Yc N a.length I,Yc F b.length H,Yd Yf l] 37;have p1:=h.keep R;obtain⟨z,hz⟩:∃z,ns[j]? = Ya z:=⟨_,Ym K⟩
 obtain⟨y,p⟩:∃y,ns[k]? = Ya y:=⟨_,Ym L⟩
 have hs:ZB ⟨22,d,a,b,l⟩=1:=by unfold ZB num;rw[Yo rfl];dsimp only;rw[hn];rcases hc with rfl|rfl<;>rfl
 have hg:num ⟨22,d,a,b,l⟩ 0=c:=by unfold num;dsimp only;rw[hn];rfl
 have he:ZD ns (f+1) ⟨22,d,a,b,l⟩=opT ns f z 1++Zcg c++opT ns f y 2:=by rw[<-ZcN (n:=⟨22,d,a,b,l⟩) hi hz,<-ZcN (n:=⟨22,d,a,b,l⟩) s p];simp only[ZD,opT,hs,hg];rfl
 rw[Zb2 hz]at hv;rw[Zb2 p]at M;rw[he]at V⊢;simp only[Yj]at V;have W:(Zcg c).length<=4:=by rcases hc with rfl|rfl<;>decide
 have am:c<6:=by omega
 have cd:(0:Int)<=(c:Int):=by omega
 have ce:(c:Int)<6:=by omega
 clear hc;have T:ZhU ⟨22,d,a,b,l⟩:=fun _=>⟨c,r,hn,by omega,by omega⟩;obtain⟨c0,c1,c2,c3,c4⟩:=Zi (x:=((Yc G d.length J,Yc N a.length I,Yc F b.length H),⟨22,d,a,b,l⟩)) (B1);dsimp only at c0 c1 c2 c3 c4;generalize ar:w.alloc (Yg #[Yd Yf 22,Yc G d.length J,Yc N a.length I,Yc F b.length H,Yd Yf l] 37)=w1 at *;have ST:=zh (Ze0 m w1 _ hq p1.below T);rw[hs]at ST;have i:=zh (zi R (zi B1 (zi hq (zi hN (zi hE (zi V (zi W p1)))))));have Y:=zh (zi hi (zi K (zi hz hv)));have Z:=zh (zi s (zi L (zi p M)));have P:=zh (zi hU (zi hn ht));clear p1 B1 R hq av aw hW al ap aq hU an ao hK h V W he hi K hz hv s L p M hE hN hs hg T hn ht;go_enter Tryz.func23,Tryz.ntmps23;go_upto_region 11 with(go_at_call 54;(refine ST.out.mono ?_);rintro e w2 ⟨rfl,B⟩;have HB:=zh B;clear B)
 have K2:=i.out.2.1.keep HB.out;have P2:=zh (i.out.2.2.2.2.2.2.2.keep HB.out);obtain⟨d0,d1,d2,d3,d4⟩:=Zi (x:=((Yc G d.length J,Yc N a.length I,Yc F b.length H),⟨22,d,a,b,l⟩)) (K2);dsimp only at d0 d1 d2 d3 d4;have KI:=zh (Zci m w2 g A _ u ns _ 0 j ⟨P2.out,i.out.2.2.2.1⟩ i.out.2.2.1 Y.out.1 Y.out.2.1);have Q:=K2;clear K2
 go_upto_region 12 with(first
  |(go_at_call 42;(refine KI.out.mono ?_);rintro e w3 ⟨q,rfl,p,o,B⟩;have S:q.2=z:=Option.some.inj (p.symm.trans Y.out.2.2.1);have v:=zh (zi o (zi B S));clear p o B S;have OP:=zh (Zds m w3 g A f 1 _ u ns q i.out.2.2.2.2.1 (P2.out.keep v.out.2.1) i.out.2.2.2.1 v.out.1 (v.out.2.2▸Y.out.2.2.2) (by rw[v.out.2.2];have:=i.out.2.2.2.2.2.1;omega)))
  |(go_at_call 53;(refine OP.out.mono ?_);rintro e E ⟨rfl,D,C⟩;have H4:=zh (zi (show PrS m E g (t++opT ns f z 1) A u from v.out.2.2▸D) C);clear D C))
 have K3:=Q.keep v.out.2.1;have K4:=(H4.out.2.at_ _ _ _ (Zd1 (P2.out.keep v.out.2.1) K3) (by decide) K3).keep (Zn E);obtain⟨a0,R,a2,a3,a4⟩:=Zi (x:=((Yc G d.length J,Yc N a.length I,Yc F b.length H),⟨22,d,a,b,l⟩)) (K4);dsimp only at a0 R a2 a3 a4;have P4:=zh (H4.out.1.keep (Zn E));obtain⟨au,rfl,u0⟩:=ints_at (k:=0) (x:=(c:Int)) P.out.1 P4.out.below (by rw[P.out.2.1];rfl) (by rw[P.out.2.1];exact Nat.succ_pos _);have u1:E.drew.cell? au=Ya (Yd Yf c):=u0;have u2:E.cell? au=Ya (Yd Yf c):=u0;have v1:=ZhM P.out.2.2 P4.out.below c am;have v2:E.cell? ⟨0,c,Yb⟩=Ya (txt (Zcg c)):=v1;have cc:0<a.length:=by rw[P.out.2.1];exact Nat.succ_pos _
 have KS:=zh K4;have AD:=zh (Zap m E.drew g A _ u (Zcg c) P4.out (by have:=i.out.2.2.2.2.2.1;simp only[Yj];omega));clear u0 K3 K4 Q;go_region_with (go_at_call 36;(refine AD.out.mono ?_);rintro e w5 ⟨rfl,D,C⟩;have X:=zh (zi D C);clear D C);have K5:=X.out.2.at_ _ _ _ (Zd1 P4.out KS.out) (by decide) KS.out;obtain⟨b0,b1,b2,b3,b4⟩:=Zi (x:=((Yc G d.length J,Yc (Ya au) a.length I,Yc F b.length H),⟨22,d,a,b,l⟩)) (K5);dsimp only at b0 b1 b2 b3 b4;have KJ:=zh (Zci m w5 g A _ u ns _ 1 k ⟨X.out.1,i.out.2.2.2.1⟩ i.out.2.2.1 Z.out.1 Z.out.2.1);have wk:IntKind.i64.wrap (1+1)=2:=by decide
 clear K5
 go_wp2_with (first
  |(go_at_call 42;(refine KJ.out.mono ?_);rintro e w6 ⟨q2,rfl,p,o,B⟩;have S:q2.2=y:=Option.some.inj (p.symm.trans Z.out.2.2.1);have O:=zh (zi o (zi B S));clear p o B S;have OQ:=zh (Zds m w6 g A f 2 _ u ns q2 i.out.2.2.2.2.1 (X.out.1.keep O.out.2.1) i.out.2.2.2.1 O.out.1 (O.out.2.2▸Z.out.2.2.2) (by rw[O.out.2.2];have:=i.out.2.2.2.2.2.1;simp only[Yj];omega)))
  |(go_at_call 53;(refine OQ.out.mono ?_);rintro e w7 ⟨rfl,D,C⟩;have H7:=zh (zi D C);clear D C))
 go_end0;refine⟨rfl,?_,(((((((Fr.of_below g (ar▸i.out.1)).trans (Fr.of_below g HB.out)).trans (Fr.of_below g v.out.2.1)).trans H4.out.2).trans (Fr.of_below g (Zn E))).trans X.out.2).trans (Fr.of_below g O.out.2.1)).trans H7.out.2⟩;have:=H7.out.1;rw[O.out.2.2]at this;simp only[List.append_assoc]at this⊢;exact this
theorem Zow (c:Nat) (hc:c=4\/c=5) (m w:Yh) (g A f:Nat) (t:Txt) (u:Yi) (ns:List Nd) (x:NdV×Nd) (h:PrS m w g t A u) (hN:Zu m u ns) (hx:Za5 m x) (ht:ZaI m 0 Zfr) (hE:ZbH m ns f) (r:List Int) (j k:Nat) (hk:x.2.kind=22) (hn:x.2.nums=(c:Int)::r) (hi:x.2.kids[0]? = Ya (j:Int)) (K:j<ns.length) (hv:ZS ns f (Za ns j)) (s:x.2.kids[1]? = Ya (k:Int)) (L:k<ns.length) (M:ZS ns f (Za ns k)) (V:t.length+(ZD ns (f+1) x.2).length+100<=140737488355328) :
  Calls Tryz.prog 23 #[Ye (Ya ⟨g,0,Yb⟩),ndX x] w fun e w'=>e=.returned (.tuple #[])/\PrS m w' g (t++ZD ns (f+1) x.2) A u/\Fr w w' g:=by
 have hq:=hx;obtain⟨⟨vw,vu,vk⟩,kd,d,a,b,l⟩:=x;obtain⟨hw,hu,U⟩:=hx;dsimp only at hk hn hi s hw hu U V⊢;obtain⟨G,J,rfl,av,aw,hW,al⟩:=hw;obtain⟨N,I,rfl,ap,aq,hU⟩:=hu;obtain⟨F,H,rfl,an,ao,hK⟩:=U;subst hk;have R:=below_alloc1 w (Yg #[Yd Yf 22,Yc G d.length J,Yc N a.length I,Yc F b.length H,Yd Yf l] 37);have B1:Zh _ _ _ _:=Zh.start w #[Yd Yf 22,Yc G d.length J,Yc N a.length I,Yc F b.length H,Yd Yf l] 37;have p1:=h.keep R;obtain⟨z,hz⟩:∃z,ns[j]? = Ya z:=⟨_,Ym K⟩
 obtain⟨y,p⟩:∃y,ns[k]? = Ya y:=⟨_,Ym L⟩
 have hs:ZB ⟨22,d,a,b,l⟩=2:=by unfold ZB num;rw[Yo rfl];dsimp only;rw[hn];rcases hc with rfl|rfl<;>rfl
 have hg:num ⟨22,d,a,b,l⟩ 0=c:=by unfold num;dsimp only;rw[hn];rfl
 have he:ZD ns (f+1) ⟨22,d,a,b,l⟩=opT ns f z 2++Zcg c++opT ns f y 3:=by rw[<-ZcN (n:=⟨22,d,a,b,l⟩) hi hz,<-ZcN (n:=⟨22,d,a,b,l⟩) s p];simp only[ZD,opT,hs,hg];rfl
 rw[Zb2 hz]at hv;rw[Zb2 p]at M;rw[he]at V⊢;simp only[Yj]at V;have W:(Zcg c).length<=4:=by rcases hc with rfl|rfl<;>decide
 have am:c<6:=by omega
 have cd:(0:Int)<=(c:Int):=by omega
 have ce:(c:Int)<6:=by omega
 clear hc;have T:ZhU ⟨22,d,a,b,l⟩:=fun _=>⟨c,r,hn,by omega,by omega⟩;obtain⟨c0,c1,c2,c3,c4⟩:=Zi (x:=((Yc G d.length J,Yc N a.length I,Yc F b.length H),⟨22,d,a,b,l⟩)) (B1);dsimp only at c0 c1 c2 c3 c4;generalize ar:w.alloc (Yg #[Yd Yf 22,Yc G d.length J,Yc N a.length I,Yc F b.length H,Yd Yf l] 37)=w1 at *;have ST:=zh (Ze0 m w1 _ hq p1.below T);rw[hs]at ST;have i:=zh (zi R (zi B1 (zi hq (zi hN (zi hE (zi V (zi W p1)))))));have Y:=zh (zi hi (zi K (zi hz hv)));have Z:=zh (zi s (zi L (zi p M)));have P:=zh (zi hU (zi hn ht));clear p1 B1 R hq av aw hW al ap aq hU an ao hK h V W he hi K hz hv s L p M hE hN hs hg T hn ht;go_enter Tryz.func23,Tryz.ntmps23;go_upto_region 11 with(go_at_call 54;(refine ST.out.mono ?_);rintro e w2 ⟨rfl,B⟩;have HB:=zh B;clear B)
 have K2:=i.out.2.1.keep HB.out;have P2:=zh (i.out.2.2.2.2.2.2.2.keep HB.out);obtain⟨d0,d1,d2,d3,d4⟩:=Zi (x:=((Yc G d.length J,Yc N a.length I,Yc F b.length H),⟨22,d,a,b,l⟩)) (K2);dsimp only at d0 d1 d2 d3 d4;have KI:=zh (Zci m w2 g A _ u ns _ 0 j ⟨P2.out,i.out.2.2.2.1⟩ i.out.2.2.1 Y.out.1 Y.out.2.1);have Q:=K2;clear K2
 go_upto_region 12 with(first
  |(go_at_call 42;(refine KI.out.mono ?_);rintro e w3 ⟨q,rfl,p,o,B⟩;have S:q.2=z:=Option.some.inj (p.symm.trans Y.out.2.2.1);have v:=zh (zi o (zi B S));clear p o B S;have OP:=zh (Zds m w3 g A f 2 _ u ns q i.out.2.2.2.2.1 (P2.out.keep v.out.2.1) i.out.2.2.2.1 v.out.1 (v.out.2.2▸Y.out.2.2.2) (by rw[v.out.2.2];have:=i.out.2.2.2.2.2.1;omega)))
  |(go_at_call 53;(refine OP.out.mono ?_);rintro e E ⟨rfl,D,C⟩;have H4:=zh (zi (show PrS m E g (t++opT ns f z 2) A u from v.out.2.2▸D) C);clear D C))
 have K3:=Q.keep v.out.2.1;have K4:=(H4.out.2.at_ _ _ _ (Zd1 (P2.out.keep v.out.2.1) K3) (by decide) K3).keep (Zn E);obtain⟨a0,R,a2,a3,a4⟩:=Zi (x:=((Yc G d.length J,Yc N a.length I,Yc F b.length H),⟨22,d,a,b,l⟩)) (K4);dsimp only at a0 R a2 a3 a4;have P4:=zh (H4.out.1.keep (Zn E));obtain⟨au,rfl,u0⟩:=ints_at (k:=0) (x:=(c:Int)) P.out.1 P4.out.below (by rw[P.out.2.1];rfl) (by rw[P.out.2.1];exact Nat.succ_pos _);have u1:E.drew.cell? au=Ya (Yd Yf c):=u0;have u2:E.cell? au=Ya (Yd Yf c):=u0;have v1:=ZhM P.out.2.2 P4.out.below c am;have v2:E.cell? ⟨0,c,Yb⟩=Ya (txt (Zcg c)):=v1;have cc:0<a.length:=by rw[P.out.2.1];exact Nat.succ_pos _
 have KS:=zh K4;have AD:=zh (Zap m E.drew g A _ u (Zcg c) P4.out (by have:=i.out.2.2.2.2.2.1;simp only[Yj];omega));clear u0 K3 K4 Q;go_region_with (go_at_call 36;(refine AD.out.mono ?_);rintro e w5 ⟨rfl,D,C⟩;have X:=zh (zi D C);clear D C);have K5:=X.out.2.at_ _ _ _ (Zd1 P4.out KS.out) (by decide) KS.out;obtain⟨b0,b1,b2,b3,b4⟩:=Zi (x:=((Yc G d.length J,Yc (Ya au) a.length I,Yc F b.length H),⟨22,d,a,b,l⟩)) (K5);dsimp only at b0 b1 b2 b3 b4;have KJ:=zh (Zci m w5 g A _ u ns _ 1 k ⟨X.out.1,i.out.2.2.2.1⟩ i.out.2.2.1 Z.out.1 Z.out.2.1);have wk:IntKind.i64.wrap (2+1)=3:=by decide
 clear K5
 go_wp2_with (first
  |(go_at_call 42;(refine KJ.out.mono ?_);rintro e w6 ⟨q2,rfl,p,o,B⟩;have S:q2.2=y:=Option.some.inj (p.symm.trans Z.out.2.2.1);have O:=zh (zi o (zi B S));clear p o B S;have OQ:=zh (Zds m w6 g A f 3 _ u ns q2 i.out.2.2.2.2.1 (X.out.1.keep O.out.2.1) i.out.2.2.2.1 O.out.1 (O.out.2.2▸Z.out.2.2.2) (by rw[O.out.2.2];have:=i.out.2.2.2.2.2.1;simp only[Yj];omega)))
  |(go_at_call 53;(refine OQ.out.mono ?_);rintro e w7 ⟨rfl,D,C⟩;have H7:=zh (zi D C);clear D C))
 go_end0;refine⟨rfl,?_,(((((((Fr.of_below g (ar▸i.out.1)).trans (Fr.of_below g HB.out)).trans (Fr.of_below g v.out.2.1)).trans H4.out.2).trans (Fr.of_below g (Zn E))).trans X.out.2).trans (Fr.of_below g O.out.2.1)).trans H7.out.2⟩;have:=H7.out.1;rw[O.out.2.2]at this;simp only[List.append_assoc]at this⊢;exact this
theorem Zp0 (b:Yh) (ns:List Nd) (z:Zfd b b) (hs:ZaI b 0 Zfr):∀f,ZbH b ns f:=by
 intro f
 induction f with
 |zero=>intro w d e t n x h p hx hv _;exact hv.elim
 |succ f u=>
  intro w d e t n x h p hx hv o;obtain⟨y,hv⟩:=hv;rcases hv with⟨hk,v,r,hn,hv⟩|⟨hk,s,r,hn⟩|⟨hk,k,q,a,hv⟩|⟨hk,j,k,q,l,hv,i,a,m⟩
  ·exact Zp2 b w d e f t n ns x h hx z v r hk hn hv o
  ·exact Zp3 b w d e f t n ns x h hx s r hk hn o
  ·exact Zp1 b w d e f t n ns x h p hx u k hk q a hv o
  ·obtain⟨g,r,hn,A,B⟩:=y hk;obtain⟨c,rfl⟩:∃c:Nat,g=c:=⟨g.toNat,by omega⟩
   have:(c=0\/c=1)\/(c=2\/c=3)\/(c=4\/c=5):=by omega
   rcases this with hc|hc|hc
   ·exact Zou c hc b w d e f t n ns x h p hx hs u r j k hk hn q l hv i a m o
   ·exact Zov c hc b w d e f t n ns x h p hx hs u r j k hk hn q l hv i a m o
   ·exact Zow c hc b w d e f t n ns x h p hx hs u r j k hk hn q l hv i a m o
end
end Go.Proofs.YtfbepcelkijgkaaGreatDoor
