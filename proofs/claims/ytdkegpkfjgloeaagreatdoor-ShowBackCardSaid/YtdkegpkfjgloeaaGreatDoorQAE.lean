import Derived.Lib.ItoaLen
import Derived.RegionTactic
import Derived.Test.YtdkegpkfjgloeaaGreatDoorQAC
import Derived.Test.YtdkegpkfjgloeaaGreatDoorQAD
set_option maxRecDepth 100000
set_option maxHeartbeats 8000000
open Option renaming some → Ya, none → Yb
open Go.Value renaming slice → Yc, int → Yd, pointer → Ye
open Go.IntKind renaming i64 → Yf
open Go.Obj renaming cells → Yg
open Go renaming World → Yh, Value → Yi
open Go.RowKit
namespace Go.Proofs.YtdkegpkfjgloeaaGreatDoor
abbrev Ze5 (a w:Yh):Prop:=Lib.TabBelow Tryz.prog a.heap.size w "internal/strconv.uint64pow10" .u64 Lib.pow10Tab
theorem Zgx (t:Txt):u8s t=Lib.byteCells t:=by simp[u8s,Lib.strCells,Lib.byteCells]
theorem Fr.of_kept {w w':Yh} (a:Nat) (g:w.heap.size<=w'.heap.size) (h:Lib.OthersKept 5 Yb w w'):Fr w w' a:=
 ⟨g,fun b k i _ d f=>h b _ f (by simp) (fun c j e=>d (by injection e))⟩
theorem PrS.put {b w w2:Yh} {a c:Nat} {t t2:Txt} {e v:Yi} (h:PrS b w a t c e) (i:∀ty cs,ty≠5->Zk w a ty cs->Zk w2 a ty cs) (g:Below b.heap.size b w2) (d:w2.ownsRow b.heap.size 5 1 v t2.length (u8s t2)):PrS b (w2.setCell ⟨a,0,Yb⟩ v) a t2 c e:=by obtain⟨v0,f,_⟩:=h.box;have k:=i _ _ (by decide) f;exact⟨⟨v,by simpa using k.set 0 v,ZdH d (k.off d (by decide))⟩,g.setCell h.ge _,h.ge⟩
theorem Fr.put {w w2:Yh} {a:Nat} {v:Yi} (h:Fr w w2 a):Fr w (w2.setCell ⟨a,0,Yb⟩ v) a:=
 ⟨by have:=h.size;simpa[World.setCell]using this,fun b i d c f g=>Zk.other (h.at_ b i d c f g) (fun e=>c e.symm) _⟩
theorem ZgV (j w:Yh) (b p:Nat) (t:Txt) (y:Yi) (n:Int) (h:PrS j w b t p y) (u:Ze5 j w) (q:-9223372036854775808<=n) (r:n<=9223372036854775807) (s:t.length+21<=140737488355328) :
  Calls Tryz.prog 81 #[Ye (Ya ⟨b,0,Yb⟩),Yd Yf n] w fun e w'=>e=.returned (.tuple #[])/\PrS j w' b (t++ZbP n) p y/\Fr w w' b:=by
 have o:=zh h;obtain⟨v,hv,k⟩:=h.box;obtain⟨A,c,rfl⟩:=ZbB k;have B:=zh (Tryz.strconv_AppendInt_10 j.heap.size t.length n q r _ _ w k h.below.size s u);have D:=hv.blk.cell 0;simp only[List.getElem?_toArray,List.getElem?_cons_zero]at D;have C:=zh hv;clear h hv k u q r s;go_enter Tryz.func81,Tryz.ntmps81;go_wp2_with (go_at_call 109;(refine B.out.mono ?_);rintro e z ⟨H,rfl,i,d,a⟩;(have f:z.ownsRow j.heap.size 5 1 H (t++ZbP n).length (u8s (t++ZbP n)):=(by rw[Yj,ZmU,Zgx (ZbP n)];exact i));obtain⟨I,J,rfl⟩:=ZbB f;have m:=Fr.of_kept b d.size a;(have l:Zk z b _ _:=a b _ C.out (by simp) (fun c E e=>by injection e with _ e;exact absurd e (by decide)));have e1:=l.blk.cell 0;have L:=l.blk.free 0;simp only[List.getElem?_toArray,List.getElem?_cons_zero]at e1;have g:=zh (zi f (zi d (zi m a)));clear i f d a m l);go_end0;refine⟨rfl,PrS.put o.out (fun M K F G=>g.out.2.2.2 b _ G (by simp) (fun c E e=>F (by injection e))) (o.out.below.trans g.out.2.1) ?_,Fr.put g.out.2.2.1⟩
 first
  |exact g.out.1
  |(have:=g.out.1;rw[Yj]at this⊢;exact this)
theorem Zas (d w:Yh) (a b:Nat) (t:Txt) (c:Yi) (a0:Txt) (h:PrS d w a t b c) (j:t.length+(a0.length)<=140737488355328) :
  Calls Tryz.prog 32 #[Ye (Ya ⟨a,0,Yb⟩),Yc (Ya ⟨w.heap.size,0,Yb⟩) 1 1] (w.alloc (Yg #[txt a0] 9)) fun e w'=>e=.returned (.tuple #[])/\PrS d w' a (t++(a0)) b c/\Fr w w' a:=by
 have k:=below_alloc1 w (Yg #[txt a0] 9);refine(ZfK d _ a w.heap.size b t c [a0] (h.keep k) (Zk.start _ _ _) (by simp only[Yj,List.flatten_cons,List.flatten_nil,Yl];omega) (by simp)).mono ?_;rintro e w' ⟨g,f,i⟩;refine⟨g,?_,(Fr.of_below a k).trans i⟩;have e1:[a0].flatten=a0:=by simp
 rw[e1]at f;exact f
theorem Zdp (d w:Yh) (a b:Nat) (t:Txt) (c:Yi) (a0 a1:Txt) (h:PrS d w a t b c) (j:t.length+(a0.length+a1.length)<=140737488355328) :
  Calls Tryz.prog 32 #[Ye (Ya ⟨a,0,Yb⟩),Yc (Ya ⟨w.heap.size,0,Yb⟩) 2 2] (w.alloc (Yg #[txt a0,txt a1] 9)) fun e w'=>e=.returned (.tuple #[])/\PrS d w' a (t++(a0++a1)) b c/\Fr w w' a:=by
 have k:=below_alloc1 w (Yg #[txt a0,txt a1] 9);refine(ZfK d _ a w.heap.size b t c [a0,a1] (h.keep k) (Zk.start _ _ _) (by simp only[Yj,List.flatten_cons,List.flatten_nil,Yl];omega) (by simp)).mono ?_;rintro e w' ⟨g,f,i⟩;refine⟨g,?_,(Fr.of_below a k).trans i⟩;have e1:[a0,a1].flatten=a0++a1:=by simp
 rw[e1]at f;exact f
theorem Zp1 (d w:Yh) (a b:Nat) (t:Txt) (c:Yi) (a0 a1 a2:Txt) (h:PrS d w a t b c) (j:t.length+(a0.length+a1.length+a2.length)<=140737488355328) :
  Calls Tryz.prog 32 #[Ye (Ya ⟨a,0,Yb⟩),Yc (Ya ⟨w.heap.size,0,Yb⟩) 3 3] (w.alloc (Yg #[txt a0,txt a1,txt a2] 9)) fun e w'=>e=.returned (.tuple #[])/\PrS d w' a (t++(a0++a1++a2)) b c/\Fr w w' a:=by
 have k:=below_alloc1 w (Yg #[txt a0,txt a1,txt a2] 9);refine(ZfK d _ a w.heap.size b t c [a0,a1,a2] (h.keep k) (Zk.start _ _ _) (by simp only[Yj,List.flatten_cons,List.flatten_nil,Yl];omega) (by simp)).mono ?_;rintro e w' ⟨g,f,i⟩;refine⟨g,?_,(Fr.of_below a k).trans i⟩;have e1:[a0,a1,a2].flatten=a0++a1++a2:=by simp
 rw[e1]at f;exact f
theorem Zh7 (d w:Yh) (a b:Nat) (t:Txt) (c:Yi) (a0 a1 a2 a3:Txt) (h:PrS d w a t b c) (j:t.length+(a0.length+a1.length+a2.length+a3.length)<=140737488355328) :
  Calls Tryz.prog 32 #[Ye (Ya ⟨a,0,Yb⟩),Yc (Ya ⟨w.heap.size,0,Yb⟩) 4 4] (w.alloc (Yg #[txt a0,txt a1,txt a2,txt a3] 9)) fun e w'=>e=.returned (.tuple #[])/\PrS d w' a (t++(a0++a1++a2++a3)) b c/\Fr w w' a:=by
 have k:=below_alloc1 w (Yg #[txt a0,txt a1,txt a2,txt a3] 9);refine(ZfK d _ a w.heap.size b t c [a0,a1,a2,a3] (h.keep k) (Zk.start _ _ _) (by simp only[Yj,List.flatten_cons,List.flatten_nil,Yl];omega) (by simp)).mono ?_;rintro e w' ⟨g,f,i⟩;refine⟨g,?_,(Fr.of_below a k).trans i⟩;have e1:[a0,a1,a2,a3].flatten=a0++a1++a2++a3:=by simp
 rw[e1]at f;exact f
theorem Zp2 (d w:Yh) (a b:Nat) (t:Txt) (c:Yi) (a0 a1 a2 a3 a4:Txt) (h:PrS d w a t b c) (j:t.length+(a0.length+a1.length+a2.length+a3.length+a4.length)<=140737488355328) :
  Calls Tryz.prog 32 #[Ye (Ya ⟨a,0,Yb⟩),Yc (Ya ⟨w.heap.size,0,Yb⟩) 5 5] (w.alloc (Yg #[txt a0,txt a1,txt a2,txt a3,txt a4] 9)) fun e w'=>e=.returned (.tuple #[])/\PrS d w' a (t++(a0++a1++a2++a3++a4)) b c/\Fr w w' a:=by
 have k:=below_alloc1 w (Yg #[txt a0,txt a1,txt a2,txt a3,txt a4] 9);refine(ZfK d _ a w.heap.size b t c [a0,a1,a2,a3,a4] (h.keep k) (Zk.start _ _ _) (by simp only[Yj,List.flatten_cons,List.flatten_nil,Yl];omega) (by simp)).mono ?_;rintro e w' ⟨g,f,i⟩;refine⟨g,?_,(Fr.of_below a k).trans i⟩;have e1:[a0,a1,a2,a3,a4].flatten=a0++a1++a2++a3++a4:=by simp
 rw[e1]at f;exact f
theorem Zp3 (f w:Yh) (b c:Nat) (t:Txt) (d:Yi) (a0 a1 a2 a3 a4 a5 a:Txt) (h:PrS f w b t c d) (l:t.length+(a0.length+a1.length+a2.length+a3.length+a4.length+a5.length+a.length)<=140737488355328) :
  Calls Tryz.prog 32 #[Ye (Ya ⟨b,0,Yb⟩),Yc (Ya ⟨w.heap.size,0,Yb⟩) 7 7] (w.alloc (Yg #[txt a0,txt a1,txt a2,txt a3,txt a4,txt a5,txt a] 9)) fun e w'=>e=.returned (.tuple #[])/\PrS f w' b (t++(a0++a1++a2++a3++a4++a5++a)) c d/\Fr w w' b:=by
 have k:=below_alloc1 w (Yg #[txt a0,txt a1,txt a2,txt a3,txt a4,txt a5,txt a] 9);refine(ZfK f _ b w.heap.size c t d [a0,a1,a2,a3,a4,a5,a] (h.keep k) (Zk.start _ _ _) (by simp only[Yj,List.flatten_cons,List.flatten_nil,Yl];omega) (by simp)).mono ?_;rintro e w' ⟨i,g,j⟩;refine⟨i,?_,(Fr.of_below b k).trans j⟩;have e1:[a0,a1,a2,a3,a4,a5,a].flatten=a0++a1++a2++a3++a4++a5++a:=by simp
 rw[e1]at g;exact g
theorem Zg6 (f w:Yh) (c i:Nat) (t:Txt) (j:Yi) (n d:Int) (h:PrS f w c t i j) (l:Ze5 f f) (hn:-9223372036854775808<=n/\n<=9223372036854775807) (hd:-9223372036854775808<=d/\d<=9223372036854775807) (s:t.length+100<=140737488355328) :
  Calls Tryz.prog 60 #[Ye (Ya ⟨c,0,Yb⟩),Yd Yf n,Yd Yf d] w fun e w'=>e=.returned (.tuple #[])/\PrS f w' c (t++Zdd n d) i j/\Fr w w' c:=by
 have u:=Lib.itoa_length_le n hn.1 hn.2;have q:=zh (ZgV f w c i t j n h (l.on h.below) hn.1 hn.2 (by omega));have g:=zh (zi l (zi hd (show t.length+(ZbP n).length+50<=140737488355328 by unfold ZbP;omega)));clear h l hn hd s u;go_enter Tryz.func60,Tryz.ntmps60;go_upto_region 1 with(go_at_call 81;(refine q.out.mono ?_);rintro e v ⟨rfl,b,a⟩;have m:=zh (zi b a);clear b a)
 have p:=zh (Zas f v c i _ j [47] m.out.1 (by have:=g.out.2.2;rw[Yj];simp only[Yk,Yl];omega));go_upto_region 2 with(go_at_call 32;(refine p.out.mono ?_);rintro e y ⟨rfl,b,a⟩;have k:=zh (zi b (m.out.2.trans a));clear b a)
 have r:=zh (ZgV f y c i _ j d k.out.1 (g.out.1.on k.out.1.below) g.out.2.1.1 g.out.2.1.2 (by have:=g.out.2.2;simp only[Yj,Yk,Yl];omega));go_wp2_with (go_at_call 81;(refine r.out.mono ?_);rintro e z ⟨rfl,b,a⟩;have o:=zh (zi b (k.out.2.trans a));clear b a);go_end0;refine⟨rfl,?_,o.out.2⟩;have e:t++Zdd n d=t++ZbP n++[47]++ZbP d:=by unfold Zdd;simp only[List.append_assoc]
 rw[e];exact o.out.1
theorem ZiF (l w:Yh) (b a:Nat) (t:Txt) (j:Yi) (h:PrS l w b t a j) (hd:a<=4000) (r:t.length+9000<=140737488355328) :
  Calls Tryz.prog 31 #[Ye (Ya ⟨b,0,Yb⟩)] w fun e w'=>e=.returned (.tuple #[])/\PrS l w' b (t++Zc9 a) a j/\Fr w w' b:=by
 obtain⟨v,hv,z⟩:=h.box;have e1:=hv.blk.cell 1;simp only[List.getElem?_toArray,List.getElem?_cons_zero,List.getElem?_cons_succ]at e1;have m:=zh (zi h (zi hd r));clear h hd r hv z;go_enter Tryz.func31,Tryz.ntmps31;go_wp2_with fail;go_loopg [6] a (fun g B wr=>∃k:Nat,B=Yd Yf k/\k<=a/\g=a-k/\PrS l wr b (t++Zc9 k) a j/\Fr w wr b)
 case atStart=>exact⟨0,rfl,Nat.zero_le _,rfl,by simpa[Zc9]using m.out.1,Fr.refl _ _⟩
 case round=>
  obtain⟨k,rfl,hk,o,f,hF⟩:=hrel;by_cases c:k=a
  ·have A:decide (k<a)=false:=decide_eq_false (by omega);have C:¬((k:Int)<(a:Int)):=by omega
   have n:=zh (zi (show PrS l wr b (t++Zc9 a) a j by rw[c]at f;exact f) hF);clear hk o f hF c;go_wp2_with fail;go_end0;exact⟨rfl,n.out⟩
  ·have i:k<a:=by omega
   have A:(k:Int)<(a:Int):=by omega
   have E:IntKind.i64.wrap ((k:Int)+1)=(k:Int)+1:=IntWalk.i64_in _ (by have:=m.out.2.1;omega);have u:Zc9 (k+1)=Zc9 k++[32,32]:=by unfold Zc9;rw[show 2*(k+1)=(2*k+1)+1 by omega,List.replicate_succ',List.replicate_succ',List.append_assoc];rfl
   have y:=zh (Zas l wr b a _ j [32,32] f (by have:=m.out.2.2;have:=m.out.2.1;rw[Yj];simp only[Zc9,List.length_replicate,Yk,Yl];omega));have d:=zh (zi i (zi o (zi u hF)));clear c i hk o u hF f;go_wp2_with (go_at_call 32;(refine y.out.mono ?_);rintro e D ⟨rfl,s,q⟩;have p:=zh (zi s q);clear s q);go_roundg (a-(k+1))
   case measure=>have:=d.out.1;have:=d.out.2.1;omega
   case rel=>
    refine⟨k+1,by push_cast;rfl,d.out.1,rfl,?_,d.out.2.2.2.trans p.out.2⟩;rw[d.out.2.2.1,<-List.append_assoc];exact p.out.1
structure PrN (w0 w:Yh) (bp:Nat) (t:Txt) (dp:Nat) (vn:Yi) (ns:List Nd):Prop where
 p:PrS w0 w bp t dp vn
 n:Zi w0 vn ns
abbrev ndX (x:NdV×Nd):Yi:=.agg #[Yd Yf x.2.kind,x.1.1,x.1.2.1,x.1.2.2,Yd Yf x.2.pos]
abbrev Zi1:Array Yi:=#[Yd Yf 0,Yc Yb 0 0,Yc Yb 0 0,Yc Yb 0 0,Yd Yf 0]
theorem Zn0 (X:Yh) (b i j:Nat) (v:Yi) (h:i≠j):(X.setCell ⟨b,i,Yb⟩ v).cell? ⟨b,j,Yb⟩=X.cell? ⟨b,j,Yb⟩:=World.cell?_setCell_other _ _ _ _ (fun e=>h (by injection e with _ e))
theorem Zqk {X:Yh} {b:Nat} (h:Blk X b Zi1) (a c d e f:Yi):(X.setCell ⟨b,0,Yb⟩ a).cell? ⟨b,0,Yb⟩=Ya a/\((X.setCell ⟨b,0,Yb⟩ a).setCell ⟨b,1,Yb⟩ c).cell? ⟨b,1,Yb⟩=Ya c/\(((X.setCell ⟨b,0,Yb⟩ a).setCell ⟨b,1,Yb⟩ c).setCell ⟨b,2,Yb⟩ d).cell? ⟨b,2,Yb⟩=Ya d/\((((X.setCell ⟨b,0,Yb⟩ a).setCell ⟨b,1,Yb⟩ c).setCell ⟨b,2,Yb⟩ d).setCell ⟨b,3,Yb⟩ e).cell? ⟨b,3,Yb⟩=Ya e/\(((((X.setCell ⟨b,0,Yb⟩ a).setCell ⟨b,1,Yb⟩ c).setCell ⟨b,2,Yb⟩ d).setCell ⟨b,3,Yb⟩ e).setCell ⟨b,4,Yb⟩ f).cell? ⟨b,4,Yb⟩=Ya f:=
 ⟨by rw[(h.set 0 a).cell 0];rfl,by rw[((h.set 0 a).set 1 c).cell 1];rfl,by rw[(((h.set 0 a).set 1 c).set 2 d).cell 2];rfl,by rw[((((h.set 0 a).set 1 c).set 2 d).set 3 e).cell 3];rfl,by rw[(((((h.set 0 a).set 1 c).set 2 d).set 3 e).set 4 f).cell 4];rfl⟩
theorem Zm0 {w X:Yh} (h:Below w.heap.size w X) {b:Nat} (a:w.heap.size<=b) (c d e f g:Yi):Below w.heap.size w (((((X.setCell ⟨b,0,Yb⟩ c).setCell ⟨b,1,Yb⟩ d).setCell ⟨b,2,Yb⟩ e).setCell ⟨b,3,Yb⟩ f).setCell ⟨b,4,Yb⟩ g):=
 ((((h.setCell (p:=⟨b,0,Yb⟩) a _).setCell (p:=⟨b,1,Yb⟩) a _).setCell (p:=⟨b,2,Yb⟩) a _).setCell (p:=⟨b,3,Yb⟩) a _).setCell (p:=⟨b,4,Yb⟩) a _
theorem Zcf (V w:Yh) (Z dp:Nat) (t:Txt) (vn:Yi) (ns:List Nd) (x:NdV×Nd) (i k:Nat) (h:PrN V w Z t dp vn ns) (hx:ZU V x) (J:x.2.kids[i]? = Ya (k:Int)) (hk:k<ns.length) :
  Calls Tryz.prog 38 #[Ye (Ya ⟨Z,0,Yb⟩),ndX x,Yd Yf (i:Int)] w fun e w'=>∃y:NdV×Nd,e=.returned (ndX y)/\ns[k]? = Ya y.2/\ZU V y/\Below w.heap.size w w':=by
 obtain⟨⟨vw,vu,vk⟩,E,G,c,j,F⟩:=x;obtain⟨hw,hu,C⟩:=hx;dsimp only at hw hu C J⊢;obtain⟨q,u,rfl,_⟩:=hw;obtain⟨o,s,rfl,_⟩:=hu;obtain⟨m,r,rfl,_,_,hK⟩:=C;obtain⟨An,cn,rs,rfl,_,ai,hm,hN,hE⟩:=h.n;have T:=(List.getElem?_eq_some_iff.1 J).1;have U:j.length<=maxLen:=by omega
 obtain⟨v,hv,_⟩:=h.p.box;obtain⟨y,K⟩:∃y,rs[k]? = Ya y:=⟨_,Ym (by rw[<-hm,List.length_map]at hk;exact hk)⟩
 have D:ns[k]? = Ya y.2:=by rw[<-hm,List.getElem?_map,K];rfl
 have P:=below_alloc1 w (Yg #[Yd Yf E,.slice q G.length u,.slice o c.length s,.slice m j.length r,Yd Yf F] 36);have X:=Blk.start w #[Yd Yf E,.slice q G.length u,.slice o c.length s,.slice m j.length r,Yd Yf F] 36;have a2:=below_alloc1 (w.alloc (Yg #[Yd Yf E,.slice q G.length u,.slice o c.length s,.slice m j.length r,Yd Yf F] 36)) (.cells Zi1 36);have L:=Blk.start (w.alloc (Yg #[Yd Yf E,.slice q G.length u,.slice o c.length s,.slice m j.length r,Yd Yf F] 36)) Zi1 36;rw[World.size_alloc]at L;have I:=P.trans (a2.mono P.size);have Y:=h.p.below.trans (I.mono h.p.below.size);have a:=zh (zi (X.keep a2) (zi L (zi (hv.keep I) (zi I (zi Y (zi D (hE y (List.mem_of_getElem? K))))))));have H:=zh (zi hK (zi hN (zi J K)));clear h hK hN hE hm hv K D P X a2 L I Y J;go_enter Tryz.func38,Tryz.ntmps38;go_upto_region 1 with fail;generalize((w.alloc (Yg #[Yd Yf E,.slice q G.length u,.slice o c.length s,.slice m j.length r,Yd Yf F] 36)).alloc (.cells Zi1 36))=W at *;obtain⟨ak,rfl,d0⟩:=ints_at H.out.1 a.out.2.2.2.2.1 H.out.2.2.1 (by omega);obtain⟨an,rfl,n0,n1,n2,n3,n4⟩:=ZaG H.out.2.1 a.out.2.2.2.2.1 H.out.2.2.2 (by omega);have c2:=a.out.2.2.1.blk.cell 2;have c3:=a.out.1.cell 3;simp only[List.getElem?_toArray,List.getElem?_cons_zero,List.getElem?_cons_succ]at c2 c3;have z0:=a.out.2.1.cell 0;have z1:=a.out.2.1.cell 1;have z2:=a.out.2.1.cell 2;have z3:=a.out.2.1.cell 3;have z4:=a.out.2.1.cell 4;simp only[List.getElem?_toArray,List.getElem?_cons_zero,List.getElem?_cons_succ]at z0 z1 z2 z3 z4;have f0:=a.out.2.1.free 0;have f1:=a.out.2.1.free 1;have f2:=a.out.2.1.free 2;have f3:=a.out.2.1.free 3;have f4:=a.out.2.1.free 4;have i0:(0:Int)<=(i:Int):=by omega
 have i1:(i:Int)<(j.length:Int):=by omega
 have k0:(0:Int)<=(k:Int):=by omega
 have k1:(k:Int)<(ns.length:Int):=by omega
 obtain⟨⟨yw,yu,yk⟩,g,f,b,d,l⟩:=y;obtain⟨z,A,B⟩:=a.out.2.2.2.2.2.2;dsimp only at z A B;obtain⟨O,S,rfl,_⟩:=z;obtain⟨N,R,rfl,_⟩:=A;obtain⟨M,Q,rfl,_⟩:=B;dsimp only at n0 n1 n2 n3 n4;clear T U hk;have so:=Zn0;refine wp_region_still_tail 11 (by kernel_rfl) (by kernel_rfl) ?_;simp only[List.take_succ_cons,List.take_zero,List.drop_succ_cons,List.drop_zero]
 iterate 11 still_step
 refine wpStill_nil ?_;change wpList _ _ _ _ _ W.drew;go_wp2_with fail;obtain⟨r0,r1,r2,r3,r4⟩:=Zqk a.out.2.1 (Yd Yf g) (Yc O f.length S) (Yc N b.length R) (Yc M d.length Q) (Yd Yf l);exact bodyPost_ret (v:=.agg #[Yd Yf g,Yc O f.length S,Yc N b.length R,Yc M d.length Q,Yd Yf l]) (by simp[results,Tryz.results38,go_sem,so,r0,r1,r2,r3,r4]) rfl ⟨Yc O f.length S,Yc N b.length R,Yc M d.length Q,⟨g,f,b,d,l⟩,rfl,a.out.2.2.2.2.2.1,a.out.2.2.2.2.2.2,(Zm0 a.out.2.2.2.1 (Nat.le_succ _) _ _ _ _ _).drew⟩
def ZhJ (n:Nd):Prop:=n.kind=22->∃s r,n.nums=s::r/\0<=s/\s<=5
theorem ZeS (v w:Yh) (x:NdV×Nd) (hx:ZU v x) (u:Below v.heap.size v w) (hv:ZhJ x.2) :
  Calls Tryz.prog 117 #[ndX x] w fun e w'=>e=.returned (Yd Yf (ZD x.2:Nat))/\Below w.heap.size w w':=by
 obtain⟨⟨M,L,K⟩,d,h,a,f,g⟩:=x;obtain⟨D,C,c⟩:=hx;dsimp only at D C c hv⊢;obtain⟨j,q,rfl,_⟩:=D;obtain⟨y,p,rfl,_,_,t⟩:=C;obtain⟨i,o,rfl,_⟩:=c;have m:=below_alloc1 w (Yg #[Yd Yf d,.slice j h.length q,.slice y a.length p,.slice i f.length o,Yd Yf g] 36);have l:=Blk.start w #[Yd Yf d,.slice j h.length q,.slice y a.length p,.slice i f.length o,Yd Yf g] 36;have E:=l.cell 0;have F:=l.cell 2;simp only[List.getElem?_toArray,List.getElem?_cons_zero,List.getElem?_cons_succ]at E F;have z:=zh m;have n:=u.trans (m.mono u.size);clear m l u;by_cases hk:d=22
 ·subst hk;obtain⟨s,r,hn,G,H⟩:=hv rfl;dsimp only at hn;obtain⟨A,rfl,B⟩:=ints_at (k:=0) (x:=s) t n (by rw[hn];rfl) (by rw[hn];exact Nat.succ_pos _);have I:(w.alloc (Yg #[Yd Yf 22,.slice j h.length q,Yc (Ya A) a.length p,.slice i f.length o,Yd Yf g] 36)).cell? A=Ya (Yd Yf s):=B;clear B;have J:(0:Int)<(a.length:Int):=by rw[hn];simp only[Yk];omega
  have b:ZD ⟨22,h,a,f,g⟩=if s<=1 then 0 else if s<=3 then 1 else 2:=by unfold ZD num;rw[Yo rfl];dsimp only;rw[hn];rfl
  rw[b];clear t hn b n hv;have:s=0\/s=1\/s=2\/s=3\/s=4\/s=5:=by omega
  rcases this with rfl|rfl|rfl|rfl|rfl|rfl <;>
  ·clear G H;go_enter Tryz.func117,Tryz.ntmps117;go_wp2_with fail;go_ret;exact⟨rfl,z.out⟩
 ·have b:ZD ⟨d,h,a,f,g⟩=3:=by unfold ZD;rw[Yn hk]
  rw[b];have t0:(d != 22)=true:=by rw[bne_iff_ne];exact hk
  clear t b n hv hk;go_enter Tryz.func117,Tryz.ntmps117;go_wp2_with fail;go_ret;exact⟨rfl,z.out⟩
end Go.Proofs.YtdkegpkfjgloeaaGreatDoor
