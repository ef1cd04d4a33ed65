import Derived.Lib.AppendStr
import Derived.Lib.ItoaLen
import Derived.Test.YtfbepcelkijgkaaGreatDoorQAA
import Derived.Test.YtfbepcelkijgkaaGreatDoorQAC
import Derived.Test.YtfbepcelkijgkaaGreatDoorQAD
set_option maxRecDepth 100000
set_option maxHeartbeats 8000000
open Option renaming some → Ya, none → Yb
open Go.Value renaming slice → Yc, pointer → Ye
open Go.Obj renaming cells → Yg
open Go renaming World → Yh, Value → Yi
namespace Go.Proofs.YtfbepcelkijgkaaGreatDoor
section
open Go.RowKit
theorem Zbj {w:Yh} {a n b:Nat} {e:TypeId} {v:Yi} {i:List Yi} (h:w.ownsRow a e b v n i):∃A c,v=Yc A n c:=by
 rcases h.2 with⟨rfl,rfl⟩|⟨g,d,f,rfl,_⟩
 ·exact⟨_,_,rfl⟩
 ·exact⟨_,_,rfl⟩
theorem Zcj {w w1:Yh} {a n b:Nat} {e:TypeId} {v:Yi} {d:List Yi} (h:w.ownsRow a e b v n d) (c:Below w.heap.size w w1):w1.ownsRow a e b v n d:=
 h.kept (row:=Yb) ⟨c.os,c.tape,c.output,c.size,fun k hk _=>c.block k hk⟩ (by
  cases q:v.ownBlock with
  |none=>exact .inl rfl
  |some k=>exact .inr (by simp))
theorem Zf5 {w:Yh} {b n a:Nat} {e:TypeId} {A:Option Addr} {c:Nat} {l:List Yi} (h:w.ownsRow b e a (Yc A n c) n l):n<=c/\c<=maxLen/\ZM w w.heap.size a A n l:=by
 rcases h.2 with⟨q,rfl⟩|⟨g,m,o,q,t,r,f,d,p,v⟩
 ·injection q with q1 q2 q3;subst q1 q3;exact⟨Nat.le_refl _,by decide,⟨h.1,fun s=>absurd s (Nat.lt_irrefl _)⟩⟩
 ·injection q with q1 q2 q3;subst q1 q3;refine⟨f,d,⟨h.1,fun _=>⟨⟨g,0,Yb⟩,rfl,(Array.getElem?_eq_some_iff.1 r).1,fun j u i=>?_⟩⟩⟩;have k:=(List.getElem?_eq_some_iff.1 i).1;rw[h.1]at k;have:=h.cellAt j k;rw[i]at this;rw[show(⟨g,0,Yb⟩:Addr).add j=⟨g,j,Yb⟩by unfold Addr.add;by_cases e:j=0<;>simp[e]];exact this
theorem info_parts {P:Program} {t:TypeId} {z:Option Yi} {s b:Nat} (h:(P.info? t).map (fun i=>(i.zero,i.size,i.bytes))=Ya (z,s,b)):∃i,P.info? t=Ya i/\i.zero=z/\i.size=s/\i.bytes=b:=by
 cases q:P.info? t with
 |none=>rw[q]at h;cases h
 |some i=>
  rw[q]at h;simp only[Option.map_some,Option.some.injEq,Prod.mk.injEq]at h;exact⟨i,rfl,h.1,h.2.1,h.2.2⟩
def Zk (w:Yh) (b:Nat) (ty:TypeId) (cs:Array Yi):Prop:=w.heap[b]? = Ya (.cells cs ty (0,0))
theorem Zk.blk {w:Yh} {b:Nat} {ty:TypeId} {cs:Array Yi} (h:Zk w b ty cs):Blk w b cs:=⟨ty,h⟩
theorem Zk.start (w:Yh) (cs:Array Yi) (ty:TypeId):Zk (w.alloc (.cells cs ty)) w.heap.size ty cs:=heap_alloc_new _ _
theorem Zk.lt {w:Yh} {b:Nat} {ty:TypeId} {cs:Array Yi} (h:Zk w b ty cs):b<w.heap.size:=h.blk.lt
theorem Zk.keep {w w':Yh} {b:Nat} {ty:TypeId} {cs:Array Yi} (h:Zk w b ty cs) (a:Below w.heap.size w w'):Zk w' b ty cs:=(a.block b h.lt).trans h
theorem Zk.set {w:Yh} {b:Nat} {ty:TypeId} {cs:Array Yi} (h:Zk w b ty cs) (i:Nat) (v:Yi):Zk (w.setCell ⟨b,i,Yb⟩ v) b ty (cs.setIfInBounds i v):=by
 have a:=h.lt;have c:w.heap[b]=.cells cs ty (0,0):=by unfold Zk at h;simpa[Array.getElem?_eq_getElem a]using h
 show(w.heap.modify b _)[b]? = _;rw[Array.getElem?_eq_getElem (by simpa using a),Array.getElem_modify_self,c];rfl
theorem Zk.off {w:Yh} {b a n c:Nat} {ty e:TypeId} {cs:Array Yi} {v:Yi} {l:List Yi} (h:Zk w b ty cs) (k:w.ownsRow a e c v n l) (d:ty≠e):v.ownBlock≠Ya b:=by
 rcases k.2 with⟨rfl,_⟩|⟨g,f,i,rfl,_,j,_⟩
 ·intro q;cases q
 ·intro q;injection q with q;dsimp only at q;subst q;unfold Zk at h;rw[j]at h;injection h with h;injection h with _ h _;exact d h.symm
theorem ZoS {w:Yh} {d a n s i c:Nat} {e m:TypeId} {v o:Yi} {t l:List Yi} (h:w.ownsRow d e i v n t) (q:w.ownsRow a m c o s l) (k:e≠m):∀b,v.ownBlock=Ya b->o.ownBlock≠Ya b:=by
 intro b f;rcases h.2 with⟨rfl,_⟩|⟨g,p,j,rfl,_,r,_⟩
 ·cases f
 ·injection f with f;dsimp only at f;subst f;exact Zk.off (ty:=e) (cs:=j) r q k
theorem Zk.other {w:Yh} {b:Nat} {ty:TypeId} {cs:Array Yi} (h:Zk w b ty cs) {p:Addr} (a:p.block≠b) (v:Yi):Zk (w.setCell p v) b ty cs:=(heap_setCell_other w p b v (fun e=>a e.symm)).trans h
theorem Zdt {w:Yh} {a n b g j:Nat} {e:TypeId} {v u:Yi} {c:List Yi} (h:w.ownsRow a e b v n c) (d:v.ownBlock≠Ya g):(w.setCell ⟨g,j,Yb⟩ u).ownsRow a e b v n c:=
 h.kept (row:=Ya g) Zar (.inr d)
theorem Zk.grown {w w':Yh} {b:Nat} {ty:TypeId} {cs:Array Yi} {row:Option Nat} (h:Zk w b ty cs) (c:w.grownBy w' row) (a:row≠Ya b):Zk w' b ty cs:=(c.block b h.lt (fun e=>a e.symm)).trans h
end
section
open Go.RowKit
abbrev u8s (t:Txt):List Yi:=Lib.strCells ⟨t.toArray⟩
theorem ZmL (a b:Txt):u8s (a++b)=u8s a++u8s b:=by simp[u8s,Lib.strCells]
structure Fr (w w':Yh) (bp:Nat):Prop where
 size:w.heap.size<=w'.heap.size
 at_:∀b ty cs,b≠bp->ty≠5->Zk w b ty cs->Zk w' b ty cs
theorem Fr.refl (w:Yh) (a:Nat):Fr w w a:=⟨Nat.le_refl _,fun _ _ _ _ _ h=>h⟩
theorem Fr.trans {w w1 w2:Yh} {a:Nat} (h:Fr w w1 a) (k:Fr w1 w2 a):Fr w w2 a:=⟨Nat.le_trans h.size k.size,fun b f c d e g=>k.at_ b f c d e (h.at_ b f c d e g)⟩
theorem Fr.of_below {w w':Yh} (a:Nat) (h:Below w.heap.size w w'):Fr w w' a:=⟨h.size,fun _ _ _ _ _ k=>k.keep h⟩
structure PrS (w0 w:Yh) (bp:Nat) (t:Txt) (dp:Nat) (vn:Yi):Prop where
 box:∃v,Zk w bp 47 #[v,.int .i64 (dp:Int),vn]/\w.ownsRow w0.heap.size 5 1 v t.length (u8s t)
 below:Below w0.heap.size w0 w
 ge:w0.heap.size<=bp
theorem PrS.keep {e w w':Yh} {b:Nat} {t:Txt} {c:Nat} {d:Yi} (h:PrS e w b t c d) (a:Below w.heap.size w w'):PrS e w' b t c d:=by obtain⟨v,f,g⟩:=h.box;exact⟨⟨v,f.keep a,Zcj g a⟩,h.below.trans (a.mono h.below.size),h.ge⟩
theorem Zhw {w:Yh} {b:Nat} {d t2:TypeId} {e f:Array Yi} (c:Zk w b d e) (a:Zk w b t2 f):d=t2:=by unfold Zk at c a;rw[c]at a;injection a with a;injection a
theorem Zre:(Tryz.prog.info? 5).map (fun i=>(i.zero,i.size,i.bytes))=Ya (Ya (.int .u8 0),1,1):=by kernel_rfl
theorem Zfu (q w:Yh) (j G u:Nat) (t:Txt) (E:Yi) (a:List Txt) (h:PrS q w j t u E) (hp:Zk w G 9 (a.map txt).toArray) (Y:(t++a.flatten).length<=140737488355328) (Z:a.length<=1000) :
  Calls Tryz.prog 36 #[Ye (Ya ⟨j,0,Yb⟩),Yc (Ya ⟨G,0,Yb⟩) a.length a.length] w fun e w'=>e=.returned (.tuple #[])/\PrS q w' j (t++a.flatten) u E/\Fr w w' j:=by
 obtain⟨i0,hi,N,O,P⟩:=info_parts Zre;have r:=zh (zi h (zi hp (zi Y Z)));clear h hp Y Z;go_enter Tryz.func36,Tryz.ntmps36;go_wp2_with fail;go_loopg [8] a.length (fun g v8 wr=>∃k:Nat,v8=.int .i64 k/\k<=a.length/\g=a.length-k/\PrS q wr j (t++(a.take k).flatten) u E/\Fr w wr j)
 case atStart=>exact⟨0,rfl,Nat.zero_le _,rfl,by simpa using r.out.1,Fr.refl _ _⟩
 case round=>
  obtain⟨k,rfl,hk,L,s,hF⟩:=hrel;by_cases n:k=a.length
  ·have j1:decide (k<a.length)=false:=decide_eq_false (by omega);have I:=zh (zi (show PrS q wr j (t++a.flatten) u E by rw[n,List.take_length]at s;exact s) hF);clear hk L s hF n;go_wp2_with fail;go_end0;exact⟨rfl,I.out⟩
  ·have o:k<a.length:=by omega
   obtain⟨x,hx⟩:∃x,a[k]? = Ya x:=⟨_,Ym o⟩
   have Q:(a.take (k+1)).flatten=(a.take k).flatten++x:=by rw[List.take_add_one,hx,List.flatten_append];simp
   obtain⟨bx,y,M⟩:∃p,Zk w j 47 p/\True:=by obtain⟨v,K,_⟩:=r.out.1.box;exact⟨_,K,trivial⟩
   have ne:G≠j:=fun e=>absurd (Zhw r.out.2.1 (e▸y)) (by decide);have z:=hF.at_ G _ _ ne (by decide) r.out.2.1;have d0:=(z.blk.cell k).trans (show(a.map txt).toArray[k]? = Ya (txt x)by rw[List.getElem?_toArray,List.getElem?_map,hx];rfl);obtain⟨v,B,F⟩:=s.box;obtain⟨A,c,rfl⟩:=Zbj F;have e0:=B.blk.cell 0;have f0:=B.blk.free 0;simp only[List.getElem?_toArray,List.getElem?_cons_zero]at e0;have D:=B.off F (by decide);have j1:(k:Int)<(a.length:Int):=by omega
   have j2:(0:Int)<=(k:Int):=by omega
   have wk:IntKind.i64.wrap ((k:Int)+1)=(k:Int)+1:=IntWalk.i64_in _ (by have:=r.out.2.2.2;omega);have S:(t++(a.take k).flatten).length+x.length<=140737488355328:=by have e:a=a.take (k+1)++a.drop (k+1):=(List.take_append_drop _ _).symm;have:=r.out.2.2.1;rw[e,List.flatten_append,Q]at this;simp only[Yj]at this⊢;omega
   have i:=zh (zi o (zi L (zi Q (zi B (zi F (zi D (zi hF (zi s S))))))));clear n o hk L hx Q y M ne z B F D hF s S;generalize X:t++(a.take k).flatten=T at *;have HT:=zh X;clear X;go_wp2_with (at_builtin;(refine Lib.wpList_append_own_string _ rfl _ _ 43 9 rfl q.heap.size 5 i0 Tryz.underlying43 Tryz.underlying9 hi N O P _ T.length (u8s T) rfl i.out.2.2.2.2.1 ⟨x.toArray⟩ rfl ?c1 ?c2 ?c3 ?_))
   case c1=>have:=i.out.2.2.2.2.2.2.2.2;show T.length+x.toArray.size<=_;rw[List.size_toArray];unfold maxLen;omega
   case c2=>have:=i.out.2.2.2.2.2.2.2.2;show T.length+x.toArray.size<=_;rw[List.size_toArray];omega
   case c3=>exact i.out.2.2.2.2.2.2.2.1.below.size
   intro v9 R l d _;have f:R.ownsRow q.heap.size 5 1 v9 (T++x).length (u8s (T++x)):=by rw[ZmL,Yj];exact l
   obtain⟨H,J,rfl⟩:=Zbj f;have C:=i.out.2.2.2.1.grown d i.out.2.2.2.2.2.1;have e1:=C.blk.cell 0;have f1:=C.blk.free 0;simp only[List.getElem?_toArray,List.getElem?_cons_zero]at e1;have m:=C.off f (by decide)
   have V:=zh (show PrS q (R.setCell ⟨j,0,Yb⟩ (Yc H (T++x).length J)) j (T++x) u E from
    ⟨⟨_,by simpa using C.set 0 (Yc H (T++x).length J),Zdt f m⟩,(i.out.2.2.2.2.2.2.2.1.below.trans (Zi8 d i.out.2.2.2.2.2.2.2.1.below.size (fun k hk=>(i.out.2.2.2.2.1.lt k hk).1))).setCell i.out.2.2.2.2.2.2.2.1.ge _,i.out.2.2.2.2.2.2.2.1.ge⟩)
   have U:=zh (show Fr w (R.setCell ⟨j,0,Yb⟩ (Yc H (T++x).length J)) j from
    i.out.2.2.2.2.2.2.1.trans ⟨by have:=d.size;simpa[World.setCell]using this,fun b ty cs K h2 W=>Zk.other (Zk.grown W d (W.off i.out.2.2.2.2.1 h2)) (fun e=>K e.symm) _⟩)
   rw[Yj]at V U;clear l f d C m;go_wp2_with fail;go_roundg (a.length-(k+1))
   case measure=>have:=i.out.1;have:=i.out.2.1;omega
   case rel=>
    refine⟨k+1,by push_cast;rfl,i.out.1,rfl,?_,U.out⟩;rw[i.out.2.2.1,<-List.append_assoc,HT.out];exact V.out
end
section
open Go.RowKit
abbrev ZeW (a w:Yh):Prop:=Lib.TabBelow Tryz.prog a.heap.size w "internal/strconv.uint64pow10" .u64 Lib.pow10Tab
theorem Zgl (t:Txt):u8s t=Lib.byteCells t:=by simp[u8s,Lib.strCells,Lib.byteCells]
theorem Fr.of_kept {w w':Yh} (a:Nat) (g:w.heap.size<=w'.heap.size) (h:Lib.OthersKept 5 Yb w w'):Fr w w' a:=
 ⟨g,fun b k i _ d f=>h b _ f (by simp) (fun c j e=>d (by injection e))⟩
theorem PrS.put {b w w2:Yh} {a c:Nat} {t t2:Txt} {e v:Yi} (h:PrS b w a t c e) (i:∀ty cs,ty≠5->Zk w a ty cs->Zk w2 a ty cs) (g:Below b.heap.size b w2) (d:w2.ownsRow b.heap.size 5 1 v t2.length (u8s t2)):PrS b (w2.setCell ⟨a,0,Yb⟩ v) a t2 c e:=by obtain⟨v0,f,_⟩:=h.box;have k:=i _ _ (by decide) f;exact⟨⟨v,by simpa using k.set 0 v,Zdt d (k.off d (by decide))⟩,g.setCell h.ge _,h.ge⟩
theorem Fr.put {w w2:Yh} {a:Nat} {v:Yi} (h:Fr w w2 a):Fr w (w2.setCell ⟨a,0,Yb⟩ v) a:=
 ⟨by have:=h.size;simpa[World.setCell]using this,fun b i d c f g=>Zk.other (h.at_ b i d c f g) (fun e=>c e.symm) _⟩
theorem ZgK (j w:Yh) (b q:Nat) (t:Txt) (z:Yi) (n:Int) (h:PrS j w b t q z) (y:ZeW j w) (r:-9223372036854775808<=n) (s:n<=9223372036854775807) (u:t.length+21<=140737488355328) :
  Calls Tryz.prog 52 #[Ye (Ya ⟨b,0,Yb⟩),.int .i64 n] w fun e w'=>e=.returned (.tuple #[])/\PrS j w' b (t++ZbE n) q z/\Fr w w' b:=by
 have p:=zh h;obtain⟨v,l,k⟩:=h.box;obtain⟨A,c,rfl⟩:=Zbj k;have C:=zh (Tryz.strconv_AppendInt_10 j.heap.size t.length n r s _ _ w k h.below.size u y);have E:=l.blk.cell 0;simp only[List.getElem?_toArray,List.getElem?_cons_zero]at E;have D:=zh l;clear h l k y r s u;go_enter Tryz.func52,Tryz.ntmps52;go_wp2_with (go_at_call 77;(refine C.out.mono ?_);rintro e B ⟨J,rfl,i,d,a⟩;(have f:B.ownsRow j.heap.size 5 1 J (t++ZbE n).length (u8s (t++ZbE n)):=(by rw[Yj,ZmL,Zgl (ZbE n)];exact i));obtain⟨K,L,rfl⟩:=Zbj f;have o:=Fr.of_kept b d.size a;(have m:Zk B b _ _:=a b _ D.out (by simp) (fun c G e=>by injection e with _ e;exact absurd e (by decide)));have F:=m.blk.cell 0;have N:=m.blk.free 0;simp only[List.getElem?_toArray,List.getElem?_cons_zero]at F;have g:=zh (zi f (zi d (zi o a)));clear i f d a o m);go_end0;refine⟨rfl,PrS.put p.out (fun O M H I=>g.out.2.2.2 b _ I (by simp) (fun c G e=>H (by injection e))) (p.out.below.trans g.out.2.1) ?_,Fr.put g.out.2.2.1⟩
 first
  |exact g.out.1
  |(have:=g.out.1;rw[Yj]at this⊢;exact this)
theorem Zao (d w:Yh) (a b:Nat) (t:Txt) (c:Yi) (a0:Txt) (h:PrS d w a t b c) (l:t.length+(a0.length)<=140737488355328) :
  Calls Tryz.prog 36 #[Ye (Ya ⟨a,0,Yb⟩),Yc (Ya ⟨w.heap.size,0,Yb⟩) 1 1] (w.alloc (Yg #[txt a0] 9)) fun e w'=>e=.returned (.tuple #[])/\PrS d w' a (t++(a0)) b c/\Fr w w' a:=by
 have k:=below_alloc1 w (Yg #[txt a0] 9);refine(Zfu d _ a w.heap.size b t c [a0] (h.keep k) (Zk.start _ _ _) (by simp only[Yj,List.flatten_cons,List.flatten_nil,Yl];omega) (by simp)).mono ?_;rintro e w' ⟨i,f,j⟩;refine⟨i,?_,(Fr.of_below a k).trans j⟩;have g:[a0].flatten=a0:=by simp
 rw[g]at f;exact f
theorem Zc8 (d w:Yh) (a b:Nat) (t:Txt) (c:Yi) (a0 a1:Txt) (h:PrS d w a t b c) (l:t.length+(a0.length+a1.length)<=140737488355328) :
  Calls Tryz.prog 36 #[Ye (Ya ⟨a,0,Yb⟩),Yc (Ya ⟨w.heap.size,0,Yb⟩) 2 2] (w.alloc (Yg #[txt a0,txt a1] 9)) fun e w'=>e=.returned (.tuple #[])/\PrS d w' a (t++(a0++a1)) b c/\Fr w w' a:=by
 have k:=below_alloc1 w (Yg #[txt a0,txt a1] 9);refine(Zfu d _ a w.heap.size b t c [a0,a1] (h.keep k) (Zk.start _ _ _) (by simp only[Yj,List.flatten_cons,List.flatten_nil,Yl];omega) (by simp)).mono ?_;rintro e w' ⟨i,f,j⟩;refine⟨i,?_,(Fr.of_below a k).trans j⟩;have g:[a0,a1].flatten=a0++a1:=by simp
 rw[g]at f;exact f
theorem ZpJ (d w:Yh) (a b:Nat) (t:Txt) (c:Yi) (a0 a1 a2:Txt) (h:PrS d w a t b c) (l:t.length+(a0.length+a1.length+a2.length)<=140737488355328) :
  Calls Tryz.prog 36 #[Ye (Ya ⟨a,0,Yb⟩),Yc (Ya ⟨w.heap.size,0,Yb⟩) 3 3] (w.alloc (Yg #[txt a0,txt a1,txt a2] 9)) fun e w'=>e=.returned (.tuple #[])/\PrS d w' a (t++(a0++a1++a2)) b c/\Fr w w' a:=by
 have k:=below_alloc1 w (Yg #[txt a0,txt a1,txt a2] 9);refine(Zfu d _ a w.heap.size b t c [a0,a1,a2] (h.keep k) (Zk.start _ _ _) (by simp only[Yj,List.flatten_cons,List.flatten_nil,Yl];omega) (by simp)).mono ?_;rintro e w' ⟨i,f,j⟩;refine⟨i,?_,(Fr.of_below a k).trans j⟩;have g:[a0,a1,a2].flatten=a0++a1++a2:=by simp
 rw[g]at f;exact f
theorem ZhY (d w:Yh) (a b:Nat) (t:Txt) (c:Yi) (a0 a1 a2 a3:Txt) (h:PrS d w a t b c) (l:t.length+(a0.length+a1.length+a2.length+a3.length)<=140737488355328) :
  Calls Tryz.prog 36 #[Ye (Ya ⟨a,0,Yb⟩),Yc (Ya ⟨w.heap.size,0,Yb⟩) 4 4] (w.alloc (Yg #[txt a0,txt a1,txt a2,txt a3] 9)) fun e w'=>e=.returned (.tuple #[])/\PrS d w' a (t++(a0++a1++a2++a3)) b c/\Fr w w' a:=by
 have k:=below_alloc1 w (Yg #[txt a0,txt a1,txt a2,txt a3] 9);refine(Zfu d _ a w.heap.size b t c [a0,a1,a2,a3] (h.keep k) (Zk.start _ _ _) (by simp only[Yj,List.flatten_cons,List.flatten_nil,Yl];omega) (by simp)).mono ?_;rintro e w' ⟨i,f,j⟩;refine⟨i,?_,(Fr.of_below a k).trans j⟩;have g:[a0,a1,a2,a3].flatten=a0++a1++a2++a3:=by simp
 rw[g]at f;exact f
theorem ZpK (d w:Yh) (a b:Nat) (t:Txt) (c:Yi) (a0 a1 a2 a3 a4:Txt) (h:PrS d w a t b c) (l:t.length+(a0.length+a1.length+a2.length+a3.length+a4.length)<=140737488355328) :
  Calls Tryz.prog 36 #[Ye (Ya ⟨a,0,Yb⟩),Yc (Ya ⟨w.heap.size,0,Yb⟩) 5 5] (w.alloc (Yg #[txt a0,txt a1,txt a2,txt a3,txt a4] 9)) fun e w'=>e=.returned (.tuple #[])/\PrS d w' a (t++(a0++a1++a2++a3++a4)) b c/\Fr w w' a:=by
 have k:=below_alloc1 w (Yg #[txt a0,txt a1,txt a2,txt a3,txt a4] 9);refine(Zfu d _ a w.heap.size b t c [a0,a1,a2,a3,a4] (h.keep k) (Zk.start _ _ _) (by simp only[Yj,List.flatten_cons,List.flatten_nil,Yl];omega) (by simp)).mono ?_;rintro e w' ⟨i,f,j⟩;refine⟨i,?_,(Fr.of_below a k).trans j⟩;have g:[a0,a1,a2,a3,a4].flatten=a0++a1++a2++a3++a4:=by simp
 rw[g]at f;exact f
theorem ZpL (f w:Yh) (b c:Nat) (t:Txt) (d:Yi) (a0 a1 a2 a3 a4 a5 a:Txt) (h:PrS f w b t c d) (m:t.length+(a0.length+a1.length+a2.length+a3.length+a4.length+a5.length+a.length)<=140737488355328) :
  Calls Tryz.prog 36 #[Ye (Ya ⟨b,0,Yb⟩),Yc (Ya ⟨w.heap.size,0,Yb⟩) 7 7] (w.alloc (Yg #[txt a0,txt a1,txt a2,txt a3,txt a4,txt a5,txt a] 9)) fun e w'=>e=.returned (.tuple #[])/\PrS f w' b (t++(a0++a1++a2++a3++a4++a5++a)) c d/\Fr w w' b:=by
 have k:=below_alloc1 w (Yg #[txt a0,txt a1,txt a2,txt a3,txt a4,txt a5,txt a] 9);refine(Zfu f _ b w.heap.size c t d [a0,a1,a2,a3,a4,a5,a] (h.keep k) (Zk.start _ _ _) (by simp only[Yj,List.flatten_cons,List.flatten_nil,Yl];omega) (by simp)).mono ?_;rintro e w' ⟨j,g,l⟩;refine⟨j,?_,(Fr.of_below b k).trans l⟩;have i:[a0,a1,a2,a3,a4,a5,a].flatten=a0++a1++a2++a3++a4++a5++a:=by simp
 rw[i]at g;exact g
theorem ZgV (f w:Yh) (c i:Nat) (t:Txt) (k:Yi) (n d:Int) (h:PrS f w c t i k) (m:ZeW f f) (j:-9223372036854775808<=n/\n<=9223372036854775807) (hd:-9223372036854775808<=d/\d<=9223372036854775807) (u:t.length+100<=140737488355328) :
  Calls Tryz.prog 67 #[Ye (Ya ⟨c,0,Yb⟩),.int .i64 n,.int .i64 d] w fun e w'=>e=.returned (.tuple #[])/\PrS f w' c (t++Zez n d) i k/\Fr w w' c:=by
 have v:=Lib.itoa_length_le n j.1 j.2;have r:=zh (ZgK f w c i t k n h (m.on h.below) j.1 j.2 (by omega));have g:=zh (zi m (zi hd (show t.length+(ZbE n).length+50<=140737488355328 by unfold ZbE;omega)));clear h m j hd u v;go_enter Tryz.func67,Tryz.ntmps67;go_upto_region 1 with(go_at_call 52;(refine r.out.mono ?_);rintro e y ⟨rfl,b,a⟩;have o:=zh (zi b a);clear b a)
 have q:=zh (Zao f y c i _ k [47] o.out.1 (by have:=g.out.2.2;rw[Yj];simp only[Yk,Yl];omega));go_upto_region 2 with(go_at_call 36;(refine q.out.mono ?_);rintro e z ⟨rfl,b,a⟩;have l:=zh (zi b (o.out.2.trans a));clear b a)
 have s:=zh (ZgK f z c i _ k d l.out.1 (g.out.1.on l.out.1.below) g.out.2.1.1 g.out.2.1.2 (by have:=g.out.2.2;simp only[Yj,Yk,Yl];omega));go_wp2_with (go_at_call 52;(refine s.out.mono ?_);rintro e A ⟨rfl,b,a⟩;have p:=zh (zi b (l.out.2.trans a));clear b a);go_end0;refine⟨rfl,?_,p.out.2⟩;have e:t++Zez n d=t++ZbE n++[47]++ZbE d:=by unfold Zez;simp only[List.append_assoc]
 rw[e];exact p.out.1
theorem Zix (l w:Yh) (b a:Nat) (t:Txt) (j:Yi) (h:PrS l w b t a j) (hd:a<=4000) (r:t.length+9000<=140737488355328) :
  Calls Tryz.prog 35 #[Ye (Ya ⟨b,0,Yb⟩)] w fun e w'=>e=.returned (.tuple #[])/\PrS l w' b (t++ZeA a) a j/\Fr w w' b:=by
 obtain⟨v,u,B⟩:=h.box;have A:=u.blk.cell 1;simp only[List.getElem?_toArray,List.getElem?_cons_zero,List.getElem?_cons_succ]at A;have m:=zh (zi h (zi hd r));clear h hd r u B;go_enter Tryz.func35,Tryz.ntmps35;go_wp2_with fail;go_loopg [6] a (fun g D wr=>∃k:Nat,D=.int .i64 k/\k<=a/\g=a-k/\PrS l wr b (t++ZeA k) a j/\Fr w wr b)
 case atStart=>exact⟨0,rfl,Nat.zero_le _,rfl,by simpa[ZeA]using m.out.1,Fr.refl _ _⟩
 case round=>
  obtain⟨k,rfl,hk,o,f,hF⟩:=hrel;by_cases c:k=a
  ·have C:decide (k<a)=false:=decide_eq_false (by omega);have E:¬((k:Int)<(a:Int)):=by omega
   have n:=zh (zi (show PrS l wr b (t++ZeA a) a j by rw[c]at f;exact f) hF);clear hk o f hF c;go_wp2_with fail;go_end0;exact⟨rfl,n.out⟩
  ·have i:k<a:=by omega
   have C:(k:Int)<(a:Int):=by omega
   have G:IntKind.i64.wrap ((k:Int)+1)=(k:Int)+1:=IntWalk.i64_in _ (by have:=m.out.2.1;omega);have y:ZeA (k+1)=ZeA k++[32,32]:=by unfold ZeA;rw[show 2*(k+1)=(2*k+1)+1 by omega,List.replicate_succ',List.replicate_succ',List.append_assoc];rfl
   have z:=zh (Zao l wr b a _ j [32,32] f (by have:=m.out.2.2;have:=m.out.2.1;rw[Yj];simp only[ZeA,List.length_replicate,Yk,Yl];omega));have d:=zh (zi i (zi o (zi y hF)));clear c i hk o y hF f;go_wp2_with (go_at_call 36;(refine z.out.mono ?_);rintro e F ⟨rfl,s,q⟩;have p:=zh (zi s q);clear s q);go_roundg (a-(k+1))
   case measure=>have:=d.out.1;have:=d.out.2.1;omega
   case rel=>
    refine⟨k+1,by push_cast;rfl,d.out.1,rfl,?_,d.out.2.2.2.trans p.out.2⟩;rw[d.out.2.2.1,<-List.append_assoc];exact p.out.1
end
end Go.Proofs.YtfbepcelkijgkaaGreatDoor
