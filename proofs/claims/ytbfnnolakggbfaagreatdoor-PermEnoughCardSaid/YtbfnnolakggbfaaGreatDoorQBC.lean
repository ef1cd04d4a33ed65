import Derived.Deep.DeepFit
import Derived.Test.YtbfnnolakggbfaaGreatDoorQAE
import Derived.Test.YtbfnnolakggbfaaGreatDoorQAK
import Derived.Test.YtbfnnolakggbfaaGreatDoorQAX
import Derived.Test.YtbfnnolakggbfaaGreatDoorQAY
import Derived.Test.YtbfnnolakggbfaaGreatDoorQBB
set_option maxRecDepth 100000
set_option maxHeartbeats 8000000
open Option renaming some → Ya, none → Yb
open Go.Value renaming slice → Yc, int → Yd
open Go.IntKind renaming i64 → Yf
open Go.Obj renaming cells → Yg
open Go renaming World → Yh, Value → Yi
namespace Go.Proofs.YtbfnnolakggbfaaGreatDoor
section
open Go.RowKit
def Zal (w:Yh) (base:Nat) (v:Yi) (ts:List Rw) (S:Nat->Prop):Prop:=
 ∃a,a.map (·.2)=ts/\w.ownsRow base 39 4 v ts.length (Zr a)/\∀x∈a,Za w x.1 x.2.2.1/\Off S x.1 x.2.2.1
theorem Zal.nil (w:Yh) (base:Nat) (S:Nat->Prop):Zal w base (Yc Yb 0 0) [] S:=⟨[],rfl,World.ownsRow_nil w base _ _,fun x a=>by cases a⟩
theorem Zal.rows {w:Yh} {base:Nat} {v:Yi} {ts:List Rw} {S:Nat->Prop} (h:Zal w base v ts S):ZA w v ts:=by
 obtain⟨n,j,e,k⟩:=h;have i:=e;rcases e.2 with⟨rfl,l⟩|⟨g,b,f,rfl,_,o,c,a⟩
 ·have d:ts=[]:=List.eq_nil_of_length_eq_zero l;subst d;exact ZA.nil w
 ·exact⟨Ya _,b,n,rfl,c,a.1,j,Zw.of_own i,fun x m=>(k x m).1⟩
theorem Zal.lt {w:Yh} {base:Nat} {v:Yi} {ts:List Rw} {S:Nat->Prop} (h:Zal w base v ts S):∀k,v.ownBlock=Ya k->base<=k/\k<w.heap.size:=by obtain⟨b,_,a,_⟩:=h;exact a.lt
theorem Zal.below {w w':Yh} {base:Nat} {v:Yi} {ts:List Rw} {S:Nat->Prop} (h:Zal w base v ts S) (b:Below w.heap.size w w'):Zal w' base v ts S:=by obtain⟨f,d,e,a⟩:=h;exact⟨f,d,e.kept (ZY b Yb) (by cases hv:v.ownBlock<;>simp),fun x c=>⟨(a x c).1.below b,(a x c).2⟩⟩
theorem Zal.other {w w':Yh} {base:Nat} {v:Yi} {ts:List Rw} {S:Nat->Prop} {a:Option Nat} (h:Zal w base v ts S) (f:w.grownBy w' a) (g:∀b,a=Ya b->S b/\v.ownBlock≠Ya b):Zal w' base v ts S:=by
 obtain⟨k,i,j,c⟩:=h;refine⟨k,i,j.kept f ?_,fun x d=>⟨(c x d).1.off (c x d).2 f fun b e=>(g b e).1,(c x d).2⟩⟩;cases a with
 |none=>cases hv:v.ownBlock<;>simp
 |some b=>exact .inr (g b rfl).2
theorem Zal.mono {w:Yh} {base:Nat} {v:Yi} {ts:List Rw} {S S':Nat->Prop} (h:Zal w base v ts S) (f:∀b,S' b->S b\/w.heap.size<=b):Zal w base v ts S':=by obtain⟨g,d,e,a⟩:=h;exact⟨g,d,e,fun x c=>⟨(a x c).1,(a x c).2.more (a x c).1 f⟩⟩
theorem Zal.base {w:Yh} {base a:Nat} {v:Yi} {ts:List Rw} {S:Nat->Prop} (h:Zal w base v ts S) (j:a<=base):Zal w a v ts S:=by
 obtain⟨l,f,d,i⟩:=h;refine⟨l,f,⟨d.1,?_⟩,i⟩;rcases d.2 with q|⟨g,b,c,e,k,rest⟩
 ·exact .inl q
 ·exact .inr ⟨g,b,c,e,Nat.le_trans j k,rest⟩
theorem Zal.appended {w w':Yh} {base:Nat} {v e vt:Yi} {ts:List Rw} {rs:List (Yi×Rw)} {t:Rw} {S S':Nat->Prop} (f:rs.map (·.2)=ts) (g:∀x∈rs,Za w x.1 x.2.2.1/\Off S x.1 x.2.2.1)
  (d:w'.ownsRow base 39 4 e (ts.length+1) (Zr rs++[Yd Yf t.1,vt,Yd Yf t.2.2.1,Yd Yf t.2.2.2])) (h:w.grownBy w' v.ownBlock) (l:∀b,v.ownBlock=Ya b->S b) (j:Za w vt t.2.1) (i:Off S vt t.2.1) (k:∀b,S' b->S b\/w.heap.size<=b) :
  Zal w' base e (ts++[t]) S':=by
 have a:∀x∈rs++[(vt,t)],Za w x.1 x.2.2.1/\Off S x.1 x.2.2.1:=by
  intro x c;rcases List.mem_append.1 c with q|q
  ·exact g x q
  ·rw[List.mem_singleton]at q;subst q;exact⟨j,i⟩
 refine⟨rs++[(vt,t)],by rw[List.map_append,f];rfl,?_,fun x c=>⟨(a x c).1.off (a x c).2 h l,(a x c).2.more (a x c).1 k⟩⟩;rw[Yj,Zfn];exact d
theorem ZcP:(Tryz.prog.info? 39).map (fun i=>(i.zero,i.size,i.bytes))=Ya (Ya (.agg #[Yd Yf 0,Yc Yb 0 0,Yd Yf 0,Yd Yf 0]),4,48):=by kernel_rfl
end
section
open Go.RowKit
def ZR (ts:List Rw):List Trm:=(ts.filter fun r=>r.1==0).map (·.2)
def Zbp (ts:List Rw):List Rw:=ts.filter fun r=>!(r.1==0)
structure ParS (W w:Yh) (ve:Yi) (es:List Trm) (vo:Yi) (os:List Rw):Prop where
 e:ZV w W.heap.size ve es (fun b=>W.heap.size<=b)
 o:Zal w W.heap.size vo os (fun b=>W.heap.size<=b)
 ne:∀b,ve.ownBlock=Ya b->vo.ownBlock≠Ya b
 below:Below W.heap.size W w
section
variable {W w w':Yh} {ve ve' vo vo' vt:Yi} {es:List Trm} {os:List Rw}
theorem ParS.start (W:Yh):ParS W W (Yc Yb 0 0) [] (Yc Yb 0 0) []:=⟨ZV.nil _ _ _,Zal.nil _ _ _,fun b h=>(by cases h),Below.refl _ _⟩
theorem ParS.keep (h:ParS W w ve es vo os) (a:Below w.heap.size w w'):ParS W w' ve es vo os:=⟨h.e.below a,h.o.below a,h.ne,h.below.trans (a.mono h.below.size)⟩
theorem ZfW {l:List (Int×Int)} (d:Za W vt l):Off (fun b=>W.heap.size<=b) vt l:=fun c b a q=>by have:=d.lt c b a;omega
theorem ParS.pushE {t:Trm} {rs:List (Yi×Trm)} (h:ParS W w ve es vo os) (g:rs.map (·.2)=es) (i:∀x∈rs,Za w x.1 x.2.1/\Off (fun b=>W.heap.size<=b) x.1 x.2.1)
  (c:w'.ownsRow W.heap.size 37 3 ve' (es.length+1) (Ze rs++[vt,Yd Yf t.2.1,Yd Yf t.2.2])) (d:w.grownBy w' ve.ownBlock) (l:ve'.ownBlock=ve.ownBlock\/ve'.ownBlock=Ya w.heap.size) (f:Za W vt t.1):ParS W w' ve' (es++[t]) vo os:=by
 refine⟨ZV.appended g i c d (fun b a=>(h.e.lt b a).1) (f.below h.below) (ZfW f) fun b a=>.inl a,h.o.other d fun b a=>⟨(h.e.lt b a).1,h.ne b a⟩,fun b a q=>?_,h.below.grown d h.below.size fun k j=>(h.e.lt k j).1⟩;rcases l with e|e
 ·exact h.ne b (e▸a) q
 ·rw[e]at a;injection a with a;have:=(h.o.lt b q).2;omega
theorem ParS.pushO {t:Rw} {rs:List (Yi×Rw)} (h:ParS W w ve es vo os) (g:rs.map (·.2)=os) (i:∀x∈rs,Za w x.1 x.2.2.1/\Off (fun b=>W.heap.size<=b) x.1 x.2.2.1)
  (c:w'.ownsRow W.heap.size 39 4 vo' (os.length+1) (Zr rs++[Yd Yf t.1,vt,Yd Yf t.2.2.1,Yd Yf t.2.2.2])) (d:w.grownBy w' vo.ownBlock) (l:vo'.ownBlock=vo.ownBlock\/vo'.ownBlock=Ya w.heap.size) (f:Za W vt t.2.1):ParS W w' ve es vo' (os++[t]):=by
 refine⟨h.e.other d fun b a=>⟨(h.o.lt b a).1,fun q=>h.ne b q a⟩,Zal.appended g i c d (fun b a=>(h.o.lt b a).1) (f.below h.below) (ZfW f) fun b a=>.inl a,fun b a q=>?_,h.below.grown d h.below.size fun k j=>(h.o.lt k j).1⟩;rcases l with e|e
 ·exact h.ne b a (e▸q)
 ·rw[e]at q;injection q with q;have:=(h.e.lt b a).2;omega
theorem Zm3 {t:Trm} {kn kd:Int} {A:Option Addr} {c k:Nat} (P:ParS W w ve es vo os) (d:es.length=k) (ty:TypeId) :
  ∃rs,rs.map (·.2)=es/\(w.alloc (Yg #[Yc A t.1.length c,Yd Yf kn,Yd Yf kd] ty)).ownsRow W.heap.size 37 3 ve k (Ze rs)/\(∀x∈rs,Za (w.alloc (Yg #[Yc A t.1.length c,Yd Yf kn,Yd Yf kd] ty)) x.1 x.2.1/\Off (fun b=>W.heap.size<=b) x.1 x.2.1)/\ParS W (w.alloc (Yg #[Yc A t.1.length c,Yd Yf kn,Yd Yf kd] ty)) ve es vo os ∧
   Zw (w.alloc (Yg #[Yc A t.1.length c,Yd Yf kn,Yd Yf kd] ty)) (w.heap.size+1) 3 (Ya ⟨w.heap.size,0,Yb⟩) 1 [Yc A t.1.length c,Yd Yf kn,Yd Yf kd]:=by
 have a:=P.keep (below_alloc1 w (Yg #[Yc A t.1.length c,Yd Yf kn,Yd Yf kd] ty));obtain⟨rs,f,z2,z3⟩:=a.e;rw[d]at z2;exact⟨rs,f,z2,z3,a,(Zas (wo:=w) (x:=#[Yc A t.1.length c,Yd Yf kn,Yd Yf kd]) (ty:=ty) (Nat.zero_le _)).reads (size:=3) rfl⟩
theorem Zq6 {t:Rw} {op kn kd:Int} {A:Option Addr} {c k:Nat} (P:ParS W w ve es vo os) (d:os.length=k) (ty:TypeId) :
  ∃rs,rs.map (·.2)=os/\(w.alloc (Yg #[Yd Yf op,Yc A t.2.1.length c,Yd Yf kn,Yd Yf kd] ty)).ownsRow W.heap.size 39 4 vo k (Zr rs)/\(∀x∈rs,Za (w.alloc (Yg #[Yd Yf op,Yc A t.2.1.length c,Yd Yf kn,Yd Yf kd] ty)) x.1 x.2.2.1/\Off (fun b=>W.heap.size<=b) x.1 x.2.2.1)/\ParS W (w.alloc (Yg #[Yd Yf op,Yc A t.2.1.length c,Yd Yf kn,Yd Yf kd] ty)) ve es vo os ∧
   Zw (w.alloc (Yg #[Yd Yf op,Yc A t.2.1.length c,Yd Yf kn,Yd Yf kd] ty)) (w.heap.size+1) 4 (Ya ⟨w.heap.size,0,Yb⟩) 1 [Yd Yf op,Yc A t.2.1.length c,Yd Yf kn,Yd Yf kd]:=by
 have a:=P.keep (below_alloc1 w (Yg #[Yd Yf op,Yc A t.2.1.length c,Yd Yf kn,Yd Yf kd] ty));obtain⟨rs,e,z2,z3⟩:=a.o;rw[d]at z2;exact⟨rs,e,z2,z3,a,(Zas (wo:=w) (x:=#[Yd Yf op,Yc A t.2.1.length c,Yd Yf kn,Yd Yf kd]) (ty:=ty) (Nat.zero_le _)).reads (size:=4) rfl⟩
end
theorem ZqX (A:Option Addr) (n c:Nat) (x y:Int):∀u∈[(Value.slice A n c),Yd Yf x,Yd Yf y],u.oneCell'=true:=fun u hu=>by
 simp at hu;rcases hu with rfl|rfl|rfl<;>rfl
theorem Zb2 (A:Option Addr) (n c:Nat) (z x y:Int):∀u∈[Value.int Yf z,(Value.slice A n c),Yd Yf x,Yd Yf y],u.oneCell'=true:=fun u hu=>by
 simp at hu;rcases hu with rfl|rfl|rfl|rfl<;>rfl
def ZmZ (w:Yh) (ts:List Rw) (e:Ending) (w':Yh):Prop:=
 ∃A c B d,e=.returned (.tuple #[Yc A (ZR ts).length c,Yc B (Zbp ts).length d])/\Zai w' (Yc A (ZR ts).length c) (ZR ts)/\ZA w' (Yc B (Zbp ts).length d) (Zbp ts)/\Below w.heap.size w w'
theorem ZnS (w:Yh) (v:Yi) (ts:List Rw) (h:ZA w v ts) (hl:ts.length<=1000) :
  Calls Tryz.prog 69 #[v] w (ZmZ w ts):=by
 obtain⟨iT,ab,am,an,ao⟩:=info_parts Zgi;obtain⟨iR,aa,aj,ak,al⟩:=info_parts ZcP;obtain⟨A,c,rs,rfl,h2,h3,Y,Z,h6⟩:=h;obtain⟨n,T⟩:∃n,n=ts.length:=⟨_,rfl⟩
 have K:rs.length=n:=by rw[T,<-Y,List.length_map]
 rw[<-T]at h2 Z hl⊢;have m:=Lib.hid (And.intro K (And.intro Y (And.intro Z (And.intro h6 (And.intro T hl)))));clear T K h2 h3 Y Z h6 hl;go_enter Tryz.func69,Tryz.ntmps69;go_wp2_with fail;go_loopg [4,5,10] n (fun g v4 v5 ah wr=>∃(k:Nat) (O P:Yi),O=v4/\P=v5/\ah=Yd Yf k/\k<=n/\g=n-k/\ParS w wr O (ZR (ts.take k)) P (Zbp (ts.take k)))
 case atStart=>exact⟨0,_,_,rfl,rfl,rfl,Nat.zero_le _,rfl,ParS.start w⟩
 case round=>
  obtain⟨k,O,P,rfl,rfl,rfl,hk,S,D⟩:=hrel;by_cases p:k=n
  ·have he:ts.take k=ts:=by rw[p,m.out.2.2.2.2.1];exact List.take_length
   rw[he]at D;have W:=D.e.terms;have X:=D.o.rows;obtain⟨Ae,ce,rfl⟩:∃A c,O=Yc A (ZR ts).length c:=by obtain⟨A,c,_,e,_⟩:=W;exact⟨A,c,e⟩
   obtain⟨Ao,H,rfl⟩:∃A c,P=Yc A (Zbp ts).length c:=by obtain⟨A,c,_,e,_⟩:=X;exact⟨A,c,e⟩
   have V:=Lib.hid (show ZmZ w ts (.returned (.tuple #[Yc Ae (ZR ts).length ce,Yc Ao (Zbp ts).length H])) wr from⟨Ae,ce,Ao,H,rfl,W,X,D.below⟩);subst p;clear hk S D W X he;generalize(ZR ts).length=z1 at *;generalize(Zbp ts).length=z2 at *;go_wp2_with fail;go_ret2;exact V.out
  ·have z:k<n:=by omega
   obtain⟨y,L⟩:∃y,rs[k]? = Ya y:=⟨_,Ym (by have:=m.out.1;omega)⟩
   have B:ts[k]? = Ya y.2:=by rw[<-m.out.2.1,List.getElem?_map,L];rfl
   obtain⟨ad,rfl,d0,d1,d2,d3⟩:=ZaT m.out.2.2.1 D.below L (by omega);have J:=m.out.2.2.2.1 y (List.mem_of_getElem? L);have i1:(k:Int)<(n:Int):=by omega
   have i2:(0:Int)<=(k:Int):=by omega
   have wk:IntKind.i64.wrap ((k:Int)+1)=(k:Int)+1:=IntWalk.i64_in _ (by have:=m.out.2.2.2.2.2;omega);have i:ts.take (k+1)=ts.take k++[y.2]:=by rw[List.take_add_one,B];rfl
   have le:(ZR (ts.take k)).length<=k:=by unfold ZR;rw[List.length_map];exact Nat.le_trans (List.length_filter_le _ _) (by rw[List.length_take];omega)
   have lo:(Zbp (ts.take k)).length<=k:=Nat.le_trans (List.length_filter_le _ _) (by rw[List.length_take];omega);obtain⟨y0,s,r,j,l⟩:=y;dsimp only at *;obtain⟨F,I,rfl⟩:=Zc J;have E:=Lib.hid (And.intro z S);have R:=Lib.hid (And.intro (by have:=m.out.2.2.2.2.2;unfold maxLen;omega:k+1<=maxLen) (And.intro le lo));have Q:=D.keep (below_alloc1 wr (Yg #[Yd Yf s,Yc F r.length I,Yd Yf j,Yd Yf l] 39));by_cases u:s=0
   ·have e0:(s==0)=true:=by rw[u];rfl
    have M:ZR (ts.take (k+1))=ZR (ts.take k)++[(r,j,l)]:=by rw[i];unfold ZR;rw[List.filter_append,List.map_append];simp[u]
    have N:Zbp (ts.take (k+1))=Zbp (ts.take k):=by rw[i];unfold Zbp;rw[List.filter_append];simp[u]
    have b:=Lib.hid (Zm3 (t:=(r,j,l)) (kn:=j) (kd:=l) (A:=F) (c:=I) Q rfl 37);obtain⟨C,G⟩:=b.out;have b:=Lib.hid G;have x:=Lib.hid (And.intro M (And.intro N J));clear G D Q hk S z p L B J i le lo M N u;go_wp2_with (at_builtin;refine Zj _ rfl _ _ 102 rfl w.heap.size 37 iT (.agg #[Yc Yb 0 0,Yd Yf 0,Yd Yf 0]) 3 40 Tryz.underlying102 ab am an ao rfl (by decide) _ (ZR (ts.take k)).length (Ze C) rfl b.out.2.1 (wr.heap.size+1+1) (Ya ⟨wr.heap.size+1,0,Yb⟩) 1 1 [Yc F r.length I,Yd Yf j,Yd Yf l] rfl (by have:=b.out.2.2.2.2;simpa using this) (ZqX _ _ _ _ _) (by have:=R.out;omega) (by have:=R.out;have:=m.out.2.2.2.2.2;have:=E.out;omega) b.out.2.2.2.1.below.size ?_);intro v8 w8 d a f;have U:=Lib.hid (ParS.pushE (t:=(r,j,l)) b.out.2.2.2.1 b.out.1 b.out.2.2.1 d a (by first|exact f|simpa using f) x.out.2.2);clear d a f;go_wp2_with fail;go_roundg (n-(k+1))
    case measure=>have:=E.out;omega
    case rel=>exact⟨k+1,v8,P,rfl,rfl,by push_cast;rfl,by have:=E.out;omega,rfl,by rw[x.out.1,x.out.2.1];exact U.out⟩
   ·have e0:(s==0)=false:=by simpa using u
    have M:ZR (ts.take (k+1))=ZR (ts.take k):=by rw[i];unfold ZR;rw[List.filter_append,List.map_append];simp[u]
    have N:Zbp (ts.take (k+1))=Zbp (ts.take k)++[(s,r,j,l)]:=by rw[i];unfold Zbp;rw[List.filter_append];simp[u]
    have b:=Lib.hid (Zq6 (t:=(s,r,j,l)) (op:=s) (kn:=j) (kd:=l) (A:=F) (c:=I) Q rfl 39);obtain⟨C,G⟩:=b.out;have b:=Lib.hid G;have x:=Lib.hid (And.intro M (And.intro N J));clear G D Q hk S z p L B J i le lo M N u;go_wp2_with (at_builtin;refine Zj _ rfl _ _ 43 rfl w.heap.size 39 iR (.agg #[Yd Yf 0,Yc Yb 0 0,Yd Yf 0,Yd Yf 0]) 4 48 Tryz.underlying43 aa aj ak al rfl (by decide) _ (Zbp (ts.take k)).length (Zr C) rfl b.out.2.1 (wr.heap.size+1+1) (Ya ⟨wr.heap.size+1,0,Yb⟩) 1 1 [Yd Yf s,Yc F r.length I,Yd Yf j,Yd Yf l] rfl (by have:=b.out.2.2.2.2;simpa using this) (Zb2 _ _ _ _ _ _) (by have:=R.out;omega) (by have:=R.out;have:=m.out.2.2.2.2.2;have:=E.out;omega) b.out.2.2.2.1.below.size ?_);intro v8 w8 d a f;have U:=Lib.hid (ParS.pushO (t:=(s,r,j,l)) b.out.2.2.2.1 b.out.1 b.out.2.2.1 d a (by first|exact f|simpa using f) x.out.2.2);clear d a f;go_wp2_with fail;go_roundg (n-(k+1))
    case measure=>have:=E.out;omega
    case rel=>exact⟨k+1,O,v8,rfl,rfl,by push_cast;rfl,by have:=E.out;omega,rfl,by rw[x.out.1,x.out.2.1];exact U.out⟩
end
section
open Go.RowKit
theorem ZkB (w:Yh) (b c:Yi) (l m:List (Int×Int)) (kx:Int×Int) (d:Za w b l) (e:Za w c m) (f:Zz l) (hm:Zz m) (a:Bd kx) :
  Calls Tryz.prog 122 #[.agg #[b,Yd Yf kx.1,Yd Yf kx.2],c] w fun r w'=>r=.returned (.tuple #[Zb (Zaa l m kx).1.1 (Zaa l m kx).1.2,Yd Yf (Zaa l m kx).2])/\Below w.heap.size w w':=by
 cases hr:ZM l kx.1 kx.2
 ·exact Zou w b c l m kx.1 kx.2 d e f a.1.1 a.1.2 a.2.1 a.2.2 hr
 ·exact Zot w b c l m kx.1 kx.2 d e f hm a.1.1 a.1.2 a.2.1 a.2.2 hr
theorem Zmc {l m:List (Int×Int)} {kx:Int×Int} (d:Zz l) (f:Bd kx) (hm:Zz m):OkR (Zaa l m kx).1\/(Zaa l m kx).1=(0,0):=by
 by_cases h:(Zaa l m kx).2=0
 ·obtain⟨a,b,c,_,e⟩:=ZeP d f hm h;exact .inl (Zda a c b 8 _ e)
 ·right;unfold Zaa at h⊢
  split
  ·rename_i g
   rw[Yo g]at h;cases q:ZaK l m kx (min l.length m.length)with
   |none=>rfl
   |some s=>rw[q]at h;exact absurd rfl h
  ·rfl
theorem Zla (w:Yh) (x:Int×Int) (h:OkR x\/x=(0,0)) :
  Calls Tryz.prog 113 #[Zb x.1 x.2] w fun r w'=>r=.returned (Zb (Zv x).1 (Zv x).2)/\Below w.heap.size w w':=by
 rcases h with h|rfl
 ·exact Zk9 w x h
 ·have a:=below_alloc2 w (Yg #[Yd Yf 0,Yd Yf 0] 23) (Yg #[Yd Yf 0,Yd Yf 0] 23);unfold Zv;dsimp only;go_enter Tryz.func113,Tryz.ntmps113;go_wp2_with fail;exact bodyPost_ret (v:=Zb 0 0) (by simp[results,Tryz.results113,go_sem]) rfl ⟨rfl,a⟩
theorem ZqI (w:Yh) (y:Yi) (m:List (Int×Int)) (b:Nat) (z:Yi) (s:Trm) (H:Blk w b #[z,Yd Yf s.2.1,Yd Yf s.2.2]) (x:Za w z s.1) (j:Zz s.1/\Bd s.2) (u:Za w y m) (hm:Zz m) :
  Calls Tryz.prog 121 #[y,.pointer (Ya ⟨b,0,Yb⟩)] w fun e w'=>e=.returned (.tuple #[Zb (Zv (Zaa s.1 m s.2).1).1 (Zv (Zaa s.1 m s.2).1).2,Yd Yf (Zaa s.1 m s.2).2])/\Below w.heap.size w w':=by
 have I:=Zmc (m:=m) j.1 j.2 hm;have K:=fun(w':Yh) (h:Below w.heap.size w w')=>ZkB w' z y s.1 m s.2 (x.below h) (u.below h) j.1 hm j.2;have J:=fun(w':Yh)=>Zla w' _ I;generalize Zaa s.1 m s.2=V at *;obtain⟨⟨l,v2⟩,e⟩:=V;obtain⟨O,Z,s2⟩:=s;unfold Zv at *;dsimp only at *;obtain⟨A,c,rfl⟩:=Zc x;obtain⟨C,d,rfl⟩:=Zc u;generalize O.length=n at *;generalize m.length=k at *;have M:=zh K;have L:=zh J;have a0:=below_alloc1 w (Yg #[Yd Yf 0,Yd Yf 0] 23);have B:=Blk.start w #[Yd Yf 0,Yd Yf 0] 23;have o:=H.keep a0;have c0:=o.cell 0;have c1:=o.cell 1;have c2:=o.cell 2;clear K J x j u hm I H;go_enter Tryz.func121,Tryz.ntmps121;go_upto_region 2 with(go_at_call 122;go_fit (M.out _ a0);rintro S r ⟨rfl,a⟩)
 have t:=below_alloc1 r (Yg #[Yd Yf l,Yd Yf v2] 23);have D:=Blk.start r #[Yd Yf l,Yd Yf v2] 23;have E:=(B.keep a).keep t;have G:=(a0.trans (a.mono a0.size)).trans (t.mono (a0.trans (a.mono a0.size)).size);have g:=zh (zi G (zi E D));clear t D E G a a0 B o c0 c1 c2;generalize r.heap.size=Q at *;generalize r.alloc (Yg #[Yd Yf l,Yd Yf v2] 23)=w2 at *;have R:=g.out.2.2.cell 0;have d1:=g.out.2.2.cell 1;go_wp2_with (go_at_call 113;go_fit (L.out _);rintro T w3 ⟨rfl,i⟩;have f:=g.out.2.1.keep i;have N:=g.out.1.trans (i.mono g.out.1.size);have X:=f.cell 0;have Y:=f.cell 1;have U:=f.free 0;have W:=f.free 1);have F:=(f.set 0 (Yd Yf (-l))).set 1 (Yd Yf v2);have z0:=F.cell 0;have P:=F.cell 1;exact bodyPost_ret (v:=.tuple #[Zb (-l) v2,Yd Yf e]) (by simp[results,Tryz.results121,go_sem,z0,P]) rfl ⟨rfl,(N.setCell (p:=⟨w.heap.size,0,Yb⟩) (Nat.le_refl _) _).setCell (p:=⟨w.heap.size,1,Yb⟩) (Nat.le_refl _) _⟩
end
section
open Go.RowKit
def ZbX (k:Nat) (a x:Int×Int):Int×Int:=if k=0\/x.1*a.2<a.1*x.2 then x else a
def Za4 (ts:List Rw) (m:List (Int×Int)):Nat->Option (Int×Int)
 |0=>Ya (0,0)
 |k+1=>(Za4 ts m k).bind fun a=>match ts[k]? with
  |none=>Yb
  |some r=>if(Zaa r.2.1 m r.2.2).2=0 then Ya (ZbX k a (Zaa r.2.1 m r.2.2).1)else Yb
theorem Zfh {ts:List Rw} {m:List (Int×Int)} {k:Nat}:∀d,Za4 ts m k=Yb->Za4 ts m (k+d)=Yb
 |0,h=>h
 |d+1,h=>by rw[<-Nat.add_assoc,Za4,Zfh d h];rfl
theorem Zlc {x a:Int×Int} (i:OkR x) (g:OkR a):∃d e:Nat,x.2=d/\a.2=e/\Valid x.1 d/\Valid a.1 e/\(ZbY x.1 a.1 d e<0↔x.1*a.2<a.1*x.2):=by
 obtain⟨d,b,v⟩:=i;obtain⟨e,c,u⟩:=g;refine⟨d,e,b,c,v,u,?_⟩;unfold ZbY;rw[b,c];by_cases h:x.1*(e:Int)<a.1*(d:Int)
 ·rw[Yo h];exact⟨fun _=>h,fun _=>by decide⟩
 ·rw[Yn h];by_cases f:x.1*(e:Int)=a.1*(d:Int)
  ·rw[Yo f];exact⟨fun q=>absurd q (by decide),fun q=>absurd q h⟩
  ·rw[Yn f];exact⟨fun q=>absurd q (by decide),fun q=>absurd q h⟩
def ZrE (w:Yh) (r:Option (Int×Int)) (e:Ending) (w':Yh):Prop:=
 (match r with
  |some x=>e=.returned (.tuple #[Zb x.1 x.2,Yd Yf 0])
  |none=>∃E:Int,E≠0/\e=.returned (.tuple #[Zb 0 0,Yd Yf E]))/\Below w.heap.size w w'
structure LowS (W wr:Yh) (lo:Int×Int):Prop where
 R:Blk wr W.heap.size #[Yd Yf 0,Yd Yf 0]
 L:Blk wr (W.heap.size+1) #[Yd Yf lo.1,Yd Yf lo.2]
 below:Below W.heap.size W wr
theorem LowS.keep {W wr w':Yh} {b:Int×Int} (h:LowS W wr b) (a:Below wr.heap.size wr w'):LowS W w' b:=⟨h.R.keep a,h.L.keep a,h.below.trans (a.mono h.below.size)⟩
theorem LowS.put {W wr:Yh} {a:Int×Int} (h:LowS W wr a) (x:Int×Int):LowS W ((wr.setCell ⟨W.heap.size+1,0,Yb⟩ (Yd Yf x.1)).setCell ⟨W.heap.size+1,1,Yb⟩ (Yd Yf x.2)) x:=
 ⟨(h.R.other (p:=⟨W.heap.size+1,0,Yb⟩) (by show W.heap.size+1≠W.heap.size;omega) _).other (p:=⟨W.heap.size+1,1,Yb⟩) (by show W.heap.size+1≠W.heap.size;omega) _,(h.L.set 0 _).set 1 _,
   (h.below.setCell (p:=⟨W.heap.size+1,0,Yb⟩) (by show W.heap.size<=W.heap.size+1;omega) _).setCell (p:=⟨W.heap.size+1,1,Yb⟩) (by show W.heap.size<=W.heap.size+1;omega) _⟩
theorem Zi2 (w:Yh) (v vb:Yi) (ts:List Rw) (m:List (Int×Int)) (h:ZA w v ts) (hw:∀r∈ts,Zz r.2.1/\Bd r.2.2) (hb:Za w vb m) (hm:Zz m) :
  Calls Tryz.prog 149 #[v,vb] w (ZrE w (Za4 ts m ts.length)):=by
 obtain⟨A,c,rs,rfl,h2,h3,h4,h5,h6⟩:=h;obtain⟨n,Z⟩:∃n,n=ts.length:=⟨_,rfl⟩
 have Y:rs.length=n:=by rw[Z,<-h4,List.length_map]
 have X:n<=9223372036854775807:=by unfold maxLen at h3;omega
 rw[<-Z]at h2 h5⊢;obtain⟨E,y⟩:∃E,E=Za4 ts m n:=⟨_,rfl⟩
 rw[<-y];obtain⟨C,d,rfl⟩:=Zc hb;have t:=zh (zi Y (zi h4 (zi X (zi h6 (zi Z (zi y (zi hw (zi hb hm))))))));have H5:=zh h5
 have S0:=zh (show LowS w ((w.alloc (Yg #[Yd Yf 0,Yd Yf 0] 23)).alloc (Yg #[Yd Yf 0,Yd Yf 0] 23)) (0,0)from by
  have B1:=Blk.start (w.alloc (Yg #[Yd Yf 0,Yd Yf 0] 23)) #[Yd Yf 0,Yd Yf 0] 23;rw[World.size_alloc]at B1
  exact⟨(Blk.start w #[Yd Yf 0,Yd Yf 0] 23).keep (below_alloc1 _ _),B1,below_alloc2 _ _ _⟩)
 generalize m.length=lm at *;clear Z Y h2 h3 h4 h5 h6 X y hw hb hm;go_enter Tryz.func149,Tryz.ntmps149;go_upto_region 2 with fail;generalize(w.alloc (Yg #[Yd Yf 0,Yd Yf 0] 23)).alloc (Yg #[Yd Yf 0,Yd Yf 0] 23)=w1 at *;go_wp2_with fail;go_loopg [13] n (fun g az wr=>∃(k:Nat) (G:Int×Int),az=Yd Yf k/\k<=n/\g=n-k/\Za4 ts m k=Ya G/\(k=0\/OkR G)/\LowS w wr G)
 case atStart=>exact⟨0,(0,0),rfl,Nat.zero_le _,rfl,rfl,.inl rfl,S0.out⟩
 case round=>
  clear S0;obtain⟨k,G,rfl,hk,hg,B,M,D⟩:=hrel;by_cases K:k=n
  ·have e:E=Ya G:=by rw[t.out.2.2.2.2.2.1,<-K];exact B
   have HD:=zh (zi D e);have l0:=D.L.cell 0;have l1:=D.L.cell 1;have r0:=D.R.cell 0;have r1:=D.R.cell 1;have q0:=D.R.free 0;have q1:=D.R.free 1;subst K;clear hk hg B M D e;obtain⟨f,O⟩:=G;dsimp only at l0 l1;go_wp2_with fail;have S:=(HD.out.1.R.set 0 (Yd Yf f)).set 1 (Yd Yf O);have z0:=S.cell 0;have z1:=S.cell 1;rw[HD.out.2];exact bodyPost_ret (v:=.tuple #[Zb f O,Yd Yf 0]) (by simp[results,Tryz.results149,go_sem,z0,z1]) rfl ⟨rfl,(HD.out.1.below.setCell (p:=⟨w.heap.size,0,Yb⟩) (Nat.le_refl _) _).setCell (p:=⟨w.heap.size,1,Yb⟩) (Nat.le_refl _) _⟩
  ·have W:k<n:=by omega
   obtain⟨x,hx⟩:∃x,rs[k]? = Ya x:=⟨_,Ym (by have:=t.out.1;omega)⟩
   obtain⟨ad,rfl,d0,d1,d2,d3⟩:=ZaT H5.out D.below hx (by omega);have hr:=t.out.2.2.2.1 x (List.mem_of_getElem? hx);have N:ts[k]? = Ya x.2:=by rw[<-t.out.2.1,List.getElem?_map,hx];rfl
   have l:=t.out.2.2.2.2.2.2.1 x.2 (List.mem_of_getElem? N);have tv:=fun(w':Yh) (h:Below w.heap.size w w')=>ZkB w' x.1 (Yc C lm d) x.2.2.1 m x.2.2.2 (hr.below h) (t.out.2.2.2.2.2.2.2.1.below h) l.1 t.out.2.2.2.2.2.2.2.2 l.2;have a7:=Zmc (m:=m) l.1 l.2 t.out.2.2.2.2.2.2.2.2
   have vk:=fun(e:(Zaa x.2.2.1 m x.2.2.2).2=0)=>by
    obtain⟨a,b,c,_,q⟩:=ZeP l.1 l.2 t.out.2.2.2.2.2.2.2.2 e;exact Zda a c b 8 _ q
   have i:Za4 ts m (k+1)=if(Zaa x.2.2.1 m x.2.2.2).2=0 then Ya (ZbX k G (Zaa x.2.2.1 m x.2.2.2).1)else Yb:=by rw[Za4,B,Option.bind_some,N]
   have i1:(k:Int)<(n:Int):=by omega
   have i2:(0:Int)<=(k:Int):=by omega
   have wk:IntKind.i64.wrap ((k:Int)+1)=(k:Int)+1:=IntWalk.i64_in _ (by have:=t.out.2.2.1;omega);obtain⟨Ax,cx,ay⟩:=Zc hr;obtain⟨x0,xo,xl,x1,x2⟩:=x;dsimp only at *;subst ay;generalize Zaa xl m (x1,x2)=V at *;obtain⟨⟨o,v2⟩,J⟩:=V;dsimp only at *;have TV:=zh tv;have s:=zh (zi W (zi hg (zi i (zi M (zi vk D)))));clear W hg i M vk D tv hr N l hx K hk B a7;go_upto_region 5 with fail;have a1:=below_alloc1 wr (Yg #[Yd Yf xo,Yc Ax xl.length cx,Yd Yf x1,Yd Yf x2] 39);have RB:=Blk.start wr #[Yd Yf xo,Yc Ax xl.length cx,Yd Yf x1,Yd Yf x2] 39;have P:=zh (zi (s.out.2.2.2.2.2.keep a1) RB);clear a1 RB d0 d1 d2 d3;generalize wr.heap.size=bx at *;generalize wr.alloc (Yg #[Yd Yf xo,Yc Ax xl.length cx,Yd Yf x1,Yd Yf x2] 39)=w2 at *;have c1:=P.out.2.cell 1;have c2:=P.out.2.cell 2;have c3:=P.out.2.cell 3;go_upto_region 6 with(go_at_call 122;go_fit (TV.out _ P.out.1.below);rintro e5 w3 ⟨rfl,U⟩)
   have a2:=below_alloc1 w3 (Yg #[Yd Yf o,Yd Yf v2] 23);have VB:=Blk.start w3 #[Yd Yf o,Yd Yf v2] 23;have j:=zh (zi ((P.out.1.keep U).keep a2) VB);clear a2 VB U c1 c2 c3 P;generalize w3.heap.size=bv at *;generalize w3.alloc (Yg #[Yd Yf o,Yd Yf v2] 23)=w4 at *;have f0:=j.out.2.cell 0;have f1:=j.out.2.cell 1;have r0:=j.out.1.R.cell 0;have r1:=j.out.1.R.cell 1;have q0:=j.out.1.R.free 0;have q1:=j.out.1.R.free 1;have l0:=j.out.1.L.cell 0;have l1:=j.out.1.L.cell 1;have m0:=j.out.1.L.free 0;have m1:=j.out.1.L.free 1;by_cases he:J=0
   ·subst he;have i:=s.out.2.2.1;rw[Yo rfl]at i;have ov:=s.out.2.2.2.2.1 rfl;by_cases u:k=0
    ·subst u;have T:=zh (show Za4 ts m (0+1)=Ya (o,v2)from by rw[i];unfold ZbX;rw[Yo (.inl rfl)]);clear i r0 r1 q0 q1;go_wp2_with fail;go_roundg (n-1)
     case measure=>have:=s.out;omega
     case rel=>exact⟨1,(o,v2),by first|rfl|simp,by have:=s.out;omega,rfl,T.out,.inr ov,j.out.1.put (o,v2)⟩
    ·have ca:((k:Int)==0)=false:=by simpa using u
     have ol:=s.out.2.2.2.1.resolve_left u;obtain⟨f,O⟩:=G;obtain⟨I,Q,e1,e2,vx,vl,hc⟩:=Zlc ov ol;dsimp only at e1 e2 vx vl hc l0 l1;subst e1 e2;have cm:=fun w'=>Zep vx vl w';have pk:ZbX k (f,(Q:Int)) (o,(I:Int))=if ZbY o f I Q<0 then(o,(I:Int))else(f,(Q:Int)):=by
      unfold ZbX;dsimp only;by_cases q:ZbY o f I Q<0
      ·rw[Yo q,Yo (.inr (hc.1 q))]
      ·rw[Yn q,Yn];rintro(a|a)
       ·exact u a
       ·exact q (hc.2 a)
     rw[pk]at i;generalize ZbY o f I Q=cv at *;have CM:=zh cm;have HO:=zh (zi ov ol);clear cm pk hc vx vl ov ol u r0 r1 q0 q1;by_cases F:cv<0
     ·rw[Yo F]at i;have T:=zh i;clear i;go_wp2_with (go_at_call 40;go_fit (CM.out _);rintro e7 w5 ⟨rfl,z⟩;have H:=j.out.1.keep z;have V5:=j.out.2.keep z;clear f0 f1 m0 m1 l0 l1;have f0:=V5.cell 0;have f1:=V5.cell 1;have l0:=H.L.cell 0;have l1:=H.L.cell 1;have m0:=H.L.free 0;have m1:=H.L.free 1);go_roundg (n-(k+1))
      case measure=>have:=s.out;omega
      case rel=>exact⟨k+1,(o,(I:Int)),by push_cast;rfl,by have:=s.out;omega,rfl,T.out,.inr HO.out.1,H.put (o,(I:Int))⟩
     ·rw[Yn F]at i;have T:=zh i;clear i;go_wp2_with (go_at_call 40;go_fit (CM.out _);rintro e7 w5 ⟨rfl,z⟩;have H:=j.out.1.keep z);go_roundg (n-(k+1))
      case measure=>have:=s.out;omega
      case rel=>exact⟨k+1,(f,(Q:Int)),by push_cast;rfl,by have:=s.out;omega,rfl,T.out,.inr HO.out.2,H⟩
   ·have cb:(J != 0)=true:=by simpa using he
    have i:=s.out.2.2.1;rw[Yn he]at i
    have RN:=zh (show E=Yb from by
     rw[t.out.2.2.2.2.2.1];have:=Zfh (n-(k+1)) i
     rwa[show k+1+(n-(k+1))=n by have:=s.out.1;omega]at this)
    have HE:=zh he;clear i he l0 l1 m0 m1;go_wp2_with fail;have S:=(j.out.1.R.set 0 (Yd Yf 0)).set 1 (Yd Yf 0);have z0:=S.cell 0;have z1:=S.cell 1;rw[RN.out];exact bodyPost_ret (v:=.tuple #[Zb 0 0,Yd Yf J]) (by simp[results,Tryz.results149,go_sem,z0,z1]) rfl ⟨⟨_,HE.out,rfl⟩,(j.out.1.below.setCell (p:=⟨w.heap.size,0,Yb⟩) (Nat.le_refl _) _).setCell (p:=⟨w.heap.size,1,Yb⟩) (Nat.le_refl _) _⟩
end
section
open Go.RowKit
def RowsIn (w:Yh) (v:Yi) (ts:List Rw) (S:Nat->Prop):Prop:=
 ∃A c a,v=Yc A ts.length c/\ts.length<=c/\c<=maxLen/\a.map (·.2)=ts/\Zw w w.heap.size 4 A ts.length (Zr a)/\(ts≠[]->∀b,v.ownBlock=Ya b->¬S b)/\∀x∈a,Za w x.1 x.2.2.1/\Off S x.1 x.2.2.1
theorem RowsIn.rows {w:Yh} {v:Yi} {ts:List Rw} {S:Nat->Prop} (h:RowsIn w v ts S):ZA w v ts:=by obtain⟨A,c,j,a,b,d,e,f,_,g⟩:=h;exact⟨A,c,j,a,b,d,e,f,fun x i=>(g x i).1⟩
theorem RowsIn.nil (w:Yh) (S:Nat->Prop):RowsIn w (Yc Yb 0 0) [] S:=⟨Yb,0,[],rfl,Nat.le_refl _,by decide,rfl,Zw.none_,fun h=>absurd rfl h,fun x a=>by cases a⟩
theorem RowsIn.below {w w':Yh} {v:Yi} {ts:List Rw} {S:Nat->Prop} (h:RowsIn w v ts S) (a:Below w.heap.size w w'):RowsIn w' v ts S:=by obtain⟨A,c,l,e,f,g,i,j,k,b⟩:=h;exact⟨A,c,l,e,f,g,i,(j.below a).more a.size,k,fun x d=>⟨(b x d).1.below a,(b x d).2⟩⟩
theorem RowsIn.of {w:Yh} {v:Yi} {ts:List Rw} {S:Nat->Prop} (h:ZA w v ts) (g:∀b,S b->w.heap.size<=b):RowsIn w v ts S:=by
 obtain⟨A,c,r,rfl,k,l,m,d,f⟩:=h;refine⟨A,c,r,rfl,k,l,m,d,fun p b a q=>?_,fun x i=>⟨f x i,fun n b a q=>?_⟩⟩
 ·obtain⟨j,rfl,o,_⟩:=d.2 (List.length_pos_iff.2 p);have e:j.block=b:=by simpa[Value.ownBlock]using a
  have:=g b q;omega
 ·have:=(f x i).lt n b a;have:=g b q;omega
theorem RowsIn.mono {w:Yh} {v:Yi} {ts:List Rw} {S S':Nat->Prop} (h:RowsIn w v ts S) (k:∀b,S' b->S b\/w.heap.size<=b):RowsIn w v ts S':=by
 obtain⟨A,c,s,rfl,m,n,o,f,p,a⟩:=h;refine⟨A,c,s,rfl,m,n,o,f,fun j b i q=>?_,fun x d=>⟨(a x d).1,(a x d).2.more (a x d).1 k⟩⟩;rcases k b q with g|g
 ·exact p j b i g
 ·obtain⟨l,rfl,r,_⟩:=f.2 (List.length_pos_iff.2 j);have e:l.block=b:=by simpa[Value.ownBlock]using i
  omega
theorem ZmE {w w':Yh} {a:Option Nat} {size:Nat} {A:Option Addr} {n c:Nat} {l:List Yi} (h:Zw w w.heap.size size A n l) (i:w.grownBy w' a) (m:0<n->∀b,(Value.slice A n c).ownBlock=Ya b->a≠Ya b):Zw w' w'.heap.size size A n l:=by refine⟨h.1,fun k=>?_⟩;obtain⟨f,rfl,d,hc⟩:=h.2 k;refine⟨f,rfl,Nat.lt_of_lt_of_le d i.size,fun j u hu=>?_⟩;have g:a≠Ya f.block:=m k _ rfl;exact(World.cell?_of_block (i.block (f.add j).block (by rw[ZJ];exact d) (by rw[ZJ];exact fun e=>g e.symm))).trans (hc j u hu)
theorem RowsIn.grown {w w':Yh} {a:Option Nat} {v:Yi} {ts:List Rw} {S:Nat->Prop} (h:RowsIn w v ts S) (i:w.grownBy w' a) (j:∀b,a=Ya b->S b):RowsIn w' v ts S:=by obtain⟨A,c,r,rfl,k,l,m,n,g,d⟩:=h;exact⟨A,c,r,rfl,k,l,m,ZmE n i fun p b o e=>g (List.length_pos_iff.1 p) b o (j b e),g,fun x f=>⟨(d x f).1.off (d x f).2 i j,(d x f).2⟩⟩
theorem Zal.isin {w:Yh} {base:Nat} {v:Yi} {ts:List Rw} {S S':Nat->Prop} (h:Zal w base v ts S) (o:∀b,v.ownBlock=Ya b->¬S' b) (n:∀b,S' b->S b\/w.heap.size<=b):RowsIn w v ts S':=by
 obtain⟨r,k,f,l⟩:=h.mono n;have j:=f;rcases f.2 with⟨rfl,m⟩|⟨g,c,i,rfl,_,s,d,a⟩
 ·have e:ts=[]:=List.eq_nil_of_length_eq_zero m;subst e;exact RowsIn.nil w S'
 ·exact⟨Ya _,c,r,rfl,d,a.1,k,Zw.of_own j,fun _=>o,fun x p=>l x p⟩
def four (a:Nat->Prop) (c d e:Yi) (b:Nat):Prop:=c.ownBlock=Ya b\/d.ownBlock=Ya b\/e.ownBlock=Ya b\/a b
structure Tri (S0:Nat->Prop) (W w:Yh) (va:Yi) (xa:List Rw) (vb:Yi) (xb:List Rw) (vc:Yi) (xc:List Rw):Prop where
 a:Zal w W.heap.size va xa (four S0 va vb vc)
 b:Zal w W.heap.size vb xb (four S0 va vb vc)
 c:Zal w W.heap.size vc xc (four S0 va vb vc)
 ab:∀k,va.ownBlock=Ya k->vb.ownBlock≠Ya k
 ac:∀k,va.ownBlock=Ya k->vc.ownBlock≠Ya k
 bc:∀k,vb.ownBlock=Ya k->vc.ownBlock≠Ya k
 s0:∀b,S0 b->b<W.heap.size
 below:Below W.heap.size W w
section
variable {S0:Nat->Prop} {W w w':Yh} {va va' vb vc vt:Yi} {xa xb xc:List Rw}
theorem Tri.start (a:∀b,S0 b->b<W.heap.size):Tri S0 W W (Yc Yb 0 0) [] (Yc Yb 0 0) [] (Yc Yb 0 0) []:=
 ⟨Zal.nil _ _ _,Zal.nil _ _ _,Zal.nil _ _ _,fun b h=>(by cases h),fun b h=>(by cases h),fun b h=>(by cases h),a,Below.refl _ _⟩
theorem Tri.keep (h:Tri S0 W w va xa vb xb vc xc) (d:Below w.heap.size w w'):Tri S0 W w' va xa vb xb vc xc:=
 ⟨h.a.below d,h.b.below d,h.c.below d,h.ab,h.ac,h.bc,h.s0,h.below.trans (d.mono h.below.size)⟩
theorem Tri.swab (h:Tri S0 W w va xa vb xb vc xc):Tri S0 W w vb xb va xa vc xc:=by
 have e:∀b,four S0 vb va vc b->four S0 va vb vc b\/w.heap.size<=b:=fun b q=>.inl (by
  rcases q with q|q|q
  ·exact .inr (.inl q)
  ·exact .inl q
  ·exact .inr (.inr q))
 exact⟨h.b.mono e,h.a.mono e,h.c.mono e,fun k p q=>h.ab k q p,h.bc,h.ac,h.s0,h.below⟩
theorem Tri.swac (h:Tri S0 W w va xa vb xb vc xc):Tri S0 W w vc xc vb xb va xa:=by
 have e:∀b,four S0 vc vb va b->four S0 va vb vc b\/w.heap.size<=b:=fun b q=>.inl (by
  rcases q with q|q|q|q
  ·exact .inr (.inr (.inl q))
  ·exact .inr (.inl q)
  ·exact .inl q
  ·exact .inr (.inr (.inr q)))
 exact⟨h.c.mono e,h.b.mono e,h.a.mono e,fun k p q=>h.bc k q p,fun k p q=>h.ac k q p,fun k p q=>h.ab k q p,h.s0,h.below⟩
theorem Tri.lt (h:Tri S0 W w va xa vb xb vc xc):∀b,four S0 va vb vc b->b<w.heap.size:=fun b q=>by
 rcases q with q|q|q|q
 ·exact(h.a.lt b q).2
 ·exact(h.b.lt b q).2
 ·exact(h.c.lt b q).2
 ·exact Nat.lt_of_lt_of_le (h.s0 b q) h.below.size
theorem Tri.old (h:Tri S0 W w va xa vb xb vc xc):∀b,four S0 va vb vc b->S0 b\/W.heap.size<=b:=fun b q=>by
 rcases q with q|q|q|q
 ·exact .inr (h.a.lt b q).1
 ·exact .inr (h.b.lt b q).1
 ·exact .inr (h.c.lt b q).1
 ·exact .inl q
theorem Tri.push {t:Rw} {rs:List (Yi×Rw)} (h:Tri S0 W w va xa vb xb vc xc) (o:rs.map (·.2)=xa) (p:∀x∈rs,Za w x.1 x.2.2.1/\Off (four S0 va vb vc) x.1 x.2.2.1)
  (i:w'.ownsRow W.heap.size 39 4 va' (xa.length+1) (Zr rs++[Yd Yf t.1,vt,Yd Yf t.2.2.1,Yd Yf t.2.2.2])) (j:w.grownBy w' va.ownBlock) (l:va'.ownBlock=va.ownBlock\/va'.ownBlock=Ya w.heap.size) (s:Za w vt t.2.1) (r:Off (four S0 va vb vc) vt t.2.1) :
  Tri S0 W w' va' (xa++[t]) vb xb vc xc:=by
 have g:∀b,four S0 va' vb vc b->four S0 va vb vc b\/w.heap.size<=b:=by
  intro b q;rcases q with q|q
  ·rcases l with e|e
   ·rw[e]at q;exact .inl (.inl q)
   ·rw[e]at q;injection q with q;exact .inr (by omega)
  ·exact .inl (.inr q)
 have a:=Zal.appended (S:=four S0 va vb vc) (S':=four S0 va' vb vc) o p i j (fun b d=>.inl d) s r g;have m:Zal w W.heap.size vb xb (fun b=>four S0 va vb vc b\/four S0 va' vb vc b):=h.b.mono fun b d=>d.elim .inl (g b);have c0:Zal w W.heap.size vc xc (fun b=>four S0 va vb vc b\/four S0 va' vb vc b):=h.c.mono fun b d=>d.elim .inl (g b);have n:=m.other j fun b d=>⟨.inl (.inl d),h.ab b d⟩;have c1:=c0.other j fun b d=>⟨.inl (.inl d),h.ac b d⟩;refine⟨a,n.mono fun b d=>.inl (.inr d),c1.mono fun b d=>.inl (.inr d),fun k f q=>?_,fun k f q=>?_,h.bc,h.s0,h.below.grown j h.below.size fun k f=>(h.a.lt k f).1⟩
 ·rcases l with e|e
  ·exact h.ab k (e▸f) q
  ·rw[e]at f;injection f with f;have:=(h.b.lt k q).2;omega
 ·rcases l with e|e
  ·exact h.ac k (e▸f) q
  ·rw[e]at f;injection f with f;have:=(h.c.lt k q).2;omega
theorem Tri.ahead {n:Nat} {op kn kd:Int} {A:Option Addr} {c k:Nat} (P:Tri S0 W w va xa vb xb vc xc) (d:xa.length=k) (ty:TypeId) :
  ∃rs,rs.map (·.2)=xa/\(w.alloc (Yg #[Yd Yf op,Yc A n c,Yd Yf kn,Yd Yf kd] ty)).ownsRow W.heap.size 39 4 va k (Zr rs)/\(∀x∈rs,Za (w.alloc (Yg #[Yd Yf op,Yc A n c,Yd Yf kn,Yd Yf kd] ty)) x.1 x.2.2.1/\Off (four S0 va vb vc) x.1 x.2.2.1)/\Tri S0 W (w.alloc (Yg #[Yd Yf op,Yc A n c,Yd Yf kn,Yd Yf kd] ty)) va xa vb xb vc xc ∧
   Zw (w.alloc (Yg #[Yd Yf op,Yc A n c,Yd Yf kn,Yd Yf kd] ty)) (w.heap.size+1) 4 (Ya ⟨w.heap.size,0,Yb⟩) 1 [Yd Yf op,Yc A n c,Yd Yf kn,Yd Yf kd]:=by
 have b:=P.keep (below_alloc1 w (Yg #[Yd Yf op,Yc A n c,Yd Yf kn,Yd Yf kd] ty));obtain⟨rs,e,z2,z3⟩:=b.a;rw[d]at z2;exact⟨rs,e,z2,z3,b,(Zas (wo:=w) (x:=#[Yd Yf op,Yc A n c,Yd Yf kn,Yd Yf kd]) (ty:=ty) (Nat.zero_le _)).reads (size:=4) rfl⟩
end
end
section
open Go.RowKit
def Zdl (a b:Rw):Int:=if a.1=2\/b.1=2 then 2 else 1
def Zbt (a b:Rw):Option Rw:=(Zcc a.2 b.2).map fun t=>(Zdl a b,t)
def Zap (a:Rw):List Rw->List Rw->Option (List Rw)
 |acc,[]=>Ya acc
 |acc,b::r=>(Zbt a b).bind fun t=>Zap a (acc++[t]) r
def ZaL:List Rw->List Rw->List Rw->Option (List Rw)
 |acc,[],_=>Ya acc
 |acc,a::r,up=>(Zap a acc up).bind fun b=>ZaL b r up
def Za2 (s:Za5):Option (List Rw):=if 400<s.1.length+s.2.1.length*s.2.2.length then Yb else ZaL s.1 s.2.1 s.2.2
theorem Zl4 (a:Rw):∀(up f d:List Rw),Zap a f up=Ya d->(∀t,t∈d↔t∈f\/∃b∈up,Zbt a b=Ya t)/\∀b∈up,∃t,Zbt a b=Ya t
 |[],f,d,h=>by
  obtain rfl:=Option.some.inj h;exact⟨fun t=>by simp,fun b g=>by cases g⟩
 |b::r,f,d,h=>by
  rw[Zap]at h;cases e:Zbt a b with
  |none=>rw[e]at h;cases h
  |some u=>
   rw[e]at h;obtain⟨i1,i2⟩:=Zl4 a r _ d h;refine⟨fun t=>?_,fun c hc=>?_⟩
   ·rw[i1 t];simp only[List.mem_append,List.mem_cons,List.not_mem_nil,or_false];constructor
    ·rintro((x|rfl)|⟨c,hc,x⟩)
     ·exact .inl x
     ·exact .inr ⟨b,.inl rfl,e⟩
     ·exact .inr ⟨c,.inr hc,x⟩
    ·rintro(x|⟨c,rfl|hc,x⟩)
     ·exact .inl (.inl x)
     ·rw[e]at x;exact .inl (.inr (Option.some.inj x).symm)
     ·exact .inr ⟨c,hc,x⟩
   ·rcases List.mem_cons.1 hc with rfl|hc
    ·exact⟨u,e⟩
    ·exact i2 c hc
theorem Zl5 (up:List Rw):∀(i d f:List Rw),ZaL d i up=Ya f->(∀t,t∈f↔t∈d\/∃a∈i,∃b∈up,Zbt a b=Ya t)/\∀a∈i,∀b∈up,∃t,Zbt a b=Ya t
 |[],d,f,h=>by
  obtain rfl:=Option.some.inj h;exact⟨fun t=>by simp,fun b g=>by cases g⟩
 |a::r,d,f,h=>by
  rw[ZaL]at h;cases e:Zap a d up with
  |none=>rw[e]at h;cases h
  |some u=>
   rw[e]at h;obtain⟨j1,j2⟩:=Zl4 a up d u e;obtain⟨i1,i2⟩:=Zl5 up r u f h;refine⟨fun t=>?_,fun c hc=>?_⟩
   ·rw[i1 t,j1 t];simp only[List.mem_cons];constructor
    ·rintro((x|⟨b,g,x⟩)|⟨c,hc,x⟩)
     ·exact .inl x
     ·exact .inr ⟨a,.inl rfl,b,g,x⟩
     ·exact .inr ⟨c,.inr hc,x⟩
    ·rintro(x|⟨c,rfl|hc,x⟩)
     ·exact .inl (.inl x)
     ·exact .inl (.inr x)
     ·exact .inr ⟨c,hc,x⟩
   ·rcases List.mem_cons.1 hc with rfl|hc
    ·exact j2
    ·exact i2 c hc
def ZhJ (t:Trm):Lin:=(fun i:Nat=>co t i,q t.2)
def Zhn (r:Rw):Bool×Lin:=(r.1==2,ZhJ r.2)
def Zc4 (r:Rw) (ρ:Nat->Rat):Prop:=ZcJ (Zhn r) ρ
def Good (l:List Rw):Prop:=∀r∈l,TrmOk r.2/\(r.1=1\/r.1=2)
theorem ZeF {r t:Rw} (h:Zdz r t) (ρ:Nat->Rat):Zc4 t ρ↔Zc4 r ρ:=by obtain⟨a,_,k,d,b,c⟩:=h;exact ZqF d (by unfold Zhn;dsimp only;rw[a]) (fun i=>b i) c ρ
theorem ZqL (a b:Rw):(Zdl a b==2)=(a.1==2||b.1==2):=by
 unfold Zdl
 split
 ·rename_i h
  rcases h with h|h<;>simp[h]
 ·rename_i h
  simp only[not_or]at h;simp[h.1,h.2]
theorem Zel {a b t:Rw} (c:TrmOk a.2) (d:TrmOk b.2) (h:Zbt a b=Ya t):TrmOk t.2/\(t.1=1\/t.1=2)/\(∀i,co t.2 i=co a.2 i+co b.2 i)/\(t.1==2)=(a.1==2||b.1==2)/\∀ρ,Zbx (ZhJ t.2) ρ=Zbx (ZhJ a.2) ρ+Zbx (ZhJ b.2) ρ:=by
 unfold Zbt at h;cases e:Zcc a.2 b.2 with
 |none=>rw[e]at h;cases h
 |some u=>
  rw[e]at h;obtain rfl:=Option.some.inj h;obtain⟨c1,c2⟩:=ZoA c d e;refine⟨Zm2 c d e,?_,c1,ZqL a b,fun ρ=>Zqh (fun i=>c1 i) c2 ρ⟩;dsimp only;unfold Zdl
  split
  ·exact .inr rfl
  ·exact .inl rfl
theorem Zg5 {v:Nat} (R:v<8) {d c:List Rw} {s:Za5} (P:Good d) (Q:ZW v ([],[],[]) d=Ya s) (B:Za2 s=Ya c) :
  Good c/\(∀r∈c,co r.2 v=0)/\(∀w:Int,(∀r∈d,co r.2 w=0)->∀r∈c,co r.2 w=0)/\(∀ρ,(∀r∈d,Zc4 r ρ)->∀r∈c,Zc4 r ρ) ∧
  ∀ρ,(∀r∈c,Zc4 r ρ)->∃x,∀r∈d,Zc4 r (upd ρ v x):=by
 have I:=Zdx v d _ s (fun r n=>(P r n).1) Q;unfold Za2 at B
 split at B
 ·cases B
 obtain⟨A,S⟩:=Zl5 s.2.2 s.2.1 s.1 c B
 have m:∀r∈s.1,r∈d/\co r.2 v=0:=fun r n=>by
  rcases(I.o r).1 n with a|a
  ·cases a
  ·exact a
 have i:∀t∈s.2.1,∃r∈d,Zdz r t/\co t.2 v=1:=fun t f=>by
  rcases I.lo t f with a|a
  ·cases a
  ·exact a
 have l:∀t∈s.2.2,∃r∈d,Zdz r t/\co t.2 v=-1:=fun t f=>by
  rcases I.up t f with a|a
  ·cases a
  ·exact a
 have j:∀t∈s.2.1,TrmOk t.2:=fun t f=>by obtain⟨r,_,a,_⟩:=i t f;exact a.2.1
 have k:∀t∈s.2.2,TrmOk t.2:=fun t f=>by obtain⟨r,_,a,_⟩:=l t f;exact a.2.1
 refine⟨fun t f=>?_,fun t f=>?_,fun w G t f=>?_,fun ρ h t f=>?_,fun ρ h=>?_⟩
 ·rcases(A t).1 f with a|⟨a,p,b,u,e⟩
  ·exact P t (m t a).1
  ·obtain⟨k1,k2,_⟩:=Zel (j a p) (k b u) e;exact⟨k1,k2⟩
 ·rcases(A t).1 f with a|⟨a,p,b,u,e⟩
  ·exact(m t a).2
  ·obtain⟨_,_,H,_⟩:=Zel (j a p) (k b u) e;obtain⟨_,_,_,x⟩:=i a p;obtain⟨_,_,_,y⟩:=l b u;rw[H v,x,y]
   grind
 ·rcases(A t).1 f with a|⟨a,p,b,u,e⟩
  ·exact G t (m t a).1
  ·obtain⟨_,_,H,_⟩:=Zel (j a p) (k b u) e;obtain⟨L,C,⟨_,_,c1,_,x,_⟩,_⟩:=i a p;obtain⟨M,D,⟨_,_,c2,_,y,_⟩,_⟩:=l b u;rw[H w,x w,y w,G L C,G M D]
   grind
 ·rcases(A t).1 f with a|⟨a,p,b,u,e⟩
  ·exact h t (m t a).1
  ·obtain⟨_,_,_,J,K⟩:=Zel (j a p) (k b u) e;obtain⟨L,C,T,_⟩:=i a p;obtain⟨M,D,U,_⟩:=l b u;have:=Zp8 ((ZeF T ρ).2 (h L C)) ((ZeF U ρ).2 (h M D));unfold Zc4 ZcJ Zhn;dsimp only;rw[J,K ρ];exact this
 ·obtain⟨x,V,W,X⟩:=ZoU (O:=s.1.map Zhn) (Lo:=s.2.1.map Zhn) (Up:=s.2.2.map Zhn) (ρ:=ρ) R
   (fun r n=>by obtain⟨t,f,rfl⟩:=List.mem_map.1 n;exact(m t f).2)
   (fun r n=>by obtain⟨t,f,rfl⟩:=List.mem_map.1 n;obtain⟨_,_,_,y⟩:=i t f;exact y)
   (fun r n=>by obtain⟨t,f,rfl⟩:=List.mem_map.1 n;obtain⟨_,_,_,y⟩:=l t f;exact y)
   (fun r n=>by obtain⟨t,f,rfl⟩:=List.mem_map.1 n;exact h t ((A t).2 (.inl f)))
   (fun a0 E Y F=>by
    obtain⟨a,p,rfl⟩:=List.mem_map.1 E
    obtain⟨b,u,rfl⟩:=List.mem_map.1 F
    obtain⟨t,e⟩:=S a p b u
    obtain⟨_,_,_,J,K⟩:=Zel (j a p) (k b u) e
    have:=h t ((A t).2 (.inr ⟨a,p,b,u,e⟩))
    unfold Zc4 ZcJ Zhn at this
    dsimp only at this
    rw[J,K ρ]at this
    exact this)
  refine⟨x,fun r n=>?_⟩;by_cases z:co r.2 v=0
  ·exact V _ (List.mem_map_of_mem ((I.o r).2 (.inr ⟨n,z⟩)))
  ·rcases Rat.le_total (a:=0) (b:=co r.2 v)with g|g
   ·obtain⟨t,f,N⟩:=I.lo'.2 r n (by grind);exact(ZeF N _).1 (W _ (List.mem_map_of_mem f))
   ·obtain⟨t,f,N⟩:=I.up'.2 r n (by grind);exact(ZeF N _).1 (X _ (List.mem_map_of_mem f))
abbrev Zby:=Int×List Rw×List Rw
def ZaG:List Int->List Rw->List Zby->Option (List Rw×List Zby)
 |[],rows,ch=>Ya (rows,ch)
 |v::vs,rows,ch=>(ZW v ([],[],[]) rows).bind fun s=>(Za2 s).bind fun a=>ZaG vs a (ch++[(v,s.2.1,s.2.2)])
theorem ZeT:∀(j:List Int) (b:List Rw) (k:List Zby) (c:List Rw×List Zby),(∀v∈j,∃n:Nat,v=n/\n<8)->Good b->ZaG j b k=Ya c ->
  Good c.1/\(∀w:Int,(w∈j\/∀r∈b,co r.2 w=0)->∀r∈c.1,co r.2 w=0)/\(∀ρ,(∀r∈b,Zc4 r ρ)->∀r∈c.1,Zc4 r ρ) ∧
  ∀ρ,(∀r∈c.1,Zc4 r ρ)->∃d:Nat->Rat,(∀i:Nat,(i:Int) ∉ j->d i=ρ i)/\∀r∈b,Zc4 r d
 |[],b,k,c,_,hg,h=>by
  obtain rfl:=Option.some.inj h;exact⟨hg,fun w f=>by rcases f with a|a;(· cases a);(· exact a),fun ρ a=>a,fun ρ a=>⟨ρ,fun i _=>rfl,a⟩⟩
 |v::j,b,k,c,hv,hg,h=>by
  rw[ZaG]at h;cases e:ZW v ([],[],[]) b with
  |none=>rw[e]at h;cases h
  |some s=>
   rw[e]at h;simp only[Option.bind_some]at h;cases e2:Za2 s with
   |none=>rw[e2]at h;cases h
   |some g=>
    rw[e2]at h;simp only[Option.bind_some]at h;obtain⟨n,rfl,A⟩:=hv v (by simp);obtain⟨o,p,t,y,z⟩:=Zg5 A hg e e2;obtain⟨i1,i2,i3,i4⟩:=ZeT j g _ c (fun u hu=>hv u (List.mem_cons_of_mem _ hu)) o h;refine⟨i1,fun w f=>?_,fun ρ a=>i3 ρ (y ρ a),fun ρ a=>?_⟩
    ·rcases f with f|f
     ·rcases List.mem_cons.1 f with rfl|f
      ·exact i2 _ (.inr p)
      ·exact i2 w (.inl f)
     ·exact i2 w (.inr (t w f))
    ·obtain⟨d,k1,k2⟩:=i4 ρ a;obtain⟨x,B⟩:=z d k2;refine⟨upd d n x,fun i m=>?_,B⟩;have l:i≠n:=fun q=>m (by simp[q]);unfold upd;rw[Yn l];exact k1 i fun q=>m (List.mem_cons_of_mem _ q)
end
section
open Go.RowKit
theorem Znd (c x:Nat->Rat):∀n,lv c x n=ZgB (fun k=>c k*x k) n
 |0=>rfl
 |n+1=>by rw[lv,ZgB,Znd c x n]
theorem Zne (t:Trm) (x:Nat->Rat):Zbx (ZhJ t) x=ev t x:=by
 unfold Zbx ZhJ ev;rw[Znd];dsimp only
 grind
def Za0:List (Trm×Int)->Trm->Option Trm
 |[],t=>Ya t
 |s::r,t=>(ZaW s.1 (Zv (atL t.1 s.2))).bind fun m=>(Zcc t m).bind fun u=>Za0 r u
theorem Zl1 {s:Trm} {v:Int} {t m u:Trm} (f:TrmOk s) (a:TrmOk t) (c:ZaW s (Zv (atL t.1 v))=Ya m) (d:Zcc t m=Ya u) :
  TrmOk u/\(∀i,co u i=co t i-co t v*co s i)/\∀x,ev u x=ev t x-co t v*ev s x:=by
 have e:=ZbF (a.ok.at v);obtain⟨h,a2⟩:=ZlV f e c;have g:=Zkl f e c;obtain⟨j,l⟩:=ZoA a g d;have hq:q (Zv (atL t.1 v))=- co t v:=ZqU _;have b:∀i,co u i=co t i-co t v*co s i:=fun i=>by rw[j i,h i,hq];grind
 have n:q u.2=q t.2-co t v*q s.2:=by rw[l,a2,hq];grind
 refine⟨Zm2 a g d,b,fun x=>?_⟩;have:=Zl2 (fun k=>co u k*x k) (fun k=>co t k*x k) (fun k=>co s k*x k) (- co t v) (fun k=>by rw[b k];grind) 8;unfold ev;rw[n,this]
 grind
theorem Zl0:∀(b:List (Trm×Int)) (t u:Trm),(∀s∈b,TrmOk s.1)->TrmOk t->Za0 b t=Ya u ->
  TrmOk u/\(∀x,(∀s∈b,ev s.1 x=0)->ev u x=ev t x)/\∀v:Int,(∀s∈b,co s.1 v=if s.2=v then 1 else 0)->(co t v=0\/∃s∈b,s.2=v)->co u v=0
 |[],t,u,_,ht,h=>by
  obtain rfl:=Option.some.inj h
  exact⟨ht,fun x _=>rfl,fun v _ e=>by
   rcases e with a|⟨s,d,_⟩
   ·exact a
   ·cases d⟩
 |s::r,t,u,d,ht,h=>by
  rw[Za0]at h;cases e1:ZaW s.1 (Zv (atL t.1 s.2))with
  |none=>rw[e1]at h;cases h
  |some m=>
   rw[e1]at h;simp only[Option.bind_some]at h;cases e2:Zcc t m with
   |none=>rw[e2]at h;cases h
   |some w=>
    rw[e2]at h;simp only[Option.bind_some]at h;obtain⟨k1,k2,i⟩:=Zl1 (d s (by simp)) ht e1 e2;obtain⟨i1,i2,i3⟩:=Zl0 r w u (fun y c=>d y (List.mem_cons_of_mem _ c)) k1 h;refine⟨i1,fun x f=>?_,fun v hu e=>?_⟩
    ·rw[i2 x (fun y c=>f y (List.mem_cons_of_mem _ c)),i x,f s (by simp)]
     grind
    ·refine i3 v (fun y c=>hu y (List.mem_cons_of_mem _ c)) ?_;by_cases g:s.2=v
     ·left;rw[k2 v,hu s (by simp),Yo g,g]
      grind
     ·rcases e with a|⟨y,c,a⟩
      ·left;rw[k2 v,hu s (by simp),Yn g,a]
       grind
      ·rcases List.mem_cons.1 c with rfl|c
       ·exact absurd a g
       ·exact .inr ⟨y,c,a⟩
def Zbk (a:List (Trm×Int)):List Rw->Option (List Rw)
 |[]=>Ya []
 |r::l=>(Za0 a r.2).bind fun t=>(Zbk a l).map fun b=>(r.1,t)::b
theorem ZjJ (a:List (Trm×Int)) (g:∀s∈a,TrmOk s.1):∀(l c:List Rw),Good l->Zbk a l=Ya c ->
  Good c/\(∀x,(∀s∈a,ev s.1 x=0)->((∀r∈c,Zc4 r x)↔∀r∈l,Zc4 r x))/\∀v:Int,(∀s∈a,co s.1 v=if s.2=v then 1 else 0)->(∃s∈a,s.2=v)->∀r∈c,co r.2 v=0
 |[],c,hg,h=>by
  obtain rfl:=Option.some.inj h;exact⟨hg,fun x _=>Iff.rfl,fun v _ _ r j=>by cases j⟩
 |r::l,c,hg,h=>by
  rw[Zbk]at h;cases e1:Za0 a r.2 with
  |none=>rw[e1]at h;cases h
  |some t=>
   rw[e1]at h;simp only[Option.bind_some]at h;cases e2:Zbk a l with
   |none=>rw[e2]at h;cases h
   |some l2=>
    rw[e2]at h;obtain rfl:=Option.some.inj h;obtain⟨k1,k2,k⟩:=Zl0 a r.2 t g (hg r (by simp)).1 e1;obtain⟨i1,i2,i3⟩:=ZjJ a g l l2 (fun y b=>hg y (List.mem_cons_of_mem _ b)) e2;refine⟨fun y b=>?_,fun x i=>?_,fun v e f y b=>?_⟩
    ·rcases List.mem_cons.1 b with rfl|b
     ·exact⟨k1,(hg r (by simp)).2⟩
     ·exact i1 y b
    ·have d:Zc4 (r.1,t) x↔Zc4 r x:=by unfold Zc4 ZcJ Zhn;dsimp only;rw[Zne,Zne,k2 x i]
     simp only[List.forall_mem_cons];rw[d,i2 x i]
    ·rcases List.mem_cons.1 b with rfl|b
     ·exact k v e (.inr f)
     ·exact i3 v e f y b
def Zeh (l:List Rw):Sum Int (List Rw×List Zby×List Trm×List Int):=
 if 400<l.length\/l.any ZU=true then .inl 2
 else if(Zy (ZR l)).2≠0 then .inl (Zy (ZR l)).2
 else match Zbk ((Zy (ZR l)).1.1.zip (Zy (ZR l)).1.2) (Zbp l)with
  |none=>.inl 2
  |some b=>match ZaG (ZaB (Zy (ZR l)).1.2 8) b []with
   |none=>.inl 2
   |some a=>if a.1.any (fun r=>!ZeX r.1 r.2.2.1)=true then .inl 1 else .inr (a.1,a.2,(Zy (ZR l)).1.1,(Zy (ZR l)).1.2)
theorem ZeV (P:List Int):∀(k:Nat) (v:Int),v∈ZaB P k↔(∃n:Nat,v=n/\n<k)/\v ∉ P
 |0,v=>by simp[ZaB]
 |k+1,v=>by
  unfold ZaB;by_cases h:P.contains (k:Int)=true
  ·rw[Yo h,ZeV P k v];constructor
   ·rintro⟨⟨n,a,b⟩,c⟩;exact⟨⟨n,a,by omega⟩,c⟩
   ·rintro⟨⟨n,a,b⟩,c⟩;refine⟨⟨n,a,?_⟩,c⟩;have:n≠k:=fun e=>by subst e;subst a;exact c (by simpa using h)
    omega
  ·rw[Yn h,List.mem_append,ZeV P k v,List.mem_singleton];constructor
   ·rintro(⟨⟨n,a,b⟩,c⟩|rfl)
    ·exact⟨⟨n,a,by omega⟩,c⟩
    ·exact⟨⟨k,rfl,by omega⟩,by simpa using h⟩
   ·rintro⟨⟨n,a,b⟩,c⟩;by_cases e:n=k
    ·subst e;exact .inr a
    ·exact .inl ⟨⟨n,a,by omega⟩,c⟩
end
section
open Go.RowKit
def ZqR (l:List Rw):Prop:=∀r∈l,Zz r.2.1/\Bd r.2.2
theorem Zfm {r:Rw} (c:Zz r.2.1/\Bd r.2.2) (h:ZU r=false):TrmOk r.2/\(r.1=0\/r.1=1\/r.1=2):=by unfold ZU ZT at h;simp only[Bool.or_eq_false_iff,Bool.not_eq_false',Bool.or_eq_true,beq_iff_eq]at h;obtain⟨p,a,b⟩:=Zaj h.2 c.1 c.2.1.1 c.2.1.2 c.2.2.1 c.2.2.2;exact⟨⟨a,b,p⟩,by rcases h.1 with(q|q)|q<;>simp[q]⟩
theorem Zjy {l:List Rw} {t:Trm}:t∈ZR l↔∃r∈l,r.1=0/\r.2=t:=by
 unfold ZR;simp only[List.mem_map,List.mem_filter,beq_iff_eq];constructor
 ·rintro⟨r,⟨a,b⟩,c⟩;exact⟨r,a,b,c⟩
 ·rintro⟨r,a,b,c⟩;exact⟨r,⟨a,b⟩,c⟩
theorem Zng {l:List Rw} {r:Rw}:r∈Zbp l↔r∈l/\r.1≠0:=by unfold Zbp;simp
theorem ZhS {a:List Trm} {p:List Int} {s:Trm×Int} (h:s∈a.zip p):∃j:Nat,a[j]? = Ya s.1/\p[j]? = Ya s.2:=by obtain⟨j,b⟩:=List.mem_iff_getElem?.1 h;rw[List.getElem?_zip_eq_some]at b;exact⟨j,b.1,b.2⟩
theorem ZqP {a:List Trm} {p:List Int} (S:Solved a p) {v:Int} (h:v∈p):∀s∈a.zip p,co s.1 v=if s.2=v then 1 else 0:=by
 intro s f;obtain⟨j,d,b⟩:=ZhS f;obtain⟨i,c⟩:=List.mem_iff_getElem?.1 h;rw[S.unit i j v s.1 c d];by_cases e:i=j
 ·subst e;rw[c]at b;rw[Yo rfl,Yo (Option.some.inj b).symm]
 ·rw[Yn e,Yn];intro q;rw[q]at b;rcases Nat.lt_or_ge i j with g|g
  ·have:=S.po.inc i j _ _ g c b;omega
  ·have:=S.po.inc j i _ _ (by omega) b c;omega
theorem Zrc {a:List Trm} {p:List Int} (S:Solved a p) {v:Int} (d:v∈p):∃s∈a.zip p,s.2=v:=by obtain⟨i,b⟩:=List.mem_iff_getElem?.1 d;have c:=Za8 b;rw[<-S.po.len]at c;exact⟨(a[i],v),List.mem_iff_getElem?.2 ⟨i,by rw[List.getElem?_zip_eq_some];exact⟨Ym c,b⟩⟩,rfl⟩
end
end Go.Proofs.YtbfnnolakggbfaaGreatDoor
