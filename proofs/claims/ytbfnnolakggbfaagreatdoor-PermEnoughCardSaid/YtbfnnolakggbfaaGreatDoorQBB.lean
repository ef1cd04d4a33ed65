import Derived.Deep.DeepFit
import Derived.Test.YtbfnnolakggbfaaGreatDoorQAK
import Derived.Test.YtbfnnolakggbfaaGreatDoorQAT
import Derived.Test.YtbfnnolakggbfaaGreatDoorQAY
import Derived.Test.YtbfnnolakggbfaaGreatDoorQBA
set_option maxRecDepth 100000
set_option maxHeartbeats 8000000
open Option renaming some → Ya, none → Yb
open Go.Value renaming slice → Yc, int → Yd
open Go.IntKind renaming i64 → Yf
open Go.Obj renaming cells → Yg
open Go renaming World → Yh, Value → Yi
namespace Go.Proofs.YtbfnnolakggbfaaGreatDoor
section
open Go.RowKit
theorem Zk9 (w:Yh) (x:Int×Int) (h:OkR x) :
  Calls Tryz.prog 113 #[Zb x.1 x.2] w fun r w'=>r=.returned (Zb (Zv x).1 (Zv x).2)/\Below w.heap.size w w':=by
 have b:=h.wide;have a:IntKind.i64.wrap (-x.1)=-x.1:=IntWalk.i64_in _ (by obtain⟨d,e,v⟩:=h;have:=v.n_le;omega);clear b h;obtain⟨n,d⟩:=x;dsimp only at *;unfold Zv;go_enter Tryz.func113,Tryz.ntmps113;go_wp2_with fail;exact bodyPost_ret (v:=Zb (-n) d) (by simp[results,Tryz.results113,go_sem]) rfl ⟨rfl,below_alloc2 w _ _⟩
theorem Zbl (w:Yh) (n:Int) :
  Calls Tryz.prog 30 #[Yd Yf n] w fun r w'=>r=.returned (Zb n 1)/\Below w.heap.size w w':=by
 go_enter Tryz.func30,Tryz.ntmps30;go_wp2_with fail;exact bodyPost_ret (v:=Zb n 1) (by simp[results,Tryz.results30,go_sem]) rfl ⟨rfl,below_alloc1 w _⟩
def ZU (r:Rw):Bool:=!(r.1==0||r.1==1||r.1==2)||ZT r.2
theorem Zey (w:Yh) (v:Yi) (r:Rw) (h:Za w v r.2.1) (t:Zz r.2.1) (p:Bd r.2.2) :
  Calls Tryz.prog 28 #[.agg #[Yd Yf r.1,v,Yd Yf r.2.2.1,Yd Yf r.2.2.2]] w fun e w'=>e=.returned (.bool (ZU r))/\Below w.heap.size w w':=by
 obtain⟨b,l,k,j⟩:=r;dsimp only at *;have a:=below_alloc1 w (Yg #[Yd Yf b,v,Yd Yf k,Yd Yf j] 39);have u:=ZbP (w.alloc (Yg #[Yd Yf b,v,Yd Yf k,Yd Yf j] 39)) v l k j (h.below a) t p.1.1 p.1.2 p.2.1 p.2.2;have s:=Lib.hid u;have d:=Lib.hid a;clear u a t p;obtain⟨A,c,rfl⟩:=Zc h;clear h;unfold ZU ZT;dsimp only;generalize ZM l k j=R at *;have n:∀(e:Ending) (w':Yh) (B:Bool),(e=.returned (.bool B)/\Below (w.alloc (Yg #[Yd Yf b,Yc A l.length c,Yd Yf k,Yd Yf j] 39)).heap.size (w.alloc (Yg #[Yd Yf b,Yc A l.length c,Yd Yf k,Yd Yf j] 39)) w')->e=.returned (.bool B)/\Below w.heap.size w w':=fun e w' B q=>⟨q.1,d.out.trans (q.2.mono d.out.size)⟩;clear n;by_cases f:b=0
 ·have y:(b != 0)=false:=by rw[f];rfl
  have v0:(b==0)=true:=by rw[f];rfl
  rw[v0];simp only[Bool.true_or,Bool.not_true,Bool.false_or];clear f v0;go_enter Tryz.func28,Tryz.ntmps28;go_wp2_with (go_at_call 44;go_fit s.out;rintro e x ⟨rfl,o⟩);go_ret;exact⟨rfl,d.out.trans (o.mono d.out.size)⟩
 ·have y:(b != 0)=true:=by simpa using f
  have v0:(b==0)=false:=by simpa using f
  rw[v0];by_cases g:b=1
  ·have z:(b != 1)=false:=by rw[g];rfl
   have m:(b==1)=true:=by rw[g];rfl
   rw[m];simp only[Bool.true_or,Bool.or_true,Bool.not_true,Bool.false_or];clear f g v0 m;go_enter Tryz.func28,Tryz.ntmps28;go_wp2_with (go_at_call 44;go_fit s.out;rintro e x ⟨rfl,o⟩);go_ret;exact⟨rfl,d.out.trans (o.mono d.out.size)⟩
  ·have z:(b != 1)=true:=by simpa using g
   have m:(b==1)=false:=by simpa using g
   rw[m];by_cases i:b=2
   ·have C:(b != 2)=false:=by rw[i];rfl
    have v2:(b==2)=true:=by rw[i];rfl
    rw[v2];simp only[Bool.or_true,Bool.not_true,Bool.false_or];clear f g i v0 m v2;go_enter Tryz.func28,Tryz.ntmps28;go_wp2_with (go_at_call 44;go_fit s.out;rintro e x ⟨rfl,o⟩);go_ret;exact⟨rfl,d.out.trans (o.mono d.out.size)⟩
   ·have C:(b != 2)=true:=by simpa using i
    have v2:(b==2)=false:=by simpa using i
    rw[v2];simp only[Bool.or_false,Bool.not_false,Bool.true_or];clear f g i v0 m v2 s;go_enter Tryz.func28,Tryz.ntmps28;go_wp2_with fail;go_ret;exact⟨rfl,d.out⟩
section
variable {H:Type} {enc:TypeId×Yi->H} {w:Yh} {base:Nat} {spare:Nat->Bool} {held:Bool}
end
end
section
open Go.RowKit Go.WideShapes Go.ChangeShapes Go.ChangeAt Go.Joins Go.Deep
def Zac (r:Rw):Prop:=Zz r.2.1/\Bd r.2.2/\(-9223372036854775808<=r.1/\r.1<=9223372036854775807)
section
variable {H:Type} {enc:TypeId×Yi->H} {w:Yh} {base:Nat} {spare:Nat->Bool} {held:Bool}
end
end
section
open Go.RowKit
theorem ZcE {w:Yh} {g:Nat} {c d:Int} (a:Blk w g #[Yd Yf c,Yd Yf d]):Za w (Yc (Ya ⟨g,0,Yb⟩) 1 1) [(c,d)]:=by refine⟨Ya ⟨g,0,Yb⟩,1,rfl,Nat.le_refl _,by decide,rfl,fun _=>⟨_,rfl,a.lt,fun j u hu=>?_⟩⟩;rw[Addr.add_lit,Nat.zero_add,a.cell j];simpa[Zq]using hu
abbrev ZK (op c d n e:Int):Rw:=(op,[(c,d)],(n,e))
theorem Zoq {w:Yh} {d rd:Int} {v:Yi} (h:ZfN w d rd v):ZA w v [ZK 2 1 1 0 1,ZK 1 (-1) 1 1 1,ZK 1 1 1 (-d) rd]:=by
 obtain⟨g,_,_,_,rfl,⟨l,rfl,i⟩,⟨m,rfl,k⟩,⟨b,rfl,a⟩,n,c,e⟩:=h;refine⟨Ya ⟨g,0,Yb⟩,3,[(Yc (Ya ⟨l,0,Yb⟩) 1 1,ZK 2 1 1 0 1),(Yc (Ya ⟨m,0,Yb⟩) 1 1,ZK 1 (-1) 1 1 1),(Yc (Ya ⟨b,0,Yb⟩) 1 1,ZK 1 1 1 (-d) rd)],rfl,Nat.le_refl _,by decide,rfl,⟨rfl,fun _=>⟨_,rfl,e.lt,fun j u hu=>?_⟩⟩,fun x f=>?_⟩
 ·rw[Addr.add_lit,Nat.zero_add,e.cell j,<-Array.getElem?_toList,c];simpa[Zr,Value.cells]using hu
 ·simp only[List.mem_cons,List.not_mem_nil,or_false]at f;rcases f with rfl|rfl|rfl
  ·exact ZcE i
  ·exact ZcE k
  ·exact ZcE a
theorem Zqr {w:Yh} {g a:Nat} {op c d n e:Int} (f:Blk w a #[Yd Yf c,Yd Yf d]) (b:Blk w g #[Yd Yf op,Yc (Ya ⟨a,0,Yb⟩) 1 1,Yd Yf n,Yd Yf e]):ZA w (Yc (Ya ⟨g,0,Yb⟩) 1 1) [ZK op c d n e]:=by
 refine⟨Ya ⟨g,0,Yb⟩,1,[(Yc (Ya ⟨a,0,Yb⟩) 1 1,ZK op c d n e)],rfl,Nat.le_refl _,by decide,rfl,⟨rfl,fun _=>⟨_,rfl,b.lt,fun j u hu=>?_⟩⟩,fun x h=>?_⟩
 ·rw[Addr.add_lit,Nat.zero_add,b.cell j];simpa[Zr]using hu
 ·rw[List.mem_singleton.1 h];exact ZcE f
theorem Zcz {op c d n e:Int} (b:-9223372036854775808<=op/\op<=9223372036854775807) (hc:Bd (c,d)) (a:Bd (n,e)):Zac (ZK op c d n e):=
 ⟨fun x f=>by rw[List.mem_singleton.1 f];exact hc,a,b⟩
end
section
open Go.RowKit
def Zcn (r:Rw):Bool:=!ZeX r.1 r.2.2.1
theorem Zmm (w:Yh) (v:Yi) (r:Rw) :
  Calls Tryz.prog 74 #[.agg #[Yd Yf r.1,v,Yd Yf r.2.2.1,Yd Yf r.2.2.2]] w fun e w'=>e=.returned (.bool (Zcn r))/\Below w.heap.size w w':=by
 obtain⟨c,l,b,f⟩:=r;dsimp only at *;have a:=below_alloc1 w (Yg #[Yd Yf c,v,Yd Yf b,Yd Yf f] 39);have g:=Lib.hid (fun(w':Yh)=>Zrf w' c b f);have d:=Lib.hid a;clear a;unfold Zcn;dsimp only;generalize ZeX c b=B at *;go_enter Tryz.func74,Tryz.ntmps74;go_wp2_with (go_at_call 75;go_fit (g.out _);rintro e i ⟨rfl,h⟩);go_ret;exact⟨rfl,d.out.trans (h.mono d.out.size)⟩
def ZhG (w:Yh) (pr:Rw->Bool) (ts:List Rw) (e:Ending) (w':Yh):Prop:=∃z:Int,e=.returned (Yd Yf z)/\decide (0<=z)=ts.any pr/\Below w.heap.size w w'
theorem Zmj (w:Yh) (U:Yi) (ts:List Rw) (H:∀t∈ts,Zac t) (h:ZA w U ts) :
  Calls Tryz.prog 101 #[U,.func (.func 28) #[] #[]] w (ZhG w ZU ts):=by
 obtain⟨A,c,S,rfl,M,N,E,F,O⟩:=h;obtain⟨n,z⟩:∃n,n=ts.length:=⟨_,rfl⟩
 have s:S.length=n:=by rw[z,<-E,List.length_map]
 have p:n<=9223372036854775807:=by unfold maxLen at N;omega
 rw[<-z]at M F⊢;have L:∀(l:Yh) (v:Yi) (t:Rw),t∈ts->Za l v t.2.1->Calls Tryz.prog 28 #[.agg #[Yd Yf t.1,v,Yd Yf t.2.2.1,Yd Yf t.2.2.2]] l fun r Y=>r=.returned (.bool (ZU t))/\Below l.heap.size l Y:=
  fun l v t Q B=>Zey l v t B (H t Q).1 (H t Q).2.1
 have i:=Lib.hid (And.intro s (And.intro E (And.intro p (And.intro O (And.intro z L)))));have V:=Lib.hid F;clear z s M N E F O p L H;go_enter Tryz.func101,Tryz.ntmps101;go_wp2_with fail;go_loopg [8] n (fun g X wr=>∃k:Nat,X=Yd Yf k/\k<=n/\g=n-k/\(ts.take k).any ZU=false/\Below w.heap.size w wr)
 case atStart=>exact⟨0,rfl,Nat.zero_le _,rfl,rfl,Below.refl _ _⟩
 case round=>
  obtain⟨k,rfl,P,G,a,j⟩:=hrel;by_cases f:k=n
  ·have e:ts.take k=ts:=by rw[f,i.out.2.2.2.2.1];exact List.take_length
   rw[e]at a;have D:=Lib.hid (show ZhG w ZU ts (.returned (Yd Yf (-1))) wr from⟨-1,rfl,by rw[a];rfl,j⟩);subst f;clear P G a j e;go_wp2_with fail;go_ret;exact D.out
  ·have o:k<n:=by omega
   obtain⟨x,C⟩:∃x,S[k]? = Ya x:=⟨_,Ym (by have:=i.out.1;omega)⟩
   obtain⟨ad,rfl,d0,d1,d2,d3⟩:=ZaT V.out j C (by omega);have B:=(i.out.2.2.2.1 x (List.mem_of_getElem? C)).below j;have b:ts[k]? = Ya x.2:=by rw[<-i.out.2.1,List.getElem?_map,C];rfl
   have T:=i.out.2.2.2.2.2 wr x.1 x.2 (List.mem_of_getElem? b) B;have u:(ts.take (k+1)).any ZU=ZU x.2:=by rw[List.take_add_one,b,List.any_append,a,Bool.false_or];simp
   have m:ZU x.2=true->decide (0<=(k:Int))=ts.any ZU:=fun W=>by
    rw[List.any_eq_true.2 ⟨_,List.mem_of_getElem? b,W⟩];exact decide_eq_true (by omega)
   have i1:(k:Int)<(n:Int):=by omega
   have i2:(0:Int)<=(k:Int):=by omega
   have wk:IntKind.i64.wrap ((k:Int)+1)=(k:Int)+1:=IntWalk.i64_in _ (by have:=i.out.2.2.1;omega);generalize ZU x.2=R at *;obtain⟨x1,xo,x2,x3,x4⟩:=x;dsimp only at *;have y:=Lib.hid j;have I:=Lib.hid (And.intro o G);have K:=Lib.hid T;have J:=Lib.hid (And.intro u m);clear B b u m C f o P G a j T;cases R
   ·go_wp2_with (go_at_call 28;go_fit K.out;rintro e Z ⟨rfl,d⟩);go_roundg (n-(k+1))
    case measure=>have:=I.out;omega
    case rel=>exact⟨k+1,by push_cast;rfl,by have:=I.out;omega,rfl,J.out.1,y.out.trans (d.mono y.out.size)⟩
   ·go_wp2_with (go_at_call 28;go_fit K.out;rintro e Z ⟨rfl,d⟩);go_ret;exact⟨k,rfl,J.out.2 trivial,y.out.trans (d.mono y.out.size)⟩
theorem ZfO (w:Yh) (b:Yi) (ts:List Rw) (c:∀t∈ts,Zac t) (h:ZA w b ts) :
  Calls Tryz.prog 68 #[b,.func (.func 28) #[] #[]] w fun e w'=>e=.returned (.bool (ts.any ZU))/\Below w.heap.size w w':=by
 have a:=Lib.hid (Zmj w b ts c h);clear h c;go_enter Tryz.func68,Tryz.ntmps68;go_wp2_with (go_at_call 101;go_fit a.out;rintro e g ⟨z,rfl,f,d⟩);go_ret;exact⟨by rw[<-f];rfl,d⟩
theorem Zmi (w:Yh) (S:Yi) (ts:List Rw) (h:ZA w S ts) :
  Calls Tryz.prog 101 #[S,.func (.func 74) #[] #[]] w (ZhG w Zcn ts):=by
 obtain⟨A,c,P,rfl,K,L,D,E,M⟩:=h;obtain⟨n,z⟩:∃n,n=ts.length:=⟨_,rfl⟩
 have s:P.length=n:=by rw[z,<-D,List.length_map]
 have p:n<=9223372036854775807:=by unfold maxLen at L;omega
 rw[<-z]at K E⊢;have J:∀(l:Yh) (v:Yi) (t:Rw),t∈ts->Za l v t.2.1->Calls Tryz.prog 74 #[.agg #[Yd Yf t.1,v,Yd Yf t.2.2.1,Yd Yf t.2.2.2]] l fun r W=>r=.returned (.bool (Zcn t))/\Below l.heap.size l W:=
  fun l v t _ _=>Zmm l v t
 have i:=Lib.hid (And.intro s (And.intro D (And.intro p (And.intro M (And.intro z J)))));have T:=Lib.hid E;clear z s K L D E M p J;go_enter Tryz.func101,Tryz.ntmps101;go_wp2_with fail;go_loopg [8] n (fun g V wr=>∃k:Nat,V=Yd Yf k/\k<=n/\g=n-k/\(ts.take k).any Zcn=false/\Below w.heap.size w wr)
 case atStart=>exact⟨0,rfl,Nat.zero_le _,rfl,rfl,Below.refl _ _⟩
 case round=>
  obtain⟨k,rfl,N,F,a,j⟩:=hrel;by_cases f:k=n
  ·have e:ts.take k=ts:=by rw[f,i.out.2.2.2.2.1];exact List.take_length
   rw[e]at a;have C:=Lib.hid (show ZhG w Zcn ts (.returned (Yd Yf (-1))) wr from⟨-1,rfl,by rw[a];rfl,j⟩);subst f;clear N F a j e;go_wp2_with fail;go_ret;exact C.out
  ·have o:k<n:=by omega
   obtain⟨x,B⟩:∃x,P[k]? = Ya x:=⟨_,Ym (by have:=i.out.1;omega)⟩
   obtain⟨Y,rfl,Z,d1,d2,d3⟩:=ZaT T.out j B (by omega);have O:=(i.out.2.2.2.1 x (List.mem_of_getElem? B)).below j;have b:ts[k]? = Ya x.2:=by rw[<-i.out.2.1,List.getElem?_map,B];rfl
   have Q:=i.out.2.2.2.2.2 wr x.1 x.2 (List.mem_of_getElem? b) O;have u:(ts.take (k+1)).any Zcn=Zcn x.2:=by rw[List.take_add_one,b,List.any_append,a,Bool.false_or];simp
   have m:Zcn x.2=true->decide (0<=(k:Int))=ts.any Zcn:=fun U=>by
    rw[List.any_eq_true.2 ⟨_,List.mem_of_getElem? b,U⟩];exact decide_eq_true (by omega)
   have i1:(k:Int)<(n:Int):=by omega
   have i2:(0:Int)<=(k:Int):=by omega
   have wk:IntKind.i64.wrap ((k:Int)+1)=(k:Int)+1:=IntWalk.i64_in _ (by have:=i.out.2.2.1;omega);generalize Zcn x.2=R at *;obtain⟨x1,xo,x2,x3,x4⟩:=x;dsimp only at *;have y:=Lib.hid j;have G:=Lib.hid (And.intro o F);have I:=Lib.hid Q;have H:=Lib.hid (And.intro u m);clear O b u m B f o N F a j Q;cases R
   ·go_wp2_with (go_at_call 74;go_fit I.out;rintro e X ⟨rfl,d⟩);go_roundg (n-(k+1))
    case measure=>have:=G.out;omega
    case rel=>exact⟨k+1,by push_cast;rfl,by have:=G.out;omega,rfl,H.out.1,y.out.trans (d.mono y.out.size)⟩
   ·go_wp2_with (go_at_call 74;go_fit I.out;rintro e X ⟨rfl,d⟩);go_ret;exact⟨k,rfl,H.out.2 trivial,y.out.trans (d.mono y.out.size)⟩
theorem Zjq (w:Yh) (b:Yi) (ts:List Rw) (h:ZA w b ts) :
  Calls Tryz.prog 68 #[b,.func (.func 74) #[] #[]] w fun e w'=>e=.returned (.bool (ts.any Zcn))/\Below w.heap.size w w':=by
 have a:=Lib.hid (Zmi w b ts h);clear h;go_enter Tryz.func68,Tryz.ntmps68;go_wp2_with (go_at_call 101;go_fit a.out;rintro e f ⟨z,rfl,d,c⟩);go_ret;exact⟨by rw[<-d];rfl,c⟩
end
section
open Go.RowKit
theorem ZmC (w:Yh) (v:Yi) (r:Rw) (h:Za w v r.2.1) (m:Zz r.2.1) (d:Bd r.2.2) :
  Calls Tryz.prog 78 #[.agg #[Yd Yf r.1,v,Yd Yf r.2.2.1,Yd Yf r.2.2.2]] w fun e w'=>e=.returned (.bool (!ZU r))/\Below w.heap.size w w':=by
 obtain⟨b,l,i,g⟩:=r;dsimp only at *;have a:=below_alloc1 w (Yg #[Yd Yf b,v,Yd Yf i,Yd Yf g] 39);have n:=ZaN (w.alloc (Yg #[Yd Yf b,v,Yd Yf i,Yd Yf g] 39)) v l i g (h.below a) m d.1.1 d.1.2 d.2.1 d.2.2;have o:=zh n;have f:=zh a;clear n a m d;obtain⟨A,c,rfl⟩:=Zc h;clear h;unfold ZU ZT;dsimp only;generalize ZM l i g=R at *;by_cases j:0<=b
 ·by_cases k:b<=2
  ·have e:(b==0||b==1||b==2)=true:=by
    rcases(show b=0\/b=1\/b=2 by omega)with rfl|rfl|rfl<;>rfl
   rw[e,Bool.not_true,Bool.false_or,Bool.not_not];clear e;have i0:decide (0<=b)=true:=decide_eq_true j;have i2:decide (b<=2)=true:=decide_eq_true k;go_enter Tryz.func78,Tryz.ntmps78;go_wp2_with (go_at_call 51;go_fit o.out;rintro e s ⟨rfl,p⟩);go_ret;exact⟨rfl,f.out.trans (p.mono f.out.size)⟩
  ·have e:(b==0||b==1||b==2)=false:=by simp;omega
   rw[e,Bool.not_false,Bool.true_or,Bool.not_true];clear e;have i0:decide (0<=b)=true:=decide_eq_true j;have i2:decide (b<=2)=false:=decide_eq_false k;go_enter Tryz.func78,Tryz.ntmps78;go_wp2_with fail;go_ret;exact⟨rfl,f.out⟩
 ·have e:(b==0||b==1||b==2)=false:=by simp;omega
  rw[e,Bool.not_false,Bool.true_or,Bool.not_true];clear e;have i0:decide (0<=b)=false:=decide_eq_false j;go_enter Tryz.func78,Tryz.ntmps78;go_wp2_with fail;go_ret;exact⟨rfl,f.out⟩
theorem Zrm (w:Yh) (v:Yi) (l:List Int) (c:Int) (h:ZaR w v l) :
  Calls Tryz.prog 127 #[Yd Yf c,v] w fun e w'=>e=.returned (.bool (l.contains c))/\w=w':=by
 obtain⟨A,G,rfl,B,C,r⟩:=h;obtain⟨n,t⟩:∃n,n=l.length:=⟨_,rfl⟩
 have i:n<=9223372036854775807:=by unfold maxLen at C;omega
 rw[<-t]at B r⊢;have p:=zh (zi t i);have E:=zh r;clear t B C r i;go_enter Tryz.func127,Tryz.ntmps127;go_wp2_with fail;go_loopg [5] n (fun g v5 wr=>w=wr/\∃k:Nat,v5=Yd Yf k/\k<=n/\g=n-k/\(l.take k).contains c=false)
 case atStart=>exact⟨rfl,0,rfl,Nat.zero_le _,rfl,rfl⟩
 case round=>
  obtain⟨rfl,k,rfl,D,s,a⟩:=hrel;by_cases b:k=n
  ·have e:l.take k=l:=by rw[b,p.out.1];exact List.take_length
   rw[e]at a;have o:=zh a;subst b;clear D s a e;go_wp2_with fail;go_ret;exact⟨by rw[o.out];rfl,rfl⟩
  ·have f:k<n:=by omega
   obtain⟨x,m⟩:∃x,l[k]? = Ya x:=⟨_,Ym (by have:=p.out.1;omega)⟩
   obtain⟨F,rfl,H⟩:=ZbM E.out (Below.refl _ _) m (by omega);have j:=Zlq (c:=c) m a
   have d:(x==c)=true->l.contains c=true:=fun q=>by
    have q:x=c:=by simpa using q
    rw[<-q];simpa using List.mem_of_getElem? m
   have i1:(k:Int)<(n:Int):=by omega
   have i2:(0:Int)<=(k:Int):=by omega
   have I:IntKind.i64.wrap ((k:Int)+1)=(k:Int)+1:=IntWalk.i64_in _ (by have:=p.out.2;omega);have y:=zh (zi f s);have z:=zh (zi j d);clear j d m b f D s a;cases hq:(x==c)
   ·go_wp2_with fail;go_roundg (n-(k+1))
    case measure=>have:=y.out;omega
    case rel=>
     have u:(c==x)=false:=by rw[beq_eq_false_iff_ne]at hq⊢;exact fun q=>hq q.symm
     exact⟨rfl,k+1,by push_cast;rfl,by have:=y.out;omega,rfl,z.out.1.trans u⟩
   ·go_wp2_with fail;go_ret;exact⟨by rw[z.out.2 hq];rfl,rfl⟩
structure SclS (w wr:Yh) (op:Int) (v:Yi) (kn kd bn bd:Int):Prop where
 R:Blk wr w.heap.size #[Yd Yf op,v,Yd Yf kn,Yd Yf kd]
 Q:Blk wr (w.heap.size+1) #[Yd Yf bn,Yd Yf bd]
 Z:Blk wr (w.heap.size+1+1) #[Yd Yf 0,Yc Yb 0 0,Yd Yf 0,Yd Yf 0]
 below:Below w.heap.size w wr
theorem SclS.keep {w wr d:Yh} {op:Int} {v:Yi} {kn kd c b:Int} (h:SclS w wr op v kn kd c b) (a:Below wr.heap.size wr d):SclS w d op v kn kd c b:=
 ⟨h.R.keep a,h.Q.keep a,h.Z.keep a,h.below.trans (a.mono h.below.size)⟩
def ZrH (w:Yh) (op:Int) (P:List (Int×Int)×(Int×Int)×Int) (e:Ending) (w':Yh):Prop:=
 ∃A c,e=.returned (.tuple #[.agg #[Yd Yf op,Yc A P.1.length c,Yd Yf P.2.1.1,Yd Yf P.2.1.2],.bool (P.2.2==0)])/\Za w' (Yc A P.1.length c) P.1/\Below w.heap.size w w'/\Zp w.heap.size (Yc A P.1.length c)
theorem ZmK (w:Yh) (v:Yi) (r:Rw) (kb:Int×Int) (M:Za w v r.2.1) (Y:Zz r.2.1) (hx:Bd r.2.2) (W:Bd kb) :
  Calls Tryz.prog 126 #[.agg #[Yd Yf r.1,v,Yd Yf r.2.2.1,Yd Yf r.2.2.2],Zb kb.1 kb.2] w (ZrH w r.1 (Zh r.2.1 r.2.2 kb)):=by
 obtain⟨f,l,N⟩:=r;dsimp only at *;have td:=fun(w':Yh) (h:Below w.heap.size w w')=>Zdk w' v l N kb (M.below h) Y hx W;generalize Zh l N kb=P at *;obtain⟨L,⟨k,m⟩,V⟩:=P;obtain⟨y,u⟩:=N;obtain⟨s,o⟩:=kb;dsimp only at *;obtain⟨A,c,rfl⟩:=Zc M;have T:=zh td;clear td M Y hx W;generalize l.length=n at *
 have D:=zh (show SclS w (((w.alloc (Yg #[Yd Yf f,Yc A n c,Yd Yf y,Yd Yf u] 39)).alloc (Yg #[Yd Yf s,Yd Yf o] 23)).alloc (Yg #[Yd Yf 0,Yc Yb 0 0,Yd Yf 0,Yd Yf 0] 39)) f (Yc A n c) y u s o from by
  have O:=Blk.start (w.alloc (Yg #[Yd Yf f,Yc A n c,Yd Yf y,Yd Yf u] 39)) #[Yd Yf s,Yd Yf o] 23;have I:=Blk.start ((w.alloc (Yg #[Yd Yf f,Yc A n c,Yd Yf y,Yd Yf u] 39)).alloc (Yg #[Yd Yf s,Yd Yf o] 23)) #[Yd Yf 0,Yc Yb 0 0,Yd Yf 0,Yd Yf 0] 39;rw[World.size_alloc]at O I;rw[World.size_alloc]at I
  exact⟨((Blk.start w _ _).keep (below_alloc1 _ _)).keep (below_alloc1 _ _),O.keep (below_alloc1 _ _),I,(below_alloc2 w _ _).trans ((below_alloc1 _ _).mono (by simp;omega))⟩)
 go_enter Tryz.func126,Tryz.ntmps126;go_upto_region 1 with fail;generalize((w.alloc (Yg #[Yd Yf f,Yc A n c,Yd Yf y,Yd Yf u] 39)).alloc (Yg #[Yd Yf s,Yd Yf o] 23)).alloc (Yg #[Yd Yf 0,Yc Yb 0 0,Yd Yf 0,Yd Yf 0] 39)=g at *;have r1:g.cell? ⟨w.heap.size,1,Yb⟩=Ya (Yc A n c):=D.out.R.cell 1;have r2:g.cell? ⟨w.heap.size,2,Yb⟩=Ya (Yd Yf y):=D.out.R.cell 2;have r3:g.cell? ⟨w.heap.size,3,Yb⟩=Ya (Yd Yf u):=D.out.R.cell 3;have b0:g.cell? ⟨w.heap.size+1,0,Yb⟩=Ya (Yd Yf s):=D.out.Q.cell 0;have b1:g.cell? ⟨w.heap.size+1,1,Yb⟩=Ya (Yd Yf o):=D.out.Q.cell 1;go_upto_region 2 with(go_at_call 33;go_fit (T.out _ D.out.below);rintro e5 t S;have H6:∃A c,e5=.returned (.tuple #[.agg #[Yc A L.length c,Yd Yf k,Yd Yf m],Yd Yf V])/\Za t (Yc A L.length c) L/\Below g.heap.size g t/\Zp g.heap.size (Yc A L.length c):=Zch S;obtain⟨b,d,rfl,C,B,z⟩:=H6)
 have J:=below_alloc1 t (Yg #[.slice b L.length d,Yd Yf k,Yd Yf m] 37);have U:=Blk.start t #[.slice b L.length d,Yd Yf k,Yd Yf m] 37;have a:=zh (zi ((D.out.keep B).keep J) (zi U (zi (C.below J) (show Zp (w.heap.size+1+1+1) (.slice b L.length d)from z.mono D.out.Z.lt))));clear r1 r2 r3 b0 b1 D S C B z J U T;generalize t.heap.size=K at *;generalize t.alloc (Yg #[.slice b L.length d,Yd Yf k,Yd Yf m] 37)=j at *;have r0:j.cell? ⟨w.heap.size,0,Yb⟩=Ya (Yd Yf f):=a.out.1.R.cell 0;have x0:j.cell? ⟨K,0,Yb⟩=Ya (.slice b L.length d):=a.out.2.1.cell 0;have x1:j.cell? ⟨K,1,Yb⟩=Ya (Yd Yf k):=a.out.2.1.cell 1;have x2:j.cell? ⟨K,2,Yb⟩=Ya (Yd Yf m):=a.out.2.1.cell 2;have z0:j.cell? ⟨w.heap.size+1+1,0,Yb⟩=Ya (Yd Yf 0):=a.out.1.Z.cell 0;have z1:j.cell? ⟨w.heap.size+1+1,1,Yb⟩=Ya (Yc Yb 0 0):=a.out.1.Z.cell 1;have z2:j.cell? ⟨w.heap.size+1+1,2,Yb⟩=Ya (Yd Yf 0):=a.out.1.Z.cell 2;have z3:j.cell? ⟨w.heap.size+1+1,3,Yb⟩=Ya (Yd Yf 0):=a.out.1.Z.cell 3;have q0:=a.out.1.Z.free 0;have q1:=a.out.1.Z.free 1;have q2:=a.out.1.Z.free 2;have q3:=a.out.1.Z.free 3;generalize hE:(V==0)=E at *;go_wp2_with fail;have G:=(((a.out.1.Z.set 0 (Yd Yf f)).set 1 (.slice b L.length d)).set 2 (Yd Yf k)).set 3 (Yd Yf m);have y0:=G.cell 0;have y1:=G.cell 1;have y2:=G.cell 2;have y3:=G.cell 3;have X:=a.out.2.2.2;have H:∀{F:Yh} (_:Za F (.slice b L.length d) L) (i:Nat) (x:Yi),Za (F.setCell ⟨w.heap.size+1+1,i,Yb⟩ x) (.slice b L.length d) L:=fun h i x=>h.setCell X (Nat.lt_succ_self _) x;have e:∀{F:Yh} (_:Below w.heap.size w F) (i:Nat) (x:Yi),Below w.heap.size w (F.setCell ⟨w.heap.size+1+1,i,Yb⟩ x):=fun h i x=>h.setCell (p:=⟨w.heap.size+1+1,i,Yb⟩) (by show w.heap.size<=w.heap.size+1+1;omega) x
 exact bodyPost_ret (v:=.tuple #[.agg #[Yd Yf f,.slice b L.length d,Yd Yf k,Yd Yf m],.bool E]) (by simp[results,Tryz.results126,go_sem,y0,y1,y2,y3]) rfl
  ⟨b,d,by rw[<-hE],H (H (H (H a.out.2.2.1 _ _) _ _) _ _) _ _,e (e (e (e a.out.1.below _ _) _ _) _ _) _ _,X.mono (by omega)⟩
end
end Go.Proofs.YtbfnnolakggbfaaGreatDoor
