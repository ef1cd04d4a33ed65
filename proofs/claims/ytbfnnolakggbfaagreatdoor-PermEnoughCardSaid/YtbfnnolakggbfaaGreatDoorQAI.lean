import Derived.Deep.DeepFit
import Derived.ProofKit
import Derived.Lib.SmallJoins
import Derived.Deep.LoopGhost
import Derived.BigQuiet
import Derived.Deep.QuietTactic
import Derived.Lib.AppendIntMem
import Derived.Test.YtbfnnolakggbfaaGreatDoorQAA
import Derived.Test.YtbfnnolakggbfaaGreatDoorQAE
import Derived.Test.YtbfnnolakggbfaaGreatDoorQAH
set_option maxRecDepth 100000
set_option maxHeartbeats 8000000
open Option renaming some → Ya, none → Yb
open Go.Value renaming slice → Yc, int → Yd
open Go.IntKind renaming i64 → Yf
open Go.Obj renaming cells → Yg
open Go renaming World → Yh, Value → Yi
namespace Go.Proofs.YtbfnnolakggbfaaGreatDoor
section
open Go.RowKit
structure Live (w w1:Yh) (l:List (Nat×Int×Int)):Prop where
 rats:∀x,x∈l->RatAt w1 x.1 x.2.1 x.2.2
 below:Below w.heap.size w w1
theorem Live.start (w:Yh):Live w w []:=⟨fun _ h=>(nomatch h),Below.refl _ _⟩
theorem Live.call {w a c:Yh} {l:List (Nat×Int×Int)} (h:Live w a l) (b:Below a.heap.size a c):Live w c l:=
 ⟨fun x d=>(h.rats x d).keep b,h.below.trans (b.mono h.below.size)⟩
theorem Live.box {w a:Yh} {l:List (Nat×Int×Int)} (h:Live w a l) (n d:Int):Live w (a.alloc (Yg #[Yd Yf n,Yd Yf d] 23)) ((a.heap.size,n,d)::l):=
 ⟨fun x b=>by
  rcases List.mem_cons.1 b with rfl|b
  ·exact RatAt.start a n d _
  ·exact(h.rats x b).keep (below_alloc1 _ _),h.below.trans ((below_alloc1 _ _).mono h.below.size)⟩
theorem Live.boxAt {w a:Yh} {l:List (Nat×Int×Int)} (h:Live w a l) (n d:Int) (b:Nat) (c:b=a.heap.size):Live w (a.alloc (Yg #[Yd Yf n,Yd Yf d] 23)) ((b,n,d)::l):=by rw[c];exact h.box n d
theorem Live.n {w a:Yh} {l:List (Nat×Int×Int)} (h:Live w a l) (i:Nat) {b:Nat} {n d:Int} (c:l[i]? = Ya (b,n,d)):a.cell? ⟨b,0,Yb⟩=Ya (Yd Yf n):=
 (h.rats _ (List.mem_of_getElem? c)).k0
theorem Live.d {w a:Yh} {l:List (Nat×Int×Int)} (h:Live w a l) (i:Nat) {b:Nat} {n d:Int} (c:l[i]? = Ya (b,n,d)):a.cell? ⟨b,1,Yb⟩=Ya (Yd Yf d):=
 (h.rats _ (List.mem_of_getElem? c)).k1
theorem Valid.nought:Valid 0 1:=⟨by decide,by decide,by decide,by decide⟩
theorem Valid.one:Valid 1 1:=⟨by decide,by decide,by decide,by decide⟩
theorem Zo9 {n m x:Int} {d e y:Nat} (v:Valid n d) (u:Valid m e) (z:Valid x y) (h:x*((d*e:Nat):Int)=n*m*(y:Int)) (w:Yh) :
  Calls Tryz.prog 26 #[Zb n d,Zb m e] w fun r w'=>r=.returned (.tuple #[Zb x y,Yd Yf 0])/\Below w.heap.size w w':=by
 obtain⟨a,b,c⟩:=Zhm (Nat.mul_pos v.pos u.pos) z h;have:=Zhi v u w;unfold Zcx at this;rwa[a,b,c]at this
end
section
open Go.RowKit Go.WideShapes Go.ChangeShapes Go.ChangeAt Go.Joins
section
variable {H:Type} {enc:TypeId×Yi->H} {P:Program}
theorem ZgN {f:Func} {s:ChangeSpec} {c n d m:Bool} {W u:Yh} {args:Array Yi} {v:Yi} {w x:List (DataW H)} {a pa pv:List MemPlace}
  (B:DataW.Whole enc P f.params.toList s.vars c W args.toList w x a)
  (l:∀(b:Nat) (o:Nat->Bool) (F:Bool),DataW.TrodAll enc P u b o F f.resultTypes.toList (v.resultList f.resultTypes.size) (s.fn H (w++x)).results [])
  (e:∀o:Nat->Bool,(∀p∈a,o p.block=true)->DataW.TrodAll enc P u 0 o true f.params.toList args.toList (s.fn H (w++x)).args pa)
  (h:∀o:Nat->Bool,(∀p∈a,o p.block=true)->DataW.TrodVars enc P u o s.vars (s.fn H (w++x)).vars pv)
  (i:a=pa++pv) (D:Below W.heap.size W u)
  (C:∀(j:Nat) (t:TypeId) (r:Yi),f.resultTypes[j]? = Ya t->(v.resultList f.resultTypes.size)[j]? = Ya r->Value.okWide P u .any 0 t r) :
  s.post enc P f c n d m W args v u:=by
 have z:∀p∈a,p.block<W.heap.size:=fun p g=>B.lt p g;have k:∀p∈a,(fun b=>decide (b<W.heap.size)) p.block=true:=fun p g=>by simpa using z p g
 refine⟨w,x,a,[],pa,pv,B,l _ _ _,e _ k,h _ k,World.keptBut_mono (fun p g=>⟨g,?_⟩) (D.frame (·∈a)),fun _=>?_⟩
 ·rw[i,List.mem_append]at g;exact Or.inr g
 ·obtain⟨_,_,_,_,_,I,G⟩:=B;refine⟨C,_,_,([]++pa)++pv,⟨[]++pa,pv,trodAll_append (e _ (fun _ _=>rfl)) (l _ _ _),h _ (fun _ _=>rfl),rfl,?_,?_⟩,?_⟩
  ·intro b A g;have y:MemPlace.cell b A∈a:=by rw[i];simpa using g
   rw[D.frozen (z _ y)];exact I b A y
  ·intro E;have:=G E;rw[i]at this;simpa using this
  ·intro p g _;rw[i];simpa using g
end
theorem Tryz.own:ownKnob Tryz.prog.godebug=Yb:=by kernel_rfl
theorem Tryz.cellsRat:Tryz.prog.cellsOf 23=2:=by kernel_rfl
theorem wf_i64 {n:Int} (h:(Lit.int Yf n).wf=true):-9223372036854775808<=n/\n<=9223372036854775807:=by
 simp only[Lit.wf,Bool.and_eq_true,decide_eq_true_eq]at h;have a:IntKind.i64.min=-9223372036854775808:=by decide
 have b:IntKind.i64.max=9223372036854775807:=by decide
 rw[a,b]at h;exact h
theorem ZlF {H:Type} {enc:TypeId×Yi->H} {w:Yh} {base t:Nat} {a:Nat->Bool} {c:Bool} {v:Yi} {d:DataW H} {p:List MemPlace} {r:Reach}
  (u:Value.okWide Tryz.prog w r t 23 v) (h:DataW.Trod enc Tryz.prog w base a c 23 v d p) :
  ∃n e:Int,v=Zb n e/\d=.agg [.lit (.int Yf n),.lit (.int Yf e)]/\p=[]/\(-9223372036854775808<=n/\n<=9223372036854775807)/\(-9223372036854775808<=e/\e<=9223372036854775807) ∧
   ∀(W:Yh) (b:Nat) (l:Nat->Bool) (k:Bool),DataW.Trod enc Tryz.prog W b l k 23 (Zb n e) (.agg [.lit (.int Yf n),.lit (.int Yf e)]) []:=by
 obtain⟨c0,c1,x,y,m,rfl,rfl,rfl,f,g⟩:=open_agg2 Tryz.underlying23 (by kernel_rfl) Tryz.cellsRat u h;obtain⟨n,i,rfl,o⟩:=DataW.trod_int Tryz.underlying2 f;obtain⟨e,j,rfl,s⟩:=DataW.trod_int Tryz.underlying2 g;simp at i j;subst i j
 exact⟨n,e,rfl,rfl,rfl,wf_i64 o,wf_i64 s,fun W b l k=>shut_agg2 (y0:=(.lit (.int Yf n),[])) (y1:=(.lit (.int Yf e),[])) Tryz.underlying23 (by kernel_rfl) Tryz.cellsRat
  ⟨1,by simp[DataW.trod,Tryz.underlying2,o]⟩ ⟨1,by simp[DataW.trod,Tryz.underlying2,s]⟩⟩
end
section
open Go.RowKit
def Zq:List (Int×Int)->List Yi
 |[]=>[]
 |x::r=>Yd Yf x.1::Yd Yf x.2::Zq r
theorem ZdL:∀l,(Zq l).length=l.length*2
 |[]=>rfl
 |x::r=>by rw[Zq,List.length_cons,List.length_cons,ZdL r,List.length_cons];omega
theorem ZfA:∀(l:List (Int×Int)) (k:Nat) (x:Int×Int),l[k]? = Ya x->(Zq l)[k*2]? = Ya (Yd Yf x.1)/\(Zq l)[k*2+1]? = Ya (Yd Yf x.2)
 |[],k,x,h=>by simp at h
 |y::r,0,x,h=>by
  obtain rfl:y=x:=by simpa using h
  exact⟨rfl,rfl⟩
 |y::r,k+1,x,h=>by
  rw[List.getElem?_cons_succ]at h;obtain⟨a,b⟩:=ZfA r k x h;exact⟨by rw[show(k+1)*2=k*2+1+1 by omega];exact a,by rw[show(k+1)*2+1=k*2+1+1+1 by omega];exact b⟩
def Za (w:Yh) (v:Yi) (l:List (Int×Int)):Prop:=∃A c,v=Yc A l.length c/\l.length<=c/\c<=maxLen/\Zw w w.heap.size 2 A l.length (Zq l)
theorem Za.below {w w':Yh} {v:Yi} {l:List (Int×Int)} (h:Za w v l) (a:Below w.heap.size w w'):Za w' v l:=by obtain⟨A,c,b,d,e,f⟩:=h;exact⟨A,c,b,d,e,(f.below a).more a.size⟩
theorem Za.nil (w:Yh):Za w (Yc Yb 0 0) []:=⟨Yb,0,rfl,Nat.le_refl _,by decide,Zw.none_⟩
theorem Znj {w:Yh} {A:Option Addr} {n:Nat} {l:List (Int×Int)} (d:Zw w w.heap.size 2 A n (Zq l)) {k:Nat} {x:Int×Int} (f:l[k]? = Ya x) (g:0<n) :
  ∃c,A=Ya c/\w.cell? (c.add (k*2))=Ya (Yd Yf x.1)/\w.cell? (c.add (k*2+1))=Ya (Yd Yf x.2):=by
 obtain⟨c,e,_,hc⟩:=d.2 g;obtain⟨a,b⟩:=ZfA l k x f;exact⟨c,e,hc _ _ a,hc _ _ b⟩
def Za6 (l:List (Int×Int)):Bool:=l.all fun x=>Zaf x.1 x.2
def Zz (l:List (Int×Int)):Prop:=∀x,x∈l->(-9223372036854775808<=x.1/\x.1<=9223372036854775807)/\(-9223372036854775808<=x.2/\x.2<=9223372036854775807)
theorem ZlC (n d:Int) (w:Yh) (b:∀w,Calls Tryz.prog 34 #[Zb n d] w fun r w'=>r=.returned (.bool (Zaf n d))/\Below w.heap.size w w') :
  Calls Tryz.prog 100 #[Zb n d] w fun r w'=>r=.returned (.bool (!Zaf n d))/\Below w.heap.size w w':=by
 have L:=(Live.start w).box n d;generalize Zaf n d=R at *;go_enter Tryz.func100,Tryz.ntmps100;go_wp2_with (go_at_call 34;go_fit (b _);rintro e c ⟨rfl,a⟩;have L:=L.call a);go_ret;exact⟨rfl,L.below⟩
theorem Zfb {l:List (Int×Int)} {k:Nat} {x:Int×Int} (a:l[k]? = Ya x) (h:Za6 (l.take k)=true):Za6 (l.take (k+1))=Zaf x.1 x.2:=by
 have b:k<l.length:=by
  rcases Nat.lt_or_ge k l.length with g|g
  ·exact g
  ·rw[List.getElem?_eq_none g]at a;cases a
 unfold Za6 at *;rw[List.take_succ_eq_append_getElem b,List.all_append,h,Bool.true_and];have e:l[k]=x:=by rw[List.getElem?_eq_getElem b]at a;exact Option.some.inj a
 rw[e];simp
theorem Zga {l:List (Int×Int)} {k:Nat} {x:Int×Int} (a:l[k]? = Ya x) (h:Zaf x.1 x.2=false):Za6 l=false:=by unfold Za6;rw[List.all_eq_false];exact⟨x,List.mem_of_getElem? a,by rw[h];decide⟩
theorem Zo0 (w:Yh) (v:Yi) (l:List (Int×Int)) (h:Za w v l) (O:Zz l) :
  Calls Tryz.prog 144 #[v,.func (.func 100) #[] #[]] w fun r w'=>∃z:Int,r=.returned (Yd Yf z)/\(decide (0<=z)=!Za6 l)/\Below w.heap.size w w':=by
 obtain⟨A,c,rfl,E,M,F⟩:=h;have G:=M;unfold maxLen at G;obtain⟨n,I⟩:∃n,n=l.length:=⟨_,rfl⟩
 rw[<-I]at E F⊢;have D:=Lib.hid (And.intro I (And.intro O (And.intro E G)));have J:=Lib.hid F;clear I O E M F G;go_enter Tryz.func144,Tryz.ntmps144;go_wp2_with fail;go_loopg [8] n (fun g Q wr=>∃k:Nat,Q=Yd Yf k/\k<=n/\g=n-k/\Za6 (l.take k)=true/\Below w.heap.size w wr)
 case atStart=>exact⟨0,rfl,Nat.zero_le _,rfl,by rw[List.take_zero];rfl,Below.refl _ _⟩
 case round=>
  obtain⟨k,rfl,N,H,a,b⟩:=hrel;by_cases i:k=n
  ·have u:Za6 l=true:=by rw[i,D.out.1,List.take_length]at a;exact a
   subst i;have K:=Lib.hid (And.intro u b);clear N H a b u;go_wp2_with fail;go_ret;exact⟨-1,rfl,by rw[K.out.1];rfl,K.out.2⟩
  ·have y:k<n:=by omega
   obtain⟨x,B⟩:∃x,l[k]? = Ya x:=⟨_,List.getElem?_eq_getElem (by have:=D.out.1;omega)⟩
   obtain⟨s,rfl,c1,c2⟩:=Znj J.out B (by omega);obtain⟨j,m⟩:=D.out.2.1 x (List.mem_of_getElem? B);have f:s.block<w.heap.size:=by obtain⟨_,e,b,_⟩:=J.out.2 (by omega);injection e with e;subst e;exact b
   have d1:=(b.cell (p:=s.add (k*2)) (by rw[ZJ];exact f)).trans c1;have d2:=(b.cell (p:=s.add (k*2+1)) (by rw[ZJ];exact f)).trans c2;rw[<-ZcA]at d2;have T:wr.cell? ⟨(s.add (k*2)).block,(s.add (k*2)).off+1,Yb⟩=Ya (Yd Yf x.2):=d2;clear d2;have P:=fun w=>ZlC x.1 x.2 w (fun w=>Zdv x.1 x.2 w j.1 j.2 m.1 m.2);have C:=Zfb B a;have t:=@Zga l k x B;have i1:(k:Int)<(n:Int):=by omega
   have i2:(0:Int)<=(k:Int):=by omega
   have U:IntKind.i64.wrap ((k:Int)+1)=(k:Int)+1:=IntWalk.i64_in _ (by have:=D.out;omega);generalize Zaf x.1 x.2=R at *;generalize x.1=W at *;generalize x.2=V at *;have o:=Lib.hid (And.intro y (And.intro H b));have L:=Lib.hid (And.intro C t);clear N H a b i y B j m c1 c2 f C t;cases R
   ·go_wp2_with (go_at_call 100;go_fit (P _);rintro e S ⟨rfl,d⟩);go_ret;exact⟨k,rfl,by rw[L.out.2 trivial];simp,o.out.2.2.trans (d.mono o.out.2.2.size)⟩
   ·go_wp2_with (go_at_call 100;go_fit (P _);rintro e S ⟨rfl,d⟩);go_roundg (n-(k+1))
    case measure=>have:=o.out;omega
    case rel=>exact⟨k+1,by push_cast;rfl,by have:=o.out;omega,rfl,L.out.1,o.out.2.2.trans (d.mono o.out.2.2.size)⟩
theorem Zle (w:Yh) (v:Yi) (l:List (Int×Int)) (h:Za w v l) (a:Zz l) :
  Calls Tryz.prog 99 #[v,.func (.func 100) #[] #[]] w fun r w'=>r=.returned (.bool (!Za6 l))/\Below w.heap.size w w':=by
 have d:=Zo0 w v l h a;clear h a;generalize Za6 l=R at *;go_enter Tryz.func99,Tryz.ntmps99;go_wp2_with (go_at_call 144;go_fit d;rintro e f ⟨z,rfl,c,b⟩);go_ret;exact⟨by rw[<-c];rfl,b⟩
theorem ZgZ (w:Yh) (v:Yi) (l:List (Int×Int)) (h:Za w v l) (a:Zz l) :
  Calls Tryz.prog 65 #[v] w fun r w'=>r=.returned (.bool (Za6 l))/\Below w.heap.size w w':=by
 have c:=Zle w v l h a;clear h a;generalize Za6 l=R at *;go_enter Tryz.func65,Tryz.ntmps65;go_wp2_with (go_at_call 99;go_fit c;rintro e d ⟨rfl,b⟩);go_ret;exact⟨by simp,b⟩
end
section
open Go.RowKit
theorem Zqd {w a b:Yh} {d e:Yi} (c:Below a.heap.size a b)
  (h:(a.cell? ⟨w.heap.size,0,Yb⟩=Ya d/\a.cell? ⟨w.heap.size,1,Yb⟩=Ya e)/\w.heap.size+0<a.heap.size/\Below w.heap.size w a) :
  (b.cell? ⟨w.heap.size,0,Yb⟩=Ya d/\b.cell? ⟨w.heap.size,1,Yb⟩=Ya e)/\w.heap.size+0<b.heap.size/\Below w.heap.size w b:=by
 obtain⟨⟨a0,f⟩,g,k⟩:=h;have i:=c.size;exact⟨⟨Zd c (by omega) a0,Zd c (by omega) f⟩,by omega,k.trans (c.mono k.size)⟩
theorem Zpa {w a:Yh} {A B:Prop} (h:A/\B/\Below w.heap.size w a):Below w.heap.size w a:=h.2.2
theorem Zre {g:Nat}:(bitsOf g).length=1↔g=1:=by
 constructor
 ·intro h;have b:=Zca (bitsOf g);rw[Zab,h]at b;have:g≠0:=by intro a;rw[a,ZaM]at h;simp at h
  omega
 ·intro h;subst h;rw[Zbz (by decide),show(1:Nat) / 2=0 by decide,ZaM];rfl
theorem ZaC (n d:Int) (w:Yh) (c:-9223372036854775808<=n) (f:n<=9223372036854775807) (i:-9223372036854775808<=d) (j:d<=9223372036854775807) :
  Calls Tryz.prog 37 #[Zb n d] w fun e w'=>e=.returned (.bool (Zaf n d))/\Below w.heap.size w w':=by
 have t:=fun w=>Zfq n w c f;have u:=fun w=>Zfq d w i j;have k:(bitsOf n.natAbs).length<=298:=Nat.le_trans (Zhc (by omega)) (by decide);have l:(bitsOf d.natAbs).length<=298:=Nat.le_trans (Zhc (by omega)) (by decide);by_cases o:d<=0
 ·have a:Zaf n d=false:=decide_eq_false (fun h=>by omega);rw[a];have z:decide (d<=0)=true:=decide_eq_true o;clear t u k l a c f i j;go_enter Tryz.func37,Tryz.ntmps37;go_wp2_with fail;go_ret;exact⟨rfl,below_alloc1 _ _⟩
 ·have z:decide (d<=0)=false:=decide_eq_false o;by_cases b:n=-9223372036854775808
  ·have a:Zaf n d=false:=decide_eq_false (fun h=>h.2.1 b);rw[a];have t2:(n==-9223372036854775808)=true:=by simpa using b
   clear t u k l a c f i j b;go_enter Tryz.func37,Tryz.ntmps37;go_wp2_with fail;go_ret;exact⟨rfl,below_alloc1 _ _⟩
  ·have t2:(n==-9223372036854775808)=false:=by simpa using b
   have a:Zaf n d=(((bitsOf (Nat.gcd n.natAbs d.natAbs)).length:Int)==1):=by
    rw[Bool.eq_iff_iff];unfold Zaf;rw[decide_eq_true_iff,beq_iff_eq];have:=Zre (g:=Nat.gcd n.natAbs d.natAbs);constructor
    ·intro h;have:=this.2 h.2.2;omega
    ·intro h;exact⟨by omega,b,this.1 (by omega)⟩
   rw[a];clear a o b c f i j;generalize n.natAbs=N at *;generalize d.natAbs=D at *;go_enter Tryz.func37,Tryz.ntmps37;go_upto_region 3 with fail
   go_region_held3 (fun w'=>(w'.cell? ⟨w.heap.size,0,Yb⟩=Ya (Yd Yf n)/\w'.cell? ⟨w.heap.size,1,Yb⟩=Ya (Yd Yf d))/\w.heap.size+0<w'.heap.size/\Below w.heap.size w w')
    (first
     |with_reducible assumption
     |with_reducible exact Zqd (by with_reducible assumption) (by with_reducible assumption)
     |exact⟨⟨by go_simp,by go_simp⟩,by simp,(below_alloc1 _ _).drew⟩)
    (first
     |(go_at_call 59;go_fit (t _);rintro e E ⟨A,rfl,p,x,_⟩)
     |(go_at_call 59;go_fit (u _);rintro e B ⟨v2,rfl,r,m,_⟩;have v:=ZiR B A v2 N D (p.below m) r k l 0 (Nat.zero_le _) (Zp.any _) (Zp.any _))
     |(go_at_call 58;go_fit v;rintro e wc ⟨v3,rfl,s,y,_⟩;obtain⟨C,c3,rfl,_⟩:=s))
   go_wp2_with fail;go_ret;exact⟨rfl,Zpa (by with_reducible assumption)⟩
end
section
open Go.RowKit
def ZM (l:List (Int×Int)) (kn kd:Int):Bool:=decide (l.length<=8)&&Zaf kn kd&&Za6 l
theorem ZbP (w:Yh) (v:Yi) (l:List (Int×Int)) (kn kd:Int) (h:Za w v l) (s:Zz l) (i:-9223372036854775808<=kn) (j:kn<=9223372036854775807) (k:-9223372036854775808<=kd) (m:kd<=9223372036854775807) :
  Calls Tryz.prog 44 #[.agg #[v,Yd Yf kn,Yd Yf kd]] w fun r w'=>r=.returned (.bool (ZM l kn kd))/\Below w.heap.size w w':=by
 have t:=fun w=>Zdv kn kd w i j k m;have u:=Lib.hid (fun(w':Yh) (b:Below w.heap.size w w')=>ZgZ w' v l (h.below b) s);obtain⟨A,c,rfl,x,o,_⟩:=id h;have p:l.length<=9223372036854775807:=by unfold maxLen at o;omega
 unfold ZM;clear h s i j k m x o;generalize Zaf kn kd=R at *;generalize Za6 l=Q at *;generalize l.length=n at *;have F:=FracBox.start w (Yc A n c) (Yd Yf kn) (Yd Yf kd) 37;have a:=below_alloc1 w (Yg #[Yc A n c,Yd Yf kn,Yd Yf kd] 37);by_cases d:n<=8
 ·have i1:(n:Int)<=8:=by omega
  have i2:decide ((n:Int)<=8)=true:=decide_eq_true i1;rw[decide_eq_true d];clear d p;cases R
  ·go_enter Tryz.func44,Tryz.ntmps44;go_wp2_with (go_at_call 34;go_fit (t _);rintro e y ⟨rfl,b⟩);go_ret;exact⟨rfl,a.trans (b.mono a.size)⟩
  ·go_enter Tryz.func44,Tryz.ntmps44
   go_wp2_with (first
    |(go_at_call 34;go_fit (t _);rintro e y ⟨rfl,b⟩;have F:=F.keep b;have f:=a.trans (b.mono a.size);have k0:=F.k0;have k1:=F.k1;have k2:=F.k2)
    |(go_at_call 65;go_fit (u.out _ f);rintro e z ⟨rfl,g⟩))
   go_ret;exact⟨rfl,f.trans (g.mono f.size)⟩
 ·have i2:decide ((n:Int)<=8)=false:=decide_eq_false (by omega);have i3:¬(n:Int)<=8:=by omega
  rw[decide_eq_false d];clear d p;go_enter Tryz.func44,Tryz.ntmps44;go_wp2_with fail;go_ret;exact⟨rfl,a⟩
theorem Zbc {w wr:Yh} {A:Option Addr} {n k:Nat} {l:List (Int×Int)} {x:Int×Int} (d:Zw w w.heap.size 2 A n (Zq l)) (c:Below w.heap.size w wr) (g:l[k]? = Ya x) (f:0<n) :
  ∃a,A=Ya a/\wr.cell? (a.add (k*2))=Ya (Yd Yf x.1)/\wr.cell? ⟨(a.add (k*2)).block,(a.add (k*2)).off+1,Yb⟩=Ya (Yd Yf x.2):=by
 obtain⟨a,rfl,c1,c2⟩:=Znj d g f;have b:a.block<w.heap.size:=by obtain⟨_,e,c,_⟩:=d.2 f;injection e with e;subst e;exact c
 have d1:=(c.cell (p:=a.add (k*2)) (by rw[ZJ];exact b)).trans c1;have d2:=(c.cell (p:=a.add (k*2+1)) (by rw[ZJ];exact b)).trans c2;rw[<-ZcA]at d2;exact⟨a,rfl,d1,d2⟩
theorem Zn4 {l:List (Int×Int)} {kn kd:Int} (h:Za6 l=false):ZM l kn kd=false:=by unfold ZM;rw[h,Bool.and_false]
theorem ZaN (w:Yh) (v:Yi) (l:List (Int×Int)) (kn kd:Int) (h:Za w v l) (W:Zz l) (O:-9223372036854775808<=kn) (P:kn<=9223372036854775807) (Q:-9223372036854775808<=kd) (S:kd<=9223372036854775807) :
  Calls Tryz.prog 51 #[.agg #[v,Yd Yf kn,Yd Yf kd]] w fun r w'=>r=.returned (.bool (ZM l kn kd))/\Below w.heap.size w w':=by
 have G:=Lib.hid (fun w=>ZaC kn kd w O P Q S);obtain⟨A,c,rfl,T,U,I⟩:=id h;obtain⟨n,L⟩:∃n,n=l.length:=⟨_,rfl⟩
 have z:n<=9223372036854775807:=by unfold maxLen at U;omega
 rw[<-L]at T I⊢;have s:=Lib.hid (And.intro L (And.intro W z));have Z:=Lib.hid I;obtain⟨V,J⟩:∃V,V=ZM l kn kd:=⟨_,rfl⟩
 rw[<-J];have M:=Lib.hid J;clear h L W O P Q S T U I z J;have F:=FracBox.start w (Yc A n c) (Yd Yf kn) (Yd Yf kd) 37;have u:=below_alloc1 w (Yg #[Yc A n c,Yd Yf kn,Yd Yf kd] 37);go_enter Tryz.func51,Tryz.ntmps51;go_wp2_with fail;go_loopg [3] n (fun g v3 wr=>∃k:Nat,v3=Yd Yf k/\k<=n/\g=n-k/\Za6 (l.take k)=true/\FracBox wr w.heap.size (Yc A n c) (Yd Yf kn) (Yd Yf kd)/\Below w.heap.size w wr)
 case atStart=>exact⟨0,rfl,Nat.zero_le _,rfl,by rw[List.take_zero];rfl,F,u⟩
 case round=>
  clear F u;obtain⟨k,rfl,K,D,a,F,p⟩:=hrel;have k0:=F.k0;have k1:=F.k1;have k2:=F.k2;by_cases f:k=n
  ·have d:Za6 l=true:=by rw[f,s.out.1,List.take_length]at a;exact a
   have i:=M.out;unfold ZM at i;rw[d,Bool.and_true,<-s.out.1]at i;subst f;have H:=Lib.hid p;by_cases E:k<=8
   ·rw[decide_eq_true E,Bool.true_and]at i;have i1:(k:Int)<=8:=by omega
    have i2:decide ((k:Int)<=8)=true:=decide_eq_true i1;have G:=G.out;rw[<-i]at G;clear K D a p d i E F;go_wp2_with (go_at_call 37;go_fit (G _);rintro e Y ⟨rfl,b⟩);go_ret;exact⟨rfl,H.out.trans (b.mono H.out.size)⟩
   ·rw[decide_eq_false E,Bool.false_and]at i;have i1:¬(k:Int)<=8:=by omega
    have i2:decide ((k:Int)<=8)=false:=decide_eq_false i1;subst i;clear K D a p d E F;go_wp2_with fail;go_ret;exact⟨rfl,H.out⟩
  ·have y:k<n:=by omega
   obtain⟨x,B⟩:∃x,l[k]? = Ya x:=⟨_,List.getElem?_eq_getElem (by have:=s.out.1;omega)⟩
   obtain⟨ad,rfl,d1,d3⟩:=Zbc Z.out p B (by omega);obtain⟨j,m⟩:=s.out.2.1 x (List.mem_of_getElem? B);have X:=fun w=>ZaC x.1 x.2 w j.1 j.2 m.1 m.2;have C:=Zfb B a;have t:=@Zga l k x B;have i1:(k:Int)<(n:Int):=by omega
   have i2:(0:Int)<=(k:Int):=by omega
   have wk:IntKind.i64.wrap ((k:Int)+1)=(k:Int)+1:=IntWalk.i64_in _ (by have:=s.out;omega);generalize Zaf x.1 x.2=R at *;generalize x.1=xn at *;generalize x.2=xd at *;have o:=Lib.hid (And.intro y (And.intro D p));have N:=Lib.hid (And.intro C t);have HF:=Lib.hid F;clear K D a p f y B j m C t F;cases R
   ·obtain rfl:V=false:=M.out.trans (Zn4 (N.out.2 rfl));go_wp2_with (go_at_call 37;go_fit (X _);rintro e Y ⟨rfl,b⟩);go_ret;exact⟨rfl,o.out.2.2.trans (b.mono o.out.2.2.size)⟩
   ·go_wp2_with (go_at_call 37;go_fit (X _);rintro e Y ⟨rfl,b⟩);go_roundg (n-(k+1))
    case measure=>have:=o.out;omega
    case rel=>exact⟨k+1,by push_cast;rfl,by have:=o.out;omega,rfl,N.out.1,HF.out.keep b,o.out.2.2.trans (b.mono o.out.2.2.size)⟩
end
section
open Go.RowKit
def Zs (l:List (Int×Int)):List (Int×Int):=(l.reverse.dropWhile fun x=>x.1==0).reverse
theorem ZgE (a:List (Int×Int)) (x:Int×Int):Zs (a++[x])=if x.1=0 then Zs a else a++[x]:=by
 unfold Zs;rw[List.reverse_append,List.reverse_singleton,List.singleton_append,List.dropWhile_cons];by_cases h:x.1=0
 ·rw[if_pos h,if_pos (by simpa using h)]
 ·rw[if_neg h,if_neg (by simpa using h),List.reverse_cons,List.reverse_reverse]
theorem ZgP:∀(l:List (Int×Int)) (k:Nat),Zq (l.take k)=(Zq l).take (k*2)
 |[],k=>by simp[Zq]
 |x::r,0=>by simp[Zq]
 |x::r,k+1=>by
  rw[List.take_succ_cons,Zq,Zq,ZgP r k,show(k+1)*2=k*2+1+1 by omega,List.take_succ_cons,List.take_succ_cons]
theorem Za.take {w:Yh} {A:Option Addr} {n c k:Nat} {l:List (Int×Int)} (h:l.length=n) (i:n<=c) (b:c<=maxLen) (d:Zw w w.heap.size 2 A n (Zq l)) (m:k<=n):Za w (Yc A k c) (l.take k):=by
 have e:(l.take k).length=k:=by rw[List.length_take];omega
 refine⟨A,c,by rw[e],by omega,b,?_⟩;refine⟨by rw[ZdL],fun o=>?_⟩;obtain⟨a,f,g,hc⟩:=d.2 (by omega);refine⟨a,f,g,fun j u hu=>hc j u ?_⟩;rw[ZgP,List.getElem?_take]at hu
 split at hu
 ·exact hu
 ·cases hu
def ZpS (w:Yh) (v:Yi) (l:List (Int×Int)) (e:Ending) (w':Yh):Prop:=∃a,e=.returned a/\Za w a l/\w=w'/\a.ownBlock=v.ownBlock
theorem ZmT (w:Yh) (v:Yi) (l:List (Int×Int)) (h:Za w v l) :
  Calls Tryz.prog 67 #[v] w (ZpS w v (Zs l)):=by
 obtain⟨A,c,rfl,s,t,p⟩:=h;have G:=t;unfold maxLen at G;obtain⟨n,y⟩:∃n,n=l.length:=⟨_,rfl⟩
 rw[<-y]at s p⊢;have m:=Lib.hid y;clear y;have M:n<=9223372036854775807:=by omega
 go_enter Tryz.func67,Tryz.ntmps67;go_wp2_with fail;go_loopg [0] n (fun g v0 O=>w=O/\∃k:Nat,k<=n/\g=k/\v0=Yc A k c/\Zs (l.take k)=Zs l)
 case atStart=>exact⟨rfl,n,Nat.le_refl _,rfl,rfl,by rw[List.take_of_length_le (by rw[m.out];exact Nat.le_refl _)]⟩
 case round=>
  obtain⟨rfl,k,K,B,rfl,C⟩:=hrel;have z:=Lib.hid C;have D:=Lib.hid B;clear C B;by_cases u:k=0
  ·subst u;have a:Za w (Yc A 0 c) (Zs l):=by rw[<-z.out];exact Za.take m.out.symm s t p (Nat.zero_le n)
   have d:=Lib.hid a;clear a;go_wp2_with fail;go_ret;exact⟨_,rfl,d.out,rfl,by cases A<;>rfl⟩
  ·have L:(0:Int)<(k:Int):=by omega
   have b:k-1<l.length:=by have:=m.out;omega
   have r:k-1+1=k:=by omega
   have Q:IntKind.i64.wrap ((k:Int)-1)=((k-1:Nat):Int):=by rw[IntWalk.i64_in _ (by omega)];omega
   obtain⟨x,i⟩:∃x,l[k-1]? = Ya x:=⟨_,List.getElem?_eq_getElem b⟩
   obtain⟨F,rfl,d1,_⟩:=Zbc p (Below.refl _ _) i (by omega);have I:((k-1:Nat):Int)<(k:Int):=by omega
   have H:(0:Int)<=((k-1:Nat):Int):=by omega
   have J:((k-1:Nat):Int)<=(c:Int):=by omega
   have o:l.take k=l.take (k-1)++[x]:=by
    have e:l[k-1]=x:=by rw[List.getElem?_eq_getElem b]at i;exact Option.some.inj i
    rw[<-e,<-List.take_succ_eq_append_getElem b,r]
   have f:=z.out;rw[o,ZgE]at f;by_cases j:x.1=0
   ·rw[if_pos j]at f;rw[j]at d1;have E:=Lib.hid f;have P:=Lib.hid (And.intro i r);clear o f j i r b;go_wp2_with fail;go_roundg (k-1)
    case measure=>have:=D.out;omega
    case rel=>exact⟨rfl,k-1,by omega,rfl,rfl,E.out⟩
   ·rw[if_neg j,<-o]at f;have a:Za w (Yc (Ya F) k c) (Zs l):=by rw[<-f];exact Za.take m.out.symm s t p K
    have d:=Lib.hid a;have N:(x.1==0)=false:=by simpa using j
    clear o f j i r b a;go_wp2_with fail;go_ret;exact⟨_,rfl,d.out,rfl,rfl⟩
end
section
open Go.RowKit
abbrev Trm:=List (Int×Int)×Int×Int
def Ze:List (Yi×Trm)->List Yi
 |[]=>[]
 |x::r=>x.1::Yd Yf x.2.2.1::Yd Yf x.2.2.2::Ze r
theorem Zcb:∀l,(Ze l).length=l.length*3
 |[]=>rfl
 |x::r=>by rw[Ze,List.length_cons,List.length_cons,List.length_cons,Zcb r,List.length_cons];omega
theorem Ze6:∀(l:List (Yi×Trm)) (k:Nat) (x:Yi×Trm),l[k]? = Ya x->(Ze l)[k*3]? = Ya x.1/\(Ze l)[k*3+1]? = Ya (Yd Yf x.2.2.1)/\(Ze l)[k*3+2]? = Ya (Yd Yf x.2.2.2)
 |[],k,x,h=>by simp at h
 |y::r,0,x,h=>by
  obtain rfl:y=x:=by simpa using h
  exact⟨rfl,rfl,rfl⟩
 |y::r,k+1,x,h=>by
  rw[List.getElem?_cons_succ]at h;obtain⟨a,b,c⟩:=Ze6 r k x h;exact⟨by rw[show(k+1)*3=k*3+1+1+1 by omega];exact a,by rw[show(k+1)*3+1=k*3+1+1+1+1 by omega];exact b,by rw[show(k+1)*3+2=k*3+2+1+1+1 by omega];exact c⟩
def Zai (w:Yh) (v:Yi) (ts:List Trm):Prop:=
 ∃A c a,v=Yc A ts.length c/\ts.length<=c/\c<=maxLen/\a.map (·.2)=ts/\Zw w w.heap.size 3 A ts.length (Ze a)/\∀x∈a,Za w x.1 x.2.1
theorem Zai.below {w w':Yh} {v:Yi} {ts:List Trm} (h:Zai w v ts) (a:Below w.heap.size w w'):Zai w' v ts:=by obtain⟨A,c,k,b,d,e,f,g,i⟩:=h;exact⟨A,c,k,b,d,e,f,(g.below a).more a.size,fun x j=>(i x j).below a⟩
theorem Zai.nil (w:Yh):Zai w (Yc Yb 0 0) []:=⟨Yb,0,[],rfl,Nat.le_refl _,by decide,rfl,Zw.none_,fun x a=>by cases a⟩
theorem ZaY {w wr:Yh} {A:Option Addr} {n k:Nat} {rs:List (Yi×Trm)} {x:Yi×Trm} (i:Zw w w.heap.size 3 A n (Ze rs)) (g:Below w.heap.size w wr) (l:rs[k]? = Ya x) (j:0<n) :
  ∃d,A=Ya d/\wr.cell? (d.add (k*3))=Ya x.1/\wr.cell? ⟨(d.add (k*3)).block,(d.add (k*3)).off+1,Yb⟩=Ya (Yd Yf x.2.2.1)/\wr.cell? ⟨(d.add (k*3)).block,(d.add (k*3)).off+2,Yb⟩=Ya (Yd Yf x.2.2.2):=by
 obtain⟨d,e,f,hc⟩:=i.2 j;obtain⟨a,b,c⟩:=Ze6 rs k x l;have h:=(g.cell (p:=d.add (k*3)) (by rw[ZJ];exact f)).trans (hc _ _ a);have d1:=(g.cell (p:=d.add (k*3+1)) (by rw[ZJ];exact f)).trans (hc _ _ b);have d2:=(g.cell (p:=d.add (k*3+2)) (by rw[ZJ];exact f)).trans (hc _ _ c);rw[<-ZcA]at d1 d2;exact⟨d,e,h,d1,d2⟩
end
section
open Go.RowKit
theorem Zfv (w:Yh) (x y z a b c:Yi) (ty:TypeId):FracBox ((w.alloc (Yg #[x,y,z] ty)).alloc (Yg #[a,b,c] ty)) w.heap.size x y z/\FracBox ((w.alloc (Yg #[x,y,z] ty)).alloc (Yg #[a,b,c] ty)) (w.heap.size+1) a b c:=
 ⟨(FracBox.start w x y z ty).keep (below_alloc1 _ _),by
   have h:=FracBox.start (w.alloc (Yg #[x,y,z] ty)) a b c ty
   rwa[World.size_alloc]at h⟩
theorem FracBox.drewN {w:Yh} {b:Nat} {x y z:Yi} (h:FracBox w b x y z) (q:Nat):FracBox (w.drewN q) b x y z:=h.keep (below_drewN (Below.refl _ _) _)
end
section
open Go.RowKit
theorem below_grow (w:Yh) (q:Nat) (b:Array Obj):Below w.heap.size w (Go.Sort.grow (w.drewN q) b):=
 ⟨rfl,rfl,rfl,by simp[Go.Sort.grow],fun k a=>by simp[Go.Sort.grow,Array.getElem?_append_left a]⟩
abbrev Zfa (w:Yh):Prop:=Lib.TabIs Tryz.prog w "internal/strconv.uint64pow10" .u64 Lib.pow10Tab
theorem Zc2 {w a:Yh} (h:Zfa w) (b:Below w.heap.size w a):Zfa a:=((Lib.tabBelow_of_tabIs h).on b).here
theorem ZiY (n:Int) (w:Yh) (h:Zfa w) (a:-9223372036854775808<=n) (b:n<=9223372036854775807) :
  Calls Tryz.prog 35 #[Yd Yf n,Yd Yf 10] w fun e w'=>e=.returned (.string ⟨(Lib.itoa n).toArray⟩)/\Below w.heap.size w w':=
 (Tryz.strconv_FormatInt_10 n a b w h).mono fun _ _ ⟨he,k,d,c⟩=>⟨he,by rw[c];exact below_grow _ _ _⟩
theorem Zbm {b:List UInt8} {s:ByteArray} (h:s.data.toList=b):Ending.returned (.string s)=.returned (.string ⟨b.toArray⟩):=by obtain⟨⟨l⟩⟩:=s;simp only at h;rw[h]
theorem ZfQ (u:Nat):∀k,u<10 ^ (k+1)->(Lib.decDigits u).length<=k+1:=by
 intro k
 induction k generalizing u with
 |zero=>
  intro h;rw[Lib.decDigits,dif_pos (by omega)];simp
 |succ k a=>
  intro h;rw[Lib.decDigits]
  split
  ·simp
  ·rw[List.length_append];have:=a (u / 10) (by rw[Nat.pow_succ]at h;omega);simp;omega
theorem ZdV {n:Int} (a:-9223372036854775808<=n) (b:n<=9223372036854775807):(Lib.itoa n).length<=20:=by
 unfold Lib.itoa
 split
 ·have:=ZfQ n.natAbs 18 (by omega);simp;omega
 ·have:=ZfQ n.toNat 18 (by omega);omega
def Zcl (n:Int) (d:Nat):List UInt8:=Lib.itoa n++if d=1 then []else 47::Lib.itoa d
theorem Zod {n:Int} {d:Nat} (v:Valid n d) (w:Yh) (h:Zfa w) :
  Calls Tryz.prog 18 #[Zb n d] w fun r w'=>r=.returned (.string ⟨(Zcl n d).toArray⟩)/\Below w.heap.size w w':=by
 have j:=v.n_le;have i:=v.d_le;have g:=fun w=>ZbU v w;have f:=fun w h=>ZiY n w h (by omega) (by omega);have m:=fun w h=>ZiY d w h (by omega) (by omega);have L:=(Live.start w).box n d;have T:=Lib.hid h;clear h v;by_cases e:d=1
 ·have b:Zcl n d=Lib.itoa n:=by unfold Zcl;rw[if_pos e,List.append_nil]
  rw[b];have k:((d:Int) != 1)=false:=by simp;omega
  have l:((d:Int)==1)=true:=by simp;omega
  clear e b j i;go_enter Tryz.func18,Tryz.ntmps18;go_upto_region 3 with(go_at_call 34;go_fit (g _);rintro e o ⟨rfl,a⟩;have L:=L.call a;have a0:=L.n 0 rfl;have c:=L.d 0 rfl)
  go_upto_region 4 with(go_at_call 35;go_fit (f _ (Zc2 T.out L.below));rintro e p ⟨rfl,a⟩;have L:=L.call a;have a0:=L.n 0 rfl;have c:=L.d 0 rfl)
  go_wp2_with fail;go_ret;exact⟨rfl,L.below⟩
 ·have k:((d:Int) != 1)=true:=by simp;omega
  have l:((d:Int)==1)=false:=by simp;omega
  have b:Zcl n d=Lib.itoa n++47::Lib.itoa d:=by unfold Zcl;rw[if_neg e]
  rw[b];have l1:¬9223372036854775807<1+(Lib.itoa d).length:=by have:=ZdV (n:=d) (by omega) (by omega);omega
  have l2:¬9223372036854775807<(Lib.itoa n).length+(1+(Lib.itoa d).length):=by have:=ZdV (n:=d) (by omega) (by omega);have:=ZdV (n:=n) (by omega) (by omega);omega
  clear e b j i;go_enter Tryz.func18,Tryz.ntmps18;go_upto_region 3 with(go_at_call 34;go_fit (g _);rintro e o ⟨rfl,a⟩;have L:=L.call a;have a0:=L.n 0 rfl;have c:=L.d 0 rfl)
  go_upto_region 4 with(go_at_call 35;go_fit (f _ (Zc2 T.out L.below));rintro e p ⟨rfl,a⟩;have L:=L.call a;have a0:=L.n 0 rfl;have c:=L.d 0 rfl)
  go_upto_region 6 with(go_at_call 35;go_fit (m _ (Zc2 T.out L.below));rintro e s ⟨rfl,a⟩;have L:=L.call a;have a0:=L.n 0 rfl;have c:=L.d 0 rfl)
  go_wp2_with fail;go_ret;exact⟨Zbm (by simp),L.below⟩
end
section
open Go.RowKit
theorem ZbE {w a b:Yh} {d e y0 y1 z0 f:Yi} (c:Below a.heap.size a b)
  (h:(a.cell? ⟨w.heap.size,0,Yb⟩=Ya d/\a.cell? ⟨w.heap.size,1,Yb⟩=Ya e/\a.cell? ⟨w.heap.size+1,0,Yb⟩=Ya y0/\a.cell? ⟨w.heap.size+1,1,Yb⟩=Ya y1/\a.cell? ⟨w.heap.size+1+1,0,Yb⟩=Ya z0/\a.cell? ⟨w.heap.size+1+1,1,Yb⟩=Ya f)/\w.heap.size+2<a.heap.size/\Below w.heap.size w a/\(a.frozen? ⟨w.heap.size+1+1,0,Yb⟩=false/\a.frozen? ⟨w.heap.size+1+1,1,Yb⟩=false)) :
  (b.cell? ⟨w.heap.size,0,Yb⟩=Ya d/\b.cell? ⟨w.heap.size,1,Yb⟩=Ya e/\b.cell? ⟨w.heap.size+1,0,Yb⟩=Ya y0/\b.cell? ⟨w.heap.size+1,1,Yb⟩=Ya y1/\b.cell? ⟨w.heap.size+1+1,0,Yb⟩=Ya z0/\b.cell? ⟨w.heap.size+1+1,1,Yb⟩=Ya f)/\w.heap.size+2<b.heap.size/\Below w.heap.size w b/\(b.frozen? ⟨w.heap.size+1+1,0,Yb⟩=false/\b.frozen? ⟨w.heap.size+1+1,1,Yb⟩=false):=by
 obtain⟨⟨a0,i,a2,a3,a4,a5⟩,g,k,⟨m0,j⟩⟩:=h;have l:=c.size;exact⟨⟨Zd c (by omega) a0,Zd c (by omega) i,Zd c (by omega) a2,Zd c (by omega) a3,Zd c (by omega) a4,Zd c (by omega) a5⟩,by omega,k.trans (c.mono k.size),⟨Zo c (by omega) m0,Zo c (by omega) j⟩⟩
theorem ZeA {w a:Yh} {n d m e:Int} (B:Boxes w a n d m e):(a.cell? ⟨w.heap.size,0,Yb⟩=Ya (Yd Yf n)/\a.cell? ⟨w.heap.size,1,Yb⟩=Ya (Yd Yf d)/\a.cell? ⟨w.heap.size+1,0,Yb⟩=Ya (Yd Yf m)/\a.cell? ⟨w.heap.size+1,1,Yb⟩=Ya (Yd Yf e)/\a.cell? ⟨w.heap.size+1+1,0,Yb⟩=Ya (Yd Yf 0)/\a.cell? ⟨w.heap.size+1+1,1,Yb⟩=Ya (Yd Yf 0))/\w.heap.size+2<a.heap.size/\Below w.heap.size w a/\(a.frozen? ⟨w.heap.size+1+1,0,Yb⟩=false/\a.frozen? ⟨w.heap.size+1+1,1,Yb⟩=false):=
 ⟨⟨B.c0,B.c1,B.c2,B.c3,B.i0,B.i1⟩,B.size,B.below,B.j0,B.j1⟩
theorem ZeR {w a:Yh} {n d m e:Int} (h:(a.cell? ⟨w.heap.size,0,Yb⟩=Ya (Yd Yf n)/\a.cell? ⟨w.heap.size,1,Yb⟩=Ya (Yd Yf d)/\a.cell? ⟨w.heap.size+1,0,Yb⟩=Ya (Yd Yf m)/\a.cell? ⟨w.heap.size+1,1,Yb⟩=Ya (Yd Yf e)/\a.cell? ⟨w.heap.size+1+1,0,Yb⟩=Ya (Yd Yf 0)/\a.cell? ⟨w.heap.size+1+1,1,Yb⟩=Ya (Yd Yf 0))/\w.heap.size+2<a.heap.size/\Below w.heap.size w a/\(a.frozen? ⟨w.heap.size+1+1,0,Yb⟩=false/\a.frozen? ⟨w.heap.size+1+1,1,Yb⟩=false)):Boxes w a n d m e:=by obtain⟨⟨a0,b,a2,a3,a4,a5⟩,g,k,m0,c⟩:=h;exact⟨a0,b,a2,a3,a4,a5,m0,c,g,k⟩
theorem ZbZ {w a:Yh} {A C:Prop} (h:A/\w.heap.size+2<a.heap.size/\C):w.heap.size<a.heap.size/\w.heap.size+1<a.heap.size/\w.heap.size+1+1<a.heap.size:=by have:=h.2.1;omega
theorem Zdf {W a:Yh} {o:Obj} (b:Below (W.alloc o).heap.size (W.alloc o) a):Below W.heap.size W a:=(below_alloc1 W o).trans (b.mono (by simp))
theorem ZcW {W b:Yh} {o a:Obj} (c:Below ((W.alloc o).alloc a).heap.size ((W.alloc o).alloc a) b):Below W.heap.size W b:=(below_alloc2 W o a).trans (c.mono (by simp;omega))
theorem Zcu {W a:Yh} {x y z:Yi} {ty:TypeId} (b:Below (W.alloc (Yg #[x,y,z] ty)).heap.size (W.alloc (Yg #[x,y,z] ty)) a):FracBox a W.heap.size x y z:=(FracBox.start W x y z ty).keep b
theorem Zcv {W e:Yh} {x y z b c d:Yi} {ty a:TypeId} (f:Below ((W.alloc (Yg #[x,y,z] ty)).alloc (Yg #[b,c,d] a)).heap.size ((W.alloc (Yg #[x,y,z] ty)).alloc (Yg #[b,c,d] a)) e) :
  FracBox e W.heap.size x y z/\FracBox e (W.heap.size+1) b c d:=
 ⟨((FracBox.start W x y z ty).keep (below_alloc1 _ _)).keep f,by
   have h:=(FracBox.start (W.alloc (Yg #[x,y,z] ty)) b c d a).keep f
   rwa[World.size_alloc]at h⟩
theorem Zdg {W a:Yh} {x y z:Yi} {ty:TypeId} (b:Below (W.alloc (Yg #[x,y,z] ty)).drew.heap.size (W.alloc (Yg #[x,y,z] ty)).drew a):FracBox a W.heap.size x y z:=Zcu (W:=W.drew) b
theorem Zdh {W b:Yh} {x y z c d e:Yi} {ty a:TypeId} (f:Below ((W.alloc (Yg #[x,y,z] ty)).alloc (Yg #[c,d,e] a)).drew.heap.size ((W.alloc (Yg #[x,y,z] ty)).alloc (Yg #[c,d,e] a)).drew b) :
  FracBox b W.heap.size x y z/\FracBox b (W.heap.size+1) c d e:=Zcv (W:=W.drew) f
theorem Zi.inside {w:Yh} {B:Nat} {v:Yi} {l:List Bool} (h:Zi w v l) (f:Zp B v):0<l.length->∀k,v.ownBlock=Ya k->B<=k/\k<w.heap.size:=by
 intro e k a;refine⟨f k a,?_⟩;obtain⟨A,c,rfl,_,_,d⟩:=h;obtain⟨b,rfl,g,_⟩:=d.2 e;have:b.block=k:=by simpa[Value.ownBlock]using a
 omega
theorem Zi.alloc_ {w:Yh} {v:Yi} {l:List Bool} (h:Zi w v l) (o:Obj):Zi (w.alloc o) v l:=h.below (below_alloc1 w o)
theorem Zi.set_ne {w:Yh} {v:Yi} {l:List Bool} (h:Zi w v l) {p:Addr} (a:0<l.length->∀k,v.ownBlock=Ya k->k≠p.block) (x:Yi):Zi (w.setCell p x) v l:=by obtain⟨A,c,rfl,g,i,d⟩:=h;refine⟨A,c,rfl,g,i,d.1,fun f=>?_⟩;obtain⟨b,rfl,m,hc⟩:=d.2 f;have:=a f b.block rfl;refine⟨b,rfl,by rw[World.size_setCell];exact m,fun j u hu=>?_⟩;rw[World.cell?_setCell_other _ _ _ _ (fun e=>by have:=congrArg Addr.block e;rw[ZJ]at this;omega)];exact hc j u hu
theorem Zi.set_out {w:Yh} {v:Yi} {l:List Bool} {B T:Nat} (h:Zi w v l) (a:0<l.length->∀k,v.ownBlock=Ya k->B<=k/\k<T) {p:Addr} (d:p.block<B\/T<=p.block) (x:Yi):Zi (w.setCell p x) v l:=
 h.set_ne (fun c k b=>by have:=a c k b;omega) x
theorem FracBox.write {w:Yh} {b:Nat} {x y z:Yi} (h:FracBox w b x y z) (a c d:Yi):FracBox (((w.setCell ⟨b,0,Yb⟩ a).setCell ⟨b,1,Yb⟩ c).setCell ⟨b,2,Yb⟩ d) b a c d:=by obtain⟨m0,f,g,i,j,k,e⟩:=h;exact⟨by go_simp,by go_simp,by go_simp,by go_simp,by go_simp,by go_simp,by simpa using e⟩
theorem FracBox.other {w:Yh} {b:Nat} {x y z:Yi} (h:FracBox w b x y z) {p:Addr} (a:p.block≠b) (v:Yi):FracBox (w.setCell p v) b x y z:=by obtain⟨m0,c,d,f,g,i,j⟩:=h;have o:=fun(k:Nat)=>World.cell?_setCell_other w p ⟨b,k,Yb⟩ v (fun e=>by rw[e]at a;exact a rfl);exact⟨(o 0).trans m0,(o 1).trans c,(o 2).trans d,by rw[World.frozen?_setCell];exact f,by rw[World.frozen?_setCell];exact g,by rw[World.frozen?_setCell];exact i,by rw[World.size_setCell];exact j⟩
theorem FracBox.alloc {w:Yh} {b:Nat} {x y z:Yi} (h:FracBox w b x y z) (o:Obj):FracBox (w.alloc o) b x y z:=h.keep (below_alloc1 _ _)
theorem FracBox.start_at {w:Yh} {b:Nat} (h:w.heap.size=b) (x y z:Yi) (ty:TypeId):FracBox (w.alloc (Yg #[x,y,z] ty)) b x y z:=by subst h;exact FracBox.start w x y z ty
def Zew (v:Yi) (l:List Bool) (c:Nat):Prop:=0<l.length->∀k,v.ownBlock=Ya k->k≠c
theorem ZaU {v:Yi} {l:List Bool} {B T c:Nat} (a:0<l.length->∀k,v.ownBlock=Ya k->B<=k/\k<T) (e:c<B\/T<=c):Zew v l c:=
 fun d k b=>by have:=a d k b;omega
def ZkT (w:Yh) (n D m E:Int) (p q:Yi) (a:Yh):Prop:=∃b c d e f g,p=.pointer (Ya ⟨b,0,Yb⟩)/\q=.pointer (Ya ⟨c,0,Yb⟩)/\b≠c/\w.heap.size+2<b/\w.heap.size+2<c ∧
 FracBox a b d e (.bool (decide (n<0)))/\FracBox a c f g (.bool (decide (m<0)))/\Zi a d (bitsOf n.natAbs)/\Zi a e (bitsOf D.natAbs)/\Zi a f (bitsOf m.natAbs)/\Zi a g (bitsOf E.natAbs)/\Boxes w a n D m E/\Zew d (bitsOf n.natAbs) c/\Zew e (bitsOf D.natAbs) c/\Zew f (bitsOf m.natAbs) c/\Zew g (bitsOf E.natAbs) c
theorem Zcf {w a:Yh} {n D m E:Int} (h:(a.cell? ⟨w.heap.size,0,Yb⟩=Ya (Yd Yf n)/\a.cell? ⟨w.heap.size,1,Yb⟩=Ya (Yd Yf D)/\a.cell? ⟨w.heap.size+1,0,Yb⟩=Ya (Yd Yf m)/\a.cell? ⟨w.heap.size+1,1,Yb⟩=Ya (Yd Yf E)/\a.cell? ⟨w.heap.size+1+1,0,Yb⟩=Ya (Yd Yf 0)/\a.cell? ⟨w.heap.size+1+1,1,Yb⟩=Ya (Yd Yf 0))/\w.heap.size+2<a.heap.size/\Below w.heap.size w a/\(a.frozen? ⟨w.heap.size+1+1,0,Yb⟩=false/\a.frozen? ⟨w.heap.size+1+1,1,Yb⟩=false)):((a.drew).cell? ⟨w.heap.size,0,Yb⟩=Ya (Yd Yf n)/\(a.drew).cell? ⟨w.heap.size,1,Yb⟩=Ya (Yd Yf D)/\(a.drew).cell? ⟨w.heap.size+1,0,Yb⟩=Ya (Yd Yf m)/\(a.drew).cell? ⟨w.heap.size+1,1,Yb⟩=Ya (Yd Yf E)/\(a.drew).cell? ⟨w.heap.size+1+1,0,Yb⟩=Ya (Yd Yf 0)/\(a.drew).cell? ⟨w.heap.size+1+1,1,Yb⟩=Ya (Yd Yf 0))/\w.heap.size+2<(a.drew).heap.size/\Below w.heap.size w (a.drew)/\((a.drew).frozen? ⟨w.heap.size+1+1,0,Yb⟩=false/\(a.drew).frozen? ⟨w.heap.size+1+1,1,Yb⟩=false):=⟨h.1,h.2.1,h.2.2.1.drew,h.2.2.2⟩
theorem ZdD {w a:Yh} {n D m E:Int} {p:Addr} (i:w.heap.size+2<p.block) (x:Yi) (h:(a.cell? ⟨w.heap.size,0,Yb⟩=Ya (Yd Yf n)/\a.cell? ⟨w.heap.size,1,Yb⟩=Ya (Yd Yf D)/\a.cell? ⟨w.heap.size+1,0,Yb⟩=Ya (Yd Yf m)/\a.cell? ⟨w.heap.size+1,1,Yb⟩=Ya (Yd Yf E)/\a.cell? ⟨w.heap.size+1+1,0,Yb⟩=Ya (Yd Yf 0)/\a.cell? ⟨w.heap.size+1+1,1,Yb⟩=Ya (Yd Yf 0))/\w.heap.size+2<a.heap.size/\Below w.heap.size w a/\(a.frozen? ⟨w.heap.size+1+1,0,Yb⟩=false/\a.frozen? ⟨w.heap.size+1+1,1,Yb⟩=false)):((a.setCell p x).cell? ⟨w.heap.size,0,Yb⟩=Ya (Yd Yf n)/\(a.setCell p x).cell? ⟨w.heap.size,1,Yb⟩=Ya (Yd Yf D)/\(a.setCell p x).cell? ⟨w.heap.size+1,0,Yb⟩=Ya (Yd Yf m)/\(a.setCell p x).cell? ⟨w.heap.size+1,1,Yb⟩=Ya (Yd Yf E)/\(a.setCell p x).cell? ⟨w.heap.size+1+1,0,Yb⟩=Ya (Yd Yf 0)/\(a.setCell p x).cell? ⟨w.heap.size+1+1,1,Yb⟩=Ya (Yd Yf 0))/\w.heap.size+2<(a.setCell p x).heap.size/\Below w.heap.size w (a.setCell p x)/\((a.setCell p x).frozen? ⟨w.heap.size+1+1,0,Yb⟩=false/\(a.setCell p x).frozen? ⟨w.heap.size+1+1,1,Yb⟩=false):=by
 obtain⟨⟨a0,f,a2,a3,a4,a5⟩,g,k,⟨m0,j⟩⟩:=h;have o:=fun(q:Addr) (hq:q.block<=w.heap.size+2)=>World.cell?_setCell_other a p q x (fun e=>by rw[e]at i;omega);have b:w.heap.size<=w.heap.size+2:=by omega
 have c:w.heap.size+1<=w.heap.size+2:=by omega
 have d:w.heap.size+1+1<=w.heap.size+2:=by omega
 exact⟨⟨(o ⟨_,0,Yb⟩ b).trans a0,(o ⟨_,1,Yb⟩ b).trans f,(o ⟨_,0,Yb⟩ c).trans a2,(o ⟨_,1,Yb⟩ c).trans a3,(o ⟨_,0,Yb⟩ d).trans a4,(o ⟨_,1,Yb⟩ d).trans a5⟩,by rw[World.size_setCell];exact g,k.setCell (by omega) x,by rw[World.frozen?_setCell];exact m0,by rw[World.frozen?_setCell];exact j⟩
theorem Zbs {n:Nat} (h:n<=9223372036854775807):(bitsOf n).length<=70:=Nat.le_trans (Zhc (Nat.lt_of_le_of_lt h (by decide))) (by decide)
theorem ZjD {N E:Nat} (a:(bitsOf N).length<=70) (b:(bitsOf E).length<=70):N*E<2 ^ 140:=by have h:=Nat.mul_lt_mul'' (Zj7 a) (Zj7 b);rwa[<-Nat.pow_add]at h
theorem ZeL {N E:Nat} (a:(bitsOf N).length<=70) (b:(bitsOf E).length<=70):(bitsOf (N*E)).length<=298:=Nat.le_trans (ZbG _ 140 (ZjD a b)) (by decide)
theorem ZlG {N E M D:Nat} {s t:Bool} (d:(bitsOf N).length<=70) (e:(bitsOf E).length<=70) (f:(bitsOf M).length<=70) (g:(bitsOf D).length<=70):(bitsOf (Zba s (N*E) t (M*D))).length<=298:=by
 have a:=ZjD d e;have b:=ZjD f g;have c:Zba s (N*E) t (M*D)<=N*E+M*D:=by unfold Zba;split<;>(try split)<;>omega
 exact Nat.le_trans (ZbG _ 141 (by omega)) (by decide)
theorem Zh1 {w a d:Yh} {b c:Nat} {i j l y1 m n:Yi} (e:Below a.heap.size a d) (h:(a.cell? ⟨b,0,Yb⟩=Ya i/\a.cell? ⟨b,1,Yb⟩=Ya j/\a.cell? ⟨b,2,Yb⟩=Ya l/\a.cell? ⟨c,0,Yb⟩=Ya y1/\a.cell? ⟨c,1,Yb⟩=Ya m/\a.cell? ⟨c,2,Yb⟩=Ya n)/\(w.heap.size+2<b/\w.heap.size+2<c/\b<a.heap.size/\c<a.heap.size)/\Below w.heap.size w a/\(a.cell? ⟨w.heap.size+1+1,0,Yb⟩=Ya (Zf a ⟨w.heap.size+1+1,0,Yb⟩)/\a.cell? ⟨w.heap.size+1+1,1,Yb⟩=Ya (Zf a ⟨w.heap.size+1+1,1,Yb⟩))/\(a.frozen? ⟨w.heap.size+1+1,0,Yb⟩=false/\a.frozen? ⟨w.heap.size+1+1,1,Yb⟩=false)):(d.cell? ⟨b,0,Yb⟩=Ya i/\d.cell? ⟨b,1,Yb⟩=Ya j/\d.cell? ⟨b,2,Yb⟩=Ya l/\d.cell? ⟨c,0,Yb⟩=Ya y1/\d.cell? ⟨c,1,Yb⟩=Ya m/\d.cell? ⟨c,2,Yb⟩=Ya n)/\(w.heap.size+2<b/\w.heap.size+2<c/\b<d.heap.size/\c<d.heap.size)/\Below w.heap.size w d/\(d.cell? ⟨w.heap.size+1+1,0,Yb⟩=Ya (Zf d ⟨w.heap.size+1+1,0,Yb⟩)/\d.cell? ⟨w.heap.size+1+1,1,Yb⟩=Ya (Zf d ⟨w.heap.size+1+1,1,Yb⟩))/\(d.frozen? ⟨w.heap.size+1+1,0,Yb⟩=false/\d.frozen? ⟨w.heap.size+1+1,1,Yb⟩=false):=by obtain⟨⟨a0,o,a2,a3,a4,a5⟩,⟨p,r,f,g⟩,k,⟨i0,i1⟩,⟨j0,j1⟩⟩:=h;have s:=e.size;exact⟨⟨Zd e f a0,Zd e f o,Zd e f a2,Zd e g a3,Zd e g a4,Zd e g a5⟩,⟨p,r,by omega,by omega⟩,k.trans (e.mono k.size),⟨ZH (Zd e (by omega) i0),ZH (Zd e (by omega) i1)⟩,⟨Zo e (by omega) j0,Zo e (by omega) j1⟩⟩
theorem ZeG {w a:Yh} {b c:Nat} {f g i y1 j l:Yi} {o:Nat} {x:Yi} (h:(a.cell? ⟨b,0,Yb⟩=Ya f/\a.cell? ⟨b,1,Yb⟩=Ya g/\a.cell? ⟨b,2,Yb⟩=Ya i/\a.cell? ⟨c,0,Yb⟩=Ya y1/\a.cell? ⟨c,1,Yb⟩=Ya j/\a.cell? ⟨c,2,Yb⟩=Ya l)/\(w.heap.size+2<b/\w.heap.size+2<c/\b<a.heap.size/\c<a.heap.size)/\Below w.heap.size w a/\(a.cell? ⟨w.heap.size+1+1,0,Yb⟩=Ya (Zf a ⟨w.heap.size+1+1,0,Yb⟩)/\a.cell? ⟨w.heap.size+1+1,1,Yb⟩=Ya (Zf a ⟨w.heap.size+1+1,1,Yb⟩))/\(a.frozen? ⟨w.heap.size+1+1,0,Yb⟩=false/\a.frozen? ⟨w.heap.size+1+1,1,Yb⟩=false)):((a.setCell ⟨w.heap.size+1+1,o,Yb⟩ x).cell? ⟨b,0,Yb⟩=Ya f/\(a.setCell ⟨w.heap.size+1+1,o,Yb⟩ x).cell? ⟨b,1,Yb⟩=Ya g/\(a.setCell ⟨w.heap.size+1+1,o,Yb⟩ x).cell? ⟨b,2,Yb⟩=Ya i/\(a.setCell ⟨w.heap.size+1+1,o,Yb⟩ x).cell? ⟨c,0,Yb⟩=Ya y1/\(a.setCell ⟨w.heap.size+1+1,o,Yb⟩ x).cell? ⟨c,1,Yb⟩=Ya j/\(a.setCell ⟨w.heap.size+1+1,o,Yb⟩ x).cell? ⟨c,2,Yb⟩=Ya l)/\(w.heap.size+2<b/\w.heap.size+2<c/\b<(a.setCell ⟨w.heap.size+1+1,o,Yb⟩ x).heap.size/\c<(a.setCell ⟨w.heap.size+1+1,o,Yb⟩ x).heap.size)/\Below w.heap.size w (a.setCell ⟨w.heap.size+1+1,o,Yb⟩ x)/\((a.setCell ⟨w.heap.size+1+1,o,Yb⟩ x).cell? ⟨w.heap.size+1+1,0,Yb⟩=Ya (Zf (a.setCell ⟨w.heap.size+1+1,o,Yb⟩ x) ⟨w.heap.size+1+1,0,Yb⟩)/\(a.setCell ⟨w.heap.size+1+1,o,Yb⟩ x).cell? ⟨w.heap.size+1+1,1,Yb⟩=Ya (Zf (a.setCell ⟨w.heap.size+1+1,o,Yb⟩ x) ⟨w.heap.size+1+1,1,Yb⟩))/\((a.setCell ⟨w.heap.size+1+1,o,Yb⟩ x).frozen? ⟨w.heap.size+1+1,0,Yb⟩=false/\(a.setCell ⟨w.heap.size+1+1,o,Yb⟩ x).frozen? ⟨w.heap.size+1+1,1,Yb⟩=false):=by obtain⟨⟨a0,m,a2,a3,a4,a5⟩,⟨p,r,s,t⟩,k,⟨i0,i1⟩,⟨j0,j1⟩⟩:=h;have q:∀b d,b≠w.heap.size+1+1->(a.setCell ⟨w.heap.size+1+1,o,Yb⟩ x).cell? ⟨b,d,Yb⟩=a.cell? ⟨b,d,Yb⟩:=fun b d n=>World.cell?_setCell_other _ _ _ _ (by intro e;injection e with e;exact n e.symm);exact⟨⟨(q _ _ (by omega)).trans a0,(q _ _ (by omega)).trans m,(q _ _ (by omega)).trans a2,(q _ _ (by omega)).trans a3,(q _ _ (by omega)).trans a4,(q _ _ (by omega)).trans a5⟩,⟨p,r,by rw[World.size_setCell];exact s,by rw[World.size_setCell];exact t⟩,k.setCell (by show w.heap.size<=w.heap.size+1+1;omega) _,⟨Zao i0,Zao i1⟩,⟨by rw[World.frozen?_setCell];exact j0,by rw[World.frozen?_setCell];exact j1⟩⟩
theorem ZkC {w a:Yh} {n D m E:Int} {b c:Nat} {e f g y1 h i:Yi} (d:Boxes w a n D m E) (F:FracBox a b e f g) (G:FracBox a c y1 h i) (j:w.heap.size+2<b) (hc:w.heap.size+2<c):((a.drew).cell? ⟨b,0,Yb⟩=Ya e/\(a.drew).cell? ⟨b,1,Yb⟩=Ya f/\(a.drew).cell? ⟨b,2,Yb⟩=Ya g/\(a.drew).cell? ⟨c,0,Yb⟩=Ya y1/\(a.drew).cell? ⟨c,1,Yb⟩=Ya h/\(a.drew).cell? ⟨c,2,Yb⟩=Ya i)/\(w.heap.size+2<b/\w.heap.size+2<c/\b<(a.drew).heap.size/\c<(a.drew).heap.size)/\Below w.heap.size w (a.drew)/\((a.drew).cell? ⟨w.heap.size+1+1,0,Yb⟩=Ya (Zf (a.drew) ⟨w.heap.size+1+1,0,Yb⟩)/\(a.drew).cell? ⟨w.heap.size+1+1,1,Yb⟩=Ya (Zf (a.drew) ⟨w.heap.size+1+1,1,Yb⟩))/\((a.drew).frozen? ⟨w.heap.size+1+1,0,Yb⟩=false/\(a.drew).frozen? ⟨w.heap.size+1+1,1,Yb⟩=false):=
 ⟨⟨F.k0,F.k1,F.k2,G.k0,G.k1,G.k2⟩,⟨j,hc,F.lt,G.lt⟩,d.below.drew,⟨ZH d.i0,ZH d.i1⟩,⟨d.j0,d.j1⟩⟩
theorem ZhV {w a:Yh} (h:Below w.drew.heap.size w.drew a):Below w.heap.size w a:=(Zn w).trans h
theorem ZjP {w b:Yh} {x y:Yi} {A B F:Prop} {f:Yh} (a:f=(b.setCell ⟨w.heap.size+1+1,0,Yb⟩ x).setCell ⟨w.heap.size+1+1,1,Yb⟩ y)
  (h:A/\B/\Below w.heap.size w f/\(f.cell? ⟨w.heap.size+1+1,0,Yb⟩=Ya (Zf f ⟨w.heap.size+1+1,0,Yb⟩)/\f.cell? ⟨w.heap.size+1+1,1,Yb⟩=Ya (Zf f ⟨w.heap.size+1+1,1,Yb⟩))/\F) :
  f.cell? ⟨w.heap.size+1+1,0,Yb⟩=Ya x/\f.cell? ⟨w.heap.size+1+1,1,Yb⟩=Ya y/\Below w.heap.size w f:=by
 obtain⟨_,_,k,⟨i0,i1⟩,_⟩:=h;subst a;refine⟨?_,i1.trans (congrArg Ya (ZbA i1)),k⟩;have e:=i0;rw[ZfZ (by decide)]at e;exact i0.trans (congrArg Ya (ZbA e))
end
section
open Go.RowKit
theorem Zmw (s:Bool) (k:Nat):ZbH s 0 k=0:=by
 unfold ZbH
 split
 ·cases s<;>simp
 ·rfl
theorem ZhP {P:Int} {Q N:Nat} {S:Bool} (b:N=P.natAbs) (c:P≠0->S=decide (P<0)):toV N Q S=Zcx P Q:=by
 subst b;unfold toV Zcx ZcI ZcR ZcH;by_cases a:P=0
 ·subst a;simp[Zmw]
 ·rw[c a]
theorem Zh4 (s t:Bool) (X:Nat):Zba s X t 0=X/\ZbI s X t 0=s:=by
 unfold Zba ZbI;refine⟨?_,?_⟩
 ·split
  ·rfl
  ·rw[if_neg (Nat.not_lt_zero _)];rfl
 ·split
  ·rfl
  ·rw[if_neg (Nat.not_lt_zero _)]
theorem ZpW (n m:Int) (d e:Nat):toV (Zba (decide (n<0)) (n.natAbs*(e:Int).natAbs) (decide (m<0)) (m.natAbs*(d:Int).natAbs)) ((d:Int).natAbs*(e:Int).natAbs) (ZbI (decide (n<0)) (n.natAbs*(e:Int).natAbs) (decide (m<0)) (m.natAbs*(d:Int).natAbs))=Zcx (n*e+m*d) (d*e):=by rw[Int.natAbs_natCast,Int.natAbs_natCast];obtain⟨a,b⟩:=Zeb n m e d;exact ZhP a b
theorem Zks (n m:Int) (d e:Nat):Zba (decide (n<0)) (n.natAbs*e) (!decide (m<0)) (m.natAbs*d)=(n*e-m*d).natAbs ∧
  (n*e-m*d≠0->ZbI (decide (n<0)) (n.natAbs*e) (!decide (m<0)) (m.natAbs*d)=decide (n*e-m*d<0)):=by
 obtain⟨a,b⟩:=Zeb n (-m) e d;rw[Int.natAbs_neg]at a b;rw[show n*e+-m*d=n*e-m*d by rw[Int.neg_mul];omega]at a b;by_cases hm:m=0
 ·subst hm;rw[show(0:Int).natAbs*d=0 by simp]at a b⊢;obtain⟨c,f⟩:=Zh4 (decide (n<0)) (decide (-(0:Int)<0)) (n.natAbs*e);obtain⟨g,i⟩:=Zh4 (decide (n<0)) (!decide ((0:Int)<0)) (n.natAbs*e);rw[c]at a;rw[f]at b;rw[g,i];exact⟨a,b⟩
 ·have:(!decide (m<0))=decide (-m<0):=by
   by_cases h:m<0
   ·rw[decide_eq_true h,decide_eq_false (by omega)];rfl
   ·rw[decide_eq_false h,decide_eq_true (by omega)];rfl
  rw[this];exact⟨a,b⟩
theorem ZqK (n m:Int) (d e:Nat):toV (Zba (decide (n<0)) (n.natAbs*(e:Int).natAbs) (!decide (m<0)) (m.natAbs*(d:Int).natAbs)) ((d:Int).natAbs*(e:Int).natAbs) (ZbI (decide (n<0)) (n.natAbs*(e:Int).natAbs) (!decide (m<0)) (m.natAbs*(d:Int).natAbs))=Zcx (n*e-m*d) (d*e):=by rw[Int.natAbs_natCast,Int.natAbs_natCast];obtain⟨a,b⟩:=Zks n m d e;exact ZhP a b
theorem ZlA (n m:Int) (h:n*m≠0):(decide (n<0) != decide (m<0))=decide (n*m<0):=by
 have c:n≠0:=fun e=>h (by rw[e,Int.zero_mul]);have hm:m≠0:=fun e=>h (by rw[e,Int.mul_zero]);by_cases a:n<0<;>by_cases b:m<0
 ·have:=Int.mul_pos_of_neg_of_neg a b;rw[decide_eq_true a,decide_eq_true b,decide_eq_false (by omega)];rfl
 ·have:=Int.mul_neg_of_neg_of_pos a (show 0<m by omega);rw[decide_eq_true a,decide_eq_false b,decide_eq_true this];rfl
 ·have:=Int.mul_neg_of_pos_of_neg (show 0<n by omega) b;rw[decide_eq_false a,decide_eq_true b,decide_eq_true this];rfl
 ·have:=Int.mul_pos (show 0<n by omega) (show 0<m by omega);rw[decide_eq_false a,decide_eq_false b,decide_eq_false (by omega)];rfl
theorem Zqj (n m:Int) (d e:Nat):toV (n.natAbs*m.natAbs) ((d:Int).natAbs*(e:Int).natAbs) (decide (n<0) != decide (m<0))=Zcx (n*m) (d*e):=by rw[Int.natAbs_natCast,Int.natAbs_natCast];exact ZhP (Int.natAbs_mul n m).symm (ZlA n m)
theorem Zp1 (n m:Int) (d e:Nat) (he:0<e):toV (n.natAbs*(e:Int).natAbs) ((d:Int).natAbs*m.natAbs) (decide (n<0) != decide (m<0))=Zcx (n*(if m<0 then -(e:Int)else e)) (d*m.natAbs):=by
 rw[Int.natAbs_natCast,Int.natAbs_natCast];have b:decide (m<0)=decide ((if m<0 then -(e:Int)else e)<0):=by
  split
  ·rename_i h
   rw[decide_eq_true h,decide_eq_true (by omega)]
  ·rename_i h
   rw[decide_eq_false h,decide_eq_false (by omega)]
 have a:(if m<0 then -(e:Int)else(e:Int)).natAbs=e:=by split<;>omega
 generalize(if m<0 then -(e:Int)else(e:Int))=E at *;rw[b];exact ZhP (by rw[Int.natAbs_mul,a]) (ZlA n E)
end
section
open Go.RowKit
theorem Live.three {w a:Yh} {l:List (Nat×Int×Int)} (h:Live w a l) (i j k:Nat) {b c e:Nat} {p f r d1 s d2:Int} (g:l[i]? = Ya (b,p,f)) (m:l[j]? = Ya (c,r,d1)) (o:l[k]? = Ya (e,s,d2)) :
  (a.cell? ⟨b,0,Yb⟩=Ya (Yd Yf p)/\a.cell? ⟨b,1,Yb⟩=Ya (Yd Yf f)/\a.cell? ⟨c,0,Yb⟩=Ya (Yd Yf r)/\a.cell? ⟨c,1,Yb⟩=Ya (Yd Yf d1) ∧
   a.cell? ⟨e,0,Yb⟩=Ya (Yd Yf s)/\a.cell? ⟨e,1,Yb⟩=Ya (Yd Yf d2))/\Live w a l:=
 ⟨⟨h.n i g,h.d i g,h.n j m,h.d j m,h.n k o,h.d k o⟩,h⟩
end
end Go.Proofs.YtbfnnolakggbfaaGreatDoor
