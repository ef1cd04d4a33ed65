import Derived.Deep.DeepFit
import Derived.BigQuiet
import Derived.Deep.QuietTactic
import Derived.Deep.SlicePairs
import Derived.Carry
import Derived.Test.YtbfnnolakggbfaaGreatDoorQAI
import Derived.Test.YtbfnnolakggbfaaGreatDoorQAJ
import Derived.Test.YtbfnnolakggbfaaGreatDoorQAQ
import Derived.Test.YtbfnnolakggbfaaGreatDoorQAT
import Derived.Test.YtbfnnolakggbfaaGreatDoorQAU
import Derived.Test.YtbfnnolakggbfaaGreatDoorQAV
import Derived.Test.YtbfnnolakggbfaaGreatDoorQAX
set_option maxRecDepth 100000
set_option maxHeartbeats 8000000
open Option renaming some → Ya, none → Yb
open Go.Value renaming slice → Yc, int → Yd
open Go.IntKind renaming i64 → Yf
open Go.Obj renaming cells → Yg
open Go renaming World → Yh, Value → Yi
namespace Go.Proofs.YtbfnnolakggbfaaGreatDoor
section
open Go.RowKit
theorem Zlq {l:List Int} {k:Nat} {x c:Int} (a:l[k]? = Ya x) (h:(l.take k).contains c=false):(l.take (k+1)).contains c=(c==x):=by rw[List.take_add_one,a,List.contains_eq_any_beq,List.any_append,<-List.contains_eq_any_beq,h,Bool.false_or];simp
def ZfI (l:List Int) (c:Int) (z:Int):Prop:=decide (0<=z)=l.contains c
theorem ZnL (w:Yh) (v:Yi) (l:List Int) (c:Int) (h:ZaR w v l) :
  Calls Tryz.prog 150 #[v,Yd Yf c] w fun e w'=>(∃z:Int,e=.returned (Yd Yf z)/\ZfI l c z)/\w=w':=by
 obtain⟨A,H,rfl,B,C,r⟩:=h;obtain⟨n,t⟩:∃n,n=l.length:=⟨_,rfl⟩
 have i:n<=9223372036854775807:=by unfold maxLen at C;omega
 rw[<-t]at B r⊢;have p:=Lib.hid (And.intro t i);have E:=Lib.hid r;clear t B C r i;go_enter Tryz.func150,Tryz.ntmps150;go_wp2_with fail;go_loopg [8] n (fun g F wr=>w=wr/\∃k:Nat,F=Yd Yf k/\k<=n/\g=n-k/\(l.take k).contains c=false)
 case atStart=>exact⟨rfl,0,rfl,Nat.zero_le _,rfl,rfl⟩
 case round=>
  obtain⟨rfl,k,rfl,D,s,a⟩:=hrel;by_cases b:k=n
  ·have e:l.take k=l:=by rw[b,p.out.1];exact List.take_length
   rw[e]at a;have o:=Lib.hid (show ZfI l c (-1)from by unfold ZfI;rw[a];rfl);subst b;clear D s a e;go_wp2_with fail;go_ret;exact⟨⟨_,rfl,o.out⟩,rfl⟩
  ·have f:k<n:=by omega
   obtain⟨x,m⟩:∃x,l[k]? = Ya x:=⟨_,Ym (by have:=p.out.1;omega)⟩
   obtain⟨G,rfl,I⟩:=ZbM E.out (Below.refl _ _) m (by omega);have j:=Zlq (c:=c) m a
   have d:(c==x)=true->ZfI l c k:=fun q=>by
    unfold ZfI;have q:c=x:=by simpa using q
    rw[show l.contains c=true by rw[q];simpa using List.mem_of_getElem? m];exact decide_eq_true (by omega)
   have i1:(k:Int)<(n:Int):=by omega
   have i2:(0:Int)<=(k:Int):=by omega
   have J:IntKind.i64.wrap ((k:Int)+1)=(k:Int)+1:=IntWalk.i64_in _ (by have:=p.out.2;omega);have u:=Lib.hid (And.intro f s);have y:=Lib.hid (And.intro j d);clear j d m b f D s a;cases hq:(c==x)
   ·go_wp2_with fail;go_roundg (n-(k+1))
    case measure=>have:=u.out;omega
    case rel=>exact⟨rfl,k+1,by push_cast;rfl,by have:=u.out;omega,rfl,y.out.1.trans hq⟩
   ·go_wp2_with fail;go_ret;exact⟨⟨_,rfl,y.out.2 hq⟩,rfl⟩
theorem ZnK (w:Yh) (v:Yi) (l:List Int) (c:Int) (h:ZaR w v l) :
  Calls Tryz.prog 119 #[v,Yd Yf c] w fun e w'=>e=.returned (.bool (l.contains c))/\w=w':=by
 have b:=ZnL w v l c h;clear h;go_enter Tryz.func119,Tryz.ntmps119;go_wp2_with (go_at_call 150;go_fit b;rintro e d ⟨⟨z,rfl,a⟩,rfl⟩);go_ret;exact⟨by unfold ZfI at a;rw[<-a];rfl,rfl⟩
theorem Zbf.cells {w:Yh} {B n:Nat} {a:List Yi} (h:Zbf w B n a):∀(j:Nat) (u:Yi),a[j]? = Ya u->w.cell? ((⟨n,0,Yb⟩:Addr).add j)=Ya u:=fun j u hu=>by
 rw[Addr.add_lit,Nat.zero_add];exact h.2.2 j u hu
def ZaB (P:List Int):Nat->List Int
 |0=>[]
 |k+1=>if P.contains (k:Int)=true then ZaB P k else ZaB P k++[(k:Int)]
theorem Zff (P:List Int):∀k,(ZaB P k).length<=k
 |0=>Nat.le_refl _
 |k+1=>by
  have:=Zff P k;unfold ZaB
  split<;>simp<;>omega
def ZqZ (w:Yh) (l:List Int) (e:Ending) (w':Yh):Prop:=∃A c,e=.returned (Yc A l.length c)/\ZaR w' (Yc A l.length c) l/\Below w.heap.size w w'
theorem Ziq (w:Yh) (v:Yi) (P:List Int) (h:ZaR w v P):Calls Tryz.prog 73 #[v] w (ZqZ w (ZaB P 8)):=by
 obtain⟨K,z,C,D,E⟩:=info_parts ZnJ;obtain⟨A,c,rfl⟩:∃A c,v=Yc A P.length c:=by obtain⟨A,c,e,_⟩:=h;exact⟨A,c,e⟩
 have H:=Lib.hid h;clear h;go_enter Tryz.func73,Tryz.ntmps73;go_wp2_with fail;go_loopg [3,5] 8 (fun g v3 v5 wr=>∃(k:Nat) (p:Yi),p=v3/\v5=Yd Yf k/\k<=8/\g=8-k/\wr.ownsRow w.heap.size 3 1 p (ZaB P k).length (ZbT (ZaB P k))/\Below w.heap.size w wr)
 case atStart=>exact⟨0,_,rfl,rfl,by omega,rfl,World.ownsRow_nil _ _ _ _,Below.refl _ _⟩
 case round=>
  obtain⟨k,p,rfl,rfl,J,s,m,j⟩:=hrel;by_cases d:8<=k
  ·have t:=Zd1 m;rw[show k=8 by omega]at t;obtain⟨N,c3,rfl⟩:∃A c,p=Yc A (ZaB P 8).length c:=by obtain⟨A,c,e,_⟩:=t;exact⟨A,c,e⟩
   have i1:¬(k:Int)<8:=by omega
   have n:=Lib.hid (And.intro t j);clear t j m J s d;go_wp2_with fail;go_ret;exact⟨_,_,rfl,n.out.1,n.out.2⟩
  ·have i1:(k:Int)<8:=by omega
   have O:IntKind.i64.wrap ((k:Int)+1)=(k:Int)+1:=IntWalk.i64_in _ (by omega);have l:=ZnK wr _ P k (H.out.below j);have f:ZaB P (k+1)=if P.contains (k:Int)=true then ZaB P k else ZaB P k++[(k:Int)]:=rfl;have B:=Zff P k;have r:=Lib.hid (And.intro d s);cases hq:P.contains (k:Int)
   ·rw[hq]at l f;rw[Yn (by decide)]at f;have y:=Lib.hid l;have o:=Lib.hid (And.intro f j);have G:=Lib.hid m;have F:=Lib.hid B;clear l f hq j d s m B
    go_wp2_with (first
     |(go_at_call 119;go_fit y.out;rintro e M ⟨rfl,rfl⟩)
     |(at_builtin;refine wpList_append_own _ rfl _ _ 105 rfl w.heap.size 3 K (Yd Yf 0) 1 8 Tryz.underlying105 z C D E rfl (by decide) _ _ _ rfl (G.out.alloc _) ⟨wr.heap.size,0,Yb⟩ 1 1 [Yd Yf k] rfl rfl ?c1 ?c2 ?c3 ?c4 ?c5 ?_))
    case c1=>exact(Zas (wo:=wr) (x:=#[Yd Yf (k:Int)]) (ty:=3) (Nat.zero_le _)).cells
    case c2=>intro u hu;simp at hu;rw[hu];rfl
    case c3=>have:=F.out;unfold maxLen;omega
    case c4=>have:=F.out;omega
    case c5=>have:=o.out.2.size;simp;omega
    intro L I b a _
    have i:=Lib.hid (show I.ownsRow w.heap.size 3 1 L (ZaB P (k+1)).length (ZbT (ZaB P (k+1)))/\Below w.heap.size w I by
     rw[o.out.1];refine⟨?_,((o.out.2).alloc o.out.2.size _).grown a (by have:=o.out.2.size;simp;omega) (fun q hq=>(G.out.lt q hq).1)⟩;rw[Yj,ZbT,List.map_append]
     exact b)
    clear b a;go_wp2_with fail;go_roundg (8-(k+1))
    case measure=>have:=r.out;omega
    case rel=>exact⟨k+1,_,rfl,by push_cast;rfl,by have:=r.out;omega,rfl,i.out⟩
   ·rw[hq]at l f;rw[Yo rfl]at f;have y:=Lib.hid l;have i:=Lib.hid (show wr.ownsRow w.heap.size 3 1 p (ZaB P (k+1)).length (ZbT (ZaB P (k+1)))/\Below w.heap.size w wr by rw[f];exact⟨m,j⟩);clear l f hq j d s m B;go_wp2_with (go_at_call 119;go_fit y.out;rintro e M ⟨rfl,rfl⟩);go_roundg (8-(k+1))
    case measure=>have:=r.out;omega
    case rel=>exact⟨k+1,_,rfl,by push_cast;rfl,by have:=r.out;omega,rfl,i.out⟩
end
section
open Go.RowKit
abbrev Rw:=Int×Trm
def Zr:List (Yi×Rw)->List Yi
 |[]=>[]
 |x::r=>Yd Yf x.2.1::x.1::Yd Yf x.2.2.2.1::Yd Yf x.2.2.2.2::Zr r
theorem Zfo:∀l,(Zr l).length=l.length*4
 |[]=>rfl
 |x::r=>by rw[Zr,Yk,Yk,Yk,Yk,Zfo r,Yk];omega
theorem Zh9:∀(l:List (Yi×Rw)) (k:Nat) (x:Yi×Rw),l[k]? = Ya x->(Zr l)[k*4]? = Ya (Yd Yf x.2.1)/\(Zr l)[k*4+1]? = Ya x.1/\(Zr l)[k*4+2]? = Ya (Yd Yf x.2.2.2.1)/\(Zr l)[k*4+3]? = Ya (Yd Yf x.2.2.2.2)
 |[],k,x,h=>by simp at h
 |y::r,0,x,h=>by
  obtain rfl:y=x:=by simpa using h
  exact⟨rfl,rfl,rfl,rfl⟩
 |y::r,k+1,x,h=>by
  rw[List.getElem?_cons_succ]at h;obtain⟨a,b,c,d⟩:=Zh9 r k x h;exact⟨by rw[show(k+1)*4=k*4+1+1+1+1 by omega];exact a,by rw[show(k+1)*4+1=k*4+1+1+1+1+1 by omega];exact b,by rw[show(k+1)*4+2=k*4+2+1+1+1+1 by omega];exact c,by rw[show(k+1)*4+3=k*4+3+1+1+1+1 by omega];exact d⟩
theorem Zfn:∀(l m:List (Yi×Rw)),Zr (l++m)=Zr l++Zr m
 |[],m=>rfl
 |x::r,m=>by rw[List.cons_append,Zr,Zr,Zfn r m];rfl
def ZA (w:Yh) (v:Yi) (ts:List Rw):Prop:=
 ∃A c a,v=Yc A ts.length c/\ts.length<=c/\c<=maxLen/\a.map (·.2)=ts/\Zw w w.heap.size 4 A ts.length (Zr a)/\∀x∈a,Za w x.1 x.2.2.1
theorem ZA.below {w w':Yh} {v:Yi} {ts:List Rw} (h:ZA w v ts) (a:Below w.heap.size w w'):ZA w' v ts:=by obtain⟨A,c,k,b,d,e,f,g,i⟩:=h;exact⟨A,c,k,b,d,e,f,(g.below a).more a.size,fun x j=>(i x j).below a⟩
theorem ZA.nil (w:Yh):ZA w (Yc Yb 0 0) []:=⟨Yb,0,[],rfl,Nat.le_refl _,by decide,rfl,Zw.none_,fun x a=>by cases a⟩
theorem ZaT {w wr:Yh} {A:Option Addr} {n k:Nat} {rs:List (Yi×Rw)} {x:Yi×Rw} (l:Zw w w.heap.size 4 A n (Zr rs)) (h:Below w.heap.size w wr) (o:rs[k]? = Ya x) (m:0<n) :
  ∃f,A=Ya f/\wr.cell? (f.add (k*4))=Ya (Yd Yf x.2.1)/\wr.cell? ⟨(f.add (k*4)).block,(f.add (k*4)).off+1,Yb⟩=Ya x.1/\wr.cell? ⟨(f.add (k*4)).block,(f.add (k*4)).off+2,Yb⟩=Ya (Yd Yf x.2.2.2.1)/\wr.cell? ⟨(f.add (k*4)).block,(f.add (k*4)).off+3,Yb⟩=Ya (Yd Yf x.2.2.2.2):=by
 obtain⟨f,e,g,hc⟩:=l.2 m;obtain⟨a,b,c,d⟩:=Zh9 rs k x o;have j:=(h.cell (p:=f.add (k*4)) (by rw[ZJ];exact g)).trans (hc _ _ a);have d1:=(h.cell (p:=f.add (k*4+1)) (by rw[ZJ];exact g)).trans (hc _ _ b);have d2:=(h.cell (p:=f.add (k*4+2)) (by rw[ZJ];exact g)).trans (hc _ _ c);have i:=(h.cell (p:=f.add (k*4+3)) (by rw[ZJ];exact g)).trans (hc _ _ d);rw[<-ZcA]at d1 d2 i;exact⟨f,e,j,d1,d2,i⟩
def ZeX (op n:Int):Bool:=if op=0 then n==0 else if op=1 then decide (0<=n)else if op=2 then decide (0<n)else false
theorem Zrf (w:Yh) (op n d:Int) :
  Calls Tryz.prog 75 #[Yd Yf op,Zb n d] w fun r w'=>r=.returned (.bool (ZeX op n))/\Below w.heap.size w w':=by
 have g:=below_alloc1 w (Yg #[Yd Yf n,Yd Yf d] 23);have c:=Lib.hid g;clear g;unfold ZeX;by_cases a:op=0
 ·subst a;go_enter Tryz.func75,Tryz.ntmps75;go_wp2_with fail;go_ret;exact⟨rfl,c.out⟩
 ·have f:(op==0)=false:=by simpa using a
  rw[Yn a];by_cases b:op=1
  ·subst b;clear a f;go_enter Tryz.func75,Tryz.ntmps75;go_wp2_with fail;go_ret;exact⟨rfl,c.out⟩
  ·have h:(op==1)=false:=by simpa using b
   rw[Yn b];by_cases e:op=2
   ·subst e;clear a f b h;go_enter Tryz.func75,Tryz.ntmps75;go_wp2_with fail;go_ret;exact⟨rfl,c.out⟩
   ·have i:(op==2)=false:=by simpa using e
    rw[Yn e];clear a b e;go_enter Tryz.func75,Tryz.ntmps75;go_wp2_with fail;go_ret;exact⟨rfl,c.out⟩
end
section
def Zct (s:Bool) (a b:Rat):Prop:=if s then a<b else a<=b
theorem below_le {s:Bool} {a b:Rat} (h:Zct s a b):a<=b:=by
 cases s
 ·exact h
 ·exact Rat.le_of_lt h
theorem Zo7:∀(l:List (Bool×Rat)),l≠[]->∃m∈l,∀a∈l,a.2<=m.2
 |[],h=>absurd rfl h
 |[a],_=>⟨a,by simp,fun b d=>by
  obtain rfl:=List.mem_singleton.1 d
  exact Rat.le_refl⟩
 |a::b::r,_=>by
  obtain⟨m,hm,h⟩:=Zo7 (b::r) (by simp);rcases Rat.le_total (a:=a.2) (b:=m.2)with g|g
  ·refine⟨m,List.mem_cons_of_mem _ hm,fun c hc=>?_⟩;rcases List.mem_cons.1 hc with rfl|hc
   ·exact g
   ·exact h c hc
  ·refine⟨a,by simp,fun c hc=>?_⟩;rcases List.mem_cons.1 hc with rfl|hc
   ·exact Rat.le_refl
   ·exact Rat.le_trans (h c hc) g
theorem Zlx:∀(l:List (Bool×Rat)),l≠[]->∃m∈l,∀a∈l,m.2<=a.2
 |[],h=>absurd rfl h
 |[a],_=>⟨a,by simp,fun b d=>by
  obtain rfl:=List.mem_singleton.1 d
  exact Rat.le_refl⟩
 |a::b::r,_=>by
  obtain⟨m,hm,h⟩:=Zlx (b::r) (by simp);rcases Rat.le_total (a:=m.2) (b:=a.2)with g|g
  ·refine⟨m,List.mem_cons_of_mem _ hm,fun c hc=>?_⟩;rcases List.mem_cons.1 hc with rfl|hc
   ·exact g
   ·exact h c hc
  ·refine⟨a,by simp,fun c hc=>?_⟩;rcases List.mem_cons.1 hc with rfl|hc
   ·exact Rat.le_refl
   ·exact Rat.le_trans g (h c hc)
theorem Zgl {s:Bool} {a b:Rat} (h:a<b):Zct s a b:=by
 cases s
 ·exact Rat.le_of_lt h
 ·exact h
theorem Zjr (i f:List (Bool×Rat)) (h:∀a∈i,∀b∈f,Zct (a.1||b.1) a.2 b.2):∃x,(∀a∈i,Zct a.1 a.2 x)/\∀b∈f,Zct b.1 x b.2:=by
 by_cases l:i=[]
 ·subst l;by_cases g:f=[]
  ·subst g;exact⟨0,fun a c=>(by cases c),fun b d=>(by cases d)⟩
  ·obtain⟨m,_,hm⟩:=Zlx f g;exact⟨m.2-1,fun a c=>(by cases c),fun b d=>Zgl (by have:=hm b d;grind)⟩
 ·obtain⟨M,j,hm⟩:=Zo7 i l;by_cases g:f=[]
  ·subst g;exact⟨M.2+1,fun a c=>Zgl (by have:=hm a c;grind),fun b d=>(by cases d)⟩
  ·obtain⟨N,k,n⟩:=Zlx f g;have o:=below_le (h M j N k);by_cases e:M.2=N.2
   ·refine⟨M.2,fun a c=>?_,fun b d=>?_⟩
    ·have:=h a c N k;rw[<-e]at this;cases q:a.1 with
     |false=>exact hm a c
     |true=>rw[q]at this;exact this
    ·have:=h M j b d;cases q:b.1 with
     |false=>rw[e];exact n b d
     |true=>rw[q,Bool.or_true]at this;exact this
   ·have lt:M.2<N.2:=by grind
    exact⟨(M.2+N.2) / 2,fun a c=>Zgl (by have:=hm a c;grind),fun b d=>Zgl (by have:=n b d;grind)⟩
abbrev Lin:=(Nat->Rat)×Rat
def lv (c ρ:Nat->Rat):Nat->Rat
 |0=>0
 |n+1=>lv c ρ n+c n*ρ n
def Zbx (f:Lin) (ρ:Nat->Rat):Rat:=lv f.1 ρ 8+f.2
def upd (ρ:Nat->Rat) (v:Nat) (x:Rat):Nat->Rat:=fun i=>if i=v then x else ρ i
theorem Zo6 (c ρ:Nat->Rat) (v:Nat) (x:Rat):∀n:Nat,lv c (upd ρ v x) n=lv c ρ n+if v<n then c v*(x-ρ v)else 0
 |0=>by simp only[lv,Nat.not_lt_zero,if_false];grind
 |n+1=>by
  rw[lv,lv,Zo6 c ρ v x n];unfold upd;by_cases h:n=v
  ·subst h;rw[Yo rfl,Yn (by omega),Yo (by omega)]
   grind
  ·rw[Yn h];by_cases g:v<n
   ·rw[Yo g,Yo (by omega)];grind
   ·rw[Yn g,Yn (by omega)];grind
theorem Zix (f:Lin) (ρ:Nat->Rat) {v:Nat} (a:v<8) (x:Rat):Zbx f (upd ρ v x)=Zbx f ρ+f.1 v*(x-ρ v):=by
 unfold Zbx;rw[Zo6,Yo a]
 grind
theorem Zo4 (a b c ρ:Nat->Rat) (h:∀i,c i=a i+b i):∀n,lv c ρ n=lv a ρ n+lv b ρ n
 |0=>by simp only[lv];grind
 |n+1=>by rw[lv,lv,lv,Zo4 a b c ρ h n,h n];grind
theorem Zo5 (a c ρ:Nat->Rat) (k:Rat) (h:∀i,c i=a i*k):∀n,lv c ρ n=lv a ρ n*k
 |0=>by simp only[lv];grind
 |n+1=>by rw[lv,lv,Zo5 a c ρ k h n,h n];grind
theorem Zqh {a b c:Lin} (h:∀i,c.1 i=a.1 i+b.1 i) (d:c.2=a.2+b.2) (ρ:Nat->Rat):Zbx c ρ=Zbx a ρ+Zbx b ρ:=by
 unfold Zbx;rw[Zo4 a.1 b.1 c.1 ρ h,d]
 grind
theorem Zqi {a c:Lin} {k:Rat} (h:∀i,c.1 i=a.1 i*k) (b:c.2=a.2*k) (ρ:Nat->Rat):Zbx c ρ=Zbx a ρ*k:=by
 unfold Zbx;rw[Zo5 a.1 c.1 ρ k h,b]
 grind
def ZcJ (r:Bool×Lin) (ρ:Nat->Rat):Prop:=Zct r.1 0 (Zbx r.2 ρ)
theorem ZlU {r:Bool×Lin} {ρ:Nat->Rat} {v:Nat} (a:v<8) (h:r.2.1 v=0) (x:Rat):ZcJ r (upd ρ v x)↔ZcJ r ρ:=by unfold ZcJ;rw[Zix _ _ a,h,show Zbx r.2 ρ+0*(x-ρ v)=Zbx r.2 ρ by grind]
theorem ZoU {O Lo Up:List (Bool×Lin)} {ρ:Nat->Rat} {v:Nat} (d:v<8) (i:∀r∈O,r.2.1 v=0) (h:∀r∈Lo,r.2.1 v=1) (j:∀r∈Up,r.2.1 v=-1)
  (e:∀r∈O,ZcJ r ρ) (f:∀a∈Lo,∀b∈Up,Zct (a.1||b.1) 0 (Zbx a.2 ρ+Zbx b.2 ρ)):∃x,(∀r∈O,ZcJ r (upd ρ v x))/\(∀r∈Lo,ZcJ r (upd ρ v x))/\∀r∈Up,ZcJ r (upd ρ v x):=by
 obtain⟨x,n,o⟩:=Zjr (Lo.map fun r=>(r.1,ρ v-Zbx r.2 ρ)) (Up.map fun r=>(r.1,ρ v+Zbx r.2 ρ)) (fun a k b l=>by
  obtain⟨r,c,rfl⟩:=List.mem_map.1 k;obtain⟨t,m,rfl⟩:=List.mem_map.1 l;have:=f r c t m;unfold Zct at this⊢;dsimp only
  split
  ·rename_i g;rw[Yo g]at this;grind
  ·rename_i g;rw[Yn g]at this;grind)
 refine⟨x,fun r c=>(ZlU d (i r c) x).2 (e r c),fun r c=>?_,fun r c=>?_⟩
 ·have:=n _ (List.mem_map_of_mem c);unfold ZcJ;rw[Zix _ _ d,h r c];unfold Zct at this⊢;dsimp only at this
  split
  ·rename_i g;rw[Yo g]at this;grind
  ·rename_i g;rw[Yn g]at this;grind
 ·have:=o _ (List.mem_map_of_mem c);unfold ZcJ;rw[Zix _ _ d,j r c];unfold Zct at this⊢;dsimp only at this
  split
  ·rename_i g;rw[Yo g]at this;grind
  ·rename_i g;rw[Yn g]at this;grind
theorem Zp8 {a b:Bool×Lin} {ρ:Nat->Rat} (c:ZcJ a ρ) (d:ZcJ b ρ):Zct (a.1||b.1) 0 (Zbx a.2 ρ+Zbx b.2 ρ):=by unfold ZcJ Zct at *;cases qa:a.1<;>cases qb:b.1<;>simp only[qa,qb,Bool.or_true,Bool.or_false,if_true,Bool.false_eq_true,if_false]at*<;> grind
theorem ZqF {r t:Bool×Lin} {k:Rat} (c:0<k) (d:t.1=r.1) (f:∀i,t.2.1 i=r.2.1 i*k) (j:t.2.2=r.2.2*k) (ρ:Nat->Rat):ZcJ t ρ↔ZcJ r ρ:=by
 unfold ZcJ Zct;rw[d,Zqi f j]
 split
 ·constructor
  ·intro h;rcases Rat.le_total (a:=Zbx r.2 ρ) (b:=0)with g|g
   ·exfalso;have:Zbx r.2 ρ*k<=0:=by
     have:=Rat.mul_le_mul_of_nonneg_right g (Rat.le_of_lt c)
     grind
    grind
   ·by_cases e:Zbx r.2 ρ=0
    ·rw[e]at h;grind
    ·grind
  ·intro h;exact Rat.mul_pos h c
 ·constructor
  ·intro h;rcases Rat.le_total (a:=0) (b:=Zbx r.2 ρ)with g|g
   ·exact g
   ·by_cases e:Zbx r.2 ρ=0
    ·rw[e];exact Rat.le_refl
    ·exfalso;have:0<(- Zbx r.2 ρ)*k:=Rat.mul_pos (by grind) c
     grind
  ·intro h;exact Rat.mul_nonneg h (Rat.le_of_lt c)
end
section
open Go.RowKit
def ZaW (t:Trm) (b:Int×Int):Option Trm:=if(Zh t.1 t.2 b).2.2=0 then Ya ((Zh t.1 t.2 b).1,(Zh t.1 t.2 b).2.1)else Yb
def Zcc (t u:Trm):Option Trm:=if(ZaO t.1 u.1 t.2 u.2).2.2=0 then Ya ((ZaO t.1 u.1 t.2 u.2).1,(ZaO t.1 u.1 t.2 u.2).2.1)else Yb
theorem ZoD (f:Int->Rat) (g:Int->Rat) (b:∀i,i<0->f i=g i) (c:∀n:Nat,f n=g n):∀i,f i=g i:=fun i=>by
 rcases int_lt i 0 with a|a
 ·exact b i a
 ·obtain⟨n,rfl⟩:∃n:Nat,i=n:=⟨i.toNat,by omega⟩
  exact c n
theorem ZlV {t u:Trm} {b:Int×Int} (c:TrmOk t) (d:OkR b) (h:ZaW t b=Ya u):(∀i:Int,co u i=co t i*q b)/\q u.2=q t.2*q b:=by
 unfold ZaW at h
 split at h
 ·rename_i g
  obtain rfl:=Option.some.inj h;obtain⟨_,_,_,_,P⟩:=Zcm c.ok.wide c.k.wide d.wide g;have a:∀(x m:Int×Int),OkR x->(ZP x b).2=0->m=(ZP x b).1->q m=q x*q b:=by intro x m l f j;obtain⟨_,o⟩:=Zlz l d f;rw[j,o]
  refine⟨ZoD _ _ (fun i e=>?_) fun n=>a _ _ (c.ok.at n) (P.at_ n).1 (P.at_ n).2,a _ _ c.k P.k.1 P.k.2⟩;rw[ZcX e,ZcX e]
  grind
 ·cases h
theorem ZoA {t u r:Trm} (b:TrmOk t) (hu:TrmOk u) (h:Zcc t u=Ya r):(∀i:Int,co r i=co t i+co u i)/\q r.2=q t.2+q u.2:=by
 unfold Zcc at h
 split at h
 ·rename_i g
  obtain rfl:=Option.some.inj h;obtain⟨_,_,_,_,_,_,P⟩:=Zdb b.ok.wide hu.ok.wide b.k.wide hu.k.wide g;have a:∀(x y m:Int×Int),OkR x->OkR y->(Zl x y).2=0->m=(Zl x y).1->q m=q x+q y:=by intro x y m f j d e;obtain⟨_,l⟩:=Zoz f j d;rw[e,l]
  refine⟨ZoD _ _ (fun i c=>?_) fun n=>a _ _ _ (b.ok.at n) (hu.ok.at n) (P.at_ n).1 (P.at_ n).2,a _ _ _ b.k hu.k P.k.1 P.k.2⟩;rw[ZcX c,ZcX c,ZcX c]
  grind
 ·cases h
end
section
open Go.RowKit
theorem Zkl {t u:Trm} {b:Int×Int} (a:TrmOk t) (c:OkR b) (h:ZaW t b=Ya u):TrmOk u:=by
 unfold ZaW at h
 split at h
 ·rename_i g
  obtain rfl:=Option.some.inj h;obtain⟨_,_,_,_,P⟩:=Zcm a.ok.wide a.k.wide c.wide g;exact⟨P.ok,P.okk,P.len⟩
 ·cases h
theorem Zm2 {t u r:Trm} (a:TrmOk t) (hu:TrmOk u) (h:Zcc t u=Ya r):TrmOk r:=by
 unfold Zcc at h
 split at h
 ·rename_i g
  obtain rfl:=Option.some.inj h;obtain⟨_,_,_,_,_,_,P⟩:=Zdb a.ok.wide hu.ok.wide a.k.wide hu.k.wide g;exact⟨P.ok,P.okk,P.len⟩
 ·cases h
def ZbC (x:Int×Int):Int×Int:=(x.2,(x.1.natAbs:Int))
theorem Zgq {x:Int×Int} (h:OkR x) (a:x.1≠0):OkR (ZbC x):=by
 have:=ZeN h a;obtain⟨d,e,v⟩:=h;refine⟨x.1.natAbs,rfl,by omega,?_,?_,?_⟩
 ·have:=v.n_le;omega
 ·unfold ZbC;have:=v.d_le;rw[e];omega
 ·unfold ZbC;show Nat.gcd x.2.natAbs x.1.natAbs=1;have:=v.low;rw[e,Int.natAbs_natCast,Nat.gcd_comm];exact this
theorem Zec {a b:Rat} (d:0<a) (c:0<b):0<a / b:=(Rat.lt_div_iff c).2 (by grind)
theorem ZnV {x:Int×Int} (h:OkR x) (g:0<x.1):q (ZbC x)*q x=1/\0<q (ZbC x)/\0<q x:=by
 obtain⟨d,e,v⟩:=id h;have a:=h.ne;have c:0<(x.2:Rat):=by rw[e];exact_mod_cast v.pos
 have f:0<(x.1:Rat):=by exact_mod_cast g
 have b:((x.1.natAbs:Int):Rat)=(x.1:Rat):=by
  have:(x.1.natAbs:Int)=x.1:=by omega
  rw[this]
 have i:0<q x:=by unfold q;exact Zec f c
 have j:0<q (ZbC x):=by unfold q ZbC;dsimp only;rw[b];exact Zec c f
 refine⟨?_,j,i⟩;unfold q ZbC;dsimp only;rw[b]
 grind
theorem ZnU {x:Int×Int} (h:OkR x) (i:x.1<0):q x*q (ZbC x)=-1/\0<q (ZbC x)/\q x<0:=by
 obtain⟨d,e,v⟩:=id h;have a:=h.ne;have c:0<(x.2:Rat):=by rw[e];exact_mod_cast v.pos
 have f:0 < -(x.1:Rat):=by
  have:0 < -x.1:=by omega
  have:(0:Rat)<((-x.1:Int):Rat):=by exact_mod_cast this
  push_cast at this
  exact this
 have b:((x.1.natAbs:Int):Rat)=-(x.1:Rat):=by
  have:(x.1.natAbs:Int)=-x.1:=by omega
  rw[this]
  push_cast
  rfl
 have j:0 < -(q x):=by
  have:=Zec f c;unfold q
  grind
 have g:0<q (ZbC x):=by unfold q ZbC;dsimp only;rw[b];exact Zec c f
 refine⟨?_,g,by grind⟩;unfold q ZbC;dsimp only;rw[b]
 grind
abbrev Za5:=List Rw×List Rw×List Rw
def Zar (v:Int) (s:Za5) (r:Rw):Option Za5:=
 if(atL r.2.1 v).1=0 then Ya (s.1++[r],s.2.1,s.2.2)
 else match ZaW r.2 (ZbC (atL r.2.1 v))with
  |none=>Yb
  |some t=>if 0<(atL r.2.1 v).1 then Ya (s.1,s.2.1++[(r.1,t)],s.2.2)else Ya (s.1,s.2.1,s.2.2++[(r.1,t)])
def ZW (v:Int):Za5->List Rw->Option Za5
 |s,[]=>Ya s
 |s,r::l=>(Zar v s r).bind fun a=>ZW v a l
theorem Zgy (v:Int) (r:Rw):∀(l:List Rw) (s:Za5),ZW v s (l++[r])=(ZW v s l).bind fun a=>Zar v a r
 |[],s=>by simp only[List.nil_append,ZW,Option.bind_some];cases Zar v s r<;>rfl
 |x::l,s=>by
  rw[List.cons_append,ZW,ZW];cases Zar v s x with
  |none=>rfl
  |some a=>exact Zgy v r l a
def Zdz (r t:Rw):Prop:=t.1=r.1/\TrmOk t.2/\∃k:Rat,0<k/\(∀i,co t.2 i=co r.2 i*k)/\q t.2.2=q r.2.2*k
structure SortIs (v:Int) (s s':Za5) (l:List Rw):Prop where
 o:∀r,r∈s'.1↔r∈s.1\/(r∈l/\co r.2 v=0)
 lo:∀t∈s'.2.1,t∈s.2.1\/∃r∈l,Zdz r t/\co t.2 v=1
 lo':(∀t∈s.2.1,t∈s'.2.1)/\∀r∈l,0<co r.2 v->∃t∈s'.2.1,Zdz r t
 up:∀t∈s'.2.2,t∈s.2.2\/∃r∈l,Zdz r t/\co t.2 v=-1
 up':(∀t∈s.2.2,t∈s'.2.2)/\∀r∈l,co r.2 v<0->∃t∈s'.2.2,Zdz r t
theorem Zdx (v:Int):∀(l:List Rw) (s n:Za5),(∀r∈l,TrmOk r.2)->ZW v s l=Ya n->SortIs v s n l
 |[],s,n,_,h=>by
  obtain rfl:=Option.some.inj h;exact⟨fun r=>by simp,fun t c=>.inl c,⟨fun t c=>c,fun r j=>by cases j⟩,fun t c=>.inl c,⟨fun t c=>c,fun r j=>by cases j⟩⟩
 |r::l,s,n,hl,h=>by
  have j:=hl r (by simp);have i:=fun x f=>hl x (List.mem_cons_of_mem r f);have g:=j.ok.at v;rw[ZW]at h;by_cases k:(atL r.2.1 v).1=0
  ·have e:Zar v s r=Ya (s.1++[r],s.2.1,s.2.2):=Yo k;rw[e]at h;have I:=Zdx v l _ n i h;have p:co r.2 v=0:=(ZlJ g).2 k;refine⟨fun t=>?_,fun t c=>?_,⟨I.lo'.1,fun t c d=>?_⟩,fun t c=>?_,⟨I.up'.1,fun t c d=>?_⟩⟩
   ·rw[I.o t];simp only[List.mem_append,List.mem_cons,List.not_mem_nil,or_false];constructor
    ·rintro((a|rfl)|⟨a,b⟩)
     ·exact .inl a
     ·exact .inr ⟨.inl rfl,p⟩
     ·exact .inr ⟨.inr a,b⟩
    ·rintro(a|⟨rfl|a,b⟩)
     ·exact .inl (.inl a)
     ·exact .inl (.inr rfl)
     ·exact .inr ⟨a,b⟩
   ·rcases I.lo t c with a|⟨x,f,a⟩
    ·exact .inl a
    ·exact .inr ⟨x,List.mem_cons_of_mem _ f,a⟩
   ·rcases List.mem_cons.1 c with rfl|c
    ·rw[p]at d;grind
    ·exact I.lo'.2 t c d
   ·rcases I.up t c with a|⟨x,f,a⟩
    ·exact .inl a
    ·exact .inr ⟨x,List.mem_cons_of_mem _ f,a⟩
   ·rcases List.mem_cons.1 c with rfl|c
    ·rw[p]at d;grind
    ·exact I.up'.2 t c d
  ·have p:co r.2 v≠0:=fun e=>k ((ZlJ g).1 e);cases hu:ZaW r.2 (ZbC (atL r.2.1 v))with
   |none=>
    have e:Zar v s r=Yb:=by unfold Zar;rw[Yn k,hu]
    rw[e]at h;cases h
   |some u=>
    have A:=Zgq g k;obtain⟨c1,c2⟩:=ZlV j A hu;have B:=Zkl j A hu;by_cases d:0<(atL r.2.1 v).1
    ·have e:Zar v s r=Ya (s.1,s.2.1++[(r.1,u)],s.2.2):=by unfold Zar;rw[Yn k,hu];exact Yo d
     rw[e]at h;have I:=Zdx v l _ n i h;obtain⟨C,y,z⟩:=ZnV g d;have w:Zdz r (r.1,u):=⟨rfl,B,_,y,c1,c2⟩
     have m:co u v=1:=by rw[c1 v];unfold co;grind
     have E:0<co r.2 v:=z;refine⟨fun t=>?_,fun t c=>?_,⟨fun t c=>I.lo'.1 t (by simp[c]),fun t c d=>?_⟩,fun t c=>?_,⟨I.up'.1,fun t c d=>?_⟩⟩
     ·rw[I.o t];constructor
      ·rintro(a|⟨a,b⟩)
       ·exact .inl a
       ·exact .inr ⟨List.mem_cons_of_mem _ a,b⟩
      ·rintro(a|⟨a,b⟩)
       ·exact .inl a
       ·rcases List.mem_cons.1 a with rfl|a
        ·exact absurd b p
        ·exact .inr ⟨a,b⟩
     ·rcases I.lo t c with a|⟨x,f,a⟩
      ·rcases List.mem_append.1 a with a|a
       ·exact .inl a
       ·obtain rfl:=List.mem_singleton.1 a;exact .inr ⟨r,by simp,w,m⟩
      ·exact .inr ⟨x,List.mem_cons_of_mem _ f,a⟩
     ·rcases List.mem_cons.1 c with rfl|c
      ·exact⟨_,I.lo'.1 _ (by simp),w⟩
      ·exact I.lo'.2 t c d
     ·rcases I.up t c with a|⟨x,f,a⟩
      ·exact .inl a
      ·exact .inr ⟨x,List.mem_cons_of_mem _ f,a⟩
     ·rcases List.mem_cons.1 c with rfl|c
      ·grind
      ·exact I.up'.2 t c d
    ·have e:Zar v s r=Ya (s.1,s.2.1,s.2.2++[(r.1,u)]):=by unfold Zar;rw[Yn k,hu];exact Yn d
     rw[e]at h;have I:=Zdx v l _ n i h;obtain⟨C,y,z⟩:=ZnU g (by omega);have w:Zdz r (r.1,u):=⟨rfl,B,_,y,c1,c2⟩
     have m:co u v=-1:=by rw[c1 v];exact C
     have D:co r.2 v<0:=z;refine⟨fun t=>?_,fun t c=>?_,⟨I.lo'.1,fun t c d=>?_⟩,fun t c=>?_,⟨fun t c=>I.up'.1 t (by simp[c]),fun t c d=>?_⟩⟩
     ·rw[I.o t];constructor
      ·rintro(a|⟨a,b⟩)
       ·exact .inl a
       ·exact .inr ⟨List.mem_cons_of_mem _ a,b⟩
      ·rintro(a|⟨a,b⟩)
       ·exact .inl a
       ·rcases List.mem_cons.1 a with rfl|a
        ·exact absurd b p
        ·exact .inr ⟨a,b⟩
     ·rcases I.lo t c with a|⟨x,f,a⟩
      ·exact .inl a
      ·exact .inr ⟨x,List.mem_cons_of_mem _ f,a⟩
     ·rcases List.mem_cons.1 c with rfl|c
      ·grind
      ·exact I.lo'.2 t c d
     ·rcases I.up t c with a|⟨x,f,a⟩
      ·rcases List.mem_append.1 a with a|a
       ·exact .inl a
       ·obtain rfl:=List.mem_singleton.1 a;exact .inr ⟨r,by simp,w,m⟩
      ·exact .inr ⟨x,List.mem_cons_of_mem _ f,a⟩
     ·rcases List.mem_cons.1 c with rfl|c
      ·exact⟨_,I.up'.1 _ (by simp),w⟩
      ·exact I.up'.2 t c d
end
section
open Go.RowKit
theorem Zrx {ts:List Trm} (d:∀t∈ts,Zz t.1/\Bd t.2) (h:ts.any ZT=false):∀t∈ts,TrmOk t:=fun t c=>by
 have q:ZT t=false:=by
  cases e:ZT t
  ·rfl
  ·have:=List.any_eq_true.2 ⟨t,c,e⟩;rw[h]at this;cases this
 unfold ZT at q;obtain⟨p,a,b⟩:=Zaj (by simpa using q) (d t c).1 (d t c).2.1.1 (d t c).2.1.2 (d t c).2.2.1 (d t c).2.2.2;exact⟨a,b,p⟩
theorem Zgx {ts a:List Trm} {p:List Int} (c:∀t∈ts,Zz t.1/\Bd t.2) (h:Zy ts=((a,p),0)):(∀t∈ts,TrmOk t)/\∃l,Zaz ts 8=Ya (l,a,p)/\l.any prK=false:=by
 unfold Zy at h
 split at h
 ·rename_i g
  refine⟨Zrx c g.2,?_⟩
  split at h
  ·simp at h
  ·rename_i s b
   split at h
   ·simp at h
   ·rename_i hq
    obtain⟨l,d,e⟩:=s;simp only[Prod.mk.injEq,and_true]at h;obtain⟨rfl,rfl⟩:=h;exact⟨l,b,by simpa using hq⟩
 ·simp at h
theorem ZmP (ts:List Trm):(Zy ts).2=0\/((Zy ts).2=1/\(Zy ts).1=([],[]))\/((Zy ts).2=2/\(Zy ts).1=([],[])):=by
 unfold Zy
 split
 ·split
  ·exact .inr (.inr ⟨rfl,rfl⟩)
  ·split
   ·exact .inr (.inl ⟨rfl,rfl⟩)
   ·exact .inl rfl
 ·exact .inr (.inr ⟨rfl,rfl⟩)
structure PivOk (a:List Trm) (p:List Int):Prop where
 len:a.length=p.length
 rng:∀(i:Nat) (x:Int),p[i]? = Ya x->0<=x/\x<8
 inc:∀(i j:Nat) (x y:Int),i<j->p[i]? = Ya x->p[j]? = Ya y->x<y
 at_:∀(i k:Nat) (x:Int) (t:Trm),p[i]? = Ya x->a[k]? = Ya t->atL t.1 x=if k=i then(1,1)else(0,1)
theorem Zpf {ts a:List Trm} {p:List Int} (m:∀t∈ts,Zz t.1/\Bd t.2) (h:Zy ts=((a,p),0)):PivOk a p:=by
 obtain⟨b,l,j,_⟩:=Zgx m h;obtain⟨f,E⟩:=Zjv b 8 _ j;refine⟨f.ql,E.rng,E.inc,fun i k x t n c=>?_⟩;have u:=E.unit i k x t n c;have d:=(f.q t (List.mem_of_getElem? c)).ok.at x;by_cases g:k=i
 ·rw[Yo g];rw[Yo g.symm]at u;exact d.inj ZdZ (by rw[Zsg];exact u)
 ·rw[Yn g];rw[Yn (fun e=>g e.symm)]at u;exact d.inj Zak (by rw[Zpl];exact u)
structure PivS (w3 wr:Yh) (b8:Nat) (q1:Int):Prop where
 b:Below w3.heap.size w3 wr
 k0:wr.cell? ⟨b8,0,Yb⟩=Ya (Yd Yf q1)
 k1:wr.cell? ⟨b8,1,Yb⟩=Ya (Yd Yf 1)
theorem PivS.keep {f wr e:Yh} {c:Nat} {d:Int} (h:PivS f wr c d) (a:Below wr.heap.size wr e):PivS f e c d:=
 ⟨h.b.trans (a.mono h.b.size),Zd a (World.block_lt_of_cell? _ _ h.k0) h.k0,Zd a (World.block_lt_of_cell? _ _ h.k1) h.k1⟩
end
section
open Go.RowKit
theorem ZoQ {p t:Trm} {v:Int} (h:(atL t.1 v).1=0):ZO p v t=Ya t:=by unfold ZO;have e:Zaq t.1 t.2 p.1 p.2 v=(t.1,t.2,0):=Yo h;rw[e];rfl
end
section
open Go.RowKit
def ZgB (f:Nat->Rat):Nat->Rat
 |0=>0
 |k+1=>ZgB f k+f k
theorem Zl2 (f g h:Nat->Rat) (c:Rat) (e:∀k,f k=g k+c*h k):∀k,ZgB f k=ZgB g k+c*ZgB h k
 |0=>by unfold ZgB;grind
 |k+1=>by
  have:=Zl2 f g h c e k;have:=e k;unfold ZgB
  grind
def ev (t:Trm) (x:Nat->Rat):Rat:=q t.2+ZgB (fun k=>co t k*x k) 8
end
section
open Go.RowKit
structure Solved (a:List Trm) (p:List Int):Prop where
 po:PivOk a p
 ok:∀t∈a,TrmOk t
 own:∀t∈a,Zs t.1=t.1
 unit:∀(i j:Nat) (x:Int) (u:Trm),p[i]? = Ya x->a[j]? = Ya u->co u x=if i=j then 1 else 0
 lead:∀(j:Nat) (x:Int) (u:Trm),p[j]? = Ya x->a[j]? = Ya u->∀v:Int,v<x->co u v=0
theorem Zko {ts a:List Trm} {p:List Int} (c:∀t∈ts,Zz t.1/\Bd t.2) (h:Zy ts=((a,p),0)):Solved a p:=by obtain⟨b,l,d,_⟩:=Zgx c h;obtain⟨e,E⟩:=Zjv b 8 _ d;exact⟨Zpf c h,e.q,E.own,E.unit,E.lead⟩
section
variable {a b:List Trm} {p p':List Int}
end
end
section
open Go.RowKit
theorem Zja (w:Yh) (p:Yi) (l:List (Int×Int)) (kx kb:Int×Int) (j:Za w p l) (u:Zz l) (x:Bd kx) (t:Bd kb) :
  Calls Tryz.prog 152 #[.agg #[p,Yd Yf kx.1,Yd Yf kx.2],Zb kb.1 kb.2] w (ZaQ w (Zh l kx kb).1 (Zh l kx kb).2.1 (Zh l kx kb).2.2):=by
 have y:=fun(z:Yh) (h:Below w.heap.size w z)=>Zdk z p l kx kb (j.below h) u x t;generalize Zh l kx kb=P at *;obtain⟨L,⟨m,o⟩,e⟩:=P;obtain⟨N,M⟩:=kx;obtain⟨D,C⟩:=kb;dsimp only at *;obtain⟨A,c,rfl⟩:=Zc j;have B:=Lib.hid y;clear y j u x t;generalize l.length=n at *;have H:=ScS.start w (Yc A n c) N M D C 37 23;have k0:=H.F.k0;have k1:=H.F.k1;have k2:=H.F.k2;have E:=H.Q.k0;have G:=H.Q.k1;have i:=Lib.hid H;clear H;go_enter Tryz.func152,Tryz.ntmps152;go_wp2_with (go_at_call 33;go_fit (B.out _ i.out.below);rintro T Y ⟨X,rfl,d,k,f⟩;obtain⟨r,s,rfl⟩:=Zc d;have a:=i.out.keep k;have g:=Lib.hid (And.intro d (And.intro (f.mono i.out.sz:Zp (w.heap.size+1+1+1) _) a));clear k0 k1 k2 E G d f;have O:=a.c0;have R:=a.c1;have S:=a.c2;have U:=a.l0;have V:=a.l1;have W:=a.l2;clear a);obtain⟨c0,c1,c2⟩:=g.out.2.2.three (.slice r L.length s) (Yd Yf m) (Yd Yf o);obtain⟨I,J,K⟩:=Zcg (w:=w) (b:=w.heap.size+1+1) (kn:=m) (kd:=o) g.out.1 g.out.2.2.below g.out.2.1 (by omega) rfl;exact bodyPost_ret (v:=.tuple #[.agg #[.slice r L.length s,Yd Yf m,Yd Yf o],Yd Yf e]) (by simp[results,Tryz.results152,go_sem,c0,c1,c2]) rfl ⟨_,rfl,I,J,K⟩
def ZdF (l:List (Int×Int)) (kx:Int×Int) (p:List (Int×Int)) (b a:Int×Int):List (Int×Int)×(Int×Int)×Int:=
 if(Zh p b (Zv a)).2.2=0 then ZaO l (Zh p b (Zv a)).1 kx (Zh p b (Zv a)).2.1 else([],(0,0),(Zh p b (Zv a)).2.2)
structure LesS (w wr:Yh) (s t:Yi) (xn xd yn yd bn bd:Int):Prop where
 F:FracBox wr w.heap.size s (Yd Yf xn) (Yd Yf xd)
 G:FracBox wr (w.heap.size+1) t (Yd Yf yn) (Yd Yf yd)
 R:RatAt wr (w.heap.size+1+1) bn bd
 E:FracBox wr (w.heap.size+1+1+1) (Yc Yb 0 0) (Yd Yf 0) (Yd Yf 0)
 below:Below w.heap.size w wr
theorem LesS.keep {w wr d:Yh} {s t:Yi} {f e i g c b:Int} (h:LesS w wr s t f e i g c b) (a:Below wr.heap.size wr d):LesS w d s t f e i g c b:=
 ⟨h.F.keep a,h.G.keep a,h.R.keep a,h.E.keep a,h.below.trans (a.mono h.below.size)⟩
theorem LesS.start (w:Yh) (s t:Yi) (c b e d g f:Int) (ty a:TypeId):LesS w ((((w.alloc (Yg #[s,Yd Yf c,Yd Yf b] ty)).alloc (Yg #[t,Yd Yf e,Yd Yf d] ty)).alloc (Yg #[Yd Yf g,Yd Yf f] a)).alloc (Yg #[Yc Yb 0 0,Yd Yf 0,Yd Yf 0] ty)) s t c b e d g f:=by have F:=FracBox.start w s (Yd Yf c) (Yd Yf b) ty;have G:=FracBox.start (w.alloc (Yg #[s,Yd Yf c,Yd Yf b] ty)) t (Yd Yf e) (Yd Yf d) ty;have R:=RatAt.start ((w.alloc (Yg #[s,Yd Yf c,Yd Yf b] ty)).alloc (Yg #[t,Yd Yf e,Yd Yf d] ty)) g f a;have E:=FracBox.start (((w.alloc (Yg #[s,Yd Yf c,Yd Yf b] ty)).alloc (Yg #[t,Yd Yf e,Yd Yf d] ty)).alloc (Yg #[Yd Yf g,Yd Yf f] a)) (Yc Yb 0 0) (Yd Yf 0) (Yd Yf 0) ty;have h:=below_alloc1 (w.alloc (Yg #[s,Yd Yf c,Yd Yf b] ty)) (Yg #[t,Yd Yf e,Yd Yf d] ty);have a2:=below_alloc1 ((w.alloc (Yg #[s,Yd Yf c,Yd Yf b] ty)).alloc (Yg #[t,Yd Yf e,Yd Yf d] ty)) (Yg #[Yd Yf g,Yd Yf f] a);have a3:=below_alloc1 (((w.alloc (Yg #[s,Yd Yf c,Yd Yf b] ty)).alloc (Yg #[t,Yd Yf e,Yd Yf d] ty)).alloc (Yg #[Yd Yf g,Yd Yf f] a)) (Yg #[Yc Yb 0 0,Yd Yf 0,Yd Yf 0] ty);rw[World.size_alloc]at G;rw[World.size_alloc,World.size_alloc]at R;rw[World.size_alloc,World.size_alloc,World.size_alloc]at E;exact⟨((F.keep h).keep a2).keep a3,(G.keep a2).keep a3,R.keep a3,E,((below_alloc2 w _ _).trans (a2.mono (by simp;omega))).trans (a3.mono (by simp;omega))⟩
theorem Zkj (w:Yh) (va vp:Yi) (l p:List (Int×Int)) (kx a kb:Int×Int) (W:Za w va l) (X:Za w vp p) (hl:Zz l) (i:Zz p) (hx:Bd kx) (f:Bd a) (hq:OkR kb) :
  Calls Tryz.prog 125 #[.agg #[va,Yd Yf kx.1,Yd Yf kx.2],.agg #[vp,Yd Yf a.1,Yd Yf a.2],Zb kb.1 kb.2] w (ZaQ w (ZdF l kx p a kb).1 (ZdF l kx p a kb).2.1 (ZdF l kx p a kb).2.2):=by
 have ts:=fun(r:Yh) (h:Below w.heap.size w r)=>Zja r vp p a (Zv kb) (X.below h) i f (ZbF hq).wide;have o:=ZaP (l:=p) (kx:=a) (kb:=Zv kb) i f (ZbF hq).wide;have td:=fun(r:Yh) (h:Below w.heap.size w r) (v':Yi) (h':Za r v' (Zh p a (Zv kb)).1)=>Zh5 r va v' l (Zh p a (Zv kb)).1 kx (Zh p a (Zv kb)).2.1 (W.below h) h' hl o.1 hx o.2;have hT:ZdF l kx p a kb=if(Zh p a (Zv kb)).2.2=0 then ZaO l (Zh p a (Zv kb)).1 kx (Zh p a (Zv kb)).2.1 else([],(0,0),(Zh p a (Zv kb)).2.2):=rfl;generalize ZdF l kx p a kb=Z at *;have wn:IntKind.i64.wrap (-kb.1)=-kb.1:=IntWalk.i64_in _ (by obtain⟨d,_,v⟩:=hq;have:=v.n_le;omega);unfold Zv at *;clear o hq;generalize Zh p a (-kb.1,kb.2)=P at *;generalize ZaO l P.1 kx P.2.1=U at *;obtain⟨L,⟨Y,p2⟩,I⟩:=P;obtain⟨M,⟨u1,u2⟩,eu⟩:=U;obtain⟨x1,x2⟩:=kb;obtain⟨xn,xd⟩:=kx;obtain⟨yn,yd⟩:=a;dsimp only at *;obtain⟨A,c,rfl⟩:=Zc W;obtain⟨B,d,rfl⟩:=Zc X;generalize l.length=n at *;generalize p.length=m at *;have TS:=Lib.hid ts;have TD:=Lib.hid td;have D:=Lib.hid hT;clear hT ts td W hl hx X i f;have H:=LesS.start w (Yc A n c) (Yc B m d) xn xd yn yd x1 x2 37 23;have k0:=H.F.k0;have k1:=H.F.k1;have k2:=H.F.k2;have m0:=H.G.k0;have m1:=H.G.k1;have m2:=H.G.k2;have q0:=H.R.k0;have q1:=H.R.k1;have e:=Lib.hid H;clear H;go_enter Tryz.func125,Tryz.ntmps125;go_upto_region 2 with(go_at_call 152;go_fit (TS.out _ e.out.below);rintro e5 w1 ⟨v1,rfl,j,C,V⟩;obtain⟨J,c1,rfl⟩:=Zc j;have e:=Lib.hid (e.out.keep C);have K:=Lib.hid j;clear j V C k0 k1 k2 m0 m1 m2 q0 q1 wn)
 have N:=below_alloc1 w1 (Yg #[Yc J L.length c1,Yd Yf Y,Yd Yf p2] 37);have O:=FracBox.start w1 (Yc J L.length c1) (Yd Yf Y) (Yd Yf p2) 37;have e:=Lib.hid (e.out.keep N);have K:=Lib.hid (K.out.below N);have o0:=O.k0;have o1:=O.k1;have o2:=O.k2;have k0:=e.out.F.k0;have k1:=e.out.F.k1;have k2:=e.out.F.k2;clear N O;generalize w1.alloc (Yg #[Yc J L.length c1,Yd Yf Y,Yd Yf p2] 37)=w3 at *;by_cases g:I=0
 ·have g':(I != 0)=false:=by simpa using g
  have T0:=TD.out _ e.out.below _ K.out;have u:=D.out;rw[Yo g]at u;subst u;clear g D;have TT:=Lib.hid T0;clear T0;go_wp2_with (go_at_call 33;go_fit TT.out;rintro e6 w6 ⟨v6,rfl,k,hb,t⟩;obtain⟨A6,c6,rfl⟩:=Zc k;have s:=Lib.hid (And.intro k (t.mono e.out.E.lt:Zp (w.heap.size+1+1+1+1) _));have e:=Lib.hid (e.out.keep hb);clear k t hb k0 k1 k2 o0 o1 o2;obtain⟨Q,S,T,g0,g1,g2,_⟩:=e.out.E);obtain⟨c0,c1,c2⟩:=Zag (x:=Yc A6 M.length c6) (y:=Yd Yf u1) (z:=Yd Yf u2) Q S T;obtain⟨r1,r2,r3⟩:=Zcg (w:=w) (b:=w.heap.size+1+1+1) (kn:=u1) (kd:=u2) s.out.1 e.out.below s.out.2 (by omega) rfl;exact bodyPost_ret (v:=.tuple #[.agg #[Yc A6 M.length c6,Yd Yf u1,Yd Yf u2],Yd Yf eu]) (by simp[results,Tryz.results125,go_sem,c0,c1,c2]) rfl ⟨_,rfl,r1,r2,r3⟩
 ·have u:=D.out;rw[Yn g]at u;subst u;clear D;have g':(I != 0)=true:=by simpa using g
  obtain⟨Q,S,T,g0,g1,g2,_⟩:=e.out.E;clear g k0 k1 k2 o0 o1 o2;go_wp2_with fail;obtain⟨c0,c1,c2⟩:=Zag (x:=Yc Yb 0 0) (y:=Yd Yf 0) (z:=Yd Yf 0) Q S T;obtain⟨r1,r2,r3⟩:=Zcg (w:=w) (b:=w.heap.size+1+1+1) (kn:=0) (kd:=0) (Za.nil w3) e.out.below (Zp.none_ _ _ _) (by omega) rfl;exact bodyPost_ret (v:=.tuple #[.agg #[Yc Yb 0 0,Yd Yf 0,Yd Yf 0],Yd Yf I]) (by simp[results,Tryz.results125,go_sem,c0,c1,c2]) rfl ⟨_,rfl,r1,r2,r3⟩
end
section
open Go.RowKit
def Ze4 (x:Int) (t:Trm) (k:Int):Bool:=decide (k<0)&&Zbb x t
def ZeI (x:Int) (ts:List Trm) (tk:List Int) (z:Int):Prop:=
 (z=-1/\∀(i:Nat) (t:Trm) (k:Int),ts[i]? = Ya t->tk[i]? = Ya k->Ze4 x t k=false) ∨
 ∃i:Nat,z=i/\(∃t k,ts[i]? = Ya t/\tk[i]? = Ya k/\Ze4 x t k=true)/\∀(j:Nat) (t:Trm) (k:Int),j<i->ts[j]? = Ya t->tk[j]? = Ya k->Ze4 x t k=false
def Zk0 (w:Yh) (x:Int) (ts:List Trm) (tk:List Int) (e:Ending) (w':Yh):Prop:=∃z:Int,e=.returned (Yd Yf z)/\ZeI x ts tk z/\Below w.heap.size w w'
theorem Zn3 (w:Yh) (v vt:Yi) (ts:List Trm) (tk:List Int) (x:Int) (h:Zai w v ts) (ht:ZaR w vt tk) (N:tk.length=ts.length) :
  Calls Tryz.prog 123 #[v,vt,Yd Yf x] w (Zk0 w x ts tk):=by
 obtain⟨A,c,rs,rfl,s,Y,S,T,Z⟩:=h;obtain⟨B,d,rfl,g2,g3,M⟩:=ht;rw[N]at M⊢;obtain⟨n,O⟩:∃n,n=ts.length:=⟨_,rfl⟩
 have I:rs.length=n:=by rw[O,<-S,List.length_map]
 have H:n<=9223372036854775807:=by unfold maxLen at Y;omega
 rw[<-O]at s T M N⊢;have p:=Lib.hid (And.intro I (And.intro S (And.intro H (And.intro Z (And.intro O N)))));have X:=Lib.hid (And.intro T M);clear O I s Y S T Z H g2 g3 M N;go_enter Tryz.func123,Tryz.ntmps123;go_wp2_with fail;go_loopg [7] n (fun g v7 wr=>∃k:Nat,v7=Yd Yf k/\k<=n/\g=n-k/\(∀(j:Nat) (t:Trm) (y:Int),j<k->ts[j]? = Ya t->tk[j]? = Ya y->Ze4 x t y=false)/\Below w.heap.size w wr)
 case atStart=>exact⟨0,rfl,Nat.zero_le _,rfl,fun j _ _ hj=>absurd hj (Nat.not_lt_zero _),Below.refl _ _⟩
 case round=>
  obtain⟨k,rfl,hk,U,a,b⟩:=hrel;by_cases F:k=n
  ·have P:=Lib.hid (show Zk0 w x ts tk (.returned (Yd Yf (-1))) wr from⟨-1,rfl,.inl ⟨rfl,fun i t y hi C=>a i t y (by have:=Za8 hi;have:=p.out.2.2.2.2.1;omega) hi C⟩,b⟩);subst F;clear hk U a b;go_wp2_with fail;go_ret;exact P.out
  ·have G:k<n:=by omega
   obtain⟨u,hu⟩:∃u,rs[k]? = Ya u:=⟨_,Ym (by have:=p.out.1;omega)⟩
   obtain⟨y,C⟩:∃y,tk[k]? = Ya y:=⟨_,Ym (by have:=p.out.2.2.2.2.2;omega)⟩
   obtain⟨ad,rfl,d0,d1,d2⟩:=ZaY X.out.1 b hu (by omega);obtain⟨bd,rfl,e1⟩:=ZbM X.out.2 b C (by omega);have hr:=(p.out.2.2.2.1 u (List.mem_of_getElem? hu)).below b;have m:ts[k]? = Ya u.2:=by rw[<-p.out.2.1,List.getElem?_map,hu];rfl
   have E:=ZaV wr u.1 u.2.1 u.2.2.1 u.2.2.2 x hr
   have o:Ze4 x u.2 y=false->∀(j:Nat) (t:Trm) (z:Int),j<k+1->ts[j]? = Ya t->tk[j]? = Ya z->Ze4 x t z=false:=fun q j t z hj R s=>by
    rcases Nat.lt_or_ge j k with g|g
    ·exact a j t z g R s
    ·obtain rfl:j=k:=by omega
     rw[m]at R;rw[C]at s;obtain rfl:=Option.some.inj R;obtain rfl:=Option.some.inj s;exact q
   have l:Ze4 x u.2 y=true->ZeI x ts tk k:=fun q=>.inr ⟨k,rfl,⟨_,_,m,C,q⟩,a⟩;have K:Ze4 x u.2 y=(decide (y<0)&&((atL u.2.1 x).1 != 0)):=rfl;have i1:(k:Int)<(n:Int):=by omega
   have i2:(0:Int)<=(k:Int):=by omega
   have wk:IntKind.i64.wrap ((k:Int)+1)=(k:Int)+1:=IntWalk.i64_in _ (by have:=p.out.2.2.1;omega);generalize atL u.2.1 x=r at *;obtain⟨V,r2⟩:=r;have aj:∀w:Yh,(Instr.field 23 (.agg #[Yd Yf V,Yd Yf r2]) 0).run Tryz.prog w=.ok (Yd Yf V) w:=fun _=>by kernel_rfl
   obtain⟨u0,ul,u1,u2⟩:=u;dsimp only at *;rw[K]at o l;have D:=Lib.hid b;have L:=Lib.hid (And.intro G U);have W:=Lib.hid E;have Q:=Lib.hid (And.intro o l);clear hr m o l hu C F G hk U a b E K;by_cases J:y<0
   rotate_left
   ·have f1:decide (y<0)=false:=decide_eq_false J;go_wp2_with fail;go_roundg (n-(k+1))
    case measure=>have:=L.out;omega
    case rel=>exact⟨k+1,by push_cast;rfl,by have:=L.out;omega,rfl,Q.out.1 (by rw[decide_eq_false (by omega)];rfl),D.out⟩
   ·have f1:decide (y<0)=true:=decide_eq_true J;cases hR:(V != 0)
    ·go_wp2_with (go_at_call 53;go_fit W.out;rintro e w1 ⟨rfl,f⟩);go_roundg (n-(k+1))
     case measure=>have:=L.out;omega
     case rel=>exact⟨k+1,by push_cast;rfl,by have:=L.out;omega,rfl,Q.out.1 (by rw[hR,Bool.and_false]),D.out.trans (f.mono D.out.size)⟩
    ·go_wp2_with (go_at_call 53;go_fit W.out;rintro e w1 ⟨rfl,f⟩);go_ret;exact⟨k,rfl,Q.out.2 (by rw[decide_eq_true (by omega),hR];rfl),D.out.trans (f.mono D.out.size)⟩
end
end Go.Proofs.YtbfnnolakggbfaaGreatDoor
