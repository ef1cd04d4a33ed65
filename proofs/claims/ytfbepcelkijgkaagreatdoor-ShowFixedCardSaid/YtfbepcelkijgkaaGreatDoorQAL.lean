import Derived.BigQuiet
import Derived.Deep.QuietTactic
import Derived.Test.YtfbepcelkijgkaaGreatDoorQAJ
import Derived.Test.YtfbepcelkijgkaaGreatDoorQAK
set_option maxRecDepth 100000
set_option maxHeartbeats 8000000
open Option renaming some → Ya
open Go.Value renaming slice → Yc
open Go renaming World → Yh
namespace Go.Proofs.YtfbepcelkijgkaaGreatDoor
section
open Go.RowKit
theorem Zoz {l:List Int} {k:Nat} {x a:Int} (h:l[k]? = Ya x):(l.take (k+1)).foldl max a=max ((l.take k).foldl max a) x:=by rw[List.take_add_one,h,List.foldl_append];rfl
def ZjE (l:List Int) (k:Nat):Int:=Zgb (l.take k)
theorem Zql {l:List Int} {x:Int} (h:l[0]? = Ya x):ZjE l 1=x:=by
 cases l with
 |nil=>simp at h
 |cons a r=>
  obtain rfl:a=x:=by simpa using h
  rfl
theorem ZoV {l:List Int} {k:Nat} {x:Int} (hk:0<k) (h:l[k]? = Ya x):ZjE l (k+1)=max (ZjE l k) x:=by
 cases l with
 |nil=>simp at h
 |cons a r=>
  obtain⟨m,rfl⟩:∃m,k=m+1:=⟨k-1,by omega⟩
  rw[List.getElem?_cons_succ]at h;show Zgb (a::r.take (m+1))=max (Zgb (a::r.take m)) x;exact Zoz h
theorem Zqk {l:List Int} {n:Nat} (h:l.length=n):ZjE l n=Zgb l:=by unfold ZjE;rw[<-h,List.take_length]
theorem ZqM (w:Yh) (g c n:Nat) (p:List Int) (i:PIn w g p) (hn:p.length=n) (m:1<=n) (o:n<=1500) :
  Calls Tryz.prog 32 #[Yc (Ya ⟨g,0,none⟩) n c] w fun e w'=>e=.returned (.int .i64 (Zgb p))/\w=w':=by
 obtain⟨q,d⟩:∃q,p[0]? = Ya q:=⟨_,Ym (by omega)⟩
 have s:=i.cell d;have u:¬(n:Int)<1:=by omega
 have i0:(0:Int)<(n:Int):=by omega
 have f:=zh (zi hn (zi m (zi o (zi i (Zql d)))));clear hn m o i d;go_enter Tryz.func32,Tryz.ntmps32;go_wp2_with fail;go_loopg [3,4] (n-1) (fun gk v3 v4 wr=>w=wr/\∃k:Nat,v3=.int .i64 (ZjE p k)/\v4=.int .i64 k/\1<=k/\k<=n/\gk=n-k)
 case atStart=>exact⟨rfl,1,by rw[f.out.2.2.2.2],rfl,Nat.le_refl _,f.out.2.1,rfl⟩
 case round=>
  obtain⟨rfl,k,rfl,rfl,b,hk,a⟩:=hrel;by_cases h:k=n
  ·subst h;have e:=zh (Zqk (l:=p) f.out.1);clear b hk a;go_wp2_with fail;go_ret;exact⟨by rw[<-e.out];rfl,rfl⟩
  ·obtain⟨x,hx⟩:∃x,p[k]? = Ya x:=⟨_,Ym (by have:=f.out.1;omega)⟩
   have t:=f.out.2.2.2.1.cell hx;have i2:(k:Int)<(n:Int):=by omega
   have i3:(0:Int)<=(k:Int):=by omega
   have v:IntKind.i64.wrap ((k:Int)+1)=(k:Int)+1:=IntWalk.i64_in _ (by have:=f.out;omega);have r:=zh (ZoV (by omega) hx);have j:=zh (zi b (zi i2 a));clear b hk a h hx;go_wp2_with fail;go_roundg (n-(k+1))
   case measure=>have:=j.out;omega
   case rel=>exact⟨rfl,k+1,by rw[r.out],by push_cast;rfl,by omega,by have:=j.out;omega,rfl⟩
end
section
open Go.RowKit
theorem Zlc {w:Yh} {v:Value} {ns:List Nd} (h:Zu w v ns) (b:Zcc ns=none) :
  Calls Tryz.prog 31 #[v] w fun e w'=>e=.returned (.tuple #[Yc none 0 0,.bool false])/\Below w.heap.size w w':=
 (Zh5 w v ns h).mono fun e w' q=>by
  obtain⟨a,hm⟩:=q
  rw[b]at hm
  exact⟨hm,a⟩
theorem Zld {w:Yh} {v:Value} {ns:List Nd} {p:List Int} (h:Zu w v ns) (b:Zcc ns=Ya p) :
  Calls Tryz.prog 31 #[v] w fun e w'=>∃g c,e=.returned (.tuple #[Yc (Ya ⟨g,0,none⟩) ns.length c,.bool true])/\PIn w' g p/\Below w.heap.size w w':=
 (Zh5 w v ns h).mono fun e w' q=>by
  obtain⟨a,hm⟩:=q
  rw[b]at hm
  obtain⟨g,c,e,_,_,_,h⟩:=hm
  exact⟨g,c,e,h,a⟩
theorem ZfI {ns:List Nd} {p:List Int} (h:Zcc ns=Ya p):1<=ns.length/\ns.length<=1500/\p.length=ns.length/\ZfC p:=by
 have a:=h;unfold Zcc at h
 split at h
 ·cases h
 ·exact⟨by omega,by omega,Ziu _ _ _ h,Zi1 _ _ _ h⟩
theorem Zoo {w:Yh} {g c:Nat} {ns:List Nd} {p:List Int} (h:Zcc ns=Ya p) (l:PIn w g p) :
  Calls Tryz.prog 33 #[Yc (Ya ⟨g,0,none⟩) ns.length c] w fun e w'=>∃a d,e=.returned (Yc (Ya ⟨a,0,none⟩) ns.length d)/\PIn w' a (Zb4 p)/\Below w.heap.size w w':=by
 obtain⟨f,i,j,k⟩:=ZfI h;exact(Znf w g c ns.length p l j f i k).mono fun e w' ⟨b,a,d,e,_,_,q⟩=>⟨a,d,e,q,b⟩
theorem Zsc {w:Yh} {g c:Nat} {ns:List Nd} {p:List Int} (h:Zcc ns=Ya p) (f:PIn w g (Zb4 p)) :
  Calls Tryz.prog 32 #[Yc (Ya ⟨g,0,none⟩) ns.length c] w fun e w'=>e=.returned (.int .i64 (Zgb (Zb4 p)))/\w=w':=by
 obtain⟨a,b,d,i⟩:=ZfI h;exact ZqM w g c ns.length (Zb4 p) f (by unfold Zb4;rw[Zb3,d]) a b
end
section
open Go.RowKit
theorem Zn9 {ns:List Nd} {k:Nat} {d:Nd} (h:ns[k]? = Ya d) (a:d.nums=[]):ZaC ns k=-1:=by unfold ZaC;rw[ZbX h,a]
theorem Zmg {ns:List Nd} {k:Nat} {d:Nd} {x:Int} {r:List Int} (h:ns[k]? = Ya d) (a:d.nums=x::r):ZaC ns k=x:=by unfold ZaC;rw[ZbX h,a]
theorem Zkm (w:Yh) (v:Value) (ns:List Nd) (k:Nat) (h:Zu w v ns) (hk:k<ns.length) :
  Calls Tryz.prog 115 #[v,.int .i64 k] w fun e w'=>e=.returned (.int .i64 (ZaC ns k))/\w=w':=by
 obtain⟨A,I,D,rfl,B,C,j,t,u⟩:=h;obtain⟨x,hx⟩:∃x,D[k]? = Ya x:=⟨_,Ym (by have:=congrArg List.length j;rw[List.length_map]at this;omega)⟩
 have hd:ns[k]? = Ya x.2:=by rw[<-j,List.getElem?_map,hx];rfl
 obtain⟨G,rfl,o,p,i,q,s⟩:=Zby t (Below.refl _ _) hx (by omega);obtain⟨_,⟨F,H,c,g,l,d⟩,_⟩:=u x (List.mem_of_getElem? hx);obtain⟨⟨N,O,P⟩,K,Q,f,L,M⟩:=x;dsimp only at o p i q s c g l d hd;subst c;obtain⟨n,hn⟩:∃n,n=ns.length:=⟨_,rfl⟩
 rw[<-hn]at hk⊢;have J:(k:Int)<(n:Int):=by omega
 have i2:(0:Int)<=(k:Int):=by omega
 clear B C j t u hx hk hn o p q s;cases f with
 |nil=>
  have E:((0:Int)==0)=true:=rfl;have a:=zh (Zn9 hd rfl);simp only[Yl]at i g d;clear hd g l d;go_enter Tryz.func115,Tryz.ntmps115;go_wp2_with fail;go_ret;exact⟨by rw[a.out];rfl,rfl⟩
 |cons y r=>
  obtain⟨b,rfl,z⟩:=ints_at (k:=0) (x:=y) d (Below.refl _ _) rfl (by simp);rw[show b.add 0=b by unfold Addr.add;simp]at z;have a:=zh (Zmg hd rfl);obtain⟨m,hm⟩:∃m,m=(y::r).length:=⟨_,rfl⟩
  rw[<-hm]at i;have E:((m:Int)==0)=false:=by
   have:m=r.length+1:=hm;simpa using fun e=>by omega
  have i3:(0:Int)<(m:Int):=by have:m=r.length+1:=hm;omega
  clear hd g l d hm;go_enter Tryz.func115,Tryz.ntmps115;go_wp2_with fail;go_ret;exact⟨by rw[a.out];rfl,rfl⟩
theorem Zd2 {n:Nd} {k:Nat} {x:Int} (h:n.nums[k]? = Ya x):num n k=x:=by unfold num;rw[h];rfl
theorem Zht (w:Yh) (x:NdV×Nd) (h:Za5 w x) (z:x.2.nums.length=3) :
  Calls Tryz.prog 113 #[ndV x] w fun e w'=>e=.returned (.bool (ZdW x.2))/\Below w.heap.size w w':=by
 obtain⟨⟨A,c,e1,_⟩,⟨E,I,s,u,v,g⟩,F,J,t,_⟩:=h;obtain⟨⟨M,v2,v3⟩,m,r,f,o,p⟩:=x;dsimp only at e1 s t z u v g;subst e1 s t;obtain⟨C,a⟩:∃y,f[1]? = Ya y:=⟨_,Ym (by omega)⟩
 obtain⟨D,b⟩:∃y,f[2]? = Ya y:=⟨_,Ym (by omega)⟩
 unfold ZdW;rw[Zd2 (n:=(⟨m,r,f,o,p⟩:Nd)) a,Zd2 (n:=(⟨m,r,f,o,p⟩:Nd)) b];have i:=below_alloc1 w (.cells #[.int .i64 m,Yc A r.length c,Yc E f.length I,Yc F o.length J,.int .i64 p] 37);obtain⟨d,rfl,G⟩:=ints_at (k:=1) g i a (by omega);obtain⟨H,l,a2⟩:=ints_at (k:=2) g i b (by omega);injection l with l;subst l;rw[show d.add 1=⟨d.block,d.off+1,none⟩by unfold Addr.add;simp]at G;rw[show d.add 2=⟨d.block,d.off+2,none⟩by unfold Addr.add;simp]at a2;have j:=zh i;unfold ndV;dsimp only;rw[z]at *;clear u v g a b i;by_cases q:1<=C
 ·by_cases B:1<=D
  ·have Q:=zh (zi q B);go_enter Tryz.func113,Tryz.ntmps113;go_wp2_with fail;go_ret;exact⟨by first|rfl|(have:=Q.out;simp;omega)|(have:=Q.out;simp_all),j.out⟩
  ·have L:D<1:=by omega
   have Q:=zh (zi q B);go_enter Tryz.func113,Tryz.ntmps113;go_wp2_with fail;go_ret;exact⟨by first|rfl|(have:=Q.out;simp;omega)|(have:=Q.out;simp_all),j.out⟩
 ·have K:C<1:=by omega
  have Q:=zh q;go_enter Tryz.func113,Tryz.ntmps113;go_wp2_with fail;go_ret;exact⟨by first|rfl|(have:=Q.out;simp;omega)|(have:=Q.out;simp_all),j.out⟩
end
section
open Go.RowKit
theorem Zja (ns:List Nd):∀(l:List Int) (a b:Int),Zbl ns (l++[a,b])=(Zbl ns (l++[a])&&decide (ZaC ns a<ZaC ns b))
 |[],a,b=>by simp[Zbl]
 |[x],a,b=>by simp[Zbl,Bool.and_comm]
 |x::y::r,a,b=>by
  have:=Zja ns (y::r) a b;simp only[List.cons_append]at this⊢;rw[Zbl,Zbl,this,Bool.and_assoc]
theorem ZqJ {l:List Int} {k:Nat} {a b:Int} (ha:l[k]? = Ya a) (c:l[k+1]? = Ya b):l.take (k+1)=l.take k++[a]/\l.take (k+1+1)=l.take k++[a,b]:=by
 have e1:l.take (k+1)=l.take k++[a]:=by rw[List.take_add_one,ha];rfl
 exact⟨e1,by rw[List.take_add_one,c,e1,List.append_assoc];rfl⟩
theorem ZnU {ns:List Nd} {l:List Int} {k:Nat} {a b:Int} (ha:l[k]? = Ya a) (d:l[k+1]? = Ya b) (h:Zbl ns (l.take (k+1))=true):Zbl ns (l.take (k+1+1))=decide (ZaC ns a<ZaC ns b):=by obtain⟨e1,c⟩:=ZqJ ha d;rw[c,Zja,<-e1,h,Bool.true_and]
theorem Zj9 (ns:List Nd):∀(l m:List Int),Zbl ns l=false->Zbl ns (l++m)=false
 |[],m,h=>by simp[Zbl]at h
 |[x],m,h=>by simp[Zbl]at h
 |x::y::r,m,h=>by
  rw[Zbl]at h;simp only[List.cons_append];rw[Zbl];rcases Bool.and_eq_false_iff.mp h with h|h
  ·rw[h,Bool.false_and]
  ·rw[show(y::(r++m))=(y::r)++m from rfl,Zj9 ns (y::r) m h,Bool.and_false]
theorem Zph {ns:List Nd} {l:List Int} {k:Nat} (h:Zbl ns (l.take k)=false):Zbl ns l=false:=by rw[<-List.take_append_drop k l];exact Zj9 ns _ _ h
theorem Zjz (w:Yh) (v L:Value) (ns:List Nd) (f:List Int) (h:Zu w v ns) (hk:Zbh w L f) (K:ZdM f ns.length) :
  Calls Tryz.prog 114 #[v,L] w fun e w'=>e=.returned (.bool (Zbl ns f))/\Below w.heap.size w w':=by
 have G:=zh (fun(wr:Yh) (c:Below w.heap.size w wr) (k:Nat) (q:k<ns.length)=>(Zkm wr v ns k (h.below c) q).mono (fun _ _ q=>(⟨q.1,q.2.symm⟩:_/\_)));obtain⟨A,V,rfl,I,J,z⟩:=hk;obtain⟨n,hn⟩:∃n,n=f.length:=⟨_,rfl⟩
 have r:n<=9223372036854775807:=by unfold maxLen at J;omega
 rw[<-hn]at I z⊢;have m:=zh (zi hn (zi r K));have E:=zh z;clear hn I J z r K h;go_enter Tryz.func114,Tryz.ntmps114;go_wp2_with fail;go_loopg [5] (n-1) (fun g v5 wr=>∃k:Nat,v5=.int .i64 ((k:Int)+1)/\(k+1<=n\/k=0)/\g=n-(k+1)/\Zbl ns (f.take (k+1))=true/\Below w.heap.size w wr)
 case atStart=>exact⟨0,rfl,.inr rfl,rfl,by cases f<;>rfl,Below.refl _ _⟩
 case round=>
  obtain⟨k,rfl,hk,B,s,c⟩:=hrel;by_cases o:k+1<n
  ·obtain⟨a,ha⟩:∃a,f[k]? = Ya a:=⟨_,Ym (by have:=m.out.1;omega)⟩
   obtain⟨b,l⟩:∃b,f[k+1]? = Ya b:=⟨_,Ym (by have:=m.out.1;omega)⟩
   have S:=m.out.2.2 a (List.mem_of_getElem? ha);have T:=m.out.2.2 b (List.mem_of_getElem? l);obtain⟨t,rfl⟩:∃t:Nat,a=t:=⟨a.toNat,by omega⟩
   obtain⟨u,rfl⟩:∃u:Nat,b=u:=⟨b.toNat,by omega⟩
   obtain⟨U,rfl,W⟩:=ints_at E.out c ha (by omega);obtain⟨P,y,Q⟩:=ints_at E.out c l (by omega);injection y with y;subst y;have D:=ZnU ha l s;have F:=zh (zi D (fun q=>Zph (D.trans q)));have N:=zh (fun d=>G.out (wr.drewN d) (below_drewN c d) t (by omega));have O:=zh (fun d=>G.out (wr.drewN d) (below_drewN c d) u (by omega));obtain⟨j,C⟩:∃j,j=k+1:=⟨_,rfl⟩
   have H:(k:Int)+1=(j:Int):=by omega
   rw[H];rw[<-C]at Q;have R:(j:Int)<(n:Int):=by omega
   have i2:(0:Int)<=(j:Int):=by omega
   have i3:(k:Int)<(n:Int):=by omega
   have i4:(0:Int)<=(k:Int):=by omega
   have Z:IntKind.i64.wrap ((j:Int)-1)=(k:Int):=by rw[IntWalk.i64_in _ (by have:=m.out;omega)];omega
   have u2:IntKind.i64.wrap ((j:Int)+1)=(j:Int)+1:=IntWalk.i64_in _ (by have:=m.out;omega);have p:=zh (zi o (zi B (zi C c)));clear o B C H D ha l hk s c S T;generalize ZaC ns (t:Int)=X at *;generalize ZaC ns (u:Int)=Y at *;go_upto_region 4 with fail
   go_quiet (first
    |(go_at_call 115;with_reducible exact Calls.quiet_of_same (N.out _))
    |(go_at_call 115;with_reducible exact Calls.quiet_of_same (O.out _)))
   by_cases q:X<Y
   ·have nq:¬Y<=X:=by omega
    have M:=zh (F.out.1.trans (decide_eq_true q));go_wp2_with fail;go_roundg (n-(k+1+1))
    case measure=>have:=p.out;omega
    case rel=>exact⟨k+1,by rw[p.out.2.2.1],by have:=p.out;omega,rfl,M.out,below_drewN p.out.2.2.2 _⟩
   ·have nq:Y<=X:=by omega
    have i:=zh (F.out.2 (decide_eq_false q));clear q;go_wp2_with fail;go_ret;exact⟨by rw[i.out];rfl,below_drewN p.out.2.2.2 _⟩
  ·have e:f.take (k+1)=f:=List.take_of_length_le (by have:=m.out.1;omega);rw[e]at s;have R:¬(k:Int)+1<(n:Int):=by omega
   have i:=zh (zi s c);clear hk B s c o e;go_wp2_with fail;go_ret;exact⟨by rw[i.out.1];rfl,i.out.2⟩
end
end Go.Proofs.YtfbepcelkijgkaaGreatDoor
