import Derived.BigQuiet
import Derived.Deep.QuietTactic
import Derived.Test.YtfbepcelkijgkaaGreatDoorQAF
import Derived.Test.YtfbepcelkijgkaaGreatDoorQAG
set_option maxRecDepth 100000
set_option maxHeartbeats 8000000
open Option renaming some → Ya
open Go.Value renaming slice → Yc
open Go renaming World → Yh
namespace Go.Proofs.YtfbepcelkijgkaaGreatDoor
section
open Go.RowKit
theorem Zou {l:List Int} {k:Nat} {x a:Int} (h:l[k]? = Ya x):(l.take (k+1)).foldl max a=max ((l.take k).foldl max a) x:=by rw[List.take_add_one,h,List.foldl_append];rfl
def Zjg (l:List Int) (k:Nat):Int:=ZfP (l.take k)
theorem Zqb {l:List Int} {x:Int} (h:l[0]? = Ya x):Zjg l 1=x:=by
 cases l with
 |nil=>simp at h
 |cons a r=>
  obtain rfl:a=x:=by simpa using h
  rfl
theorem ZoN {l:List Int} {k:Nat} {x:Int} (hk:0<k) (h:l[k]? = Ya x):Zjg l (k+1)=max (Zjg l k) x:=by
 cases l with
 |nil=>simp at h
 |cons a r=>
  obtain⟨m,rfl⟩:∃m,k=m+1:=⟨k-1,by omega⟩
  rw[List.getElem?_cons_succ]at h;show ZfP (a::r.take (m+1))=max (ZfP (a::r.take m)) x;exact Zou h
theorem Zqa {l:List Int} {n:Nat} (h:l.length=n):Zjg l n=ZfP l:=by unfold Zjg;rw[<-h,List.take_length]
theorem Zqy (w:Yh) (g c n:Nat) (p:List Int) (i:PIn w g p) (q:p.length=n) (m:1<=n) (o:n<=1500) :
  Calls Tryz.prog 32 #[Yc (Ya ⟨g,0,none⟩) n c] w fun e w'=>e=.returned (.int .i64 (ZfP p))/\w=w':=by
 obtain⟨r,d⟩:∃r,p[0]? = Ya r:=⟨_,Ym (by omega)⟩
 have t:=i.cell d;have v:¬(n:Int)<1:=by omega
 have i0:(0:Int)<(n:Int):=by omega
 have f:=zh (zi q (zi m (zi o (zi i (Zqb d)))));clear q m o i d;go_enter Tryz.func32,Tryz.ntmps32;go_wp2_with fail;go_loopg [3,4] (n-1) (fun gk v3 v4 wr=>w=wr/\∃k:Nat,v3=.int .i64 (Zjg p k)/\v4=.int .i64 k/\1<=k/\k<=n/\gk=n-k)
 case atStart=>exact⟨rfl,1,by rw[f.out.2.2.2.2],rfl,Nat.le_refl _,f.out.2.1,rfl⟩
 case round=>
  obtain⟨rfl,k,rfl,rfl,b,hk,a⟩:=hrel;by_cases h:k=n
  ·subst h;have e:=zh (Zqa (l:=p) f.out.1);clear b hk a;go_wp2_with fail;go_ret;exact⟨by rw[<-e.out];rfl,rfl⟩
  ·obtain⟨x,hx⟩:∃x,p[k]? = Ya x:=⟨_,Ym (by have:=f.out.1;omega)⟩
   have u:=f.out.2.2.2.1.cell hx;have i2:(k:Int)<(n:Int):=by omega
   have i3:(0:Int)<=(k:Int):=by omega
   have y:IntKind.i64.wrap ((k:Int)+1)=(k:Int)+1:=IntWalk.i64_in _ (by have:=f.out;omega);have s:=zh (ZoN (by omega) hx);have j:=zh (zi b (zi i2 a));clear b hk a h hx;go_wp2_with fail;go_roundg (n-(k+1))
   case measure=>have:=j.out;omega
   case rel=>exact⟨rfl,k+1,by rw[s.out],by push_cast;rfl,by omega,by have:=j.out;omega,rfl⟩
end
section
open Go.RowKit
theorem ZkL {w:Yh} {v:Value} {ns:List Nd} (h:Zi w v ns) (b:ZbJ ns=none) :
  Calls Tryz.prog 31 #[v] w fun e w'=>e=.returned (.tuple #[Yc none 0 0,.bool false])/\Below w.heap.size w w':=
 (ZhR w v ns h).mono fun e w' q=>by
  obtain⟨a,hm⟩:=q
  rw[b]at hm
  exact⟨hm,a⟩
theorem ZkM {w:Yh} {v:Value} {ns:List Nd} {p:List Int} (h:Zi w v ns) (b:ZbJ ns=Ya p) :
  Calls Tryz.prog 31 #[v] w fun e w'=>∃g c,e=.returned (.tuple #[Yc (Ya ⟨g,0,none⟩) ns.length c,.bool true])/\PIn w' g p/\Below w.heap.size w w':=
 (ZhR w v ns h).mono fun e w' q=>by
  obtain⟨a,hm⟩:=q
  rw[b]at hm
  obtain⟨g,c,e,_,_,_,h⟩:=hm
  exact⟨g,c,e,h,a⟩
theorem Zfq {ns:List Nd} {p:List Int} (h:ZbJ ns=Ya p):1<=ns.length/\ns.length<=1500/\p.length=ns.length/\Zfj p:=by
 have a:=h;unfold ZbJ at h
 split at h
 ·cases h
 ·exact⟨by omega,by omega,Zid _ _ _ h,ZiH _ _ _ h⟩
theorem Zoh {w:Yh} {g c:Nat} {ns:List Nd} {p:List Int} (h:ZbJ ns=Ya p) (l:PIn w g p) :
  Calls Tryz.prog 33 #[Yc (Ya ⟨g,0,none⟩) ns.length c] w fun e w'=>∃a d,e=.returned (Yc (Ya ⟨a,0,none⟩) ns.length d)/\PIn w' a (ZbR p)/\Below w.heap.size w w':=by
 obtain⟨f,i,j,k⟩:=Zfq h;exact(ZmW w g c ns.length p l j f i k).mono fun e w' ⟨b,a,d,e,_,_,q⟩=>⟨a,d,e,q,b⟩
theorem Zr3 {w:Yh} {g c:Nat} {ns:List Nd} {p:List Int} (h:ZbJ ns=Ya p) (f:PIn w g (ZbR p)) :
  Calls Tryz.prog 32 #[Yc (Ya ⟨g,0,none⟩) ns.length c] w fun e w'=>e=.returned (.int .i64 (ZfP (ZbR p)))/\w=w':=by
 obtain⟨a,b,d,i⟩:=Zfq h;exact Zqy w g c ns.length (ZbR p) f (by unfold ZbR;rw[ZbQ,d]) a b
end
section
open Go.RowKit
theorem Zn1 {ns:List Nd} {k:Nat} {d:Nd} (h:ns[k]? = Ya d) (a:d.nums=[]):ZY ns k=-1:=by unfold ZY;rw[Zcm h,a]
theorem Zge {ns:List Nd} {k:Nat} {d:Nd} {x:Int} {r:List Int} (h:ns[k]? = Ya d) (a:d.nums=x::r):ZY ns k=x:=by unfold ZY;rw[Zcm h,a]
theorem ZjZ (w:Yh) (v:Value) (ns:List Nd) (k:Nat) (h:Zi w v ns) (hk:k<ns.length) :
  Calls Tryz.prog 115 #[v,.int .i64 k] w fun e w'=>e=.returned (.int .i64 (ZY ns k))/\w=w':=by
 obtain⟨A,J,E,rfl,C,D,j,t,u⟩:=h;obtain⟨x,hx⟩:∃x,E[k]? = Ya x:=⟨_,Ym (by have:=congrArg List.length j;rw[List.length_map]at this;omega)⟩
 have hd:ns[k]? = Ya x.2:=by rw[<-j,List.getElem?_map,hx];rfl
 obtain⟨H,rfl,o,p,i,q,s⟩:=Zan t (Below.refl _ _) hx (by omega);obtain⟨_,⟨G,I,c,g,l,d⟩,_⟩:=u x (List.mem_of_getElem? hx);obtain⟨⟨O,P,Q⟩,L,R,f,M,N⟩:=x;dsimp only at o p i q s c g l d hd;subst c;obtain⟨n,z⟩:∃n,n=ns.length:=⟨_,rfl⟩
 rw[<-z]at hk⊢;have K:(k:Int)<(n:Int):=by omega
 have i2:(0:Int)<=(k:Int):=by omega
 clear C D j t u hx hk z o p q s;cases f with
 |nil=>
  have F:((0:Int)==0)=true:=rfl;have a:=zh (Zn1 hd rfl);simp only[Yl]at i g d;clear hd g l d;go_enter Tryz.func115,Tryz.ntmps115;go_wp2_with fail;go_ret;exact⟨by rw[a.out];rfl,rfl⟩
 |cons y r=>
  obtain⟨b,rfl,B⟩:=ints_at (k:=0) (x:=y) d (Below.refl _ _) rfl (by simp);rw[show b.add 0=b by unfold Addr.add;simp]at B;have a:=zh (Zge hd rfl);obtain⟨m,hm⟩:∃m,m=(y::r).length:=⟨_,rfl⟩
  rw[<-hm]at i;have F:((m:Int)==0)=false:=by
   have:m=r.length+1:=hm;simpa using fun e=>by omega
  have i3:(0:Int)<(m:Int):=by have:m=r.length+1:=hm;omega
  clear hd g l d hm;go_enter Tryz.func115,Tryz.ntmps115;go_wp2_with fail;go_ret;exact⟨by rw[a.out];rfl,rfl⟩
theorem Zdi {n:Nd} {k:Nat} {x:Int} (h:n.nums[k]? = Ya x):num n k=x:=by unfold num;rw[h];rfl
theorem Zg9 (w:Yh) (x:NdV×Nd) (h:ZS w x) (z:x.2.nums.length=3) :
  Calls Tryz.prog 113 #[ndV x] w fun e w'=>e=.returned (.bool (ZdJ x.2))/\Below w.heap.size w w':=by
 obtain⟨⟨A,c,r,_⟩,⟨E,I,s,u,v,g⟩,F,J,t,_⟩:=h;obtain⟨⟨M,v2,v3⟩,l,q,f,m,o⟩:=x;dsimp only at r s t z u v g;subst r s t;obtain⟨C,a⟩:∃y,f[1]? = Ya y:=⟨_,Ym (by omega)⟩
 obtain⟨D,b⟩:∃y,f[2]? = Ya y:=⟨_,Ym (by omega)⟩
 unfold ZdJ;rw[Zdi (n:=(⟨l,q,f,m,o⟩:Nd)) a,Zdi (n:=(⟨l,q,f,m,o⟩:Nd)) b];have i:=below_alloc1 w (.cells #[.int .i64 l,Yc A q.length c,Yc E f.length I,Yc F m.length J,.int .i64 o] 37);obtain⟨d,rfl,G⟩:=ints_at (k:=1) g i a (by omega);obtain⟨H,ea,a2⟩:=ints_at (k:=2) g i b (by omega);injection ea with ea;subst ea;rw[show d.add 1=⟨d.block,d.off+1,none⟩by unfold Addr.add;simp]at G;rw[show d.add 2=⟨d.block,d.off+2,none⟩by unfold Addr.add;simp]at a2;have j:=zh i;unfold ndV;dsimp only;rw[z]at *;clear u v g a b i;by_cases p:1<=C
 ·by_cases B:1<=D
  ·have Q:=zh (zi p B);go_enter Tryz.func113,Tryz.ntmps113;go_wp2_with fail;go_ret;exact⟨by first|rfl|(have:=Q.out;simp;omega)|(have:=Q.out;simp_all),j.out⟩
  ·have L:D<1:=by omega
   have Q:=zh (zi p B);go_enter Tryz.func113,Tryz.ntmps113;go_wp2_with fail;go_ret;exact⟨by first|rfl|(have:=Q.out;simp;omega)|(have:=Q.out;simp_all),j.out⟩
 ·have K:C<1:=by omega
  have Q:=zh p;go_enter Tryz.func113,Tryz.ntmps113;go_wp2_with fail;go_ret;exact⟨by first|rfl|(have:=Q.out;simp;omega)|(have:=Q.out;simp_all),j.out⟩
end
section
open Go.RowKit
theorem ZiP (ns:List Nd):∀(l:List Int) (a b:Int),ZaC ns (l++[a,b])=(ZaC ns (l++[a])&&decide (ZY ns a<ZY ns b))
 |[],a,b=>by simp[ZaC]
 |[x],a,b=>by simp[ZaC,Bool.and_comm]
 |x::y::r,a,b=>by
  have:=ZiP ns (y::r) a b;simp only[List.cons_append]at this⊢;rw[ZaC,ZaC,this,Bool.and_assoc]
theorem Zqv {l:List Int} {k:Nat} {a b:Int} (ha:l[k]? = Ya a) (d:l[k+1]? = Ya b):l.take (k+1)=l.take k++[a]/\l.take (k+1+1)=l.take k++[a,b]:=by
 have c:l.take (k+1)=l.take k++[a]:=by rw[List.take_add_one,ha];rfl
 exact⟨c,by rw[List.take_add_one,d,c,List.append_assoc];rfl⟩
theorem ZnG {ns:List Nd} {l:List Int} {k:Nat} {a b:Int} (ha:l[k]? = Ya a) (e:l[k+1]? = Ya b) (h:ZaC ns (l.take (k+1))=true):ZaC ns (l.take (k+1+1))=decide (ZY ns a<ZY ns b):=by obtain⟨c,d⟩:=Zqv ha e;rw[d,ZiP,<-c,h,Bool.true_and]
theorem ZjN (ns:List Nd):∀(l m:List Int),ZaC ns l=false->ZaC ns (l++m)=false
 |[],m,h=>by simp[ZaC]at h
 |[x],m,h=>by simp[ZaC]at h
 |x::y::r,m,h=>by
  rw[ZaC]at h;simp only[List.cons_append];rw[ZaC];rcases Bool.and_eq_false_iff.mp h with h|h
  ·rw[h,Bool.false_and]
  ·rw[show(y::(r++m))=(y::r)++m from rfl,ZjN ns (y::r) m h,Bool.and_false]
theorem Zo9 {ns:List Nd} {l:List Int} {k:Nat} (h:ZaC ns (l.take k)=false):ZaC ns l=false:=by rw[<-List.take_append_drop k l];exact ZjN ns _ _ h
theorem Zjc (w:Yh) (v L:Value) (ns:List Nd) (f:List Int) (h:Zi w v ns) (hk:ZaX w L f) (K:Zaw f ns.length) :
  Calls Tryz.prog 114 #[v,L] w fun e w'=>e=.returned (.bool (ZaC ns f))/\Below w.heap.size w w':=by
 have G:=zh (fun(wr:Yh) (c:Below w.heap.size w wr) (k:Nat) (q:k<ns.length)=>(ZjZ wr v ns k (h.below c) q).mono (fun _ _ q=>(⟨q.1,q.2.symm⟩:_/\_)));obtain⟨A,V,rfl,I,J,y⟩:=hk;obtain⟨n,C⟩:∃n,n=f.length:=⟨_,rfl⟩
 have r:n<=9223372036854775807:=by unfold maxLen at J;omega
 rw[<-C]at I y⊢;have m:=zh (zi C (zi r K));have E:=zh y;clear C I J y r K h;go_enter Tryz.func114,Tryz.ntmps114;go_wp2_with fail;go_loopg [5] (n-1) (fun g v5 wr=>∃k:Nat,v5=.int .i64 ((k:Int)+1)/\(k+1<=n\/k=0)/\g=n-(k+1)/\ZaC ns (f.take (k+1))=true/\Below w.heap.size w wr)
 case atStart=>exact⟨0,rfl,.inr rfl,rfl,by cases f<;>rfl,Below.refl _ _⟩
 case round=>
  obtain⟨k,rfl,hk,z,s,c⟩:=hrel;by_cases o:k+1<n
  ·obtain⟨a,ha⟩:∃a,f[k]? = Ya a:=⟨_,Ym (by have:=m.out.1;omega)⟩
   obtain⟨b,l⟩:∃b,f[k+1]? = Ya b:=⟨_,Ym (by have:=m.out.1;omega)⟩
   have S:=m.out.2.2 a (List.mem_of_getElem? ha);have T:=m.out.2.2 b (List.mem_of_getElem? l);obtain⟨t,rfl⟩:∃t:Nat,a=t:=⟨a.toNat,by omega⟩
   obtain⟨u,rfl⟩:∃u:Nat,b=u:=⟨b.toNat,by omega⟩
   obtain⟨U,rfl,W⟩:=ints_at E.out c ha (by omega);obtain⟨P,ea,Q⟩:=ints_at E.out c l (by omega);injection ea with ea;subst ea;have D:=ZnG ha l s;have F:=zh (zi D (fun q=>Zo9 (D.trans q)));have N:=zh (fun d=>G.out (wr.drewN d) (below_drewN c d) t (by omega));have O:=zh (fun d=>G.out (wr.drewN d) (below_drewN c d) u (by omega));obtain⟨j,B⟩:∃j,j=k+1:=⟨_,rfl⟩
   have H:(k:Int)+1=(j:Int):=by omega
   rw[H];rw[<-B]at Q;have R:(j:Int)<(n:Int):=by omega
   have i2:(0:Int)<=(j:Int):=by omega
   have i3:(k:Int)<(n:Int):=by omega
   have i4:(0:Int)<=(k:Int):=by omega
   have Z:IntKind.i64.wrap ((j:Int)-1)=(k:Int):=by rw[IntWalk.i64_in _ (by have:=m.out;omega)];omega
   have u2:IntKind.i64.wrap ((j:Int)+1)=(j:Int)+1:=IntWalk.i64_in _ (by have:=m.out;omega);have p:=zh (zi o (zi z (zi B c)));clear o z B H D ha l hk s c S T;generalize ZY ns (t:Int)=X at *;generalize ZY ns (u:Int)=Y at *;go_upto_region 4 with fail
   go_quiet (first
    |(go_at_call 115;with_reducible exact Calls.quiet_of_same (N.out _))
    |(go_at_call 115;with_reducible exact Calls.quiet_of_same (O.out _)))
   by_cases q:X<Y
   ·have nq:¬Y<=X:=by omega
    have M:=zh (F.out.1.trans (decide_eq_true q));go_wp2_with fail;go_roundg (n-(k+1+1))
    case measure=>have:=p.out;omega
    case rel=>exact⟨k+1,by rw[p.out.2.2.1],by have:=p.out;omega,rfl,M.out,below_drewN p.out.2.2.2 _⟩
   ·have nq:Y<=X:=by omega
    have i:=zh (F.out.2 (decide_eq_false q));clear q;go_wp2_with fail;go_ret;exact⟨by rw[i.out];rfl,below_drewN p.out.2.2.2 _⟩
  ·have e:f.take (k+1)=f:=List.take_of_length_le (by have:=m.out.1;omega);rw[e]at s;have R:¬(k:Int)+1<(n:Int):=by omega
   have i:=zh (zi s c);clear hk z s c o e;go_wp2_with fail;go_ret;exact⟨by rw[i.out.1];rfl,i.out.2⟩
end
end Go.Proofs.YtfbepcelkijgkaaGreatDoor
