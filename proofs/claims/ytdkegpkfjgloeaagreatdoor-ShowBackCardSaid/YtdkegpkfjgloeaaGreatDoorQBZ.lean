import Derived.Test.YtdkegpkfjgloeaaGreatDoorQAM
import Derived.Test.YtdkegpkfjgloeaaGreatDoorQAV
import Derived.Test.YtdkegpkfjgloeaaGreatDoorQBI
import Derived.Test.YtdkegpkfjgloeaaGreatDoorQBJ
import Derived.Test.YtdkegpkfjgloeaaGreatDoorQBK
import Derived.Test.YtdkegpkfjgloeaaGreatDoorQBY
set_option maxRecDepth 100000
set_option maxHeartbeats 8000000
open Go.RowKit
namespace Go.Proofs.YtdkegpkfjgloeaaGreatDoor
theorem Zli {ns:List Nd} (R:RightP ns):∀(f g i:Nat) (n:Nd),ns[i]? = some n->Zbp ns f n->f<=g->ZM ns g n=ZM ns f n
 |0,_,_,_,_,h,_=>h.elim
 |_+1,0,_,_,_,_,hg=>absurd hg (by omega)
 |f+1,g+1,i,n,hn,h,hg=>by
  have E:∀k∈n.kids,ZZ ns f (Zb ns k)->ZY ns g (Zb ns k)=ZY ns f (Zb ns k):=fun k hk d=>by
   obtain⟨j,q⟩:=ZaI R hn hk;exact Zku R f g j _ q d (by omega)
  have s:∀(m:Nd) (j:Nat),ns[j]? = some m->Zce ns (fun x=>Zbp ns f x) m->(m.kids.map fun c=>ZM ns g (Zb ns c))=m.kids.map fun c=>ZM ns f (Zb ns c):=fun m j q b=>List.map_congr_left fun c hc=>by
   obtain⟨C,v⟩:=ZaI R q hc;exact Zli R f g C _ v (b c hc).2.2 (by omega)
  have B:∀k∈n.kids,Zce ns (fun x=>Zbp ns f x) (Zb ns k)->((Zb ns k).kids.map fun c=>ZM ns g (Zb ns c))=(Zb ns k).kids.map fun c=>ZM ns f (Zb ns c):=fun k hk b=>by
   obtain⟨j,q⟩:=ZaI R hn hk;exact s _ j q b
  rcases h with⟨hk,-,k,a,d⟩|⟨hk,-,-,b⟩|⟨hk,-,A⟩|⟨hk,-,-,l,k,a,-,b⟩|⟨hk,-,z⟩|⟨hk,k,r,a,-,d,b⟩|⟨hk,j,k,a,d,b⟩|⟨hk,k,a,d⟩|hk
  ·have o:Zx ns n 0=Zb ns k:=Za2 (by rw[a];rfl);have e:=E k (by rw[a];simp) (d k (by simp)).2.2;rcases hk with hk|hk
   ·rw[ks8 hk,ks8 hk,o,e]
   ·rw[ks9 hk,ks9 hk,o,e]
  ·rw[Znj hk,Znj hk,List.map_congr_left fun c hc=>by rw[B c hc (b c hc).2.2]]
  ·have e:(n.kids.map fun k=>[((0:Nat),word (Zb ns k) 0)]++ZaE ((Zx ns (Zb ns k) 0).kids.map fun k=>ZM ns g (Zb ns k)))=n.kids.map fun k=>[((0:Nat),word (Zb ns k) 0)]++ZaE ((Zx ns (Zb ns k) 0).kids.map fun k=>ZM ns f (Zb ns k)):=List.map_congr_left fun c hc=>by
    obtain⟨j,q⟩:=ZaI R hn hc;obtain⟨-,k,t,b⟩:=(A c hc).2.2;have o:Zx ns (Zb ns c) 0=Zb ns k:=Za2 (by rw[t];rfl);obtain⟨D,w⟩:=ZaI R q (k:=k) (by rw[t];simp);rw[o,s _ D w (b k (by simp)).2.2]
   rw[ZkF hk,ZkF hk,e]
  ·have u:Zx ns n (n.kids.length-1)=Zb ns k:=Za2 (by rw[a];simp);rw[Znk hk,Znk hk,u,B k (by rw[a];simp) (b k (by simp)).2.2]
  ·have e:(n.kids.map fun k=>Zec ns g (Zb ns k))=n.kids.map fun k=>Zec ns f (Zb ns k):=List.map_congr_left fun c hc=>by
    rcases(z c hc).2.2 with⟨p,-⟩|⟨p,d⟩
    ·simp[Zec,p]
    ·simp[Zec,p,E c hc d]
   rw[ZkG hk,ZkG hk,e]
  ·have o:Zx ns n 0=Zb ns k:=Za2 (by rw[a];rfl)
   have e:((n.kids.drop 1).map fun k=>ZaE ((Zb ns k).kids.map fun k=>ZM ns g (Zb ns k)))=(n.kids.drop 1).map fun k=>ZaE ((Zb ns k).kids.map fun k=>ZM ns f (Zb ns k)):=List.map_congr_left fun c hc=>by
    rw[B c (List.mem_of_mem_drop hc) (b c (by rw[a]at hc;simpa using hc)).2.2]
   rw[ZkH hk,ZkH hk,o,e,E k (by rw[a];simp) (d k (by simp)).2.2]
  ·have o:Zx ns n 0=Zb ns j:=Za2 (by rw[a];rfl);have y:Zx ns n 1=Zb ns k:=Za2 (by rw[a];rfl);rw[Zqu hk,Zqu hk,o,y,E j (by rw[a];simp) (d j (by simp)).2.2,B k (by rw[a];simp) (b k (by simp)).2.2]
  ·have o:Zx ns n 0=Zb ns k:=Za2 (by rw[a];rfl);rw[Zqv hk,Zqv hk,o,E k (by rw[a];simp) (d k (by simp)).2.2]
  ·rw[Zqw hk,Zqw hk]
theorem ZkB {ns:List Nd} (R:RightP ns) {f g i:Nat} {n:Nd} (hn:ns[i]? = some n) (h:Zfe ns f n) (o:f<=g):ZcB ns g n=ZcB ns f n:=by
 rcases h with⟨hk,-⟩|⟨hk,-,l,k,b,-,m⟩
 ·simp[ZcB,hk]
 ·have a:Zx ns n (n.kids.length-1)=Zb ns k:=Za2 (by rw[b];simp);obtain⟨j,p⟩:=ZaI R hn (k:=k) (by rw[b];simp)
  have e:((Zb ns k).kids.map fun c=>ZM ns g (Zb ns c))=(Zb ns k).kids.map fun c=>ZM ns f (Zb ns c):=List.map_congr_left fun c hc=>by
   obtain⟨q,d⟩:=ZaI R p hc;exact Zli R f g q _ d ((m k (by simp)).2.2 c hc).2.2 o
  unfold ZcB;rw[a,e]
theorem Zn3 {ns:List Nd} (l:Zb9 ns=true) (d:(Zcc ns).length<=6000):∃t:Tr,Zf5 (Zcc ns)=(ZcV t [],0,0)/\Zv ns 76 (Zb ns 0) t:=by
 have R:=Zf7 l;obtain⟨w,D⟩:=Zpk l;have n:=ZoN R D;have b:ns[0]? = some (Zb ns 0):=by have b:ns[0]? = some (ns[0]'R.some_):=Ym R.some_;rw[b,<-Zcg (k:=0) b];rfl
 have A:Zn1 ns=((Zb ns 0).kids.map fun c=>ZcB ns 24 (Zb ns c)).flatten:=by
  unfold Zn1
  congr 1
  refine List.map_congr_left fun c hc=>?_;obtain⟨j,q⟩:=ZaI R b hc;rcases Nat.le_total ns.length 24 with h|h
  ·exact(ZkB R q (ZfD R c hc).2.2 h).symm
  ·exact ZkB R q (n c hc).2.2 h
 obtain⟨I,e1,z⟩:=ZpI l;obtain⟨L,o⟩:∃L:List Tok,L=I++[(3,[],(Zcc ns).length)]:=⟨_,rfl⟩
 have B:L.map kt=((Zb ns 0).kids.map fun c=>ZcB ns 24 (Zb ns c)).flatten++[(3,[])]:=by rw[o,List.map_append,e1,A];rfl
 obtain⟨N,u,v⟩:=ZnC R (f:=24) (by decide) (fun c hc=>(n c hc).2.2) B;have m:Zep (Zcc ns)=(L,0,0):=by rw[o];exact ZjP d z
 have E:(Zdj L).2.err=0:=by rw[u];rfl
 have s:(Zb ns 0).kind=0:=R.root;have r:=(R.node 0 _ b).2.2;have C:Zo ns (Zb ns 0)=(Zr (Zb ns 0) 0 0&&Zat ns (Zb ns 0).kids (isB [1,4])):=by simp[Zo,s]
 rw[C,Bool.and_eq_true]at r;obtain⟨J,H⟩:=ZaR r.1;have a:Zv ns 76 (Zb ns 0) (ZdW L):=by show Zv ns 76 (Zb ns 0) (.mk 0 [] [] (Zf L s07) (Zdj L).1);rw[u,Zv];exact⟨s.symm,(List.length_eq_zero_iff.1 J).symm,(List.length_eq_zero_iff.1 H).symm,v.1,fun i t c F hc=>v.2 i t c F hc⟩
 have G:¬1500<(ZcV (ZdW L) []).length:=by
  have K:=ZpP R 75 0 _ _ b a;rw[ZfZ,Yl,Nat.zero_add];have g:∃p,Zb7 ns=some p:=by
   cases g:Zb7 ns with
   |none=>rw[ZdR g]at l;cases l
   |some p=>exact⟨p,rfl⟩
  obtain⟨p,g⟩:=g;have M:=ZmC (ZfG g) 75 0 R.some_;have:=R.len;omega
 have y:¬0<=Zci (ZdW L) 1:=by have e:=Ziu R D 76 0 _ _ b a;rw[D.root]at e;rw[show(1:Int)=((1:Nat):Int)from rfl,e];decide
 refine⟨ZdW L,?_,a⟩;unfold Zf5;rw[m];dsimp only;rw[Yn (by simp),Yn (by simp[E]),Yn G,Yn y]
theorem Zn2 {ns:List Nd} (c:Zb9 ns=true) (a:(Zcc ns).length<=6000):∃d:List Nd,Zf5 (Zcc ns)=(d,0,0)/\Zgz ns d 76 0 0:=by
 obtain⟨t,e,f⟩:=Zn3 c a;have R:=Zf7 c;have b:ns[0]? = some (Zb ns 0):=by have b:ns[0]? = some (ns[0]'R.some_):=Ym R.some_;rw[b,<-Zcg (k:=0) b];rfl
 exact⟨_,e,Zmy R 76 0 _ _ 0 b f (Zqx _)⟩
def ZpZ (ns:List Nd):Prop:=ns.length<=1000/\∀d∈ns,d.words.length<=1000
theorem Zl2 (w:World) (v:Value) (ns:List Nd) (p:Zi w v ns) (C:Zee ns) :
  Calls Tryz.prog 5 #[v] w fun e w'=>OkB (ZpZ ns) e/\Below w.heap.size w w':=by
 obtain⟨A,c,rfl⟩:∃A c,v=.slice A ns.length c:=by obtain⟨A,c,_,e,_⟩:=p;exact⟨A,c,e⟩
 have hm:ns.length<=maxLen:=by obtain⟨_,_,_,e,a,b,_⟩:=p;omega
 have r:=zh (zi p (zi hm C));clear p hm C;go_enter Tryz.func5,Tryz.ntmps5;go_wp2_with fail;go_loopg [3,4] ns.length (fun gk v3 v4 wr=>∃(z i:Nat),v3=.int .i64 (z:Int)/\v4=.int .i64 i/\i<=ns.length/\gk=ns.length-i/\Below w.heap.size w wr/\ns.length<=z/\∀d∈ns.take i,d.words.length<=z)
 case atStart=>exact⟨ns.length,0,rfl,rfl,Nat.zero_le _,rfl,Below.refl _ _,Nat.le_refl _,fun d hd=>by cases hd⟩
 case round=>
  obtain⟨z,i,rfl,rfl,q,j,m,l,f⟩:=hrel;by_cases g:i<ns.length
  ·have R:(i:Int)<(ns.length:Int):=by omega
   by_cases K:(z:Int)<=1000
   ·obtain⟨d,W,X,T,U,V,e1,e2,e3,hd,I,J,hc⟩:=Zhv r.out.1 g;injection I with ea _ ec;subst ea ec;obtain⟨M,N,O,P,Q⟩:=hc _ m;have S:(0:Int)<=(i:Int):=by omega
    have wi:IntKind.i64.wrap ((i:Int)+1)=(i:Int)+1:=IntWalk.i64_in _ (by have:=r.out.2.1;unfold maxLen at this;omega);have t:=r.out.2.2 d (List.mem_of_getElem? hd);have u:IntKind.i64.wrap ((z:Int)+(d.words.length:Int))=(z:Int)+(d.words.length:Int):=IntWalk.i64_in _ (by omega);have y:IntKind.i64.wrap ((z:Int)+(d.words.length:Int)+(d.nums.length:Int))=(z:Int)+(d.words.length:Int)+(d.nums.length:Int):=IntWalk.i64_in _ (by omega);have B:IntKind.i64.wrap ((z:Int)+(d.words.length:Int)+(d.nums.length:Int)+(d.kids.length:Int))=(z:Int)+(d.words.length:Int)+(d.nums.length:Int)+(d.kids.length:Int):=IntWalk.i64_in _ (by omega)
    have D:∀x∈ns.take (i+1),x.words.length<=z+d.words.length+d.nums.length+d.kids.length:=fun x hx=>by
     rw[List.take_add_one,hd]at hx;rcases List.mem_append.1 hx with h|h
     ·have:=f x h;omega
     ·have:x=d:=by simpa using h
      rw[this];omega
    have n:=zh (zi j (zi g (zi m (zi l D))));clear j g m q hd J hc l f t D;obtain⟨Y,H,G,s,Z⟩:=d;dsimp only at M N O P Q u y B n;generalize H.length=F at *;generalize G.length=a2 at *;generalize s.length=a3 at *;go_upto_region 5 with fail;go_region
    all_goals
     go_wp2_with fail;go_roundg (ns.length-(i+1))
     case measure=>have:=n.out;omega
     case rel=>exact⟨z+F+a2+a3,i+1,by push_cast;rfl,by push_cast;rfl,by have:=n.out;omega,rfl,n.out.2.2.1.drew,by have:=n.out;omega,n.out.2.2.2.2⟩
   ·have L:1000<(z:Int):=by omega
    have o:=zh m;clear j m q g l f;go_wp2_with fail;go_ret;exact⟨Zh,o.out⟩
  ·have R:¬(i:Int)<(ns.length:Int):=by omega
   have k:i=ns.length:=by omega
   have o:=zh m;by_cases K:(z:Int)<=1000
   ·have E:=zh (show ZpZ ns from⟨by omega,fun d hd=>by have:=f d (by rw[k,List.take_length];exact hd);omega⟩);clear j m q g l f k;go_wp2_with fail;go_ret;exact⟨Zbm E.out,o.out⟩
   ·clear j m q g l f k;go_wp2_with fail;go_ret;exact⟨Zh,o.out⟩
theorem Zlg (w:World) (A:ShoTabs w) (v:Value) (ns:List Nd) (u:Zi w v ns) (E:Zee ns) :
  Calls Tryz.prog 3 #[v] w fun e w'=>e=.returned (.bool true)/\Below w.heap.size w w':=by
 have r:=zh (fun(w':World) (a:Below w.heap.size w w')=>Zol w' (A.below a));have O:=zh (fun(w':World) (a:Below w.heap.size w w')=>Zl2 w' v ns (u.below a) E);have N:=zh (fun(w':World) (a:Below w.heap.size w w')=>ZnV w' v ns (u.below a) E);have H:=zh (fun(w':World) (a:Below w.heap.size w w') (V:ZpZ ns) (i:Zb9 ns=true)=>Zlf w' v ns (u.below a) (A.below a).keys (A.below a).p i (by have:=ZqO V.2;omega));have g:=zh (show Below w.heap.size w w from Below.refl _ _);obtain⟨s,f⟩:∃s:ByteArray,s=⟨(Zcc ns).toArray⟩:=⟨_,rfl⟩
 have J:txt (Zcc ns)=.string s:=by rw[f]
 have z:s.size=(Zcc ns).length:=by rw[f];show(Zcc ns).toArray.size=_;rw[List.size_toArray]
 have m:s.data.toList=Zcc ns:=by rw[f]
 rw[J]at H;by_cases L:(Zcc ns).length<=6000
 ·have Z:¬((6000:Int)<(s.size:Int)):=by omega
  obtain⟨o,n⟩:∃o:List Nd,Zb9 ns=true->Zf5 (Zcc ns)=(o,0,0)/\Zgz ns o 76 0 0:=by
   by_cases i:Zb9 ns=true
   ·obtain⟨o,h⟩:=Zn2 i L;exact⟨o,fun _=>h⟩
   ·exact⟨[],fun h=>absurd h i⟩
  have G:Zb9 ns=true->∀w':World,Calls Tryz.prog 8 #[.string s] w' (fun e j=>∃q,e=.returned (.tuple #[q,.agg #[.int .i64 0,.int .i64 0]])/\Zi j q o/\Below w'.heap.size w' j):=fun i w'=>by
   have h:=ZnS s w';rw[m,(n i).1]at h;exact h
  have G:=zh G;have R:=zh (fun(i:Zb9 ns=true) (B j:World) (q:Value) (a:Below w.heap.size w j) (D:Zi B q o) (K:Below B.heap.size B j)=>ZjR 76 j v q 0 0 (u.below a) (D.below K) (n i).2);clear A u E f J z m n L;go_enter Tryz.func3,Tryz.ntmps3
  go_wp2_with (first
   |(go_at_call 4;(refine(r.out _ g.out).mono ?_);rintro e1 B ⟨rfl,a⟩;have k:=zh (g.out.trans (a.mono g.out.size));clear a g)
   |(go_at_call 5;(refine(O.out _ k.out).mono ?_);rintro S j ⟨⟨b,rfl,hq⟩,a⟩;have c:=zh (k.out.trans (a.mono k.out.size));have F:=zh hq;clear a hq;cases b)
   |(go_at_call 6;(refine(N.out _ c.out).mono ?_);rintro T W ⟨⟨I,rfl,hq⟩,a⟩;have d:=zh (c.out.trans (a.mono c.out.size));have y:=zh hq;clear a hq;cases I)
   |(go_at_call 4;(refine(r.out _ d.out).mono ?_);rintro e1 M ⟨rfl,a⟩;have l:=zh (d.out.trans (a.mono d.out.size));clear a)
   |(go_at_call 4;(refine(r.out _ c.out).mono ?_);rintro e1 M ⟨rfl,a⟩;have l:=zh (c.out.trans (a.mono c.out.size));clear a)
   |(go_at_call 7;(refine(H.out _ d.out (F.out trivial) (y.out trivial)).mono ?_);rintro U X ⟨rfl,a⟩;have C:=zh (d.out.trans (a.mono d.out.size));clear a)
   |(go_at_call 8;(refine(G.out (y.out trivial) _).mono ?_);rintro e5 Y ⟨q,rfl,D,a⟩;have t:=zh (C.out.trans (a.mono C.out.size));have Q:=zh D;clear a D)
   |(go_at_call 9;(refine(R.out (y.out trivial) Y _ q (t.out.trans ((below_alloc1 _ _).mono t.out.size)) Q.out (below_alloc1 _ _)).mono ?_);rintro e6 w7 ⟨rfl,a⟩;have P:=zh ((t.out.trans ((below_alloc1 _ _).mono t.out.size)).trans (a.mono (t.out.trans ((below_alloc1 _ _).mono t.out.size)).size));clear a))
  ·go_ret;exact⟨rfl,l.out⟩
  ·go_ret;exact⟨rfl,l.out⟩
  ·go_ret;exact⟨rfl,P.out⟩
 ·have Z:(6000:Int)<(s.size:Int):=by omega
  clear A u E f J z m L;go_enter Tryz.func3,Tryz.ntmps3
  go_wp2_with (first
   |(go_at_call 4;(refine(r.out _ g.out).mono ?_);rintro e1 B ⟨rfl,a⟩;have k:=zh (g.out.trans (a.mono g.out.size));clear a g)
   |(go_at_call 5;(refine(O.out _ k.out).mono ?_);rintro S j ⟨⟨b,rfl,hq⟩,a⟩;have c:=zh (k.out.trans (a.mono k.out.size));have F:=zh hq;clear a hq;cases b)
   |(go_at_call 6;(refine(N.out _ c.out).mono ?_);rintro T W ⟨⟨I,rfl,hq⟩,a⟩;have d:=zh (c.out.trans (a.mono c.out.size));have y:=zh hq;clear a hq;cases I)
   |(go_at_call 4;(refine(r.out _ d.out).mono ?_);rintro e1 M ⟨rfl,a⟩;have l:=zh (d.out.trans (a.mono d.out.size));clear a)
   |(go_at_call 4;(refine(r.out _ c.out).mono ?_);rintro e1 M ⟨rfl,a⟩;have l:=zh (c.out.trans (a.mono c.out.size));clear a)
   |(go_at_call 7;(refine(H.out _ d.out (F.out trivial) (y.out trivial)).mono ?_);rintro U X ⟨rfl,a⟩;have C:=zh (d.out.trans (a.mono d.out.size));clear a))
  ·go_ret;exact⟨rfl,l.out⟩
  ·go_ret;exact⟨rfl,l.out⟩
  ·go_ret;exact⟨rfl,C.out⟩
end Go.Proofs.YtdkegpkfjgloeaaGreatDoor
