import Derived.Deep.DeepFit
import Derived.BigQuiet
import Derived.Deep.QuietTactic
import Derived.Test.YtdkegpkfjgloeaaGreatDoorQAF
set_option maxRecDepth 100000
set_option maxHeartbeats 8000000
open Option renaming some → Ya, none → Yb
open Go.Value renaming slice → Yc, int → Yd
open Go.IntKind renaming i64 → Yf
open Go renaming World → Yh, Value → Yi
open Go.RowKit
namespace Go.Proofs.YtdkegpkfjgloeaaGreatDoor
theorem ZfY (n a:Nat):∀(x y:List Int) (p:List Int),ZbY n a (x++y) p=(ZbY n a x p).bind (ZbY n a y)
 |[],y,p=>rfl
 |k::r,y,p=>by
  rw[List.cons_append,ZbY,ZbY]
  split
  ·rfl
  ·exact ZfY n a r y _
theorem Zgc (n a:Nat):∀(x:List Int) (p q:List Int),ZbY n a x p=Ya q->q.length=p.length
 |[],p,q,h=>by
  injection h with h;rw[h]
 |k::r,p,q,h=>by
  rw[ZbY]at h
  split at h
  ·cases h
  ·rw[Zgc n a r _ q h,List.length_set]
theorem Zik (ns:List Nd):∀(j:Nat) (p:List Int),Zcx ns j=Ya p->p.length=ns.length
 |0,p,h=>by
  injection h with h;rw[<-h,List.length_replicate]
 |j+1,p,h=>by
  rw[Zcx]at h;cases hq:Zcx ns j with
  |none=>rw[hq]at h;cases h
  |some q=>
   rw[hq,Option.bind_some]at h
   split at h
   ·cases h
   ·rw[Zgc _ _ _ _ _ h,Zik ns j q hq]
theorem ZjJ (ns:List Nd) {j:Nat} (h:Zcx ns j=Yb):∀d,Zcx ns (j+d)=Yb
 |0=>h
 |d+1=>by rw[Nat.add_succ,Zcx,ZjJ ns h d];rfl
theorem ZrI {ns:List Nd} (a:ns.length≠0) (b:¬1500<ns.length):Zb7 ns=Zcx ns ns.length:=by unfold Zb7;rw[Yn (by omega)]
theorem ZgX {ns:List Nd} {j:Nat} (h:Zcx ns j=Yb) (a:j<=ns.length):Zb7 ns=Yb:=by
 unfold Zb7
 split
 ·rfl
 ·have:=ZjJ ns h (ns.length-j);rwa[Nat.add_sub_cancel' a]at this
theorem Zcp {p:List Int} {k:Nat} {x:Int} (h:p[k]? = Ya x):atI p k=x:=by unfold atI;rw[Int.toNat_natCast,h];rfl
theorem Zcg {ns:List Nd} {k:Nat} {x:Nd} (h:ns[k]? = Ya x):Zb ns k=x:=by unfold Zb;rw[Int.toNat_natCast,h];rfl
theorem Znv {ns:List Nd} {j:Nat} {p:List Int} {x:Int} (h:Zcx ns j=Ya p) (a:0<j) (hx:p[j]? = Ya x) (hn:x<0):Zcx ns (j+1)=Yb:=by rw[Zcx,h,Option.bind_some,Yo ⟨a,by rw[Zcp hx];exact hn⟩]
theorem Zo7 {ns:List Nd} {j:Nat} {p:List Int} {x:Int} (h:Zcx ns j=Ya p) (hx:p[j]? = Ya x) (hn:¬(0<j/\x<0)) {d:Nd} (hd:ns[j]? = Ya d):Zcx ns (j+1)=ZbY ns.length j d.kids p:=by rw[Zcx,h,Option.bind_some,Yn (by rw[Zcp hx];exact hn),Zcg hd]
theorem Znh {l:List Int} {i:Nat} {k:Int} (h:l[i]? = Ya k):l=l.take i++k::l.drop (i+1):=by obtain⟨a,e⟩:=List.getElem?_eq_some_iff.mp h;rw[<-e,List.getElem_cons_drop,List.take_append_drop]
theorem Zhn {n a i:Nat} {l p q:List Int} {k:Int} (h:ZbY n a (l.take i) p=Ya q) (hk:l[i]? = Ya k) (b:k<=(a:Int)\/(n:Int)<=k\/0<=atI q k):ZbY n a l p=Yb:=by rw[Znh hk,ZfY,h,Option.bind_some,ZbY,Yo b]
theorem Znf {n a i:Nat} {l p q:List Int} {k:Int} (h:ZbY n a (l.take i) p=Ya q) (hk:l[i]? = Ya k) (b:¬(k<=(a:Int)\/(n:Int)<=k\/0<=atI q k)):ZbY n a (l.take (i+1)) p=Ya (q.set k.toNat a):=by rw[List.take_add_one,hk,ZfY,h,Option.bind_some];show ZbY n a [k] q=_;rw[ZbY,Yn b];rfl
def PIn (w:Yh) (g:Nat) (p:List Int):Prop:=∃a:Array Yi,Blk w g a/\∀(k:Nat) (x:Int),p[k]? = Ya x->a[k]? = Ya (Value.int Yf x)
theorem PIn.cell {w:Yh} {g k:Nat} {p:List Int} {x:Int} (h:PIn w g p) (hx:p[k]? = Ya x):w.cell? ⟨g,k,Yb⟩=Ya (Yd Yf x):=by obtain⟨b,a,hc⟩:=h;rw[a.cell];exact hc k x hx
theorem PIn.free {w:Yh} {g:Nat} {p:List Int} (h:PIn w g p) (k:Nat):w.frozen? ⟨g,k,Yb⟩=false:=by obtain⟨b,a,_⟩:=h;exact a.free k
theorem PIn.keepB {w w':Yh} {g B:Nat} {p:List Int} (h:PIn w g p) (d:Below B w w') (a:g<B):PIn w' g p:=by obtain⟨b,c,hc⟩:=h;exact⟨b,c.keepB d a,hc⟩
theorem PIn.lt {w:Yh} {g:Nat} {p:List Int} (h:PIn w g p):g<w.heap.size:=by obtain⟨b,a,_⟩:=h;exact a.lt
theorem PIn.keep {w w':Yh} {g:Nat} {p:List Int} (h:PIn w g p) (a:Below w.heap.size w w'):PIn w' g p:=h.keepB a h.lt
theorem PIn.set {w:Yh} {g k:Nat} {p:List Int} (h:PIn w g p) (hk:k<p.length) (x:Int):PIn (w.setCell ⟨g,k,Yb⟩ (Yd Yf x)) g (p.set k x):=by
 obtain⟨c,b,hc⟩:=h;refine⟨_,b.set k _,fun j y a=>?_⟩;rw[List.getElem?_set]at a;rw[Array.getElem?_setIfInBounds]
 split at a
 ·rename_i e
  rw[Yo e];have:=hc k _ (Ym hk);obtain⟨q,_⟩:=Array.getElem?_eq_some_iff.mp this;rw[Yo q];injection a with a;rw[a]
 ·rename_i e
  rw[Yn e];exact hc j y a
theorem Zj6 {w:Yh} {B n:Nat} {v:Yi} (h:w.ownsRow B 3 1 v n (Zda n n)) (hn:0<n):∃g c,v=Yc (Ya ⟨g,0,Yb⟩) n c/\n<=c/\c<=maxLen/\B<=g/\PIn w g (List.replicate n (-1)):=by
 rcases h.2 with⟨e,l⟩|⟨g,b,a,e,d,i,hc,hm,j,f⟩
 ·exfalso;omega
 ·refine⟨g,b,e,hc,hm,d,a,⟨_,i⟩,fun k x hx=>?_⟩;rw[List.getElem?_replicate]at hx
  split at hx
  ·rename_i q
   injection hx with hx;have:(a.toList.take (n*1))[k]? = Ya (Yd Yf x):=by rw[f];unfold Zda;rw[List.getElem?_append_left (by rw[List.length_replicate];omega),List.getElem?_replicate,Yo q,hx]
   rw[List.getElem?_take_of_lt (by omega)]at this;simpa using this
  ·cases hx
def ZdL (w:Yh) (ns:List Nd) (e:Ending) (w':Yh):Prop:=
 Below w.heap.size w w'/\match Zb7 ns with
  |none=>e=.returned (.tuple #[Yc Yb 0 0,.bool false])
  |some p=>∃g c,e=.returned (.tuple #[Yc (Ya ⟨g,0,Yb⟩) ns.length c,.bool true])/\ns.length<=c/\c<=maxLen/\w.heap.size<=g/\PIn w' g p
theorem ZdL.bad {w w':Yh} {ns:List Nd} (h:Zb7 ns=Yb) (a:Below w.heap.size w w'):ZdL w ns (.returned (.tuple #[Yc Yb 0 0,.bool false])) w':=by refine⟨a,?_⟩;rw[h]
theorem ZdL.good {w w':Yh} {ns:List Nd} {p:List Int} {g c:Nat} (h:Zb7 ns=Ya p) (f:Below w.heap.size w w') (a:ns.length<=c) (b:c<=maxLen) (d:w.heap.size<=g) (e:PIn w' g p) :
  ZdL w ns (.returned (.tuple #[Yc (Ya ⟨g,0,Yb⟩) ns.length c,.bool true])) w':=by
 refine⟨f,?_⟩;rw[h];exact⟨g,c,rfl,a,b,d,e⟩
theorem Zh0 (w:Yh) (v:Yi) (ns:List Nd) (h:Zi w v ns) :
  Calls Tryz.prog 27 #[v] w (ZdL w ns):=by
 obtain⟨A,cp,rs,rfl,h2,h3,h4,W,h6⟩:=h;obtain⟨n,hn⟩:∃n,n=ns.length:=⟨_,rfl⟩
 have H:n<=9223372036854775807:=by unfold maxLen at h3;omega
 rw[<-hn]at h2 W⊢;by_cases M:n=0
 ·have t1:((n:Int)==0)=true:=by rw[M];rfl
  have a:=zh (ZdL.bad (w:=w) (w':=w) (ns:=ns) (by unfold Zb7;rw[Yo (.inl (by omega))]) (Below.refl _ _));clear hn h2 h3 h4 W h6 H M;go_enter Tryz.func27,Tryz.ntmps27;go_wp2_with fail;exact bodyPost_ret (v:=.tuple #[Yc Yb 0 0,.bool false]) (by simp[results,Tryz.results27,go_sem]) rfl a.out
 have t1:((n:Int)==0)=false:=by simpa using fun e=>M (by omega)
 by_cases q1:1500<n
 ·have i1:(1500:Int)<(n:Int):=by omega
  have a:=zh (ZdL.bad (w:=w) (w':=w) (ns:=ns) (by unfold Zb7;rw[Yo (.inr (by omega))]) (Below.refl _ _));clear hn h2 h3 h4 W h6 H M q1;go_enter Tryz.func27,Tryz.ntmps27;go_wp2_with fail;exact bodyPost_ret (v:=.tuple #[Yc Yb 0 0,.bool false]) (by simp[results,Tryz.results27,go_sem]) rfl a.out
 have i1:(n:Int)<=1500:=by omega
 have tr:=fun w=>Zmb w;have b:=zh (zi hn (zi M q1));have H4:=zh (zi h4 (zi W h6));have TR:=zh tr;clear hn M q1 h2 h3 h4 W h6 tr H;go_enter Tryz.func27,Tryz.ntmps27;go_upto_region 4 with(go_at_call 53;go_fit (TR.out _ _ _ _ (Blk.start _ _ _) (by have:=b.out;omega) (by have:=b.out;omega));rintro e w1 ⟨v1,rfl,hO,bO⟩)
 have bA:=below_alloc1 w (.cells #[Yd Yf (-1)] 3);have b1:=bA.trans (bO.mono bA.size);have sz:=(World.size_alloc w (.cells #[Yd Yf (-1)] 3))
 obtain⟨g,c,rfl,hc,hm,hg,l⟩:=Zj6 hO (by have:=b.out;omega);rw[sz]at hg;have I:=zh (zi hc (zi hm (zi (show w.heap.size<=g by omega) (zi l b1))));clear hc hm hg l b1 bO hO bA sz TR;go_wp2_with fail;go_loopg [23] n (fun gk ax wr=>∃(j:Nat) (p:List Int),ax=Yd Yf j/\j<=n/\gk=n-j/\Zcx ns j=Ya p/\PIn wr g p/\Below w.heap.size w wr)
 case atStart=>exact⟨0,_,rfl,Nat.zero_le _,rfl,(show Zcx ns 0=Ya (List.replicate ns.length (-1))from rfl),by rw[<-b.out.1];exact I.out.2.2.2.1,I.out.2.2.2.2⟩
 case round=>
  obtain⟨j,p,rfl,hj,D,u,l,s⟩:=hrel;by_cases X:j=n
  ·subst X;have V:Zb7 ns=Ya p:=by rw[ZrI (by have:=b.out;omega) (by have:=b.out;omega),<-b.out.1];exact u
   have a:=zh (ZdL.good V s (by rw[<-b.out.1];exact I.out.1) I.out.2.1 I.out.2.2.1 l);rw[<-b.out.1]at a;clear V u l s hj D;go_wp2_with fail;exact bodyPost_ret (v:=.tuple #[Yc (Ya ⟨g,0,Yb⟩) j c,.bool true]) (by simp[results,Tryz.results27,go_sem]) rfl a.out
  have t:j<n:=by omega
  obtain⟨x,hx⟩:∃x,rs[j]? = Ya x:=⟨_,Ym (by have:=congrArg List.length H4.out.1;rw[List.length_map]at this;have:=b.out.1;omega)⟩
  have hd:ns[j]? = Ya x.2:=by rw[<-H4.out.1,List.getElem?_map,hx];rfl
  obtain⟨ad,rfl,d0,d1,d2,d3,d4⟩:=ZaG H4.out.2.1 s hx (by omega);have hp:=Zik ns j p u;obtain⟨y,hy⟩:∃y,p[j]? = Ya y:=⟨_,Ym (by have:=b.out.1;omega)⟩
  have i2:(j:Int)<(n:Int):=by omega
  have i3:(0:Int)<=(j:Int):=by omega
  have u1:IntKind.i64.wrap ((j:Int)+1)=(j:Int)+1:=IntWalk.i64_in _ (by have:=b.out;omega);obtain⟨⟨A1,c1,S,_⟩,⟨A2,c2,T,_⟩,N,R,U,K,L,k4⟩:=H4.out.2.2 x (List.mem_of_getElem? hx);have d:=zh (zi D (zi u (zi l (zi s (zi hd (zi hp (zi hy t)))))));obtain⟨⟨va,vb,vc⟩,kd,ws,o,Y,ps⟩:=x;dsimp only at d0 d1 d2 d3 d4 S T U K L k4;subst S T U;obtain⟨m,G⟩:∃m,m=Y.length:=⟨_,rfl⟩
  have P:=zh (zi G (zi (show m<=9223372036854775807 by unfold maxLen at L;omega) k4));rw[<-G]at d3;clear D u l s hd hp hy t X hj hx K L k4 G;go_upto_region 7 with fail;have f3:(wr.alloc (.cells #[Yd Yf kd,Yc A1 ws.length c1,Yc A2 o.length c2,Yc N m R,Yd Yf ps] 36)).cell? ⟨wr.heap.size,3,Yb⟩=Ya (Yc N m R):=(Blk.start wr #[Yd Yf kd,Yc A1 ws.length c1,Yc A2 o.length c2,Yc N m R,Yd Yf ps] 36).cell 3;have a5:=below_alloc1 wr (.cells #[Yd Yf kd,Yc A1 ws.length c1,Yc A2 o.length c2,Yc N m R,Yd Yf ps] 36);have b5:=d.out.2.2.2.1.trans (a5.mono d.out.2.2.2.1.size);have p5:=d.out.2.2.1.keep a5;have cy:=p5.cell d.out.2.2.2.2.2.2.1;have H5:=zh (zi p5 b5);clear p5 b5 a5 d0 d1 d2 d3 d4;generalize wr.alloc (.cells #[Yd Yf kd,Yc A1 ws.length c1,Yc A2 o.length c2,Yc N m R,Yd Yf ps] 36)=w5 at *;generalize ar:wr.heap.size=nb at *;clear ar;by_cases r:0<j/\y<0
  ·have i4:(0:Int)<(j:Int):=by omega
   have i5:=r.2;have a:=zh (ZdL.bad (ZgX (Znv d.out.2.1 r.1 d.out.2.2.2.2.2.2.1 r.2) (by have:=d.out;have:=b.out;omega)) H5.out.2);clear r;go_wp2_with fail;exact bodyPost_ret (v:=.tuple #[Yc Yb 0 0,.bool false]) (by simp[results,Tryz.results27,go_sem]) rfl a.out
  have O:=zh (Zo7 d.out.2.1 d.out.2.2.2.2.2.2.1 r d.out.2.2.2.2.1);rw[<-b.out.1]at O;have Z:((j:Int)<=0/\j=0)\/((0:Int)<(j:Int)/\0<=y):=by omega
  clear r;rcases Z with⟨i4,_⟩|⟨i4,i5⟩
  all_goals
   go_wp2_with fail;go_loopg [40] m (fun gi ay wi=>∃(i:Nat) (q:List Int),ay=Yd Yf i/\i<=m/\gi=m-i/\ZbY n j (Y.take i) p=Ya q/\PIn wi g q/\Below w.heap.size w wi)
   case atStart=>exact⟨0,p,rfl,Nat.zero_le _,rfl,rfl,H5.out.1,H5.out.2⟩
   case round=>
    obtain⟨i,q,rfl,hi,C,hk,l,s⟩:=hrel;by_cases E:i=m
    ·have e:Y.take i=Y:=by rw[E,P.out.1];exact List.take_length
     rw[e]at hk;have Q:=zh (zi (O.out.trans hk) (zi l s));subst E;clear e hk l s C hi;go_wp2_with fail;go_roundg (n-(j+1))
     case measure=>have:=d.out;omega
     case rel=>exact⟨j+1,q,by first|(push_cast;rfl)|(rw[show j=0 by omega];rfl),by have:=d.out;omega,rfl,Q.out.1,Q.out.2.1,Q.out.2.2⟩
    ·have t:i<m:=by omega
     obtain⟨k,F⟩:∃k,Y[i]? = Ya k:=⟨_,Ym (by have:=P.out.1;omega)⟩
     obtain⟨bn,rfl,dk⟩:=ints_at P.out.2.2 s F (by have:=P.out.1;omega);have i6:(i:Int)<(m:Int):=by omega
     have i7:(0:Int)<=(i:Int):=by omega
     have u2:IntKind.i64.wrap ((i:Int)+1)=(i:Int)+1:=IntWalk.i64_in _ (by have:=P.out.2.1;omega);have hq:=Zgc _ _ _ _ _ hk;have f:=zh (zi hk (zi l (zi s (zi F (zi C (zi t hq))))));clear hk s F C t hi E;by_cases k1:k<=(j:Int)
     ·
      have a:=zh (ZdL.bad (ZgX (O.out.trans (Zhn f.out.1 f.out.2.2.2.1 (.inl k1))) (by have:=d.out;have:=b.out;omega)) f.out.2.2.1);go_wp2_with fail;exact bodyPost_ret (v:=.tuple #[Yc Yb 0 0,.bool false]) (by simp[results,Tryz.results27,go_sem]) rfl a.out
     have bq:(j:Int)<k:=by omega
     by_cases K:(n:Int)<=k
     ·
      have a:=zh (ZdL.bad (ZgX (O.out.trans (Zhn f.out.1 f.out.2.2.2.1 (.inr (.inl K)))) (by have:=d.out;have:=b.out;omega)) f.out.2.2.1);clear k1;go_wp2_with fail;exact bodyPost_ret (v:=.tuple #[Yc Yb 0 0,.bool false]) (by simp[results,Tryz.results27,go_sem]) rfl a.out
     obtain⟨B,rfl⟩:∃B:Nat,k=B:=⟨k.toNat,by omega⟩
     have br:(B:Int)<(n:Int):=by omega
     have k0:(0:Int)<=(B:Int):=by omega
     obtain⟨z,J⟩:∃z,q[B]? = Ya z:=⟨_,Ym (by have:=d.out.2.2.2.2.2.1;have:=b.out.1;omega)⟩
     have cz:=l.cell J;have fz:=l.free B;clear l hq;by_cases L:0<=z
     ·
      have a:=zh (ZdL.bad (ZgX (O.out.trans (Zhn f.out.1 f.out.2.2.2.1 (.inr (.inr (by rw[Zcp J];exact L))))) (by have:=d.out;have:=b.out;omega)) f.out.2.2.1);clear k1 K J;go_wp2_with fail;exact bodyPost_ret (v:=.tuple #[Yc Yb 0 0,.bool false]) (by simp[results,Tryz.results27,go_sem]) rfl a.out
     have Q:=zh (Znf f.out.1 f.out.2.2.2.1 (show ¬((B:Int)<=(j:Int)\/(n:Int)<=(B:Int)\/0<=atI q (B:Int))by rw[Zcp J];omega));have bs:z<0:=by omega
     have KL:=zh (show B<q.length from(List.getElem?_eq_some_iff.mp J).1);clear k1 K L J;go_wp2_with fail;go_roundg (m-(i+1))
     case measure=>have:=f.out;omega
     case rel=>exact⟨i+1,_,by push_cast;rfl,by have:=f.out;omega,rfl,Q.out,by first|exact f.out.2.1.set KL.out _|simpa[show j=0 by omega]using f.out.2.1.set KL.out 0,f.out.2.2.1.setCell (p:=⟨g,B,Yb⟩) I.out.2.2.1 _⟩
def Zfw (p:List Int):Prop:=∀(k:Nat) (x:Int),p[k]? = Ya x->x<k
theorem Zfw.set {p:List Int} (h:Zfw p) {k:Nat} {x:Int} (hx:x<k):Zfw (p.set k x):=fun i y a=>by
 rw[List.getElem?_set]at a
 split at a
 ·rename_i e
  split at a
  ·injection a with a;omega
  ·cases a
 ·exact h i y a
theorem ZhZ (n a:Nat):∀(x:List Int) (p q:List Int),ZbY n a x p=Ya q->Zfw p->Zfw q
 |[],p,q,h,hp=>by
  injection h with h;rwa[<-h]
 |k::r,p,q,h,hp=>by
  rw[ZbY]at h
  split at h
  ·cases h
  ·rename_i b
   exact ZhZ n a r _ q h (hp.set (by omega))
theorem ZiO (ns:List Nd):∀(j:Nat) (p:List Int),Zcx ns j=Ya p->Zfw p
 |0,p,h=>by
  injection h with h;rw[<-h];intro k x hx;rw[List.getElem?_replicate]at hx
  split at hx
  ·injection hx with hx;omega
  ·cases hx
 |j+1,p,h=>by
  rw[Zcx]at h;cases hq:Zcx ns j with
  |none=>rw[hq]at h;cases h
  |some q=>
   rw[hq,Option.bind_some]at h
   split at h
   ·cases h
   ·exact ZhZ _ _ _ _ _ h (ZiO ns j q hq)
theorem Zb0 (p:List Int):∀j,(Zc0 p j).length=j
 |0=>rfl
 |j+1=>by rw[Zc0,Yj,Zb0 p j];rfl
theorem ZgI {p:List Int} (ha:Zfw p):∀(j:Nat),j<=p.length->∀(k:Nat) (x:Int),(Zc0 p j)[k]? = Ya x->1<=x/\x<=(k:Int)+1
 |0,_,k,x,h=>by simp[Zc0]at h
 |j+1,hj,k,x,h=>by
  rw[Zc0,List.getElem?_append,Zb0]at h
  split at h
  ·exact ZgI ha j (by omega) k x h
  ·rename_i hk
   have e:k=j:=by have:=(List.getElem?_eq_some_iff.mp h).1;simp at this;omega
   subst e;rw[Nat.sub_self]at h;injection h with h;obtain⟨y,a⟩:∃y,p[k]? = Ya y:=⟨_,Ym (by omega)⟩
   rw[Zcp a]at h;have:=ha k y a
   split at h
   ·rename_i c
    obtain⟨m,rfl⟩:∃m:Nat,y=m:=⟨y.toNat,by omega⟩
    obtain⟨z,b⟩:∃z,(Zc0 p k)[m]? = Ya z:=⟨_,Ym (by rw[Zb0];omega)⟩
    rw[Zcp b]at h;have:=ZgI ha k (by omega) m z b;omega
   ·omega
def Zfr (p:List Int) (n j:Nat):List Int:=Zc0 p j++List.replicate (n-j) 0
theorem Zkp {p:List Int} {n j:Nat} (h:j<=n):(Zfr p n j).length=n:=by unfold Zfr;rw[Yj,Zb0,List.length_replicate];omega
theorem Zrs {p:List Int} {n j k:Nat} (h:k<j):(Zfr p n j)[k]? = (Zc0 p j)[k]?:=by unfold Zfr;rw[List.getElem?_append_left (by rw[Zb0];exact h)]
theorem Zkq {p:List Int} {n j:Nat} {x:Int} (h:j<n) (hx:x=if 0<=atI p j then 1+atI (Zc0 p j) (atI p j)else 1):(Zfr p n j).set j x=Zfr p n (j+1):=by
 unfold Zfr;rw[List.set_append_right _ _ (by rw[Zb0];exact Nat.le_refl _),Zb0,Nat.sub_self,Zc0,<-hx,List.append_assoc]
 congr 1
 rw[show n-j=(n-(j+1))+1 by omega,List.replicate_succ,List.set_cons_zero];rfl
theorem Zqc (p:List Int):Zfr p p.length p.length=Zb1 p:=by unfold Zfr Zb1;rw[Nat.sub_self,List.replicate_zero,List.append_nil]
theorem ZlN {w:Yh} {B n:Nat} {v:Yi} (h:w.ownsRow B 3 1 v n (madeCells #[Value.int Yf 0] n).toList) (hn:0<n):∃g c,v=Yc (Ya ⟨g,0,Yb⟩) n c/\n<=c/\c<=maxLen/\B<=g/\PIn w g (List.replicate n 0):=by
 rcases h.2 with⟨e,l⟩|⟨g,b,a,e,d,i,hc,hm,j,f⟩
 ·exfalso;omega
 ·refine⟨g,b,e,hc,hm,d,a,⟨_,i⟩,fun k x hx=>?_⟩;rw[List.getElem?_replicate]at hx
  split at hx
  ·rename_i q
   injection hx with hx;have:(a.toList.take (n*1))[k]? = Ya (Yd Yf x):=by rw[f,<-hx];simp[madeCells,q,Nat.mod_one]
   rw[List.getElem?_take_of_lt (by omega)]at this;simpa using this
  ·cases hx
theorem PIn.other {w:Yh} {g:Nat} {p:List Int} (h:PIn w g p) {q:Addr} (hq:q.block≠g) (v:Yi):PIn (w.setCell q v) g p:=by obtain⟨a,b,hc⟩:=h;exact⟨a,b.other hq v,hc⟩
theorem PIn.drew {w:Yh} {g:Nat} {p:List Int} (h:PIn w g p):PIn w.drew g p:=by obtain⟨a,b,hc⟩:=h;exact⟨a,b.drew,hc⟩
theorem Zm5 (w:Yh) (g c n:Nat) (p:List Int) (hp:PIn w g p) (hn:p.length=n) (Z:1<=n) (h2:n<=1500) (ha:Zfw p) :
  Calls Tryz.prog 29 #[Yc (Ya ⟨g,0,Yb⟩) n c] w fun e w'=>Below w.heap.size w w'/\∃Y A,e=.returned (Yc (Ya ⟨Y,0,Yb⟩) n A)/\n<=A/\A<=maxLen/\PIn w' Y (Zb1 p):=by
 obtain⟨i0,hi,h,F,G⟩:=ZiG Zmu;have b:=zh (zi hn (zi Z (zi h2 (zi hp ha))));clear hn Z h2 ha hp;go_enter Tryz.func29,Tryz.ntmps29;go_upto_region 2 with(at_make;refine wpList_make_full _ rfl _ _ 32 rfl w.heap.size 3 i0 (Yd Yf 0) 1 Tryz.underlying32 hi h F Yf Yf _ _ n rfl rfl ?c1 ?c2 ?c3 ?c4 ?c5 ?_)
 case c1=>rfl
 case c2=>have:=b.out;omega
 case c3=>rw[G];have:=b.out;omega
 case c4=>have:=b.out;unfold maxLen;omega
 case c5=>simp
 intro w2 l f;have N:Below w.heap.size w w2:=(Below.refl _ _).grown f (Nat.le_refl _) (fun k hk=>by cases hk);obtain⟨d,cd,X,B,E,C,hD⟩:=ZlN l (by have:=b.out;omega);rw[X];have p2:=b.out.2.2.2.1.keep N;have r:=zh (zi B (zi E (zi C (zi b.out.2.2.2.1.lt N))));have Q:=zh (zi hD p2);clear B E C hD p2 N l f X hi h F G i0;go_wp2_with fail;go_loopg [11] n (fun gk P wr=>∃j:Nat,P=Yd Yf j/\j<=n/\gk=n-j/\PIn wr d (Zfr p n j)/\PIn wr g p/\Below w.heap.size w wr)
 case atStart=>exact⟨0,rfl,Nat.zero_le _,rfl,Q.out.1,Q.out.2,r.out.2.2.2.2⟩
 case round=>
  obtain⟨j,rfl,K,s,hD,I,J⟩:=hrel;by_cases D:j=n
  ·subst D;have e:Zfr p j j=Zb1 p:=by have:=Zqc p;rwa[b.out.1]at this
   rw[e]at hD;have u:=zh (zi J hD);clear e K s hD I J;go_wp2_with fail;go_ret;exact⟨u.out.1,d,cd,rfl,r.out.1,r.out.2.1,u.out.2⟩
  have t:j<n:=by omega
  obtain⟨y,L⟩:∃y,p[j]? = Ya y:=⟨_,Ym (by have:=b.out.1;omega)⟩
  have cy:=I.cell L;have U:=b.out.2.2.2.2 j y L;obtain⟨z0,h⟩:∃z0,(Zfr p n j)[j]? = Ya z0:=⟨_,Ym (by rw[Zkp K];exact t)⟩
  have cz:=hD.cell h;have fz:=hD.free j;have i2:(j:Int)<(n:Int):=by omega
  have i3:(0:Int)<=(j:Int):=by omega
  have u1:IntKind.i64.wrap ((j:Int)+1)=(j:Int)+1:=IntWalk.i64_in _ (by have:=b.out;omega);have H:=Zkp (p:=p) K;have R:=hD.set (k:=j) (by omega) 1;have S:PIn (wr.setCell ⟨d,j,Yb⟩ (Yd Yf 1)) g p:=I.other (q:=⟨d,j,Yb⟩) (by show d≠g;have:=r.out;omega) _;have V:Below w.heap.size w (wr.setCell ⟨d,j,Yb⟩ (Yd Yf 1)):=J.setCell (p:=⟨d,j,Yb⟩) r.out.2.2.1 _;have i:=zh (zi R (zi S V));have a:=zh (zi t (zi s (zi L (zi U H))));clear K s I hD L U h t R S V H J D;go_upto_region 6 with fail;clear cy cz fz;generalize wr.setCell ⟨d,j,Yb⟩ (Yd Yf 1)=w5 at *;by_cases O:0<=y
  ·obtain⟨m,rfl⟩:∃m:Nat,y=m:=⟨y.toNat,by omega⟩
   have hm:m<j:=by have:=a.out.2.2.2.1;omega
   obtain⟨z,M⟩:∃z,(Zc0 p j)[m]? = Ya z:=⟨_,Ym (by rw[Zb0];exact hm)⟩
   have bz:=ZgI b.out.2.2.2.2 j (by have:=a.out;have:=b.out;omega) m z M;have cm:=i.out.1.cell (k:=m) (x:=z) (by rw[List.getElem?_set_ne (by omega),Zrs hm];exact M);have cj:=i.out.1.cell (k:=j) (x:=1) (by rw[List.getElem?_set_self (by rw[a.out.2.2.2.2];exact a.out.1)]);have fj:=i.out.1.free j;have u2:IntKind.i64.wrap (1+z)=1+z:=IntWalk.i64_in _ (by have:=a.out;have:=b.out;omega);have i5:(m:Int)<(n:Int):=by have:=a.out;omega
   have o:=i.out.1.set (k:=j) (by rw[List.length_set,a.out.2.2.2.2];exact a.out.1) (1+z);rw[List.set_set,Zkq a.out.1 (by rw[Zcp a.out.2.2.1,Yo O,Zcp M])]at o;have T:=i.out.2.1.other (q:=⟨d,j,Yb⟩) (by show d≠g;have:=r.out;omega) (Yd Yf (1+z));have W:=i.out.2.2.setCell (p:=⟨d,j,Yb⟩) r.out.2.2.1 (Yd Yf (1+z));have v:=zh (zi o (zi T W));clear o T W M bz hm;go_wp2_with fail;go_region
   all_goals
    go_wp2_with fail;go_roundg (n-(j+1))
    case measure=>have:=a.out;omega
    case rel=>exact⟨j+1,by push_cast;rfl,by have:=a.out;omega,rfl,v.out.1.drew,v.out.2.1.drew,v.out.2.2.drew⟩
  ·have i4:y<0:=by omega
   have o:=i.out.1;rw[Zkq a.out.1 (by rw[Zcp a.out.2.2.1,Yn O])]at o;have v:=zh o;clear o O;go_wp2_with fail;go_roundg (n-(j+1))
   case measure=>have:=a.out;omega
   case rel=>exact⟨j+1,by push_cast;rfl,by have:=a.out;omega,rfl,v.out,i.out.2.1,i.out.2.2⟩
theorem ZoF {l:List Int} {k:Nat} {x a:Int} (h:l[k]? = Ya x):(l.take (k+1)).foldl max a=max ((l.take k).foldl max a) x:=by rw[List.take_add_one,h,List.foldl_append];rfl
def Zjj (l:List Int) (k:Nat):Int:=Zf2 (l.take k)
theorem ZqA {l:List Int} {x:Int} (h:l[0]? = Ya x):Zjj l 1=x:=by
 cases l with
 |nil=>simp at h
 |cons a r=>
  obtain rfl:a=x:=by simpa using h
  rfl
theorem Zo0 {l:List Int} {k:Nat} {x:Int} (hk:0<k) (h:l[k]? = Ya x):Zjj l (k+1)=max (Zjj l k) x:=by
 cases l with
 |nil=>simp at h
 |cons a r=>
  obtain⟨m,rfl⟩:∃m,k=m+1:=⟨k-1,by omega⟩
  rw[List.getElem?_cons_succ]at h;show Zf2 (a::r.take (m+1))=max (Zf2 (a::r.take m)) x;exact ZoF h
theorem Zqz {l:List Int} {n:Nat} (h:l.length=n):Zjj l n=Zf2 l:=by unfold Zjj;rw[<-h,List.take_length]
theorem ZqX (w:Yh) (g c n:Nat) (p:List Int) (i:PIn w g p) (hn:p.length=n) (m:1<=n) (o:n<=1500) :
  Calls Tryz.prog 28 #[Yc (Ya ⟨g,0,Yb⟩) n c] w fun e w'=>e=.returned (Yd Yf (Zf2 p))/\w=w':=by
 obtain⟨q,d⟩:∃q,p[0]? = Ya q:=⟨_,Ym (by omega)⟩
 have s:=i.cell d;have u:¬(n:Int)<1:=by omega
 have i0:(0:Int)<(n:Int):=by omega
 have f:=zh (zi hn (zi m (zi o (zi i (ZqA d)))));clear hn m o i d;go_enter Tryz.func28,Tryz.ntmps28;go_wp2_with fail;go_loopg [3,4] (n-1) (fun gk v3 v4 wr=>w=wr/\∃k:Nat,v3=Yd Yf (Zjj p k)/\v4=Yd Yf k/\1<=k/\k<=n/\gk=n-k)
 case atStart=>exact⟨rfl,1,by rw[f.out.2.2.2.2],rfl,Nat.le_refl _,f.out.2.1,rfl⟩
 case round=>
  obtain⟨rfl,k,rfl,rfl,b,hk,a⟩:=hrel;by_cases h:k=n
  ·subst h;have e:=zh (Zqz (l:=p) f.out.1);clear b hk a;go_wp2_with fail;go_ret;exact⟨by rw[<-e.out];rfl,rfl⟩
  ·obtain⟨x,hx⟩:∃x,p[k]? = Ya x:=⟨_,Ym (by have:=f.out.1;omega)⟩
   have t:=f.out.2.2.2.1.cell hx;have i2:(k:Int)<(n:Int):=by omega
   have i3:(0:Int)<=(k:Int):=by omega
   have v:IntKind.i64.wrap ((k:Int)+1)=(k:Int)+1:=IntWalk.i64_in _ (by have:=f.out;omega);have r:=zh (Zo0 (by omega) hx);have j:=zh (zi b (zi i2 a));clear b hk a h hx;go_wp2_with fail;go_roundg (n-(k+1))
   case measure=>have:=j.out;omega
   case rel=>exact⟨rfl,k+1,by rw[r.out],by push_cast;rfl,by omega,by have:=j.out;omega,rfl⟩
theorem ZkQ {w:Yh} {v:Yi} {ns:List Nd} (h:Zi w v ns) (b:Zb7 ns=Yb) :
  Calls Tryz.prog 27 #[v] w fun e w'=>e=.returned (.tuple #[Yc Yb 0 0,.bool false])/\Below w.heap.size w w':=
 (Zh0 w v ns h).mono fun e w' q=>by
  obtain⟨a,hm⟩:=q
  rw[b]at hm
  exact⟨hm,a⟩
theorem ZkR {w:Yh} {v:Yi} {ns:List Nd} {p:List Int} (h:Zi w v ns) (b:Zb7 ns=Ya p) :
  Calls Tryz.prog 27 #[v] w fun e w'=>∃g c,e=.returned (.tuple #[Yc (Ya ⟨g,0,Yb⟩) ns.length c,.bool true])/\PIn w' g p/\Below w.heap.size w w':=
 (Zh0 w v ns h).mono fun e w' q=>by
  obtain⟨a,hm⟩:=q
  rw[b]at hm
  obtain⟨g,c,e,_,_,_,h⟩:=hm
  exact⟨g,c,e,h,a⟩
theorem ZfF {ns:List Nd} {p:List Int} (h:Zb7 ns=Ya p):1<=ns.length/\ns.length<=1500/\p.length=ns.length/\Zfw p:=by
 have a:=h;unfold Zb7 at h
 split at h
 ·cases h
 ·exact⟨by omega,by omega,Zik _ _ _ h,ZiO _ _ _ h⟩
theorem Zou {w:Yh} {g c:Nat} {ns:List Nd} {p:List Int} (h:Zb7 ns=Ya p) (l:PIn w g p) :
  Calls Tryz.prog 29 #[Yc (Ya ⟨g,0,Yb⟩) ns.length c] w fun e w'=>∃a d,e=.returned (Yc (Ya ⟨a,0,Yb⟩) ns.length d)/\PIn w' a (Zb1 p)/\Below w.heap.size w w':=by
 obtain⟨f,i,j,k⟩:=ZfF h;exact(Zm5 w g c ns.length p l j f i k).mono fun e w' ⟨b,a,d,e,_,_,q⟩=>⟨a,d,e,q,b⟩
theorem Zsp {w:Yh} {g c:Nat} {ns:List Nd} {p:List Int} (h:Zb7 ns=Ya p) (f:PIn w g (Zb1 p)) :
  Calls Tryz.prog 28 #[Yc (Ya ⟨g,0,Yb⟩) ns.length c] w fun e w'=>e=.returned (Yd Yf (Zf2 (Zb1 p)))/\w=w':=by
 obtain⟨a,b,d,i⟩:=ZfF h;exact ZqX w g c ns.length (Zb1 p) f (by unfold Zb1;rw[Zb0,d]) a b
theorem Zoe {ns:List Nd} {k:Nat} {d:Nd} (h:ns[k]? = Ya d) (a:d.nums=[]):ZaC ns k=-1:=by unfold ZaC;rw[Zcg h,a]
theorem Zgo {ns:List Nd} {k:Nat} {d:Nd} {x:Int} {r:List Int} (h:ns[k]? = Ya d) (a:d.nums=x::r):ZaC ns k=x:=by unfold ZaC;rw[Zcg h,a]
theorem Zj1 (w:Yh) (v:Yi) (ns:List Nd) (k:Nat) (h:Zi w v ns) (hk:k<ns.length) :
  Calls Tryz.prog 108 #[v,Yd Yf k] w fun e w'=>e=.returned (Yd Yf (ZaC ns k))/\w=w':=by
 obtain⟨A,I,D,rfl,B,C,j,t,u⟩:=h;obtain⟨x,hx⟩:∃x,D[k]? = Ya x:=⟨_,Ym (by have:=congrArg List.length j;rw[List.length_map]at this;omega)⟩
 have hd:ns[k]? = Ya x.2:=by rw[<-j,List.getElem?_map,hx];rfl
 obtain⟨G,rfl,o,p,i,q,s⟩:=ZaG t (Below.refl _ _) hx (by omega);obtain⟨_,⟨F,H,c,g,l,d⟩,_⟩:=u x (List.mem_of_getElem? hx);obtain⟨⟨N,O,P⟩,K,Q,f,L,M⟩:=x;dsimp only at o p i q s c g l d hd;subst c;obtain⟨n,hn⟩:∃n,n=ns.length:=⟨_,rfl⟩
 rw[<-hn]at hk⊢;have J:(k:Int)<(n:Int):=by omega
 have i2:(0:Int)<=(k:Int):=by omega
 clear B C j t u hx hk hn o p q s;cases f with
 |nil=>
  have E:((0:Int)==0)=true:=rfl;have a:=zh (Zoe hd rfl);simp only[Yl]at i g d;clear hd g l d;go_enter Tryz.func108,Tryz.ntmps108;go_wp2_with fail;go_ret;exact⟨by rw[a.out];rfl,rfl⟩
 |cons y r=>
  obtain⟨b,rfl,z⟩:=ints_at (k:=0) (x:=y) d (Below.refl _ _) rfl (by simp);rw[show b.add 0=b by unfold Addr.add;simp]at z;have a:=zh (Zgo hd rfl);obtain⟨m,hm⟩:∃m,m=(y::r).length:=⟨_,rfl⟩
  rw[<-hm]at i;have E:((m:Int)==0)=false:=by
   have:m=r.length+1:=hm;simpa using fun e=>by omega
  have i3:(0:Int)<(m:Int):=by have:m=r.length+1:=hm;omega
  clear hd g l d hm;go_enter Tryz.func108,Tryz.ntmps108;go_wp2_with fail;go_ret;exact⟨by rw[a.out];rfl,rfl⟩
theorem Zdw {n:Nd} {k:Nat} {x:Int} (h:n.nums[k]? = Ya x):num n k=x:=by unfold num;rw[h];rfl
theorem Zhj (w:Yh) (x:NdV×Nd) (h:ZU w x) (v:x.2.nums.length=3) :
  Calls Tryz.prog 106 #[ndV x] w fun e w'=>e=.returned (.bool (Zen x.2))/\Below w.heap.size w w':=by
 obtain⟨⟨A,c,e1,_⟩,⟨D,H,r,t,u,g⟩,E,I,s,_⟩:=h;obtain⟨⟨L,v2,v3⟩,l,q,f,m,o⟩:=x;dsimp only at e1 r s v t u g;subst e1 r s;obtain⟨B,a⟩:∃y,f[1]? = Ya y:=⟨_,Ym (by omega)⟩
 obtain⟨C,b⟩:∃y,f[2]? = Ya y:=⟨_,Ym (by omega)⟩
 unfold Zen;rw[Zdw (n:=(⟨l,q,f,m,o⟩:Nd)) a,Zdw (n:=(⟨l,q,f,m,o⟩:Nd)) b];have i:=below_alloc1 w (.cells #[Yd Yf l,Yc A q.length c,Yc D f.length H,Yc E m.length I,Yd Yf o] 36);obtain⟨d,rfl,F⟩:=ints_at (k:=1) g i a (by omega);obtain⟨G,ea,a2⟩:=ints_at (k:=2) g i b (by omega);injection ea with ea;subst ea;rw[show d.add 1=⟨d.block,d.off+1,Yb⟩by unfold Addr.add;simp]at F;rw[show d.add 2=⟨d.block,d.off+2,Yb⟩by unfold Addr.add;simp]at a2;have j:=zh i;unfold ndV;dsimp only;rw[v]at *;clear t u g a b i;by_cases p:1<=B
 ·by_cases z:1<=C
  ·have Q:=zh (zi p z);go_enter Tryz.func106,Tryz.ntmps106;go_wp2_with fail;go_ret;exact⟨by first|rfl|(have:=Q.out;simp;omega)|(have:=Q.out;simp_all),j.out⟩
  ·have K:C<1:=by omega
   have Q:=zh (zi p z);go_enter Tryz.func106,Tryz.ntmps106;go_wp2_with fail;go_ret;exact⟨by first|rfl|(have:=Q.out;simp;omega)|(have:=Q.out;simp_all),j.out⟩
 ·have J:B<1:=by omega
  have Q:=zh p;go_enter Tryz.func106,Tryz.ntmps106;go_wp2_with fail;go_ret;exact⟨by first|rfl|(have:=Q.out;simp;omega)|(have:=Q.out;simp_all),j.out⟩
theorem ZiW (ns:List Nd):∀(l:List Int) (a b:Int),ZaN ns (l++[a,b])=(ZaN ns (l++[a])&&decide (ZaC ns a<ZaC ns b))
 |[],a,b=>by simp[ZaN]
 |[x],a,b=>by simp[ZaN,Bool.and_comm]
 |x::y::r,a,b=>by
  have:=ZiW ns (y::r) a b;simp only[List.cons_append]at this⊢;rw[ZaN,ZaN,this,Bool.and_assoc]
theorem ZqU {l:List Int} {k:Nat} {a b:Int} (ha:l[k]? = Ya a) (c:l[k+1]? = Ya b):l.take (k+1)=l.take k++[a]/\l.take (k+1+1)=l.take k++[a,b]:=by
 have e1:l.take (k+1)=l.take k++[a]:=by rw[List.take_add_one,ha];rfl
 exact⟨e1,by rw[List.take_add_one,c,e1,List.append_assoc];rfl⟩
theorem ZnO {ns:List Nd} {l:List Int} {k:Nat} {a b:Int} (ha:l[k]? = Ya a) (d:l[k+1]? = Ya b) (h:ZaN ns (l.take (k+1))=true):ZaN ns (l.take (k+1+1))=decide (ZaC ns a<ZaC ns b):=by obtain⟨e1,c⟩:=ZqU ha d;rw[c,ZiW,<-e1,h,Bool.true_and]
theorem ZjQ (ns:List Nd):∀(l m:List Int),ZaN ns l=false->ZaN ns (l++m)=false
 |[],m,h=>by simp[ZaN]at h
 |[x],m,h=>by simp[ZaN]at h
 |x::y::r,m,h=>by
  rw[ZaN]at h;simp only[List.cons_append];rw[ZaN];rcases Bool.and_eq_false_iff.mp h with h|h
  ·rw[h,Bool.false_and]
  ·rw[show(y::(r++m))=(y::r)++m from rfl,ZjQ ns (y::r) m h,Bool.and_false]
theorem Zpp {ns:List Nd} {l:List Int} {k:Nat} (h:ZaN ns (l.take k)=false):ZaN ns l=false:=by rw[<-List.take_append_drop k l];exact ZjQ ns _ _ h
theorem Zjf (w:Yh) (v K:Yi) (ns:List Nd) (f:List Int) (h:Zi w v ns) (hk:Za7 w K f) (J:ZaB f ns.length) :
  Calls Tryz.prog 107 #[v,K] w fun e w'=>e=.returned (.bool (ZaN ns f))/\Below w.heap.size w w':=by
 have F:=zh (fun(wr:Yh) (c:Below w.heap.size w wr) (k:Nat) (q:k<ns.length)=>(Zj1 wr v ns k (h.below c) q).mono (fun _ _ q=>(⟨q.1,q.2.symm⟩:_/\_)));obtain⟨A,U,rfl,H,I,y⟩:=hk;obtain⟨n,hn⟩:∃n,n=f.length:=⟨_,rfl⟩
 have r:n<=9223372036854775807:=by unfold maxLen at I;omega
 rw[<-hn]at H y⊢;have m:=zh (zi hn (zi r J));have D:=zh y;clear hn H I y r J h;go_enter Tryz.func107,Tryz.ntmps107;go_wp2_with fail;go_loopg [5] (n-1) (fun g v5 wr=>∃k:Nat,v5=Yd Yf ((k:Int)+1)/\(k+1<=n\/k=0)/\g=n-(k+1)/\ZaN ns (f.take (k+1))=true/\Below w.heap.size w wr)
 case atStart=>exact⟨0,rfl,.inr rfl,rfl,by cases f<;>rfl,Below.refl _ _⟩
 case round=>
  obtain⟨k,rfl,hk,z,s,c⟩:=hrel;by_cases o:k+1<n
  ·obtain⟨a,ha⟩:∃a,f[k]? = Ya a:=⟨_,Ym (by have:=m.out.1;omega)⟩
   obtain⟨b,l⟩:∃b,f[k+1]? = Ya b:=⟨_,Ym (by have:=m.out.1;omega)⟩
   have R:=m.out.2.2 a (List.mem_of_getElem? ha);have S:=m.out.2.2 b (List.mem_of_getElem? l);obtain⟨t,rfl⟩:∃t:Nat,a=t:=⟨a.toNat,by omega⟩
   obtain⟨u,rfl⟩:∃u:Nat,b=u:=⟨b.toNat,by omega⟩
   obtain⟨T,rfl,V⟩:=ints_at D.out c ha (by omega);obtain⟨O,ea,P⟩:=ints_at D.out c l (by omega);injection ea with ea;subst ea;have C:=ZnO ha l s;have E:=zh (zi C (fun q=>Zpp (C.trans q)));have M:=zh (fun d=>F.out (wr.drewN d) (below_drewN c d) t (by omega));have N:=zh (fun d=>F.out (wr.drewN d) (below_drewN c d) u (by omega));obtain⟨j,B⟩:∃j,j=k+1:=⟨_,rfl⟩
   have G:(k:Int)+1=(j:Int):=by omega
   rw[G];rw[<-B]at P;have Q:(j:Int)<(n:Int):=by omega
   have i2:(0:Int)<=(j:Int):=by omega
   have i3:(k:Int)<(n:Int):=by omega
   have i4:(0:Int)<=(k:Int):=by omega
   have W:IntKind.i64.wrap ((j:Int)-1)=(k:Int):=by rw[IntWalk.i64_in _ (by have:=m.out;omega)];omega
   have Z:IntKind.i64.wrap ((j:Int)+1)=(j:Int)+1:=IntWalk.i64_in _ (by have:=m.out;omega);have p:=zh (zi o (zi z (zi B c)));clear o z B G C ha l hk s c R S;generalize ZaC ns (t:Int)=X at *;generalize ZaC ns (u:Int)=Y at *;go_upto_region 4 with fail
   go_quiet (first
    |(go_at_call 108;with_reducible exact Calls.quiet_of_same (M.out _))
    |(go_at_call 108;with_reducible exact Calls.quiet_of_same (N.out _)))
   by_cases q:X<Y
   ·have nq:¬Y<=X:=by omega
    have L:=zh (E.out.1.trans (decide_eq_true q));go_wp2_with fail;go_roundg (n-(k+1+1))
    case measure=>have:=p.out;omega
    case rel=>exact⟨k+1,by rw[p.out.2.2.1],by have:=p.out;omega,rfl,L.out,below_drewN p.out.2.2.2 _⟩
   ·have nq:Y<=X:=by omega
    have i:=zh (E.out.2 (decide_eq_false q));clear q;go_wp2_with fail;go_ret;exact⟨by rw[i.out];rfl,below_drewN p.out.2.2.2 _⟩
  ·have e:f.take (k+1)=f:=List.take_of_length_le (by have:=m.out.1;omega);rw[e]at s;have Q:¬(k:Int)+1<(n:Int):=by omega
   have i:=zh (zi s c);clear hk z s c o e;go_wp2_with fail;go_ret;exact⟨by rw[i.out.1];rfl,i.out.2⟩
end Go.Proofs.YtdkegpkfjgloeaaGreatDoor
