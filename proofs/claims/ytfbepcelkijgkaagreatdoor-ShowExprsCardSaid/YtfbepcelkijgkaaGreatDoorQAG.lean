import Derived.Test.YtfbepcelkijgkaaGreatDoorQAE
set_option maxRecDepth 100000
set_option maxHeartbeats 8000000
open Option renaming some → Ya, none → Yb
open Go.Value renaming slice → Yc, int → Yd
open Go.IntKind renaming i64 → Yf
open Go renaming World → Yh
namespace Go.Proofs.YtfbepcelkijgkaaGreatDoor
section
open Go.RowKit
theorem ZfL (n a:Nat):∀(x y:List Int) (p:List Int),ZbO n a (x++y) p=(ZbO n a x p).bind (ZbO n a y)
 |[],y,p=>rfl
 |k::r,y,p=>by
  rw[List.cons_append,ZbO,ZbO]
  split
  ·rfl
  ·exact ZfL n a r y _
theorem Zf0 (n a:Nat):∀(x:List Int) (p q:List Int),ZbO n a x p=Ya q->q.length=p.length
 |[],p,q,h=>by
  injection h with h;rw[h]
 |k::r,p,q,h=>by
  rw[ZbO]at h
  split at h
  ·cases h
  ·rw[Zf0 n a r _ q h,List.length_set]
theorem Zid (ns:List Nd):∀(j:Nat) (p:List Int),Zcd ns j=Ya p->p.length=ns.length
 |0,p,h=>by
  injection h with h;rw[<-h,List.length_replicate]
 |j+1,p,h=>by
  rw[Zcd]at h;cases hq:Zcd ns j with
  |none=>rw[hq]at h;cases h
  |some q=>
   rw[hq,Option.bind_some]at h
   split at h
   ·cases h
   ·rw[Zf0 _ _ _ _ _ h,Zid ns j q hq]
theorem ZjF (ns:List Nd) {j:Nat} (h:Zcd ns j=Yb):∀d,Zcd ns (j+d)=Yb
 |0=>h
 |d+1=>by rw[Nat.add_succ,Zcd,ZjF ns h d];rfl
theorem Zrk {ns:List Nd} (a:ns.length≠0) (b:¬1500<ns.length):ZbJ ns=Zcd ns ns.length:=by unfold ZbJ;rw[Yn (by omega)]
theorem ZgM {ns:List Nd} {j:Nat} (h:Zcd ns j=Yb) (a:j<=ns.length):ZbJ ns=Yb:=by
 unfold ZbJ
 split
 ·rfl
 ·have:=ZjF ns h (ns.length-j);rwa[Nat.add_sub_cancel' a]at this
theorem Zb9 {p:List Int} {k:Nat} {x:Int} (h:p[k]? = Ya x):atI p k=x:=by unfold atI;rw[Int.toNat_natCast,h];rfl
theorem Zcm {ns:List Nd} {k:Nat} {x:Nd} (h:ns[k]? = Ya x):Zf ns k=x:=by unfold Zf;rw[Int.toNat_natCast,h];rfl
theorem Znn {ns:List Nd} {j:Nat} {p:List Int} {x:Int} (h:Zcd ns j=Ya p) (a:0<j) (hx:p[j]? = Ya x) (b:x<0):Zcd ns (j+1)=Yb:=by rw[Zcd,h,Option.bind_some,Yo ⟨a,by rw[Zb9 hx];exact b⟩]
theorem ZoT {ns:List Nd} {j:Nat} {p:List Int} {x:Int} (h:Zcd ns j=Ya p) (hx:p[j]? = Ya x) (a:¬(0<j/\x<0)) {d:Nd} (hd:ns[j]? = Ya d):Zcd ns (j+1)=ZbO ns.length j d.kids p:=by rw[Zcd,h,Option.bind_some,Yn (by rw[Zb9 hx];exact a),Zcm hd]
theorem Znb {l:List Int} {i:Nat} {k:Int} (h:l[i]? = Ya k):l=l.take i++k::l.drop (i+1):=by obtain⟨a,e⟩:=List.getElem?_eq_some_iff.mp h;rw[<-e,List.getElem_cons_drop,List.take_append_drop]
theorem Zhd {n a i:Nat} {l p q:List Int} {k:Int} (h:ZbO n a (l.take i) p=Ya q) (hk:l[i]? = Ya k) (b:k<=(a:Int)\/(n:Int)<=k\/0<=atI q k):ZbO n a l p=Yb:=by rw[Znb hk,ZfL,h,Option.bind_some,ZbO,Yo b]
theorem Zm9 {n a i:Nat} {l p q:List Int} {k:Int} (h:ZbO n a (l.take i) p=Ya q) (hk:l[i]? = Ya k) (b:¬(k<=(a:Int)\/(n:Int)<=k\/0<=atI q k)):ZbO n a (l.take (i+1)) p=Ya (q.set k.toNat a):=by rw[List.take_add_one,hk,ZfL,h,Option.bind_some];show ZbO n a [k] q=_;rw[ZbO,Yn b];rfl
def PIn (w:Yh) (g:Nat) (p:List Int):Prop:=∃a:Array Value,Blk w g a/\∀(k:Nat) (x:Int),p[k]? = Ya x->a[k]? = Ya (Value.int Yf x)
theorem PIn.cell {w:Yh} {g k:Nat} {p:List Int} {x:Int} (h:PIn w g p) (hx:p[k]? = Ya x):w.cell? ⟨g,k,Yb⟩=Ya (Yd Yf x):=by obtain⟨b,a,hc⟩:=h;rw[a.cell];exact hc k x hx
theorem PIn.free {w:Yh} {g:Nat} {p:List Int} (h:PIn w g p) (k:Nat):w.frozen? ⟨g,k,Yb⟩=false:=by obtain⟨b,a,_⟩:=h;exact a.free k
theorem PIn.keepB {w w':Yh} {g B:Nat} {p:List Int} (h:PIn w g p) (d:Below B w w') (a:g<B):PIn w' g p:=by obtain⟨b,c,hc⟩:=h;exact⟨b,c.keepB d a,hc⟩
theorem PIn.lt {w:Yh} {g:Nat} {p:List Int} (h:PIn w g p):g<w.heap.size:=by obtain⟨b,a,_⟩:=h;exact a.lt
theorem PIn.keep {w w':Yh} {g:Nat} {p:List Int} (h:PIn w g p) (a:Below w.heap.size w w'):PIn w' g p:=h.keepB a h.lt
theorem PIn.set {w:Yh} {g k:Nat} {p:List Int} (h:PIn w g p) (hk:k<p.length) (x:Int):PIn (w.setCell ⟨g,k,Yb⟩ (Yd Yf x)) g (p.set k x):=by
 obtain⟨c,b,hc⟩:=h;refine⟨_,b.set k _,fun j y a=>?_⟩;rw[List.getElem?_set]at a;rw[Array.getElem?_setIfInBounds]
 split at a
 ·rename_i e
  rw[Yo e];have:=hc k _ (Ym hk);obtain⟨q,_⟩:=Array.getElem?_eq_some_iff.mp this;rw[Yo q];injection a with a;rw[a]
 ·rename_i e
  rw[Yn e];exact hc j y a
theorem Zj5 {w:Yh} {B n:Nat} {v:Value} (h:w.ownsRow B 3 1 v n (ZcS n n)) (m:0<n):∃g c,v=Yc (Ya ⟨g,0,Yb⟩) n c/\n<=c/\c<=maxLen/\B<=g/\PIn w g (List.replicate n (-1)):=by
 rcases h.2 with⟨e,l⟩|⟨g,b,a,e,d,i,hc,hm,j,f⟩
 ·exfalso;omega
 ·refine⟨g,b,e,hc,hm,d,a,⟨_,i⟩,fun k x hx=>?_⟩;rw[List.getElem?_replicate]at hx
  split at hx
  ·rename_i q
   injection hx with hx;have:(a.toList.take (n*1))[k]? = Ya (Yd Yf x):=by rw[f];unfold ZcS;rw[List.getElem?_append_left (by rw[List.length_replicate];omega),List.getElem?_replicate,Yo q,hx]
   rw[List.getElem?_take_of_lt (by omega)]at this;simpa using this
  ·cases hx
def Zdy (w:Yh) (ns:List Nd) (e:Ending) (w':Yh):Prop:=
 Below w.heap.size w w'/\match ZbJ ns with
  |none=>e=.returned (.tuple #[Yc Yb 0 0,.bool false])
  |some p=>∃g c,e=.returned (.tuple #[Yc (Ya ⟨g,0,Yb⟩) ns.length c,.bool true])/\ns.length<=c/\c<=maxLen/\w.heap.size<=g/\PIn w' g p
theorem Zdy.bad {w w':Yh} {ns:List Nd} (h:ZbJ ns=Yb) (a:Below w.heap.size w w'):Zdy w ns (.returned (.tuple #[Yc Yb 0 0,.bool false])) w':=by refine⟨a,?_⟩;rw[h]
theorem Zdy.good {w w':Yh} {ns:List Nd} {p:List Int} {g c:Nat} (h:ZbJ ns=Ya p) (f:Below w.heap.size w w') (a:ns.length<=c) (b:c<=maxLen) (d:w.heap.size<=g) (e:PIn w' g p) :
  Zdy w ns (.returned (.tuple #[Yc (Ya ⟨g,0,Yb⟩) ns.length c,.bool true])) w':=by
 refine⟨f,?_⟩;rw[h];exact⟨g,c,rfl,a,b,d,e⟩
theorem ZhR (w:Yh) (v:Value) (ns:List Nd) (h:Zi w v ns) :
  Calls Tryz.prog 31 #[v] w (Zdy w ns):=by
 obtain⟨A,cp,rs,rfl,h2,h3,h4,W,h6⟩:=h;obtain⟨n,Y⟩:∃n,n=ns.length:=⟨_,rfl⟩
 have H:n<=9223372036854775807:=by unfold maxLen at h3;omega
 rw[<-Y]at h2 W⊢;by_cases M:n=0
 ·have t1:((n:Int)==0)=true:=by rw[M];rfl
  have a:=zh (Zdy.bad (w:=w) (w':=w) (ns:=ns) (by unfold ZbJ;rw[Yo (.inl (by omega))]) (Below.refl _ _));clear Y h2 h3 h4 W h6 H M;go_enter Tryz.func31,Tryz.ntmps31;go_wp2_with fail;exact bodyPost_ret (v:=.tuple #[Yc Yb 0 0,.bool false]) (by simp[results,Tryz.results31,go_sem]) rfl a.out
 have t1:((n:Int)==0)=false:=by simpa using fun e=>M (by omega)
 by_cases q1:1500<n
 ·have i1:(1500:Int)<(n:Int):=by omega
  have a:=zh (Zdy.bad (w:=w) (w':=w) (ns:=ns) (by unfold ZbJ;rw[Yo (.inr (by omega))]) (Below.refl _ _));clear Y h2 h3 h4 W h6 H M q1;go_enter Tryz.func31,Tryz.ntmps31;go_wp2_with fail;exact bodyPost_ret (v:=.tuple #[Yc Yb 0 0,.bool false]) (by simp[results,Tryz.results31,go_sem]) rfl a.out
 have i1:(n:Int)<=1500:=by omega
 have tr:=fun w=>Zl3 w;have b:=zh (zi Y (zi M q1));have H4:=zh (zi h4 (zi W h6));have TR:=zh tr;clear Y M q1 h2 h3 h4 W h6 tr H;go_enter Tryz.func31,Tryz.ntmps31;go_upto_region 4 with(go_at_call 60;(with_reducible refine(TR.out _ _ _ _ (Blk.start _ _ _) (by have:=b.out;omega) (by have:=b.out;omega)).mono ?_);rintro e w1 ⟨v1,rfl,hO,bO⟩)
 have bA:=below_alloc1 w (.cells #[Yd Yf (-1)] 3);have b1:=bA.trans (bO.mono bA.size);have sz:=(World.size_alloc w (.cells #[Yd Yf (-1)] 3))
 obtain⟨g,c,rfl,hc,hm,hg,l⟩:=Zj5 hO (by have:=b.out;omega);rw[sz]at hg;have I:=zh (zi hc (zi hm (zi (show w.heap.size<=g by omega) (zi l b1))));clear hc hm hg l b1 bO hO bA sz TR;go_wp2_with fail;go_loopg [23] n (fun gk ay wr=>∃(j:Nat) (p:List Int),ay=Yd Yf j/\j<=n/\gk=n-j/\Zcd ns j=Ya p/\PIn wr g p/\Below w.heap.size w wr)
 case atStart=>exact⟨0,_,rfl,Nat.zero_le _,rfl,(show Zcd ns 0=Ya (List.replicate ns.length (-1))from rfl),by rw[<-b.out.1];exact I.out.2.2.2.1,I.out.2.2.2.2⟩
 case round=>
  obtain⟨j,p,rfl,hj,D,u,l,s⟩:=hrel;by_cases X:j=n
  ·subst X;have V:ZbJ ns=Ya p:=by rw[Zrk (by have:=b.out;omega) (by have:=b.out;omega),<-b.out.1];exact u
   have a:=zh (Zdy.good V s (by rw[<-b.out.1];exact I.out.1) I.out.2.1 I.out.2.2.1 l);rw[<-b.out.1]at a;clear V u l s hj D;go_wp2_with fail;exact bodyPost_ret (v:=.tuple #[Yc (Ya ⟨g,0,Yb⟩) j c,.bool true]) (by simp[results,Tryz.results31,go_sem]) rfl a.out
  have t:j<n:=by omega
  obtain⟨x,hx⟩:∃x,rs[j]? = Ya x:=⟨_,Ym (by have:=congrArg List.length H4.out.1;rw[List.length_map]at this;have:=b.out.1;omega)⟩
  have hd:ns[j]? = Ya x.2:=by rw[<-H4.out.1,List.getElem?_map,hx];rfl
  obtain⟨ad,rfl,d0,d1,d2,d3,d4⟩:=Zan H4.out.2.1 s hx (by omega);have hp:=Zid ns j p u;obtain⟨y,hy⟩:∃y,p[j]? = Ya y:=⟨_,Ym (by have:=b.out.1;omega)⟩
  have i2:(j:Int)<(n:Int):=by omega
  have i3:(0:Int)<=(j:Int):=by omega
  have u1:IntKind.i64.wrap ((j:Int)+1)=(j:Int)+1:=IntWalk.i64_in _ (by have:=b.out;omega);obtain⟨⟨A1,c1,S,_⟩,⟨A2,c2,T,_⟩,N,R,U,K,L,k4⟩:=H4.out.2.2 x (List.mem_of_getElem? hx);have d:=zh (zi D (zi u (zi l (zi s (zi hd (zi hp (zi hy t)))))));obtain⟨⟨va,vb,vc⟩,kd,ws,o,Z,ps⟩:=x;dsimp only at d0 d1 d2 d3 d4 S T U K L k4;subst S T U;obtain⟨m,G⟩:∃m,m=Z.length:=⟨_,rfl⟩
  have P:=zh (zi G (zi (show m<=9223372036854775807 by unfold maxLen at L;omega) k4));rw[<-G]at d3;clear D u l s hd hp hy t X hj hx K L k4 G;go_upto_region 7 with fail;have f3:(wr.alloc (.cells #[Yd Yf kd,Yc A1 ws.length c1,Yc A2 o.length c2,Yc N m R,Yd Yf ps] 37)).cell? ⟨wr.heap.size,3,Yb⟩=Ya (Yc N m R):=(Blk.start wr #[Yd Yf kd,Yc A1 ws.length c1,Yc A2 o.length c2,Yc N m R,Yd Yf ps] 37).cell 3;have a5:=below_alloc1 wr (.cells #[Yd Yf kd,Yc A1 ws.length c1,Yc A2 o.length c2,Yc N m R,Yd Yf ps] 37);have b5:=d.out.2.2.2.1.trans (a5.mono d.out.2.2.2.1.size);have p5:=d.out.2.2.1.keep a5;have cy:=p5.cell d.out.2.2.2.2.2.2.1;have H5:=zh (zi p5 b5);clear p5 b5 a5 d0 d1 d2 d3 d4;generalize wr.alloc (.cells #[Yd Yf kd,Yc A1 ws.length c1,Yc A2 o.length c2,Yc N m R,Yd Yf ps] 37)=w5 at *;generalize au:wr.heap.size=nb at *;clear au;by_cases r:0<j/\y<0
  ·have i4:(0:Int)<(j:Int):=by omega
   have i5:=r.2;have a:=zh (Zdy.bad (ZgM (Znn d.out.2.1 r.1 d.out.2.2.2.2.2.2.1 r.2) (by have:=d.out;have:=b.out;omega)) H5.out.2);clear r;go_wp2_with fail;exact bodyPost_ret (v:=.tuple #[Yc Yb 0 0,.bool false]) (by simp[results,Tryz.results31,go_sem]) rfl a.out
  have O:=zh (ZoT d.out.2.1 d.out.2.2.2.2.2.2.1 r d.out.2.2.2.2.1);rw[<-b.out.1]at O;have aa:((j:Int)<=0/\j=0)\/((0:Int)<(j:Int)/\0<=y):=by omega
  clear r;rcases aa with⟨i4,_⟩|⟨i4,i5⟩
  all_goals
   go_wp2_with fail;go_loopg [40] m (fun gi az wi=>∃(i:Nat) (q:List Int),az=Yd Yf i/\i<=m/\gi=m-i/\ZbO n j (Z.take i) p=Ya q/\PIn wi g q/\Below w.heap.size w wi)
   case atStart=>exact⟨0,p,rfl,Nat.zero_le _,rfl,rfl,H5.out.1,H5.out.2⟩
   case round=>
    obtain⟨i,q,rfl,hi,C,hk,l,s⟩:=hrel;by_cases E:i=m
    ·have e:Z.take i=Z:=by rw[E,P.out.1];exact List.take_length
     rw[e]at hk;have Q:=zh (zi (O.out.trans hk) (zi l s));subst E;clear e hk l s C hi;go_wp2_with fail;go_roundg (n-(j+1))
     case measure=>have:=d.out;omega
     case rel=>exact⟨j+1,q,by first|(push_cast;rfl)|(rw[show j=0 by omega];rfl),by have:=d.out;omega,rfl,Q.out.1,Q.out.2.1,Q.out.2.2⟩
    ·have t:i<m:=by omega
     obtain⟨k,F⟩:∃k,Z[i]? = Ya k:=⟨_,Ym (by have:=P.out.1;omega)⟩
     obtain⟨bo,rfl,dk⟩:=ints_at P.out.2.2 s F (by have:=P.out.1;omega);have i6:(i:Int)<(m:Int):=by omega
     have i7:(0:Int)<=(i:Int):=by omega
     have u2:IntKind.i64.wrap ((i:Int)+1)=(i:Int)+1:=IntWalk.i64_in _ (by have:=P.out.2.1;omega);have hq:=Zf0 _ _ _ _ _ hk;have f:=zh (zi hk (zi l (zi s (zi F (zi C (zi t hq))))));clear hk s F C t hi E;by_cases k1:k<=(j:Int)
     ·
      have a:=zh (Zdy.bad (ZgM (O.out.trans (Zhd f.out.1 f.out.2.2.2.1 (.inl k1))) (by have:=d.out;have:=b.out;omega)) f.out.2.2.1);go_wp2_with fail;exact bodyPost_ret (v:=.tuple #[Yc Yb 0 0,.bool false]) (by simp[results,Tryz.results31,go_sem]) rfl a.out
     have br:(j:Int)<k:=by omega
     by_cases K:(n:Int)<=k
     ·
      have a:=zh (Zdy.bad (ZgM (O.out.trans (Zhd f.out.1 f.out.2.2.2.1 (.inr (.inl K)))) (by have:=d.out;have:=b.out;omega)) f.out.2.2.1);clear k1;go_wp2_with fail;exact bodyPost_ret (v:=.tuple #[Yc Yb 0 0,.bool false]) (by simp[results,Tryz.results31,go_sem]) rfl a.out
     obtain⟨B,rfl⟩:∃B:Nat,k=B:=⟨k.toNat,by omega⟩
     have bs:(B:Int)<(n:Int):=by omega
     have k0:(0:Int)<=(B:Int):=by omega
     obtain⟨z,J⟩:∃z,q[B]? = Ya z:=⟨_,Ym (by have:=d.out.2.2.2.2.2.1;have:=b.out.1;omega)⟩
     have cz:=l.cell J;have fz:=l.free B;clear l hq;by_cases L:0<=z
     ·
      have a:=zh (Zdy.bad (ZgM (O.out.trans (Zhd f.out.1 f.out.2.2.2.1 (.inr (.inr (by rw[Zb9 J];exact L))))) (by have:=d.out;have:=b.out;omega)) f.out.2.2.1);clear k1 K J;go_wp2_with fail;exact bodyPost_ret (v:=.tuple #[Yc Yb 0 0,.bool false]) (by simp[results,Tryz.results31,go_sem]) rfl a.out
     have Q:=zh (Zm9 f.out.1 f.out.2.2.2.1 (show ¬((B:Int)<=(j:Int)\/(n:Int)<=(B:Int)\/0<=atI q (B:Int))by rw[Zb9 J];omega));have bt:z<0:=by omega
     have KL:=zh (show B<q.length from(List.getElem?_eq_some_iff.mp J).1);clear k1 K L J;go_wp2_with fail;go_roundg (m-(i+1))
     case measure=>have:=f.out;omega
     case rel=>exact⟨i+1,_,by push_cast;rfl,by have:=f.out;omega,rfl,Q.out,by first|exact f.out.2.1.set KL.out _|simpa[show j=0 by omega]using f.out.2.1.set KL.out 0,f.out.2.2.1.setCell (p:=⟨g,B,Yb⟩) I.out.2.2.1 _⟩
end
section
open Go.RowKit
def Zfj (p:List Int):Prop:=∀(k:Nat) (x:Int),p[k]? = Ya x->x<k
theorem Zfj.set {p:List Int} (h:Zfj p) {k:Nat} {x:Int} (hx:x<k):Zfj (p.set k x):=fun i y a=>by
 rw[List.getElem?_set]at a
 split at a
 ·rename_i e
  split at a
  ·injection a with a;omega
  ·cases a
 ·exact h i y a
theorem ZhP (n a:Nat):∀(x:List Int) (p q:List Int),ZbO n a x p=Ya q->Zfj p->Zfj q
 |[],p,q,h,hp=>by
  injection h with h;rwa[<-h]
 |k::r,p,q,h,hp=>by
  rw[ZbO]at h
  split at h
  ·cases h
  ·rename_i b
   exact ZhP n a r _ q h (hp.set (by omega))
theorem ZiH (ns:List Nd):∀(j:Nat) (p:List Int),Zcd ns j=Ya p->Zfj p
 |0,p,h=>by
  injection h with h;rw[<-h];intro k x hx;rw[List.getElem?_replicate]at hx
  split at hx
  ·injection hx with hx;omega
  ·cases hx
 |j+1,p,h=>by
  rw[Zcd]at h;cases hq:Zcd ns j with
  |none=>rw[hq]at h;cases h
  |some q=>
   rw[hq,Option.bind_some]at h
   split at h
   ·cases h
   ·exact ZhP _ _ _ _ _ h (ZiH ns j q hq)
theorem ZbQ (p:List Int):∀j,(ZcG p j).length=j
 |0=>rfl
 |j+1=>by rw[ZcG,Yj,ZbQ p j];rfl
theorem Zgz {p:List Int} (ha:Zfj p):∀(j:Nat),j<=p.length->∀(k:Nat) (x:Int),(ZcG p j)[k]? = Ya x->1<=x/\x<=(k:Int)+1
 |0,_,k,x,h=>by simp[ZcG]at h
 |j+1,hj,k,x,h=>by
  rw[ZcG,List.getElem?_append,ZbQ]at h
  split at h
  ·exact Zgz ha j (by omega) k x h
  ·rename_i hk
   have e:k=j:=by have:=(List.getElem?_eq_some_iff.mp h).1;simp at this;omega
   subst e;rw[Nat.sub_self]at h;injection h with h;obtain⟨y,a⟩:∃y,p[k]? = Ya y:=⟨_,Ym (by omega)⟩
   rw[Zb9 a]at h;have:=ha k y a
   split at h
   ·rename_i c
    obtain⟨m,rfl⟩:∃m:Nat,y=m:=⟨y.toNat,by omega⟩
    obtain⟨z,b⟩:∃z,(ZcG p k)[m]? = Ya z:=⟨_,Ym (by rw[ZbQ];omega)⟩
    rw[Zb9 b]at h;have:=Zgz ha k (by omega) m z b;omega
   ·omega
def Zff (p:List Int) (n j:Nat):List Int:=ZcG p j++List.replicate (n-j) 0
theorem Zkp {p:List Int} {n j:Nat} (h:j<=n):(Zff p n j).length=n:=by unfold Zff;rw[Yj,ZbQ,List.length_replicate];omega
theorem Zq3 {p:List Int} {n j k:Nat} (h:k<j):(Zff p n j)[k]? = (ZcG p j)[k]?:=by unfold Zff;rw[List.getElem?_append_left (by rw[ZbQ];exact h)]
theorem Zkq {p:List Int} {n j:Nat} {x:Int} (h:j<n) (hx:x=if 0<=atI p j then 1+atI (ZcG p j) (atI p j)else 1):(Zff p n j).set j x=Zff p n (j+1):=by
 unfold Zff;rw[List.set_append_right _ _ (by rw[ZbQ];exact Nat.le_refl _),ZbQ,Nat.sub_self,ZcG,<-hx,List.append_assoc]
 congr 1
 rw[show n-j=(n-(j+1))+1 by omega,List.replicate_succ,List.set_cons_zero];rfl
theorem ZpV (p:List Int):Zff p p.length p.length=ZbR p:=by unfold Zff ZbR;rw[Nat.sub_self,List.replicate_zero,List.append_nil]
theorem ZlF {w:Yh} {B n:Nat} {v:Value} (h:w.ownsRow B 3 1 v n (madeCells #[Value.int Yf 0] n).toList) (m:0<n):∃g c,v=Yc (Ya ⟨g,0,Yb⟩) n c/\n<=c/\c<=maxLen/\B<=g/\PIn w g (List.replicate n 0):=by
 rcases h.2 with⟨e,l⟩|⟨g,b,a,e,d,i,hc,hm,j,f⟩
 ·exfalso;omega
 ·refine⟨g,b,e,hc,hm,d,a,⟨_,i⟩,fun k x hx=>?_⟩;rw[List.getElem?_replicate]at hx
  split at hx
  ·rename_i q
   injection hx with hx;have:(a.toList.take (n*1))[k]? = Ya (Yd Yf x):=by rw[f,<-hx];simp[madeCells,q,Nat.mod_one]
   rw[List.getElem?_take_of_lt (by omega)]at this;simpa using this
  ·cases hx
theorem PIn.other {w:Yh} {g:Nat} {p:List Int} (h:PIn w g p) {q:Addr} (hq:q.block≠g) (v:Value):PIn (w.setCell q v) g p:=by obtain⟨a,b,hc⟩:=h;exact⟨a,b.other hq v,hc⟩
theorem PIn.drew {w:Yh} {g:Nat} {p:List Int} (h:PIn w g p):PIn w.drew g p:=by obtain⟨a,b,hc⟩:=h;exact⟨a,b.drew,hc⟩
theorem ZmW (w:Yh) (g c n:Nat) (p:List Int) (hp:PIn w g p) (hn:p.length=n) (Z:1<=n) (h2:n<=1500) (ha:Zfj p) :
  Calls Tryz.prog 33 #[Yc (Ya ⟨g,0,Yb⟩) n c] w fun e w'=>Below w.heap.size w w'/\∃Y A,e=.returned (Yc (Ya ⟨Y,0,Yb⟩) n A)/\n<=A/\A<=maxLen/\PIn w' Y (ZbR p):=by
 obtain⟨i0,hi,h,F,G⟩:=Ziy Zmk;have b:=zh (zi hn (zi Z (zi h2 (zi hp ha))));clear hn Z h2 ha hp;go_enter Tryz.func33,Tryz.ntmps33;go_upto_region 2 with(at_make;refine wpList_make_full _ rfl _ _ 35 rfl w.heap.size 3 i0 (Yd Yf 0) 1 Tryz.underlying35 hi h F Yf Yf _ _ n rfl rfl ?c1 ?c2 ?c3 ?c4 ?c5 ?_)
 case c1=>rfl
 case c2=>have:=b.out;omega
 case c3=>rw[G];have:=b.out;omega
 case c4=>have:=b.out;unfold maxLen;omega
 case c5=>simp
 intro w2 l f;have N:Below w.heap.size w w2:=(Below.refl _ _).grown f (Nat.le_refl _) (fun k hk=>by cases hk);obtain⟨d,cd,X,B,E,C,hD⟩:=ZlF l (by have:=b.out;omega);rw[X];have p2:=b.out.2.2.2.1.keep N;have r:=zh (zi B (zi E (zi C (zi b.out.2.2.2.1.lt N))));have Q:=zh (zi hD p2);clear B E C hD p2 N l f X hi h F G i0;go_wp2_with fail;go_loopg [11] n (fun gk P wr=>∃j:Nat,P=Yd Yf j/\j<=n/\gk=n-j/\PIn wr d (Zff p n j)/\PIn wr g p/\Below w.heap.size w wr)
 case atStart=>exact⟨0,rfl,Nat.zero_le _,rfl,Q.out.1,Q.out.2,r.out.2.2.2.2⟩
 case round=>
  obtain⟨j,rfl,K,s,hD,I,J⟩:=hrel;by_cases D:j=n
  ·subst D;have e:Zff p j j=ZbR p:=by have:=ZpV p;rwa[b.out.1]at this
   rw[e]at hD;have u:=zh (zi J hD);clear e K s hD I J;go_wp2_with fail;go_ret;exact⟨u.out.1,d,cd,rfl,r.out.1,r.out.2.1,u.out.2⟩
  have t:j<n:=by omega
  obtain⟨y,L⟩:∃y,p[j]? = Ya y:=⟨_,Ym (by have:=b.out.1;omega)⟩
  have cy:=I.cell L;have U:=b.out.2.2.2.2 j y L;obtain⟨z0,h⟩:∃z0,(Zff p n j)[j]? = Ya z0:=⟨_,Ym (by rw[Zkp K];exact t)⟩
  have cz:=hD.cell h;have fz:=hD.free j;have i2:(j:Int)<(n:Int):=by omega
  have i3:(0:Int)<=(j:Int):=by omega
  have u1:IntKind.i64.wrap ((j:Int)+1)=(j:Int)+1:=IntWalk.i64_in _ (by have:=b.out;omega);have H:=Zkp (p:=p) K;have R:=hD.set (k:=j) (by omega) 1;have S:PIn (wr.setCell ⟨d,j,Yb⟩ (Yd Yf 1)) g p:=I.other (q:=⟨d,j,Yb⟩) (by show d≠g;have:=r.out;omega) _;have V:Below w.heap.size w (wr.setCell ⟨d,j,Yb⟩ (Yd Yf 1)):=J.setCell (p:=⟨d,j,Yb⟩) r.out.2.2.1 _;have i:=zh (zi R (zi S V));have a:=zh (zi t (zi s (zi L (zi U H))));clear K s I hD L U h t R S V H J D;go_upto_region 6 with fail;clear cy cz fz;generalize wr.setCell ⟨d,j,Yb⟩ (Yd Yf 1)=w5 at *;by_cases O:0<=y
  ·obtain⟨m,rfl⟩:∃m:Nat,y=m:=⟨y.toNat,by omega⟩
   have hm:m<j:=by have:=a.out.2.2.2.1;omega
   obtain⟨z,M⟩:∃z,(ZcG p j)[m]? = Ya z:=⟨_,Ym (by rw[ZbQ];exact hm)⟩
   have bz:=Zgz b.out.2.2.2.2 j (by have:=a.out;have:=b.out;omega) m z M;have cm:=i.out.1.cell (k:=m) (x:=z) (by rw[List.getElem?_set_ne (by omega),Zq3 hm];exact M);have cj:=i.out.1.cell (k:=j) (x:=1) (by rw[List.getElem?_set_self (by rw[a.out.2.2.2.2];exact a.out.1)]);have fj:=i.out.1.free j;have u2:IntKind.i64.wrap (1+z)=1+z:=IntWalk.i64_in _ (by have:=a.out;have:=b.out;omega);have i5:(m:Int)<(n:Int):=by have:=a.out;omega
   have o:=i.out.1.set (k:=j) (by rw[List.length_set,a.out.2.2.2.2];exact a.out.1) (1+z);rw[List.set_set,Zkq a.out.1 (by rw[Zb9 a.out.2.2.1,Yo O,Zb9 M])]at o;have T:=i.out.2.1.other (q:=⟨d,j,Yb⟩) (by show d≠g;have:=r.out;omega) (Yd Yf (1+z));have W:=i.out.2.2.setCell (p:=⟨d,j,Yb⟩) r.out.2.2.1 (Yd Yf (1+z));have v:=zh (zi o (zi T W));clear o T W M bz hm;go_wp2_with fail;go_region
   all_goals
    go_wp2_with fail;go_roundg (n-(j+1))
    case measure=>have:=a.out;omega
    case rel=>exact⟨j+1,by push_cast;rfl,by have:=a.out;omega,rfl,v.out.1.drew,v.out.2.1.drew,v.out.2.2.drew⟩
  ·have i4:y<0:=by omega
   have o:=i.out.1;rw[Zkq a.out.1 (by rw[Zb9 a.out.2.2.1,Yn O])]at o;have v:=zh o;clear o O;go_wp2_with fail;go_roundg (n-(j+1))
   case measure=>have:=a.out;omega
   case rel=>exact⟨j+1,by push_cast;rfl,by have:=a.out;omega,rfl,v.out,i.out.2.1,i.out.2.2⟩
end
end Go.Proofs.YtfbepcelkijgkaaGreatDoor
