import Derived.BigQuiet
import Derived.Deep.QuietTactic
import Derived.Laws.CopyOwn
import Derived.Deep.LoopGhost
import Derived.Test.YtfbepcelkijgkaaGreatDoorQAC
import Derived.Test.YtfbepcelkijgkaaGreatDoorQAD
set_option maxRecDepth 100000
set_option maxHeartbeats 8000000
open Option renaming some → Ya, none → Yb
open Go.Value renaming slice → Yc, int → Yd
open Go.IntKind renaming i64 → Yf
open Go.Obj renaming cells → Yg
open Go renaming World → Yh, Value → Yi
namespace Go.Proofs.YtfbepcelkijgkaaGreatDoor
section
open Go.RowKit
theorem Zcr {a:Type} {f:a->Bool} {l:List a} {k:Nat} {x:a} (hk:l[k]? = Ya x) (h:(l.take k).all f=true):(l.take (k+1)).all f=f x:=by rw[List.take_add_one,hk,List.all_append,h,Bool.true_and];simp
theorem ZhB {a:Type} {f:a->Bool} {l:List a} {k:Nat} {x:a} (hk:l[k]? = Ya x) (h:f x=false):l.all f=false:=by rw[List.all_eq_false];exact⟨x,List.mem_of_getElem? hk,by rw[h];decide⟩
theorem Zlx (w:Yh) (v:Yi) (l:List Int) (h:ZaX w v l) :
  Calls Tryz.prog 62 #[v] w fun e w'=>e=.returned (.bool (Zb6 l))/\w=w':=by
 obtain⟨A,C,rfl,t,u,p⟩:=h;obtain⟨n,r⟩:∃n,n=l.length:=⟨_,rfl⟩
 have i:n<=9223372036854775807:=by unfold maxLen at u;omega
 rw[<-r]at t p⊢;have m:=zh (zi r i);have y:=zh p;clear r t u p i;go_enter Tryz.func62,Tryz.ntmps62;go_wp2_with fail;go_loopg [7] n (fun g z wr=>w=wr/\∃k:Nat,z=Yd Yf k/\k<=n/\g=n-k/\Zb6 (l.take k)=true)
 case atStart=>exact⟨rfl,0,rfl,Nat.zero_le _,rfl,rfl⟩
 case round=>
  obtain⟨rfl,k,rfl,hk,q,a⟩:=hrel;by_cases c:k=n
  ·have e:l.take k=l:=by rw[c,m.out.1];exact List.take_length
   rw[e]at a;have b:=zh a;subst c;clear hk q a e;go_wp2_with fail;go_ret;exact⟨by rw[b.out];rfl,rfl⟩
  ·have f:k<n:=by omega
   obtain⟨x,hx⟩:∃x,l[k]? = Ya x:=⟨_,Ym (by have:=m.out.1;omega)⟩
   obtain⟨B,rfl,D⟩:=ints_at y.out (Below.refl _ _) hx (by omega);have j:Zb6 (l.take (k+1))=_:=Zcr hx a;have d:_->Zb6 l=false:=ZhB hx;have E:(k:Int)<(n:Int):=by omega
   have i2:(0:Int)<=(k:Int):=by omega
   have H:IntKind.i64.wrap ((k:Int)+1)=(k:Int)+1:=IntWalk.i64_in _ (by have:=m.out.2;omega);have s:=zh (zi f q);have o:=zh (zi j d);clear j d hx c f hk q a;by_cases F:x<0
   ·have e:Zb6 l=false:=o.out.2 (by rw[decide_eq_false (show ¬0<=x by omega)];rfl);have b:=zh e;clear e;go_wp2_with fail;go_ret;exact⟨by rw[b.out];rfl,rfl⟩
   ·by_cases G:1000000000000000000<=x
    ·have e:Zb6 l=false:=o.out.2 (by rw[decide_eq_false (show ¬x<1000000000000000000 by omega),Bool.and_false]);have b:=zh e;clear e;go_wp2_with fail;go_ret;exact⟨by rw[b.out];rfl,rfl⟩
    ·have e:=zh (o.out.1.trans (by rw[decide_eq_true (show 0<=x by omega),decide_eq_true (show x<1000000000000000000 by omega)];rfl:_=true));go_wp2_with fail;go_roundg (n-(k+1))
     case measure=>have:=s.out;omega
     case rel=>exact⟨rfl,k+1,by push_cast;rfl,by have:=s.out;omega,rfl,e.out⟩
theorem ZoP (w:Yh) (v:Yi) (l:List (List UInt8)) (h:Zdc w v l) (D:ZaI w 3 ZB) :
  Calls Tryz.prog 61 #[v] w fun e w'=>e=.returned (.bool (Zdz l))/\w=w':=by
 obtain⟨A,J,rfl,y,z,p,C⟩:=h;obtain⟨n,r⟩:∃n,n=l.length:=⟨_,rfl⟩
 have j:n<=9223372036854775807:=by unfold maxLen at z;omega
 rw[<-r]at y p⊢;have d:=zh (zi r (zi j (zi C D)));have E:=zh p;clear r y z p j C D;go_enter Tryz.func61,Tryz.ntmps61;go_wp2_with fail;go_loopg [7] n (fun g G wr=>w=wr/\∃k:Nat,G=Yd Yf k/\k<=n/\g=n-k/\Zdz (l.take k)=true)
 case atStart=>exact⟨rfl,0,rfl,Nat.zero_le _,rfl,rfl⟩
 case round=>
  obtain⟨rfl,k,rfl,hk,q,a⟩:=hrel;by_cases c:k=n
  ·have e:l.take k=l:=by rw[c,d.out.1];exact List.take_length
   rw[e]at a;have b:=zh a;subst c;clear hk q a e;go_wp2_with fail;go_ret;exact⟨by rw[b.out];rfl,rfl⟩
  ·have i:k<n:=by omega
   obtain⟨x,hx⟩:∃x,l[k]? = Ya x:=⟨_,Ym (by have:=d.out.1;omega)⟩
   obtain⟨I,rfl,K⟩:=ZbH E.out (Below.refl _ _) hx (by omega);have m:Zdz (l.take (k+1))=ZQ x:=Zcr hx a;have f:ZQ x=false->Zdz l=false:=ZhB hx;have o:=Zqc ⟨x.toArray⟩ w (by show x.toArray.size<=maxLen;simpa using d.out.2.2.1 x (List.mem_of_getElem? hx)) d.out.2.2.2;have o:Calls Tryz.prog 79 #[txt x] w (Zev w (.bool (ZQ x))):=by simpa using o
   have L:(k:Int)<(n:Int):=by omega
   have i2:(0:Int)<=(k:Int):=by omega
   have M:IntKind.i64.wrap ((k:Int)+1)=(k:Int)+1:=IntWalk.i64_in _ (by have:=d.out.2.1;omega);have s:=zh (zi i q);have u:=zh (zi m f);have t:=zh o;clear m f hx c i hk q a o;generalize ZQ x=B at *;cases B
   ·have b:=zh (u.out.2 rfl);go_wp2_with (go_at_call 79;(with_reducible refine t.out.mono ?_);rintro F H ⟨rfl,rfl⟩);go_ret;exact⟨by rw[b.out];rfl,rfl⟩
   ·go_wp2_with (go_at_call 79;(with_reducible refine t.out.mono ?_);rintro F H ⟨rfl,rfl⟩);go_roundg (n-(k+1))
    case measure=>have:=s.out;omega
    case rel=>exact⟨rfl,k+1,by push_cast;rfl,by have:=s.out;omega,rfl,u.out.1⟩
def ndV (x:NdV×Nd):Yi:=.agg #[Yd Yf x.2.kind,x.1.1,x.1.2.1,x.1.2.2,Yd Yf x.2.pos]
theorem Zq9 (w:Yh) (x:NdV×Nd) (a b:Nat) (h:ZS w x) :
  Calls Tryz.prog 81 #[ndV x,Yd Yf a,Yd Yf b] w fun e w'=>e=.returned (.bool (Zq x.2 a b))/\Below w.heap.size w w':=by
 obtain⟨⟨A,c,j,_⟩,⟨m,o,k,_⟩,n,p,l,_⟩:=h;obtain⟨⟨v,v2,v3⟩,r,g,f,s,t⟩:=x;dsimp only at j k l;subst j k l;unfold ndV Zq;dsimp only;have i:=zh (below_alloc1 w (Yg #[Yd Yf r,Yc A g.length c,.slice m f.length o,.slice n s.length p,Yd Yf t] 37));by_cases q:g.length=a
 ·have u:((g.length:Int)==(a:Int))=true:=by rw[q];exact beq_self_eq_true _
  by_cases d:f.length=b
  ·have t2:((f.length:Int)==(b:Int))=true:=by rw[d];exact beq_self_eq_true _
   have Q:=zh (zi q d);clear q d;go_enter Tryz.func81,Tryz.ntmps81;go_wp2_with fail;go_ret;exact⟨by rw[decide_eq_true Q.out.1,decide_eq_true Q.out.2];rfl,i.out⟩
  ·have t2:((f.length:Int)==(b:Int))=false:=by simpa using fun e=>d (by omega)
   have Q:=zh (zi q d);clear q d;go_enter Tryz.func81,Tryz.ntmps81;go_wp2_with fail;go_ret;exact⟨by rw[decide_eq_true Q.out.1,decide_eq_false Q.out.2];rfl,i.out⟩
 ·have u:((g.length:Int)==(a:Int))=false:=by simpa using fun e=>q (by omega)
  have Q:=zh q;clear q;go_enter Tryz.func81,Tryz.ntmps81;go_wp2_with fail;go_ret;exact⟨by rw[decide_eq_false Q.out];rfl,i.out⟩
theorem Zp8 {l:List Int} {k:Nat} {x c:Int} (hk:l[k]? = Ya x) (h:(l.take k).contains c=false):(l.take (k+1)).contains c=(c==x):=by rw[List.take_add_one,hk,List.contains_eq_any_beq,List.any_append,<-List.contains_eq_any_beq,h,Bool.false_or];simp
theorem Zqx (w:Yh) (v:Yi) (l:List Int) (c:Int) (h:ZaX w v l) :
  Calls Tryz.prog 128 #[v,Yd Yf c] w fun e w'=>(∃z:Int,e=.returned (Yd Yf z)/\decide (0<=z)=l.contains c)/\w=w':=by
 obtain⟨A,F,rfl,y,B,p⟩:=h;obtain⟨n,s⟩:∃n,n=l.length:=⟨_,rfl⟩
 have i:n<=9223372036854775807:=by unfold maxLen at B;omega
 rw[<-s]at y p⊢;have o:=zh (zi s i);have C:=zh p;clear s y B p i;go_enter Tryz.func128,Tryz.ntmps128;go_wp2_with fail;go_loopg [8] n (fun g D wr=>w=wr/\∃k:Nat,D=Yd Yf k/\k<=n/\g=n-k/\(l.take k).contains c=false)
 case atStart=>exact⟨rfl,0,rfl,Nat.zero_le _,rfl,rfl⟩
 case round=>
  obtain⟨rfl,k,rfl,hk,r,a⟩:=hrel;by_cases b:k=n
  ·have e:l.take k=l:=by rw[b,o.out.1];exact List.take_length
   rw[e]at a;have m:=zh (show decide ((0:Int)<=-1)=l.contains c from by rw[a];rfl);subst b;clear hk r a e;go_wp2_with fail;go_ret;exact⟨⟨_,rfl,m.out⟩,rfl⟩
  ·have f:k<n:=by omega
   obtain⟨x,hx⟩:∃x,l[k]? = Ya x:=⟨_,Ym (by have:=o.out.1;omega)⟩
   obtain⟨E,rfl,G⟩:=ints_at C.out (Below.refl _ _) hx (by omega);have j:=Zp8 (c:=c) hx a
   have d:(c==x)=true->decide ((0:Int)<=(k:Int))=l.contains c:=fun q=>by
    have q:c=x:=by simpa using q
    rw[show l.contains c=true by rw[q];simpa using List.mem_of_getElem? hx];exact decide_eq_true (by omega)
   have H:(k:Int)<(n:Int):=by omega
   have i2:(0:Int)<=(k:Int):=by omega
   have I:IntKind.i64.wrap ((k:Int)+1)=(k:Int)+1:=IntWalk.i64_in _ (by have:=o.out.2;omega);have t:=zh (zi f r);have u:=zh (zi j d);clear j d hx b f hk r a;cases hq:(c==x)
   ·go_wp2_with fail;go_roundg (n-(k+1))
    case measure=>have:=t.out;omega
    case rel=>exact⟨rfl,k+1,by push_cast;rfl,by have:=t.out;omega,rfl,u.out.1.trans hq⟩
   ·go_wp2_with fail;go_ret;exact⟨⟨_,rfl,u.out.2 hq⟩,rfl⟩
theorem Zqw (w:Yh) (v:Yi) (l:List Int) (c:Int) (h:ZaX w v l) :
  Calls Tryz.prog 110 #[v,Yd Yf c] w fun e w'=>e=.returned (.bool (l.contains c))/\w=w':=by
 have d:=Zqx w v l c h;clear h;go_enter Tryz.func110,Tryz.ntmps110;go_wp2_with (go_at_call 128;(with_reducible refine d.mono ?_);rintro e f ⟨⟨z,rfl,a⟩,rfl⟩;have b:=zh a;clear a);go_ret;exact⟨by rw[<-b.out];rfl,rfl⟩
end
section
open Go.RowKit
theorem Zmf {P:Program} (w:Yh) (q C ty c:TypeId) (g o e h:Nat) (a:Addr) (f m d n:Nat) (b:Array Yi) (t:TypeId) (cs:List Yi)
  (B:P.underlying q=Ya (.slice c)) (s:(P.info? c).map (·.size)=Ya d)
  (y:w.heap[g]? = Ya (.cells b t (0,0))) (A:n=Nat.min f e) (hc:cs.length=n*d)
  (l:∀j v,cs[j]? = Ya v->w.cell? (a.add j)=Ya v) (k:o+cs.length<=b.size) (u:∀v∈cs,v.oneCell'=true) :
  (Builtin.copy_ #[q,C] ty #[Yc (Ya ⟨g,o,Yb⟩) e h,Yc (Ya a) f m]).run P w =
   .ok (goInt n) (w.setRow g (b.toList.take o++cs++b.toList.drop (o+cs.length)).toArray):=by
 have r:=run_loadCells_list (P:=P) w a cs l;have p:=run_storeCells_at P g o t cs 0 b w y (by simpa using k) u;rw[hc]at r;cases hq:P.info? c with
 |none=>simp[hq]at s
 |some i=>
  have z:i.size=d:=by simpa[hq]using s
  simp[Builtin.copy_,run_underlying B,Builtin.lenOf,Builtin.firstCells,sizeOf,typeInfo,hq,z,<-A,r,p]
theorem ZpT {P:Program} {u:Array Oper} {o:Oper} {a:Act} {w:Yh} {K:Act->Yh->Prop} {Q:Exit->Act->Yh->Prop} {E:Prop} (A:o.guard=Yb) (d s:Operand) (z C:TypeId)
  (H:o.op=.call { callee:=.builtin .copy,args:=#[d,s],argTypes:=#[z,C] }) (e:TypeId) (k:Nat) (J:P.underlying z=Ya (.slice e)) (B:(P.info? e).map (·.size)=Ya k)
  (g f c l:Nat) (y:Addr) (i m n:Nat) (hd:a.eval d=Yc (Ya ⟨g,f,Yb⟩) c l) (I:a.eval s=Yc (Ya y) i m)
  (b:Array Yi) (t:TypeId) (F:w.heap[g]? = Ya (.cells b t (0,0))) (cs:List Yi) (G:n=Nat.min i c) (hc:cs.length=n*k)
  (r:∀j v,cs[j]? = Ya v->w.cell? (y.add j)=Ya v) (p:f+cs.length<=b.size) (D:∀v∈cs,v.oneCell'=true)
  (h:∀w',w'=w.setRow g (b.toList.take f++(cs++b.toList.drop (f+cs.length))).toArray->K (a.put o.dst (goInt n)) w') :
  if Region.wanted o (yielded u a.tmps)=true then Oper.wp P o a w K Q else E:=by
 have L:Region.wanted o (yielded u a.tmps)=true:=by simp[Region.wanted,A]
 rw[Yo L];have q:=Zmf (P:=P) w z C o.type e g f c l y i m k n b t cs J B F G hc r p D;unfold Oper.wp;simp[execOp,H,resolve,invoke,builtin,hd,I,q,Result.andThen];exact h _ rfl
theorem ZjR {w:Yh} {b:Nat} {cs:Array Yi} (h:Blk w b cs) (j:Nat) (v:Yi) (a:cs.toList[j]? = Ya v):w.cell? ((⟨b,0,Yb⟩:Addr).add j)=Ya v:=by rw[Addr.add_lit,Nat.zero_add,h.cell j];simpa using a
theorem Zmk:(Tryz.prog.info? 3).map (fun i=>(i.zero,i.size,i.bytes))=Ya (Ya (Yd Yf 0),1,8):=by kernel_rfl
theorem Ziy {P:Program} {e:TypeId} {z:Yi} {s b:Nat} (h:(P.info? e).map (fun i=>(i.zero,i.size,i.bytes))=Ya (Ya z,s,b)):∃i,P.info? e=Ya i/\i.zero=Ya z/\i.size=s/\i.bytes=b:=by
 cases hi:P.info? e with
 |none=>rw[hi]at h;cases h
 |some i=>
  rw[hi]at h;injection h with h;injection h with h1 h;injection h with h2 h3;exact⟨i,rfl,h1,h2,h3⟩
theorem Zfm (w:Yh):Below w.heap.size w w.drew:=(Below.refl _ _).drew
def ZcS (k n:Nat):List Yi:=List.replicate k (Yd Yf (-1))++List.replicate (n-k) (Yd Yf 0)
theorem ZfS {k n:Nat} (h:k<=n):(ZcS k n).length=n:=by unfold ZcS;rw[Yj,List.length_replicate,List.length_replicate];omega
theorem ZjK {k d n:Nat} (h:k+d<=n):(ZcS k n).take k++(List.replicate d (Value.int Yf (-1))++(ZcS k n).drop (k+(List.replicate d (Value.int Yf (-1))).length))=ZcS (k+d) n:=by
 unfold ZcS;rw[List.length_replicate,List.take_append_of_le_length (by simp),List.take_of_length_le (by simp),List.drop_append,List.drop_of_length_le (by simp),List.nil_append,List.length_replicate,List.drop_replicate,<-List.append_assoc,List.replicate_append_replicate]
 congr 2
 omega
theorem Zrp {k n j:Nat} {v:Yi} {d:Nat} (hd:d<=k) (h:(List.replicate d (Value.int Yf (-1)))[j]? = Ya v):(ZcS k n).toArray.toList[j]? = Ya v:=by
 rw[List.getElem?_replicate]at h
 split at h
 ·rename_i q
  unfold ZcS;rw[List.toList_toArray,List.getElem?_append_left (by rw[List.length_replicate];omega),List.getElem?_replicate,Yo (by omega)];exact h
 ·cases h
theorem Zrq (d:Nat):∀v∈List.replicate d (Value.int Yf (-1)),v.oneCell'=true:=fun v a=>by
 rw[List.eq_of_mem_replicate a];rfl
theorem ZqW {w:Yh} {b:Nat} {cs:Array Yi} {ty:TypeId} (h:w.heap[b]? = Ya (.cells cs ty (0,0))):Blk w b cs:=⟨ty,h⟩
theorem Zmw {w:Yh} {g:Nat} {a cs:Array Yi} {t:TypeId} (h:w.heap[g]? = Ya (.cells a t (0,0))):(w.setRow g cs).heap[g]? = Ya (.cells cs t (0,0)):=setRow_heap w g _ _ t _ h
theorem Zl3 (w:Yh) (I c n:Nat) (hx:Blk w I #[Yd Yf (-1)]) (D:1<=n) (Y:n<=1500) :
  Calls Tryz.prog 60 #[Yc (Ya ⟨I,0,Yb⟩) 1 c,Yd Yf n] w fun e w'=>∃v,e=.returned v/\w'.ownsRow w.heap.size 3 1 v n (ZcS n n)/\Below w.heap.size w w':=by
 obtain⟨i0,X,R,F,S⟩:=Ziy Zmk;have t:=zh (show(Tryz.prog.info? 3).map (·.size)=Ya 1 by rw[X];simp[F])
 have W:∀w:Yh,Calls Tryz.prog 78 #[.int .u64 1,.int .u64 n] w fun e w'=>e=.returned (.tuple #[.int .u64 0,.int .u64 n])/\w=w':=fun w=>by
  have:=Tryz.bits_Mul 1 n (by decide) (by omega) w;rw[show(1*n / 18446744073709551616:Nat)=0 by omega,show(1*n % 18446744073709551616:Nat)=n by omega]at this;exact this.mono fun _ _ q=>⟨q.1,q.2.symm⟩
 have u1:IntKind.u64.wrap (n:Int)=(n:Int):=IntWalk.u64_in _ (by omega);have u2:IntKind.i64.wrap (n:Int)=(n:Int):=IntWalk.i64_in _ (by omega);have u3:¬(n:Int)<0:=by omega
 have u4:¬(9223372036854775807:Int)<(n:Int):=by omega
 have BM:=zh W;have f:=zh (zi D Y);clear W Y D;go_enter Tryz.func60,Tryz.ntmps60
 go_upto_region 7 with(first
  |(go_at_call 78;(with_reducible refine(BM.out _).mono ?_);rintro e w1 ⟨rfl,rfl⟩)
  |(at_make;refine wpList_make_full _ rfl _ _ 35 rfl w.heap.size 3 i0 (Yd Yf 0) 1 Tryz.underlying35 X R F Yf Yf _ _ n rfl rfl ?c1 ?c2 ?c3 ?c4 ?c5 ?_))
 case c1=>rfl
 case c2=>have:=f.out;omega
 case c3=>rw[S];have:=f.out;omega
 case c4=>have:=f.out;unfold maxLen;omega
 case c5=>simp
 intro G h a;have N:Below w.heap.size w G:=(Below.refl _ _).grown a (Nat.le_refl _) (fun k hk=>by cases hk);have hg2:G.heap[w.heap.size]? = Ya (.cells (ZcS 0 n).toArray 3 (0,0)):=by
  rcases h.2 with⟨e,_⟩|⟨g,ae,l,e,_,hh,_,_,P,Q⟩
  ·cases e
  ·injection e with e1 e2 e3;injection e1 with e1;injection e1 with e1;rw[e1,hh];have:l=(ZcS 0 n).toArray:=by
    apply Array.ext';have e5:l.toList.take (n*1)=l.toList:=List.take_of_length_le (by rw[Array.length_toList,P,<-e3];omega);rw[<-e5,Q];simp only[ZcS,madeCells];apply List.ext_getElem
    ·simp
    ·intro i h1 h2;simp[Nat.mod_one]
   rw[this]
 have s:=zh (zi hg2 (zi N (hx.keep N)));clear h a N hg2;have s1:=ZjR s.out.2.2;have T:=zh s1;clear s1 hx;obtain⟨H,r⟩:∃H,H=G.setRow w.heap.size ((ZcS 0 n).toArray.toList.take 0++[Value.int Yf (-1)]++(ZcS 0 n).toArray.toList.drop (0+1)).toArray:=⟨_,rfl⟩
 have u:=zh r;have rc:(Builtin.copy_ #[35,35] 3 #[Yc (Ya ⟨w.heap.size,0,Yb⟩) n n,Yc (Ya ⟨I,0,Yb⟩) 1 c]).run Tryz.prog G=.ok (Yd Yf 1) H:=by rw[r];exact Zmf G 35 35 3 3 w.heap.size 0 n n ⟨I,0,Yb⟩ 1 c 1 1 (ZcS 0 n).toArray 3 [Yd Yf (-1)] Tryz.underlying35 t.out s.out.1 (by show 1=min 1 n;have:=f.out;omega) rfl T.out (by rw[List.size_toArray,ZfS (Nat.zero_le _)];have:=f.out;simpa using this.1) (fun v Z=>by simp at Z;rw[Z];rfl)
 clear r;go_upto_region 8 with fail;have z:H.heap[w.heap.size]? = Ya (.cells (ZcS 1 n).toArray 3 (0,0)):=by rw[u.out,Zmw s.out.1];have:=ZjK (k:=0) (d:=1) (n:=n) (by have:=f.out;omega);rw[<-this];simp
 have U:Below w.heap.size w H:=by rw[u.out];exact below_setRow s.out.2.1 (Nat.le_refl _) _
 have K:=zh (zi z U);clear z U T s rc;go_wp2_with fail;go_loopg [8] (n-1) (fun gk v8 wr=>∃k:Nat,v8=Yd Yf k/\1<=k/\k<=n/\gk=n-k/\wr.heap[w.heap.size]? = Ya (.cells (ZcS k n).toArray 3 (0,0))/\Below w.heap.size w wr)
 case atStart=>exact⟨1,rfl,Nat.le_refl _,f.out.1,by omega,K.out.1,K.out.2⟩
 case round=>
  clear K;obtain⟨k,rfl,p,hk,o,J,O⟩:=hrel;have b:=zh (zi J (zi O (zi o (zi p hk))));have BR:=zh (ZjR (ZqW J));by_cases B:k=n
  ·subst B;clear J O o p hk;go_wp2_with fail;go_ret;exact⟨_,rfl,⟨by rw[ZfS (Nat.le_refl _)];omega,.inr ⟨w.heap.size,k,(ZcS k k).toArray,rfl,Nat.le_refl _,b.out.1,Nat.le_refl _,by have:=f.out;unfold maxLen;omega,by rw[List.size_toArray,ZfS (Nat.le_refl _)];omega,by rw[List.toList_toArray,List.take_of_length_le (by rw[ZfS (Nat.le_refl _)];omega)]⟩⟩,b.out.2.1⟩
  ·have C:k<n:=by omega
   have i1:(k:Int)<(n:Int):=by omega
   have i2:(0:Int)<=(k:Int):=by omega
   have i3:(k:Int)<=(n:Int):=by omega
   clear J O o p hk B;have M:=zh C;clear C;go_wp2_with fail;go_region_law (refine ZpT rfl (.tmp 41) (.tmp 44) 35 35 rfl 3 1 Tryz.underlying35 t.out w.heap.size k (n-k) (n-k) ⟨w.heap.size,0,Yb⟩ k n (min k (n-k)) (by simp[Act.eval,Act.put];have:=M.out;omega) (by simp[Act.eval,Act.put]) (ZcS k n).toArray 3 b.out.1 (List.replicate (min k (n-k)) (Yd Yf (-1))) (by first|rfl|exact Nat.min_comm _ _) (by rw[List.length_replicate,Nat.mul_one]) (fun j v hj=>BR.out j v (Zrp (Nat.min_le_left _ _) hj)) (by rw[List.length_replicate,List.size_toArray,ZfS b.out.2.2.2.2];have:=b.out.2.2.2.2;omega) (Zrq _) ?_;intro w4 E;have y:=zh E;clear E);have m:k+min k (n-k)<=n:=by have:=M.out;omega
   have A:w4.heap[w.heap.size]? = Ya (.cells (ZcS (k+min k (n-k)) n).toArray 3 (0,0)):=by rw[y.out,<-ZjK m];exact Zmw b.out.1
   have V:Below w.heap.size w w4:=by rw[y.out];exact below_setRow (b.out.2.1.trans ((Zfm _).mono b.out.2.1.size)) (Nat.le_refl _) _
   have u7:IntKind.i64.wrap ((k:Int)+(min k (n-k):Nat))=((k+min k (n-k):Nat):Int):=by have:=f.out;rw[IntWalk.i64_in _ (by omega)];omega
   have L:=zh (zi A (zi V m));clear A V m;go_wp2_with fail;go_roundg (n-(k+min k (n-k)))
   case measure=>have:=M.out;have:=b.out.2.2;omega
   case rel=>exact⟨k+min k (n-k),rfl,by have:=b.out.2.2;omega,L.out.2.2,rfl,L.out.1,L.out.2.1⟩
end
section
open Go.RowKit
theorem Zlf (w:Yh) (k:Int):Calls Tryz.prog 85 #[Yd Yf k] w fun e w'=>e=.returned (.bool (ZcE k))/\w=w':=by
 by_cases j:k=8
 ·subst j;go_enter Tryz.func85,Tryz.ntmps85;go_wp2_with fail;go_ret;exact⟨rfl,rfl⟩
 have y:(k==8)=false:=by simpa using j
 by_cases l:k=9
 ·subst l;go_enter Tryz.func85,Tryz.ntmps85;go_wp2_with fail;go_ret;exact⟨rfl,rfl⟩
 have z:(k==9)=false:=by simpa using l
 by_cases a:k=10
 ·subst a;go_enter Tryz.func85,Tryz.ntmps85;go_wp2_with fail;go_ret;exact⟨rfl,rfl⟩
 have o:(k==10)=false:=by simpa using a
 by_cases b:k=11
 ·subst b;go_enter Tryz.func85,Tryz.ntmps85;go_wp2_with fail;go_ret;exact⟨rfl,rfl⟩
 have p:(k==11)=false:=by simpa using b
 by_cases c:k=13
 ·subst c;go_enter Tryz.func85,Tryz.ntmps85;go_wp2_with fail;go_ret;exact⟨rfl,rfl⟩
 have q:(k==13)=false:=by simpa using c
 by_cases d:k=14
 ·subst d;go_enter Tryz.func85,Tryz.ntmps85;go_wp2_with fail;go_ret;exact⟨rfl,rfl⟩
 have r:(k==14)=false:=by simpa using d
 by_cases f:k=16
 ·subst f;go_enter Tryz.func85,Tryz.ntmps85;go_wp2_with fail;go_ret;exact⟨rfl,rfl⟩
 have s:(k==16)=false:=by simpa using f
 by_cases g:k=17
 ·subst g;go_enter Tryz.func85,Tryz.ntmps85;go_wp2_with fail;go_ret;exact⟨rfl,rfl⟩
 have t:(k==17)=false:=by simpa using g
 by_cases h:k=18
 ·subst h;go_enter Tryz.func85,Tryz.ntmps85;go_wp2_with fail;go_ret;exact⟨rfl,rfl⟩
 have u:(k==18)=false:=by simpa using h
 by_cases i:k=19
 ·subst i;go_enter Tryz.func85,Tryz.ntmps85;go_wp2_with fail;go_ret;exact⟨rfl,rfl⟩
 have v:(k==19)=false:=by simpa using i
 have m:ZcE k=false:=by unfold ZcE;simp;omega
 have n:=zh m;clear m j l a b c d f g h i;go_enter Tryz.func85,Tryz.ntmps85;go_wp2_with fail;go_ret;exact⟨by rw[n.out];rfl,rfl⟩
theorem Zh4 (w:Yh) (k:Int):Calls Tryz.prog 86 #[Yd Yf k] w fun e w'=>e=.returned (.bool (ZF k))/\w=w':=by
 by_cases a:k=20
 ·subst a;go_enter Tryz.func86,Tryz.ntmps86;go_wp2_with fail;go_ret;exact⟨rfl,rfl⟩
 have h:(k==20)=false:=by simpa using a
 by_cases b:k=21
 ·subst b;go_enter Tryz.func86,Tryz.ntmps86;go_wp2_with fail;go_ret;exact⟨rfl,rfl⟩
 have i:(k==21)=false:=by simpa using b
 by_cases c:k=22
 ·subst c;go_enter Tryz.func86,Tryz.ntmps86;go_wp2_with fail;go_ret;exact⟨rfl,rfl⟩
 have j:(k==22)=false:=by simpa using c
 by_cases d:k=23
 ·subst d;go_enter Tryz.func86,Tryz.ntmps86;go_wp2_with fail;go_ret;exact⟨rfl,rfl⟩
 have l:(k==23)=false:=by simpa using d
 have f:ZF k=false:=by unfold ZF;simp;omega
 have g:=zh f;clear f a b c d;go_enter Tryz.func86,Tryz.ntmps86;go_wp2_with fail;go_ret;exact⟨by rw[g.out];rfl,rfl⟩
theorem Zmb (w:Yh) (k:Int):Calls Tryz.prog 88 #[Yd Yf k] w fun e w'=>e=.returned (.bool (Zdp k))/\w=w':=by
 have a:=Zh4 w k;unfold Zdp;generalize ZF k=B at *;by_cases q:k=15
 ·subst q;clear a;go_enter Tryz.func88,Tryz.ntmps88;go_wp2_with fail;go_ret;exact⟨rfl,rfl⟩
 ·have b:(k==15)=false:=by simpa using q
  rw[b,Bool.false_or];clear q;go_enter Tryz.func88,Tryz.ntmps88;go_wp2_with (go_at_call 86;(with_reducible refine a.mono ?_);rintro e c ⟨rfl,rfl⟩);go_ret;exact⟨rfl,rfl⟩
inductive Tst where
 |is (ks:List Int)
 |stmt
 |expr
 |arg
def Tst.f:Tst->Int->Bool
 |.is a=>isB a
 |.stmt=>ZcE
 |.expr=>ZF
 |.arg=>Zdp
def ZaY (w:Yh) (t:Tst) (v:Yi):Prop:=match t with
 |.is a=>∃b A c,v=.func (.func 109) #[] #[.pointer (Ya ⟨b,0,Yb⟩)]/\Blk w b #[Yc A a.length c]/\ZaX w (Yc A a.length c) a
 |.stmt=>v=.func (.func 85) #[] #[]
 |.expr=>v=.func (.func 86) #[] #[]
 |.arg=>v=.func (.func 88) #[] #[]
theorem ZaY.below {w w':Yh} {t:Tst} {v:Yi} (h:ZaY w t v) (a:Below w.heap.size w w'):ZaY w' t v:=by
 cases t with
 |is g=>
  obtain⟨b,A,c,e,d,f⟩:=h;exact⟨b,A,c,e,d.keep a,f.below a⟩
 |stmt=>exact h
 |expr=>exact h
 |arg=>exact h
theorem Zml (w:Yh) (b:Nat) (A:Option Addr) (n c:Nat) (a:List Int) (k:Int) (f:Blk w b #[Yc A n c]) (h:ZaX w (Yc A n c) a) :
  Calls Tryz.prog 109 #[Yd Yf k,.pointer (Ya ⟨b,0,Yb⟩)] w fun e w'=>e=.returned (.bool (isB a k))/\w=w':=by
 have d:=Zqw w _ a k h;have j:=f.cell 0;have g:a.contains k=isB a k:=rfl;rw[g]at d;generalize isB a k=B at *;have i:=zh d;clear d h f g;go_enter Tryz.func109,Tryz.ntmps109;go_wp2_with (go_at_call 110;(with_reducible refine i.out.mono ?_);rintro e l ⟨rfl,rfl⟩);go_ret;exact⟨rfl,rfl⟩
theorem ZkA (w:Yh) (v:Yi) (d:List Int) (h:ZaX w v d):Calls Tryz.prog 80 #[v] w fun e w'=>(∃u,e=.returned u/\ZaY w' (.is d) u)/\Below w.heap.size w w':=by have o:∀(g:Fn) (first b:Array Yi) (w:Yh),(Instr.makeFunc g first b).run Tryz.prog w=.ok (.func g first b) w:=fun _ _ _ _=>rfl;obtain⟨A,c,rfl,k,l,m⟩:=id h;have a:=zh (below_alloc1 w (Yg #[Yc A d.length c] 35));have B:=zh (Blk.start w #[Yc A d.length c] 35);have j:=zh h;clear h k l m;generalize i:d.length=n at *;have f:=zh i;clear i;go_enter Tryz.func80,Tryz.ntmps80;go_wp2_with fail;go_ret;exact⟨⟨_,rfl,w.heap.size,A,c,rfl,by rw[f.out];exact B.out,by rw[f.out];exact j.out.below a.out⟩,a.out⟩
end
end Go.Proofs.YtfbepcelkijgkaaGreatDoor
