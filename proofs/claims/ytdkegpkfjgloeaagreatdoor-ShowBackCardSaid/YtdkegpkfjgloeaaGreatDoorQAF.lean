import Derived.Deep.DeepFit
import Derived.BigQuiet
import Derived.Deep.QuietTactic
import Derived.Laws.CopyOwn
import Derived.Deep.LoopGhost
import Derived.Test.YtdkegpkfjgloeaaGreatDoorQAA
import Derived.Test.YtdkegpkfjgloeaaGreatDoorQAC
import Derived.Test.YtdkegpkfjgloeaaGreatDoorQAD
set_option maxRecDepth 100000
set_option maxHeartbeats 8000000
open Option renaming some → Ya, none → Yb
open Go.Value renaming slice → Yc, int → Yd, pointer → Ye
open Go.IntKind renaming i64 → Yf
open Go.Obj renaming cells → Yg
open Go renaming World → Yh, Value → Yi
open Go.RowKit
namespace Go.Proofs.YtdkegpkfjgloeaaGreatDoor
theorem ZcJ {a:Type} {f:a->Bool} {l:List a} {k:Nat} {x:a} (hk:l[k]? = Ya x) (h:(l.take k).all f=true):(l.take (k+1)).all f=f x:=by rw[List.take_add_one,hk,List.all_append,h,Bool.true_and];simp
theorem ZhK {a:Type} {f:a->Bool} {l:List a} {k:Nat} {x:a} (hk:l[k]? = Ya x) (h:f x=false):l.all f=false:=by rw[List.all_eq_false];exact⟨x,List.mem_of_getElem? hk,by rw[h];decide⟩
theorem ZlF (w:Yh) (v:Yi) (l:List Int) (h:Za7 w v l) :
  Calls Tryz.prog 55 #[v] w fun e w'=>e=.returned (.bool (Zcm l))/\w=w':=by
 obtain⟨A,B,rfl,s,t,p⟩:=h;obtain⟨n,hn⟩:∃n,n=l.length:=⟨_,rfl⟩
 have i:n<=9223372036854775807:=by unfold maxLen at t;omega
 rw[<-hn]at s p⊢;have m:=zh (zi hn i);have u:=zh p;clear hn s t p i;go_enter Tryz.func55,Tryz.ntmps55;go_wp2_with fail;go_loopg [7] n (fun g y wr=>w=wr/\∃k:Nat,y=Yd Yf k/\k<=n/\g=n-k/\Zcm (l.take k)=true)
 case atStart=>exact⟨rfl,0,rfl,Nat.zero_le _,rfl,rfl⟩
 case round=>
  obtain⟨rfl,k,rfl,hk,q,a⟩:=hrel;by_cases c:k=n
  ·have e:l.take k=l:=by rw[c,m.out.1];exact List.take_length
   rw[e]at a;have b:=zh a;subst c;clear hk q a e;go_wp2_with fail;go_ret;exact⟨by rw[b.out];rfl,rfl⟩
  ·have f:k<n:=by omega
   obtain⟨x,hx⟩:∃x,l[k]? = Ya x:=⟨_,Ym (by have:=m.out.1;omega)⟩
   obtain⟨z,rfl,C⟩:=ints_at u.out (Below.refl _ _) hx (by omega);have j:Zcm (l.take (k+1))=_:=ZcJ hx a;have d:_->Zcm l=false:=ZhK hx;have D:(k:Int)<(n:Int):=by omega
   have i2:(0:Int)<=(k:Int):=by omega
   have G:IntKind.i64.wrap ((k:Int)+1)=(k:Int)+1:=IntWalk.i64_in _ (by have:=m.out.2;omega);have r:=zh (zi f q);have o:=zh (zi j d);clear j d hx c f hk q a;by_cases E:x<0
   ·have e:Zcm l=false:=o.out.2 (by rw[decide_eq_false (show ¬0<=x by omega)];rfl);have b:=zh e;clear e;go_wp2_with fail;go_ret;exact⟨by rw[b.out];rfl,rfl⟩
   ·by_cases F:1000000000000000000<=x
    ·have e:Zcm l=false:=o.out.2 (by rw[decide_eq_false (show ¬x<1000000000000000000 by omega),Bool.and_false]);have b:=zh e;clear e;go_wp2_with fail;go_ret;exact⟨by rw[b.out];rfl,rfl⟩
    ·have e:=zh (o.out.1.trans (by rw[decide_eq_true (show 0<=x by omega),decide_eq_true (show x<1000000000000000000 by omega)];rfl:_=true));go_wp2_with fail;go_roundg (n-(k+1))
     case measure=>have:=r.out;omega
     case rel=>exact⟨rfl,k+1,by push_cast;rfl,by have:=r.out;omega,rfl,e.out⟩
theorem Zo2 (w:Yh) (v:Yi) (l:List (List UInt8)) (h:Zdt w v l) (C:ZaP w 3 ZI) :
  Calls Tryz.prog 54 #[v] w fun e w'=>e=.returned (.bool (ZdM l))/\w=w':=by
 obtain⟨A,H,rfl,u,y,p,z⟩:=h;obtain⟨n,hn⟩:∃n,n=l.length:=⟨_,rfl⟩
 have j:n<=9223372036854775807:=by unfold maxLen at y;omega
 rw[<-hn]at u p⊢;have d:=zh (zi hn (zi j (zi z C)));have D:=zh p;clear hn u y p j z C;go_enter Tryz.func54,Tryz.ntmps54;go_wp2_with fail;go_loopg [7] n (fun g E wr=>w=wr/\∃k:Nat,E=Yd Yf k/\k<=n/\g=n-k/\ZdM (l.take k)=true)
 case atStart=>exact⟨rfl,0,rfl,Nat.zero_le _,rfl,rfl⟩
 case round=>
  obtain⟨rfl,k,rfl,hk,q,a⟩:=hrel;by_cases c:k=n
  ·have e:l.take k=l:=by rw[c,d.out.1];exact List.take_length
   rw[e]at a;have b:=zh a;subst c;clear hk q a e;go_wp2_with fail;go_ret;exact⟨by rw[b.out];rfl,rfl⟩
  ·have i:k<n:=by omega
   obtain⟨x,hx⟩:∃x,l[k]? = Ya x:=⟨_,Ym (by have:=d.out.1;omega)⟩
   obtain⟨G,rfl,I⟩:=ZbR D.out (Below.refl _ _) hx (by omega);have m:ZdM (l.take (k+1))=ZQ x:=ZcJ hx a;have f:ZQ x=false->ZdM l=false:=ZhK hx;have o:=ZqB ⟨x.toArray⟩ w (by show x.toArray.size<=maxLen;simpa using d.out.2.2.1 x (List.mem_of_getElem? hx)) d.out.2.2.2;have o:Calls Tryz.prog 71 #[txt x] w (ZeI w (.bool (ZQ x))):=by simpa using o
   have J:(k:Int)<(n:Int):=by omega
   have i2:(0:Int)<=(k:Int):=by omega
   have K:IntKind.i64.wrap ((k:Int)+1)=(k:Int)+1:=IntWalk.i64_in _ (by have:=d.out.2.1;omega);have r:=zh (zi i q);have t:=zh (zi m f);have s:=zh o;clear m f hx c i hk q a o;generalize ZQ x=B at *;cases B
   ·have b:=zh (t.out.2 rfl);go_wp2_with (go_at_call 71;go_fit s.out;rintro e1 F ⟨rfl,rfl⟩);go_ret;exact⟨by rw[b.out];rfl,rfl⟩
   ·go_wp2_with (go_at_call 71;go_fit s.out;rintro e1 F ⟨rfl,rfl⟩);go_roundg (n-(k+1))
    case measure=>have:=r.out;omega
    case rel=>exact⟨rfl,k+1,by push_cast;rfl,by have:=r.out;omega,rfl,t.out.1⟩
def ndV (x:NdV×Nd):Yi:=.agg #[Yd Yf x.2.kind,x.1.1,x.1.2.1,x.1.2.2,Yd Yf x.2.pos]
theorem Zrx (w:Yh) (x:NdV×Nd) (a b:Nat) (h:ZU w x) :
  Calls Tryz.prog 73 #[ndV x,Yd Yf a,Yd Yf b] w fun e w'=>e=.returned (.bool (Zr x.2 a b))/\Below w.heap.size w w':=by
 obtain⟨⟨A,c,e1,_⟩,⟨l,n,j,_⟩,m,o,k,_⟩:=h;obtain⟨⟨u,v2,v3⟩,p,g,f,r,s⟩:=x;dsimp only at e1 j k;subst e1 j k;unfold ndV Zr;dsimp only;have i:=zh (below_alloc1 w (Yg #[Yd Yf p,Yc A g.length c,.slice l f.length n,.slice m r.length o,Yd Yf s] 36));by_cases q:g.length=a
 ·have t:((g.length:Int)==(a:Int))=true:=by rw[q];exact beq_self_eq_true _
  by_cases d:f.length=b
  ·have t2:((f.length:Int)==(b:Int))=true:=by rw[d];exact beq_self_eq_true _
   have Q:=zh (zi q d);clear q d;go_enter Tryz.func73,Tryz.ntmps73;go_wp2_with fail;go_ret;exact⟨by rw[decide_eq_true Q.out.1,decide_eq_true Q.out.2];rfl,i.out⟩
  ·have t2:((f.length:Int)==(b:Int))=false:=by simpa using fun e=>d (by omega)
   have Q:=zh (zi q d);clear q d;go_enter Tryz.func73,Tryz.ntmps73;go_wp2_with fail;go_ret;exact⟨by rw[decide_eq_true Q.out.1,decide_eq_false Q.out.2];rfl,i.out⟩
 ·have t:((g.length:Int)==(a:Int))=false:=by simpa using fun e=>q (by omega)
  have Q:=zh q;clear q;go_enter Tryz.func73,Tryz.ntmps73;go_wp2_with fail;go_ret;exact⟨by rw[decide_eq_false Q.out];rfl,i.out⟩
theorem Zqr {l:List Int} {k:Nat} {x c:Int} (hk:l[k]? = Ya x) (h:(l.take k).contains c=false):(l.take (k+1)).contains c=(c==x):=by rw[List.take_add_one,hk,List.contains_eq_any_beq,List.any_append,<-List.contains_eq_any_beq,h,Bool.false_or];simp
theorem ZqW (w:Yh) (v:Yi) (l:List Int) (c:Int) (h:Za7 w v l) :
  Calls Tryz.prog 123 #[v,Yd Yf c] w fun e w'=>(∃z:Int,e=.returned (Yd Yf z)/\decide (0<=z)=l.contains c)/\w=w':=by
 obtain⟨A,E,rfl,u,y,p⟩:=h;obtain⟨n,hn⟩:∃n,n=l.length:=⟨_,rfl⟩
 have i:n<=9223372036854775807:=by unfold maxLen at y;omega
 rw[<-hn]at u p⊢;have o:=zh (zi hn i);have B:=zh p;clear hn u y p i;go_enter Tryz.func123,Tryz.ntmps123;go_wp2_with fail;go_loopg [8] n (fun g C wr=>w=wr/\∃k:Nat,C=Yd Yf k/\k<=n/\g=n-k/\(l.take k).contains c=false)
 case atStart=>exact⟨rfl,0,rfl,Nat.zero_le _,rfl,rfl⟩
 case round=>
  obtain⟨rfl,k,rfl,hk,r,a⟩:=hrel;by_cases b:k=n
  ·have e:l.take k=l:=by rw[b,o.out.1];exact List.take_length
   rw[e]at a;have m:=zh (show decide ((0:Int)<=-1)=l.contains c from by rw[a];rfl);subst b;clear hk r a e;go_wp2_with fail;go_ret;exact⟨⟨_,rfl,m.out⟩,rfl⟩
  ·have f:k<n:=by omega
   obtain⟨x,hx⟩:∃x,l[k]? = Ya x:=⟨_,Ym (by have:=o.out.1;omega)⟩
   obtain⟨D,rfl,F⟩:=ints_at B.out (Below.refl _ _) hx (by omega);have j:=Zqr (c:=c) hx a
   have d:(c==x)=true->decide ((0:Int)<=(k:Int))=l.contains c:=fun q=>by
    have q:c=x:=by simpa using q
    rw[show l.contains c=true by rw[q];simpa using List.mem_of_getElem? hx];exact decide_eq_true (by omega)
   have G:(k:Int)<(n:Int):=by omega
   have i2:(0:Int)<=(k:Int):=by omega
   have H:IntKind.i64.wrap ((k:Int)+1)=(k:Int)+1:=IntWalk.i64_in _ (by have:=o.out.2;omega);have s:=zh (zi f r);have t:=zh (zi j d);clear j d hx b f hk r a;cases hq:(c==x)
   ·go_wp2_with fail;go_roundg (n-(k+1))
    case measure=>have:=s.out;omega
    case rel=>exact⟨rfl,k+1,by push_cast;rfl,by have:=s.out;omega,rfl,t.out.1.trans hq⟩
   ·go_wp2_with fail;go_ret;exact⟨⟨_,rfl,t.out.2 hq⟩,rfl⟩
theorem ZqV (w:Yh) (v:Yi) (l:List Int) (c:Int) (h:Za7 w v l) :
  Calls Tryz.prog 103 #[v,Yd Yf c] w fun e w'=>e=.returned (.bool (l.contains c))/\w=w':=by
 have d:=ZqW w v l c h;clear h;go_enter Tryz.func103,Tryz.ntmps103;go_wp2_with (go_at_call 123;go_fit d;rintro e f ⟨⟨z,rfl,a⟩,rfl⟩;have b:=zh a;clear a);go_ret;exact⟨by rw[<-b.out];rfl,rfl⟩
theorem Zmo {P:Program} (w:Yh) (q B ty c:TypeId) (g o e h:Nat) (a:Addr) (f m d n:Nat) (b:Array Yi) (t:TypeId) (cs:List Yi)
  (A:P.underlying q=Ya (.slice c)) (s:(P.info? c).map (·.size)=Ya d)
  (y:w.heap[g]? = Ya (.cells b t (0,0))) (hn:n=Nat.min f e) (hc:cs.length=n*d)
  (l:∀j v,cs[j]? = Ya v->w.cell? (a.add j)=Ya v) (k:o+cs.length<=b.size) (u:∀v∈cs,v.oneCell'=true) :
  (Builtin.copy_ #[q,B] ty #[Yc (Ya ⟨g,o,Yb⟩) e h,Yc (Ya a) f m]).run P w =
   .ok (goInt n) (w.setRow g (b.toList.take o++cs++b.toList.drop (o+cs.length)).toArray):=by
 have r:=run_loadCells_list (P:=P) w a cs l;have p:=run_storeCells_at P g o t cs 0 b w y (by simpa using k) u;rw[hc]at r;cases hq:P.info? c with
 |none=>simp[hq]at s
 |some i=>
  have z:i.size=d:=by simpa[hq]using s
  simp[Builtin.copy_,run_underlying A,Builtin.lenOf,Builtin.firstCells,sizeOf,typeInfo,hq,z,<-hn,r,p]
theorem Zqa {P:Program} {u:Array Oper} {o:Oper} {a:Act} {w:Yh} {K:Act->Yh->Prop} {Q:Exit->Act->Yh->Prop} {E:Prop} (A:o.guard=Yb) (d s:Operand) (z C:TypeId)
  (G:o.op=.call { callee:=.builtin .copy,args:=#[d,s],argTypes:=#[z,C] }) (e:TypeId) (k:Nat) (I:P.underlying z=Ya (.slice e)) (B:(P.info? e).map (·.size)=Ya k)
  (g f c l:Nat) (y:Addr) (i m n:Nat) (hd:a.eval d=Yc (Ya ⟨g,f,Yb⟩) c l) (H:a.eval s=Yc (Ya y) i m)
  (b:Array Yi) (t:TypeId) (F:w.heap[g]? = Ya (.cells b t (0,0))) (cs:List Yi) (hn:n=Nat.min i c) (hc:cs.length=n*k)
  (r:∀j v,cs[j]? = Ya v->w.cell? (y.add j)=Ya v) (p:f+cs.length<=b.size) (D:∀v∈cs,v.oneCell'=true)
  (h:∀w',w'=w.setRow g (b.toList.take f++(cs++b.toList.drop (f+cs.length))).toArray->K (a.put o.dst (goInt n)) w') :
  if Region.wanted o (yielded u a.tmps)=true then Oper.wp P o a w K Q else E:=by
 have J:Region.wanted o (yielded u a.tmps)=true:=by simp[Region.wanted,A]
 rw[Yo J];have q:=Zmo (P:=P) w z C o.type e g f c l y i m k n b t cs I B F hn hc r p D;unfold Oper.wp;simp[execOp,G,resolve,invoke,builtin,hd,H,q,Result.andThen];exact h _ rfl
theorem ZjT {w:Yh} {b:Nat} {cs:Array Yi} (h:Blk w b cs) (j:Nat) (v:Yi) (a:cs.toList[j]? = Ya v):w.cell? ((⟨b,0,Yb⟩:Addr).add j)=Ya v:=by rw[Addr.add_lit,Nat.zero_add,h.cell j];simpa using a
theorem Zmu:(Tryz.prog.info? 3).map (fun i=>(i.zero,i.size,i.bytes))=Ya (Ya (Yd Yf 0),1,8):=by kernel_rfl
theorem ZiG {P:Program} {e:TypeId} {z:Yi} {s b:Nat} (h:(P.info? e).map (fun i=>(i.zero,i.size,i.bytes))=Ya (Ya z,s,b)):∃i,P.info? e=Ya i/\i.zero=Ya z/\i.size=s/\i.bytes=b:=by
 cases hi:P.info? e with
 |none=>rw[hi]at h;cases h
 |some i=>
  rw[hi]at h;injection h with h;injection h with h1 h;injection h with h2 h3;exact⟨i,rfl,h1,h2,h3⟩
theorem Zfz (w:Yh):Below w.heap.size w w.drew:=(Below.refl _ _).drew
def Zda (k n:Nat):List Yi:=List.replicate k (Yd Yf (-1))++List.replicate (n-k) (Yd Yf 0)
theorem Zf6 {k n:Nat} (h:k<=n):(Zda k n).length=n:=by unfold Zda;rw[Yj,List.length_replicate,List.length_replicate];omega
theorem ZjO {k d n:Nat} (h:k+d<=n):(Zda k n).take k++(List.replicate d (Value.int Yf (-1))++(Zda k n).drop (k+(List.replicate d (Value.int Yf (-1))).length))=Zda (k+d) n:=by
 unfold Zda;rw[List.length_replicate,List.take_append_of_le_length (by simp),List.take_of_length_le (by simp),List.drop_append,List.drop_of_length_le (by simp),List.nil_append,List.length_replicate,List.drop_replicate,<-List.append_assoc,List.replicate_append_replicate]
 congr 2
 omega
theorem ZrN {k n j:Nat} {v:Yi} {d:Nat} (hd:d<=k) (h:(List.replicate d (Value.int Yf (-1)))[j]? = Ya v):(Zda k n).toArray.toList[j]? = Ya v:=by
 rw[List.getElem?_replicate]at h
 split at h
 ·rename_i q
  unfold Zda;rw[List.toList_toArray,List.getElem?_append_left (by rw[List.length_replicate];omega),List.getElem?_replicate,Yo (by omega)];exact h
 ·cases h
theorem ZrO (d:Nat):∀v∈List.replicate d (Value.int Yf (-1)),v.oneCell'=true:=fun v hv=>by
 rw[List.eq_of_mem_replicate hv];rfl
theorem Zrl {w:Yh} {b:Nat} {cs:Array Yi} {ty:TypeId} (h:w.heap[b]? = Ya (.cells cs ty (0,0))):Blk w b cs:=⟨ty,h⟩
theorem ZmE {w:Yh} {g:Nat} {a cs:Array Yi} {t:TypeId} (h:w.heap[g]? = Ya (.cells a t (0,0))):(w.setRow g cs).heap[g]? = Ya (.cells cs t (0,0)):=setRow_heap w g _ _ t _ h
theorem Zmb (w:Yh) (I c n:Nat) (hx:Blk w I #[Yd Yf (-1)]) (D:1<=n) (hn:n<=1500) :
  Calls Tryz.prog 53 #[Yc (Ya ⟨I,0,Yb⟩) 1 c,Yd Yf n] w fun e w'=>∃v,e=.returned v/\w'.ownsRow w.heap.size 3 1 v n (Zda n n)/\Below w.heap.size w w':=by
 obtain⟨i0,X,R,F,S⟩:=ZiG Zmu;have t:=zh (show(Tryz.prog.info? 3).map (·.size)=Ya 1 by rw[X];simp[F])
 have W:∀w:Yh,Calls Tryz.prog 70 #[.int .u64 1,.int .u64 n] w fun e w'=>e=.returned (.tuple #[.int .u64 0,.int .u64 n])/\w=w':=fun w=>by
  have:=Tryz.bits_Mul 1 n (by decide) (by omega) w;rw[show(1*n / 18446744073709551616:Nat)=0 by omega,show(1*n % 18446744073709551616:Nat)=n by omega]at this;exact this.mono fun _ _ q=>⟨q.1,q.2.symm⟩
 have u1:IntKind.u64.wrap (n:Int)=(n:Int):=IntWalk.u64_in _ (by omega);have u2:IntKind.i64.wrap (n:Int)=(n:Int):=IntWalk.i64_in _ (by omega);have u3:¬(n:Int)<0:=by omega
 have u4:¬(9223372036854775807:Int)<(n:Int):=by omega
 have BM:=zh W;have f:=zh (zi D hn);clear W hn D;go_enter Tryz.func53,Tryz.ntmps53
 go_upto_region 7 with(first
  |(go_at_call 70;go_fit (BM.out _);rintro e w1 ⟨rfl,rfl⟩)
  |(at_make;refine wpList_make_full _ rfl _ _ 32 rfl w.heap.size 3 i0 (Yd Yf 0) 1 Tryz.underlying32 X R F Yf Yf _ _ n rfl rfl ?c1 ?c2 ?c3 ?c4 ?c5 ?_))
 case c1=>rfl
 case c2=>have:=f.out;omega
 case c3=>rw[S];have:=f.out;omega
 case c4=>have:=f.out;unfold maxLen;omega
 case c5=>simp
 intro G h a;have N:Below w.heap.size w G:=(Below.refl _ _).grown a (Nat.le_refl _) (fun k hk=>by cases hk);have hg2:G.heap[w.heap.size]? = Ya (.cells (Zda 0 n).toArray 3 (0,0)):=by
  rcases h.2 with⟨e,_⟩|⟨g,ac,l,e,_,hh,_,_,P,Q⟩
  ·cases e
  ·injection e with e1 e2 e3;injection e1 with e1;injection e1 with e1;rw[e1,hh];have:l=(Zda 0 n).toArray:=by
    apply Array.ext';have e5:l.toList.take (n*1)=l.toList:=List.take_of_length_le (by rw[Array.length_toList,P,<-e3];omega);rw[<-e5,Q];simp only[Zda,madeCells];apply List.ext_getElem
    ·simp
    ·intro i h1 h2;simp[Nat.mod_one]
   rw[this]
 have s:=zh (zi hg2 (zi N (hx.keep N)));clear h a N hg2;have Y:=ZjT s.out.2.2;have T:=zh Y;clear Y hx;obtain⟨H,r⟩:∃H,H=G.setRow w.heap.size ((Zda 0 n).toArray.toList.take 0++[Value.int Yf (-1)]++(Zda 0 n).toArray.toList.drop (0+1)).toArray:=⟨_,rfl⟩
 have u:=zh r;have rc:(Builtin.copy_ #[32,32] 3 #[Yc (Ya ⟨w.heap.size,0,Yb⟩) n n,Yc (Ya ⟨I,0,Yb⟩) 1 c]).run Tryz.prog G=.ok (Yd Yf 1) H:=by rw[r];exact Zmo G 32 32 3 3 w.heap.size 0 n n ⟨I,0,Yb⟩ 1 c 1 1 (Zda 0 n).toArray 3 [Yd Yf (-1)] Tryz.underlying32 t.out s.out.1 (by show 1=min 1 n;have:=f.out;omega) rfl T.out (by rw[List.size_toArray,Zf6 (Nat.zero_le _)];have:=f.out;simpa using this.1) (fun v hv=>by simp at hv;rw[hv];rfl)
 clear r;go_upto_region 8 with fail;have z:H.heap[w.heap.size]? = Ya (.cells (Zda 1 n).toArray 3 (0,0)):=by rw[u.out,ZmE s.out.1];have:=ZjO (k:=0) (d:=1) (n:=n) (by have:=f.out;omega);rw[<-this];simp
 have U:Below w.heap.size w H:=by rw[u.out];exact below_setRow s.out.2.1 (Nat.le_refl _) _
 have K:=zh (zi z U);clear z U T s rc;go_wp2_with fail;go_loopg [8] (n-1) (fun gk v8 wr=>∃k:Nat,v8=Yd Yf k/\1<=k/\k<=n/\gk=n-k/\wr.heap[w.heap.size]? = Ya (.cells (Zda k n).toArray 3 (0,0))/\Below w.heap.size w wr)
 case atStart=>exact⟨1,rfl,Nat.le_refl _,f.out.1,by omega,K.out.1,K.out.2⟩
 case round=>
  clear K;obtain⟨k,rfl,p,hk,o,J,O⟩:=hrel;have b:=zh (zi J (zi O (zi o (zi p hk))));have BR:=zh (ZjT (Zrl J));by_cases B:k=n
  ·subst B;clear J O o p hk;go_wp2_with fail;go_ret;exact⟨_,rfl,⟨by rw[Zf6 (Nat.le_refl _)];omega,.inr ⟨w.heap.size,k,(Zda k k).toArray,rfl,Nat.le_refl _,b.out.1,Nat.le_refl _,by have:=f.out;unfold maxLen;omega,by rw[List.size_toArray,Zf6 (Nat.le_refl _)];omega,by rw[List.toList_toArray,List.take_of_length_le (by rw[Zf6 (Nat.le_refl _)];omega)]⟩⟩,b.out.2.1⟩
  ·have C:k<n:=by omega
   have i1:(k:Int)<(n:Int):=by omega
   have i2:(0:Int)<=(k:Int):=by omega
   have i3:(k:Int)<=(n:Int):=by omega
   clear J O o p hk B;have M:=zh C;clear C;go_wp2_with fail;go_region_law (refine Zqa rfl (.tmp 41) (.tmp 44) 32 32 rfl 3 1 Tryz.underlying32 t.out w.heap.size k (n-k) (n-k) ⟨w.heap.size,0,Yb⟩ k n (min k (n-k)) (by simp[Act.eval,Act.put];have:=M.out;omega) (by simp[Act.eval,Act.put]) (Zda k n).toArray 3 b.out.1 (List.replicate (min k (n-k)) (Yd Yf (-1))) (by first|rfl|exact Nat.min_comm _ _) (by rw[List.length_replicate,Nat.mul_one]) (fun j v hj=>BR.out j v (ZrN (Nat.min_le_left _ _) hj)) (by rw[List.length_replicate,List.size_toArray,Zf6 b.out.2.2.2.2];have:=b.out.2.2.2.2;omega) (ZrO _) ?_;intro Z E;have y:=zh E;clear E);have m:k+min k (n-k)<=n:=by have:=M.out;omega
   have A:Z.heap[w.heap.size]? = Ya (.cells (Zda (k+min k (n-k)) n).toArray 3 (0,0)):=by rw[y.out,<-ZjO m];exact ZmE b.out.1
   have V:Below w.heap.size w Z:=by rw[y.out];exact below_setRow (b.out.2.1.trans ((Zfz _).mono b.out.2.1.size)) (Nat.le_refl _) _
   have u7:IntKind.i64.wrap ((k:Int)+(min k (n-k):Nat))=((k+min k (n-k):Nat):Int):=by have:=f.out;rw[IntWalk.i64_in _ (by omega)];omega
   have L:=zh (zi A (zi V m));clear A V m;go_wp2_with fail;go_roundg (n-(k+min k (n-k)))
   case measure=>have:=M.out;have:=b.out.2.2;omega
   case rel=>exact⟨k+min k (n-k),rfl,by have:=b.out.2.2;omega,L.out.2.2,rfl,L.out.1,L.out.2.1⟩
theorem Zlj (w:Yh) (k:Int):Calls Tryz.prog 77 #[Yd Yf k] w fun e w'=>e=.returned (.bool (ZcT k))/\w=w':=by
 by_cases j:k=8
 ·subst j;go_enter Tryz.func77,Tryz.ntmps77;go_wp2_with fail;go_ret;exact⟨rfl,rfl⟩
 have y:(k==8)=false:=by simpa using j
 by_cases l:k=9
 ·subst l;go_enter Tryz.func77,Tryz.ntmps77;go_wp2_with fail;go_ret;exact⟨rfl,rfl⟩
 have z:(k==9)=false:=by simpa using l
 by_cases a:k=10
 ·subst a;go_enter Tryz.func77,Tryz.ntmps77;go_wp2_with fail;go_ret;exact⟨rfl,rfl⟩
 have o:(k==10)=false:=by simpa using a
 by_cases b:k=11
 ·subst b;go_enter Tryz.func77,Tryz.ntmps77;go_wp2_with fail;go_ret;exact⟨rfl,rfl⟩
 have p:(k==11)=false:=by simpa using b
 by_cases c:k=13
 ·subst c;go_enter Tryz.func77,Tryz.ntmps77;go_wp2_with fail;go_ret;exact⟨rfl,rfl⟩
 have q:(k==13)=false:=by simpa using c
 by_cases d:k=14
 ·subst d;go_enter Tryz.func77,Tryz.ntmps77;go_wp2_with fail;go_ret;exact⟨rfl,rfl⟩
 have r:(k==14)=false:=by simpa using d
 by_cases f:k=16
 ·subst f;go_enter Tryz.func77,Tryz.ntmps77;go_wp2_with fail;go_ret;exact⟨rfl,rfl⟩
 have s:(k==16)=false:=by simpa using f
 by_cases g:k=17
 ·subst g;go_enter Tryz.func77,Tryz.ntmps77;go_wp2_with fail;go_ret;exact⟨rfl,rfl⟩
 have t:(k==17)=false:=by simpa using g
 by_cases h:k=18
 ·subst h;go_enter Tryz.func77,Tryz.ntmps77;go_wp2_with fail;go_ret;exact⟨rfl,rfl⟩
 have u:(k==18)=false:=by simpa using h
 by_cases i:k=19
 ·subst i;go_enter Tryz.func77,Tryz.ntmps77;go_wp2_with fail;go_ret;exact⟨rfl,rfl⟩
 have v:(k==19)=false:=by simpa using i
 have m:ZcT k=false:=by unfold ZcT;simp;omega
 have n:=zh m;clear m j l a b c d f g h i;go_enter Tryz.func77,Tryz.ntmps77;go_wp2_with fail;go_ret;exact⟨by rw[n.out];rfl,rfl⟩
theorem Zia (w:Yh) (k:Int):Calls Tryz.prog 78 #[Yd Yf k] w fun e w'=>e=.returned (.bool (ZR k))/\w=w':=by
 by_cases a:k=20
 ·subst a;go_enter Tryz.func78,Tryz.ntmps78;go_wp2_with fail;go_ret;exact⟨rfl,rfl⟩
 have h:(k==20)=false:=by simpa using a
 by_cases b:k=21
 ·subst b;go_enter Tryz.func78,Tryz.ntmps78;go_wp2_with fail;go_ret;exact⟨rfl,rfl⟩
 have i:(k==21)=false:=by simpa using b
 by_cases c:k=22
 ·subst c;go_enter Tryz.func78,Tryz.ntmps78;go_wp2_with fail;go_ret;exact⟨rfl,rfl⟩
 have j:(k==22)=false:=by simpa using c
 by_cases d:k=23
 ·subst d;go_enter Tryz.func78,Tryz.ntmps78;go_wp2_with fail;go_ret;exact⟨rfl,rfl⟩
 have l:(k==23)=false:=by simpa using d
 have f:ZR k=false:=by unfold ZR;simp;omega
 have g:=zh f;clear f a b c d;go_enter Tryz.func78,Tryz.ntmps78;go_wp2_with fail;go_ret;exact⟨by rw[g.out];rfl,rfl⟩
theorem Zmk (w:Yh) (k:Int):Calls Tryz.prog 80 #[Yd Yf k] w fun e w'=>e=.returned (.bool (ZdE k))/\w=w':=by
 have a:=Zia w k;unfold ZdE;generalize ZR k=B at *;by_cases q:k=15
 ·subst q;clear a;go_enter Tryz.func80,Tryz.ntmps80;go_wp2_with fail;go_ret;exact⟨rfl,rfl⟩
 ·have e1:(k==15)=false:=by simpa using q
  rw[e1,Bool.false_or];clear q;go_enter Tryz.func80,Tryz.ntmps80;go_wp2_with (go_at_call 78;go_fit a;rintro e b ⟨rfl,rfl⟩);go_ret;exact⟨rfl,rfl⟩
inductive Tst where
 |is (ks:List Int)
 |stmt
 |expr
 |arg
def Tst.f:Tst->Int->Bool
 |.is a=>isB a
 |.stmt=>ZcT
 |.expr=>ZR
 |.arg=>ZdE
def Za8 (w:Yh) (t:Tst) (v:Yi):Prop:=match t with
 |.is a=>∃b A c,v=.func (.func 102) #[] #[Ye (Ya ⟨b,0,Yb⟩)]/\Blk w b #[Yc A a.length c]/\Za7 w (Yc A a.length c) a
 |.stmt=>v=.func (.func 77) #[] #[]
 |.expr=>v=.func (.func 78) #[] #[]
 |.arg=>v=.func (.func 80) #[] #[]
theorem Za8.below {w w':Yh} {t:Tst} {v:Yi} (h:Za8 w t v) (a:Below w.heap.size w w'):Za8 w' t v:=by
 cases t with
 |is g=>
  obtain⟨b,A,c,e,d,f⟩:=h;exact⟨b,A,c,e,d.keep a,f.below a⟩
 |stmt=>exact h
 |expr=>exact h
 |arg=>exact h
theorem Zmv (w:Yh) (b:Nat) (A:Option Addr) (n c:Nat) (a:List Int) (k:Int) (f:Blk w b #[Yc A n c]) (h:Za7 w (Yc A n c) a) :
  Calls Tryz.prog 102 #[Yd Yf k,Ye (Ya ⟨b,0,Yb⟩)] w fun e w'=>e=.returned (.bool (isB a k))/\w=w':=by
 have d:=ZqV w _ a k h;have j:=f.cell 0;have g:a.contains k=isB a k:=rfl;rw[g]at d;generalize isB a k=B at *;have i:=zh d;clear d h f g;go_enter Tryz.func102,Tryz.ntmps102;go_wp2_with (go_at_call 103;go_fit i.out;rintro e l ⟨rfl,rfl⟩);go_ret;exact⟨rfl,rfl⟩
theorem ZkA (w:Yh) (v:Yi) (d:List Int) (h:Za7 w v d):Calls Tryz.prog 72 #[v] w fun e w'=>(∃u,e=.returned u/\Za8 w' (.is d) u)/\Below w.heap.size w w':=by have m:∀(g:Fn) (first b:Array Yi) (w:Yh),(Instr.makeFunc g first b).run Tryz.prog w=.ok (.func g first b) w:=fun _ _ _ _=>rfl;obtain⟨A,c,rfl,j,k,l⟩:=id h;have a:=zh (below_alloc1 w (Yg #[Yc A d.length c] 32));have B:=zh (Blk.start w #[Yc A d.length c] 32);have i:=zh h;clear h j k l;generalize hn:d.length=n at *;have f:=zh hn;clear hn;go_enter Tryz.func72,Tryz.ntmps72;go_wp2_with fail;go_ret;exact⟨⟨_,rfl,w.heap.size,A,c,rfl,by rw[f.out];exact B.out,by rw[f.out];exact i.out.below a.out⟩,a.out⟩
def Stb (P:Yh->Prop):Prop:=∀a b:Yh,Below a.heap.size a b->P a->P b
theorem ZV (p:Addr) (x:Yi):Stb fun w=>w.cell? p=Ya x:=fun _ _ a h=>(a.cell (World.block_lt_of_cell? _ _ h)).trans h
theorem Zaj {P Q:Yh->Prop} (b:Stb P) (hq:Stb Q):Stb fun w=>P w/\Q w:=fun _ _ a h=>⟨b _ _ a h.1,hq _ _ a h.2⟩
theorem ZcG (a:Yh):Stb fun w=>Below a.heap.size a w:=fun _ _ b h=>h.trans (b.mono h.size)
theorem Za {A:Prop} {a w':Yh} (h:A/\Below a.heap.size a w'):Below a.heap.size a w':=h.2
def Zgq (f:FuncId) (cap:Array Yi) (t:Tst) (w:Yh):Prop:=∀(a:Yh) (k:Int),Below w.heap.size w a->Calls Tryz.prog f (#[Yd Yf k]++cap) a fun e b=>e=.returned (.bool (t.f k))/\Below a.heap.size a b
theorem ZcS {f:FuncId} {a:Array Yi} {w:Yh} {v:Yi} (h:Calls Tryz.prog f a w fun e w'=>e=.returned v/\w=w'):Calls Tryz.prog f a w fun e w2=>e=.returned v/\Below w.heap.size w w2:=h.mono fun _ _ q=>⟨q.1,q.2▸Below.refl _ _⟩
theorem Zlm {w:Yh} {t:Tst} {u:Yi} (h:Za8 w t u):∃f cap,u=.func (.func f) #[] cap/\Zgq f cap t w:=by
 cases t with
 |is i=>
  obtain⟨b,A,c,rfl,e,g⟩:=h;exact⟨_,_,rfl,fun a k d=>ZcS (Zmv a b A _ c i k (e.keep d) (g.below d))⟩
 |stmt=>exact⟨_,_,h,fun a k _=>ZcS (Zlj a k)⟩
 |expr=>exact⟨_,_,h,fun a k _=>ZcS (Zia a k)⟩
 |arg=>exact⟨_,_,h,fun a k _=>ZcS (Zmk a k)⟩
theorem Zrg (w:Yh) (d:Nat) (s:List Int) (b1 h:Nat) (A:Option Addr) (c:Nat) (ns:List Nd) (k:Nat) (l:Blk w b1 #[.func (.func 102) #[] #[Ye (Ya ⟨d,0,Yb⟩)]]) (g:Blk w h #[Yc A ns.length c]) (J:Zi w (Yc A ns.length c) ns) (hc:Zgq 102 #[Ye (Ya ⟨d,0,Yb⟩)] (.is s) w) (hk:k<ns.length) :
  Calls Tryz.prog 105 #[Yd Yf k,Ye (Ya ⟨b1,0,Yb⟩),Ye (Ya ⟨h,0,Yb⟩)] w fun e w'=>e=.returned (.bool (!Tst.f (.is s) (Zs ns k)))/\Below w.heap.size w w':=by
 obtain⟨M,O,C,F,G,H,u,v,I⟩:=J;injection F with e1 _ e2;subst e1 e2;obtain⟨n,hn⟩:∃n,n=ns.length:=⟨_,rfl⟩
 obtain⟨x,hx⟩:∃x,C[k]? = Ya x:=⟨_,Ym (by rw[show C.length=ns.length by rw[<-u,List.length_map]];exact hk)⟩
 have p:ns[k]? = Ya x.2:=by rw[<-u,List.getElem?_map,hx];rfl
 rw[<-hn]at v hk g;obtain⟨b,rfl,z,_⟩:=ZaG v (Below.refl _ _) hx (by omega);have o:Zs ns k=x.2.kind:=by unfold Zs Zb;rw[Int.toNat_natCast,p];rfl
 rw[o];have cl:∀w':Yh,Below w.heap.size w w'->Calls Tryz.prog 102 #[Yd Yf x.2.kind,Ye (Ya ⟨d,0,Yb⟩)] w' (fun e L=>e=.returned (.bool (Tst.f (.is s) x.2.kind))/\Below w'.heap.size w' L):=fun w' q=>hc w' x.2.kind q;have Q:(k:Int)<(n:Int):=by omega
 have i2:(0:Int)<=(k:Int):=by omega
 have i:w.cell? ⟨b1,0,Yb⟩=Ya (.func (.func 102) #[] #[Ye (Ya ⟨d,0,Yb⟩)]):=l.cell 0;have j:w.cell? ⟨h,0,Yb⟩=Ya (Yc (Ya b) n c):=g.cell 0;generalize x.2.kind=r at *;generalize Tst.f (.is s) r=N at *;have D:=zh cl;clear cl hc o p hx hk G H u v I l g hn;have t:=zh (show Stb (fun w'=>(w'.cell? ⟨b1,0,Yb⟩=Ya (.func (.func 102) #[] #[Ye (Ya ⟨d,0,Yb⟩)])/\(w'.cell? ⟨h,0,Yb⟩=Ya (Yc (Ya b) n c)/\w'.cell? (b.add (k*5))=Ya (Yd Yf r)))/\Below w.heap.size w w')from Zaj (Zaj (ZV _ _) (Zaj (ZV _ _) (ZV _ _))) (ZcG w));go_enter Tryz.func105,Tryz.ntmps105;go_upto_region 1 with fail;have y:((w.drew.cell? ⟨b1,0,Yb⟩=Ya (.func (.func 102) #[] #[Ye (Ya ⟨d,0,Yb⟩)])/\(w.drew.cell? ⟨h,0,Yb⟩=Ya (Yc (Ya b) n c)/\w.drew.cell? (b.add (k*5))=Ya (Yd Yf r)))/\Below w.heap.size w w.drew):=⟨⟨i,j,z⟩,Za9 w⟩
 clear i j z;refine wp_region_noPanic ?_;refine wp_region_held_drew (S:=(fun w'=>(w'.cell? ⟨b1,0,Yb⟩=Ya (.func (.func 102) #[] #[Ye (Ya ⟨d,0,Yb⟩)])/\(w'.cell? ⟨h,0,Yb⟩=Ya (Yc (Ya b) n c)/\w'.cell? (b.add (k*5))=Ya (Yd Yf r)))/\Below w.heap.size w w')) (by kernel_rfl) y (fun a=>?_);clear y;refine tk 0 rfl ?_;refine tk 1 rfl ?_;refine tk 2 rfl ?_;refine tk 3 rfl ?_;refine tk 4 rfl ?_;refine tk 5 rfl ?_;(try simp only[cl,Act.put]);refine rd 6 rfl fun K B=>?_;go_simp;(go_at_call 102;go_fit (D.out _ (Za (by with_reducible assumption)));rintro P R ⟨rfl,q⟩);go_wp2_with fail;refine B.out _ _ (t.out _ _ q (by with_reducible assumption)) (fun m=>?_);clear B K a q;have a:=m;clear m;(try simp only[cl,Act.put]);refine tk 7 rfl ?_;refine tk 8 rfl ?_;(try simp only[cl,Act.put]);refine wpAnyH_done (by kernel_rfl) ?_ _;refine NoPanic.normal ?_;have E:=zh (Za a);clear a;go_wp2_with fail;go_ret;exact⟨rfl,E.out⟩
theorem Zoi (w:Yh) (b1 g:Nat) (A:Option Addr) (c:Nat) (ns:List Nd) (k:Nat) (j:Blk w b1 #[.func (.func 77) #[] #[]]) (d:Blk w g #[Yc A ns.length c]) (H:Zi w (Yc A ns.length c) ns) (hc:Zgq 77 #[] (.stmt) w) (hk:k<ns.length) :
  Calls Tryz.prog 105 #[Yd Yf k,Ye (Ya ⟨b1,0,Yb⟩),Ye (Ya ⟨g,0,Yb⟩)] w fun e w'=>e=.returned (.bool (!Tst.f (.stmt) (Zs ns k)))/\Below w.heap.size w w':=by
 obtain⟨J,M,z,D,E,F,s,t,G⟩:=H;injection D with e1 _ e2;subst e1 e2;obtain⟨n,hn⟩:∃n,n=ns.length:=⟨_,rfl⟩
 obtain⟨x,hx⟩:∃x,z[k]? = Ya x:=⟨_,Ym (by rw[show z.length=ns.length by rw[<-s,List.length_map]];exact hk)⟩
 have o:ns[k]? = Ya x.2:=by rw[<-s,List.getElem?_map,hx];rfl
 rw[<-hn]at t hk d;obtain⟨b,rfl,v,_⟩:=ZaG t (Below.refl _ _) hx (by omega);have m:Zs ns k=x.2.kind:=by unfold Zs Zb;rw[Int.toNat_natCast,o];rfl
 rw[m];have cl:∀w':Yh,Below w.heap.size w w'->Calls Tryz.prog 77 #[Yd Yf x.2.kind] w' (fun e I=>e=.returned (.bool (Tst.f (.stmt) x.2.kind))/\Below w'.heap.size w' I):=fun w' p=>hc w' x.2.kind p;have O:(k:Int)<(n:Int):=by omega
 have i2:(0:Int)<=(k:Int):=by omega
 have h:w.cell? ⟨b1,0,Yb⟩=Ya (.func (.func 77) #[] #[]):=j.cell 0;have i:w.cell? ⟨g,0,Yb⟩=Ya (Yc (Ya b) n c):=d.cell 0;generalize x.2.kind=q at *;generalize Tst.f (.stmt) q=L at *;have B:=zh cl;clear cl hc m o hx hk E F s t G j d hn;have r:=zh (show Stb (fun w'=>(w'.cell? ⟨b1,0,Yb⟩=Ya (.func (.func 77) #[] #[])/\(w'.cell? ⟨g,0,Yb⟩=Ya (Yc (Ya b) n c)/\w'.cell? (b.add (k*5))=Ya (Yd Yf q)))/\Below w.heap.size w w')from Zaj (Zaj (ZV _ _) (Zaj (ZV _ _) (ZV _ _))) (ZcG w));go_enter Tryz.func105,Tryz.ntmps105;go_upto_region 1 with fail;have u:((w.drew.cell? ⟨b1,0,Yb⟩=Ya (.func (.func 77) #[] #[])/\(w.drew.cell? ⟨g,0,Yb⟩=Ya (Yc (Ya b) n c)/\w.drew.cell? (b.add (k*5))=Ya (Yd Yf q)))/\Below w.heap.size w w.drew):=⟨⟨h,i,v⟩,Za9 w⟩
 clear h i v;refine wp_region_noPanic ?_;refine wp_region_held_drew (S:=(fun w'=>(w'.cell? ⟨b1,0,Yb⟩=Ya (.func (.func 77) #[] #[])/\(w'.cell? ⟨g,0,Yb⟩=Ya (Yc (Ya b) n c)/\w'.cell? (b.add (k*5))=Ya (Yd Yf q)))/\Below w.heap.size w w')) (by kernel_rfl) u (fun a=>?_);clear u;refine tk 0 rfl ?_;refine tk 1 rfl ?_;refine tk 2 rfl ?_;refine tk 3 rfl ?_;refine tk 4 rfl ?_;refine tk 5 rfl ?_;(try simp only[cl,Act.put]);refine rd 6 rfl fun K y=>?_;go_simp;(go_at_call 77;go_fit (B.out _ (Za (by with_reducible assumption)));rintro N P ⟨rfl,p⟩);go_wp2_with fail;refine y.out _ _ (r.out _ _ p (by with_reducible assumption)) (fun l=>?_);clear y K a p;have a:=l;clear l;(try simp only[cl,Act.put]);refine tk 7 rfl ?_;refine tk 8 rfl ?_;(try simp only[cl,Act.put]);refine wpAnyH_done (by kernel_rfl) ?_ _;refine NoPanic.normal ?_;have C:=zh (Za a);clear a;go_wp2_with fail;go_ret;exact⟨rfl,C.out⟩
theorem Zoh (w:Yh) (b1 g:Nat) (A:Option Addr) (c:Nat) (ns:List Nd) (k:Nat) (j:Blk w b1 #[.func (.func 78) #[] #[]]) (d:Blk w g #[Yc A ns.length c]) (H:Zi w (Yc A ns.length c) ns) (hc:Zgq 78 #[] (.expr) w) (hk:k<ns.length) :
  Calls Tryz.prog 105 #[Yd Yf k,Ye (Ya ⟨b1,0,Yb⟩),Ye (Ya ⟨g,0,Yb⟩)] w fun e w'=>e=.returned (.bool (!Tst.f (.expr) (Zs ns k)))/\Below w.heap.size w w':=by
 obtain⟨J,M,z,D,E,F,s,t,G⟩:=H;injection D with e1 _ e2;subst e1 e2;obtain⟨n,hn⟩:∃n,n=ns.length:=⟨_,rfl⟩
 obtain⟨x,hx⟩:∃x,z[k]? = Ya x:=⟨_,Ym (by rw[show z.length=ns.length by rw[<-s,List.length_map]];exact hk)⟩
 have o:ns[k]? = Ya x.2:=by rw[<-s,List.getElem?_map,hx];rfl
 rw[<-hn]at t hk d;obtain⟨b,rfl,v,_⟩:=ZaG t (Below.refl _ _) hx (by omega);have m:Zs ns k=x.2.kind:=by unfold Zs Zb;rw[Int.toNat_natCast,o];rfl
 rw[m];have cl:∀w':Yh,Below w.heap.size w w'->Calls Tryz.prog 78 #[Yd Yf x.2.kind] w' (fun e I=>e=.returned (.bool (Tst.f (.expr) x.2.kind))/\Below w'.heap.size w' I):=fun w' p=>hc w' x.2.kind p;have O:(k:Int)<(n:Int):=by omega
 have i2:(0:Int)<=(k:Int):=by omega
 have h:w.cell? ⟨b1,0,Yb⟩=Ya (.func (.func 78) #[] #[]):=j.cell 0;have i:w.cell? ⟨g,0,Yb⟩=Ya (Yc (Ya b) n c):=d.cell 0;generalize x.2.kind=q at *;generalize Tst.f (.expr) q=L at *;have B:=zh cl;clear cl hc m o hx hk E F s t G j d hn;have r:=zh (show Stb (fun w'=>(w'.cell? ⟨b1,0,Yb⟩=Ya (.func (.func 78) #[] #[])/\(w'.cell? ⟨g,0,Yb⟩=Ya (Yc (Ya b) n c)/\w'.cell? (b.add (k*5))=Ya (Yd Yf q)))/\Below w.heap.size w w')from Zaj (Zaj (ZV _ _) (Zaj (ZV _ _) (ZV _ _))) (ZcG w));go_enter Tryz.func105,Tryz.ntmps105;go_upto_region 1 with fail;have u:((w.drew.cell? ⟨b1,0,Yb⟩=Ya (.func (.func 78) #[] #[])/\(w.drew.cell? ⟨g,0,Yb⟩=Ya (Yc (Ya b) n c)/\w.drew.cell? (b.add (k*5))=Ya (Yd Yf q)))/\Below w.heap.size w w.drew):=⟨⟨h,i,v⟩,Za9 w⟩
 clear h i v;refine wp_region_noPanic ?_;refine wp_region_held_drew (S:=(fun w'=>(w'.cell? ⟨b1,0,Yb⟩=Ya (.func (.func 78) #[] #[])/\(w'.cell? ⟨g,0,Yb⟩=Ya (Yc (Ya b) n c)/\w'.cell? (b.add (k*5))=Ya (Yd Yf q)))/\Below w.heap.size w w')) (by kernel_rfl) u (fun a=>?_);clear u;refine tk 0 rfl ?_;refine tk 1 rfl ?_;refine tk 2 rfl ?_;refine tk 3 rfl ?_;refine tk 4 rfl ?_;refine tk 5 rfl ?_;(try simp only[cl,Act.put]);refine rd 6 rfl fun K y=>?_;go_simp;(go_at_call 78;go_fit (B.out _ (Za (by with_reducible assumption)));rintro N P ⟨rfl,p⟩);go_wp2_with fail;refine y.out _ _ (r.out _ _ p (by with_reducible assumption)) (fun l=>?_);clear y K a p;have a:=l;clear l;(try simp only[cl,Act.put]);refine tk 7 rfl ?_;refine tk 8 rfl ?_;(try simp only[cl,Act.put]);refine wpAnyH_done (by kernel_rfl) ?_ _;refine NoPanic.normal ?_;have C:=zh (Za a);clear a;go_wp2_with fail;go_ret;exact⟨rfl,C.out⟩
theorem Zp6 (w:Yh) (b1 g:Nat) (A:Option Addr) (c:Nat) (ns:List Nd) (k:Nat) (j:Blk w b1 #[.func (.func 80) #[] #[]]) (d:Blk w g #[Yc A ns.length c]) (H:Zi w (Yc A ns.length c) ns) (hc:Zgq 80 #[] (.arg) w) (hk:k<ns.length) :
  Calls Tryz.prog 105 #[Yd Yf k,Ye (Ya ⟨b1,0,Yb⟩),Ye (Ya ⟨g,0,Yb⟩)] w fun e w'=>e=.returned (.bool (!Tst.f (.arg) (Zs ns k)))/\Below w.heap.size w w':=by
 obtain⟨J,M,z,D,E,F,s,t,G⟩:=H;injection D with e1 _ e2;subst e1 e2;obtain⟨n,hn⟩:∃n,n=ns.length:=⟨_,rfl⟩
 obtain⟨x,hx⟩:∃x,z[k]? = Ya x:=⟨_,Ym (by rw[show z.length=ns.length by rw[<-s,List.length_map]];exact hk)⟩
 have o:ns[k]? = Ya x.2:=by rw[<-s,List.getElem?_map,hx];rfl
 rw[<-hn]at t hk d;obtain⟨b,rfl,v,_⟩:=ZaG t (Below.refl _ _) hx (by omega);have m:Zs ns k=x.2.kind:=by unfold Zs Zb;rw[Int.toNat_natCast,o];rfl
 rw[m];have cl:∀w':Yh,Below w.heap.size w w'->Calls Tryz.prog 80 #[Yd Yf x.2.kind] w' (fun e I=>e=.returned (.bool (Tst.f (.arg) x.2.kind))/\Below w'.heap.size w' I):=fun w' p=>hc w' x.2.kind p;have O:(k:Int)<(n:Int):=by omega
 have i2:(0:Int)<=(k:Int):=by omega
 have h:w.cell? ⟨b1,0,Yb⟩=Ya (.func (.func 80) #[] #[]):=j.cell 0;have i:w.cell? ⟨g,0,Yb⟩=Ya (Yc (Ya b) n c):=d.cell 0;generalize x.2.kind=q at *;generalize Tst.f (.arg) q=L at *;have B:=zh cl;clear cl hc m o hx hk E F s t G j d hn;have r:=zh (show Stb (fun w'=>(w'.cell? ⟨b1,0,Yb⟩=Ya (.func (.func 80) #[] #[])/\(w'.cell? ⟨g,0,Yb⟩=Ya (Yc (Ya b) n c)/\w'.cell? (b.add (k*5))=Ya (Yd Yf q)))/\Below w.heap.size w w')from Zaj (Zaj (ZV _ _) (Zaj (ZV _ _) (ZV _ _))) (ZcG w));go_enter Tryz.func105,Tryz.ntmps105;go_upto_region 1 with fail;have u:((w.drew.cell? ⟨b1,0,Yb⟩=Ya (.func (.func 80) #[] #[])/\(w.drew.cell? ⟨g,0,Yb⟩=Ya (Yc (Ya b) n c)/\w.drew.cell? (b.add (k*5))=Ya (Yd Yf q)))/\Below w.heap.size w w.drew):=⟨⟨h,i,v⟩,Za9 w⟩
 clear h i v;refine wp_region_noPanic ?_;refine wp_region_held_drew (S:=(fun w'=>(w'.cell? ⟨b1,0,Yb⟩=Ya (.func (.func 80) #[] #[])/\(w'.cell? ⟨g,0,Yb⟩=Ya (Yc (Ya b) n c)/\w'.cell? (b.add (k*5))=Ya (Yd Yf q)))/\Below w.heap.size w w')) (by kernel_rfl) u (fun a=>?_);clear u;refine tk 0 rfl ?_;refine tk 1 rfl ?_;refine tk 2 rfl ?_;refine tk 3 rfl ?_;refine tk 4 rfl ?_;refine tk 5 rfl ?_;(try simp only[cl,Act.put]);refine rd 6 rfl fun K y=>?_;go_simp;(go_at_call 80;go_fit (B.out _ (Za (by with_reducible assumption)));rintro N P ⟨rfl,p⟩);go_wp2_with fail;refine y.out _ _ (r.out _ _ p (by with_reducible assumption)) (fun l=>?_);clear y K a p;have a:=l;clear l;(try simp only[cl,Act.put]);refine tk 7 rfl ?_;refine tk 8 rfl ?_;(try simp only[cl,Act.put]);refine wpAnyH_done (by kernel_rfl) ?_ _;refine NoPanic.normal ?_;have C:=zh (Za a);clear a;go_wp2_with fail;go_ret;exact⟨rfl,C.out⟩
def ZaB (a:List Int) (n:Nat):Prop:=∀k∈a,0<=k/\k<n
theorem Zp5 (w:Yh) (t:Tst) (u:Yi) (b1 d:Nat) (A:Option Addr) (c:Nat) (ns:List Nd) (r:Za8 w t u) (m:Blk w b1 #[u]) (n:Blk w d #[Yc A ns.length c]) (q:Zi w (Yc A ns.length c) ns) (w':Yh) (i:Below w.heap.size w w') (k:Int) (hk:0<=k/\k<ns.length) :
  Calls Tryz.prog 105 #[Yd Yf k,Ye (Ya ⟨b1,0,Yb⟩),Ye (Ya ⟨d,0,Yb⟩)] w' fun e w2=>e=.returned (.bool (!t.f (Zs ns k)))/\Below w'.heap.size w' w2:=by
 obtain⟨j,rfl⟩:∃j:Nat,k=j:=⟨k.toNat,by omega⟩
 have a:=r.below i;have hc:=Zlm a;obtain⟨f,o,e,hc⟩:=hc;have g:=m.keep i;rw[e]at g;have h:=n.keep i;have N:=q.below i;have l:j<ns.length:=by omega
 cases t with
 |is s=>
  obtain⟨b,v,y,p,z,B⟩:=a;rw[p]at e;injection e with e1 e2 e3;injection e1 with e1;subst e1 e3;exact Zrg w' b s b1 d A c ns j g h N hc l
 |stmt=>
  rw[show u=_ from a]at e;injection e with e1 e2 e3;injection e1 with e1;subst e1 e3;exact Zoi w' b1 d A c ns j g h N hc l
 |expr=>
  rw[show u=_ from a]at e;injection e with e1 e2 e3;injection e1 with e1;subst e1 e3;exact Zoh w' b1 d A c ns j g h N hc l
 |arg=>
  rw[show u=_ from a]at e;injection e with e1 e2 e3;injection e1 with e1;subst e1 e3;exact Zp6 w' b1 d A c ns j g h N hc l
theorem Zp7 {l:List Int} {f:Int->Bool} {k:Nat} {x:Int} (hk:l[k]? = Ya x) (h:(l.take k).any f=false):(l.take (k+1)).any f=f x:=by rw[List.take_add_one,hk,List.any_append,h,Bool.false_or];simp
theorem Zma (w:Yh) (v:Yi) (l:List Int) (f:Int->Bool) (b1 C:Nat) (h:Za7 w v l) (F:∀(w':Yh),Below w.heap.size w w'->∀k∈l,Calls Tryz.prog 105 #[Yd Yf k,Ye (Ya ⟨b1,0,Yb⟩),Ye (Ya ⟨C,0,Yb⟩)] w' fun e w2=>e=.returned (.bool (f k))/\Below w'.heap.size w' w2) :
  Calls Tryz.prog 124 #[v,.func (.func 105) #[] #[Ye (Ya ⟨b1,0,Yb⟩),Ye (Ya ⟨C,0,Yb⟩)]] w fun e w'=>(∃z:Int,e=.returned (Yd Yf z)/\decide (0<=z)=l.any f)/\Below w.heap.size w w':=by
 obtain⟨A,L,rfl,D,E,t⟩:=h;obtain⟨n,hn⟩:∃n,n=l.length:=⟨_,rfl⟩
 have p:n<=9223372036854775807:=by unfold maxLen at E;omega
 rw[<-hn]at D t⊢;have s:=zh (zi hn (zi p F));have H:=zh t;clear hn D E t p F;go_enter Tryz.func124,Tryz.ntmps124;go_wp2_with fail;go_loopg [8] n (fun g I wr=>Below w.heap.size w wr/\∃k:Nat,I=Yd Yf k/\k<=n/\g=n-k/\(l.take k).any f=false)
 case atStart=>exact⟨Below.refl _ _,0,rfl,Nat.zero_le _,rfl,rfl⟩
 case round=>
  obtain⟨i,k,rfl,hk,u,a⟩:=hrel;by_cases d:k=n
  ·have e:l.take k=l:=by rw[d,s.out.1];exact List.take_length
   rw[e]at a;have j:=zh (zi (show decide ((0:Int)<=-1)=l.any f from by rw[a];rfl) i);subst d;clear hk u a e i;go_wp2_with fail;go_ret;exact⟨⟨_,rfl,j.out.1⟩,j.out.2⟩
  ·have o:k<n:=by omega
   obtain⟨x,hx⟩:∃x,l[k]? = Ya x:=⟨_,Ym (by have:=s.out.1;omega)⟩
   obtain⟨K,rfl,M⟩:=ints_at H.out i hx (by omega);have cl:=s.out.2.2 wr i x (List.mem_of_getElem? hx);have r:=Zp7 (f:=f) hx a
   have m:f x=true->decide ((0:Int)<=(k:Int))=l.any f:=fun q=>by
    rw[List.any_eq_true.2 ⟨x,List.mem_of_getElem? hx,q⟩];exact decide_eq_true (by omega)
   have N:(k:Int)<(n:Int):=by omega
   have i2:(0:Int)<=(k:Int):=by omega
   have O:IntKind.i64.wrap ((k:Int)+1)=(k:Int)+1:=IntWalk.i64_in _ (by have:=s.out.2.1;omega);generalize f x=G at *;have b:=zh (zi o (zi u i));have B:=zh (zi r m);have y:=zh cl;clear r m hx d o hk u a i cl;cases G
   ·go_wp2_with (go_at_call 105;go_fit y.out;rintro e J ⟨rfl,c⟩);go_roundg (n-(k+1))
    case measure=>have:=b.out.1;have:=b.out.2.1;omega
    case rel=>exact⟨b.out.2.2.trans (c.mono b.out.2.2.size),k+1,by push_cast;rfl,by have:=b.out.1;omega,rfl,B.out.1⟩
   ·go_wp2_with (go_at_call 105;go_fit y.out;rintro e J ⟨rfl,c⟩);go_ret;exact⟨⟨_,rfl,B.out.2 (by first|rfl|trivial)⟩,b.out.2.2.trans (c.mono b.out.2.2.size)⟩
theorem Zn6 (w:Yh) (v:Yi) (l:List Int) (f:Int->Bool) (b1 a:Nat) (h:Za7 w v l) (d:∀(w':Yh),Below w.heap.size w w'->∀k∈l,Calls Tryz.prog 105 #[Yd Yf k,Ye (Ya ⟨b1,0,Yb⟩),Ye (Ya ⟨a,0,Yb⟩)] w' fun e w2=>e=.returned (.bool (f k))/\Below w'.heap.size w' w2) :
  Calls Tryz.prog 104 #[v,.func (.func 105) #[] #[Ye (Ya ⟨b1,0,Yb⟩),Ye (Ya ⟨a,0,Yb⟩)]] w fun e w'=>e=.returned (.bool (l.any f))/\Below w.heap.size w w':=by
 have i:=Zma w v l f b1 a h d;clear h d;generalize l.any f=B at *;have j:=zh i;clear i;go_enter Tryz.func104,Tryz.ntmps104;go_wp2_with (go_at_call 124;go_fit j.out;rintro e m ⟨⟨z,rfl,g⟩,c⟩;have b:=zh (zi g c);clear g c);go_ret;exact⟨by rw[<-b.out.1];rfl,b.out.2⟩
theorem Zrh {ns:List Nd} {a:List Int} {f:Int->Bool}:(!a.any fun k=>!f (Zs ns k))=Zat ns a f:=by unfold Zat;rw[List.all_eq_not_any_not]
theorem Zmg (w:Yh) (v p u:Yi) (ns:List Nd) (d:List Int) (t:Tst) (j:Zi w v ns) (z:Za7 w p d) (m:Za8 w t u) (hk:ZaB d ns.length) :
  Calls Tryz.prog 74 #[v,p,u] w fun e w'=>e=.returned (.bool (Zat ns d t.f))/\Below w.heap.size w w':=by
 have C:∀(y:Fn) (first b:Array Yi) (w:Yh),(Instr.makeFunc y first b).run Tryz.prog w=.ok (.func y first b) w:=fun _ _ _ _=>rfl;obtain⟨A,c,rfl⟩:∃A c,v=Yc A ns.length c:=by obtain⟨A,c,_,e,_⟩:=j;exact⟨A,c,e⟩
 have i:=below_alloc1 w (Yg #[Yc A ns.length c] 22);have a2:=below_alloc1 (w.alloc (Yg #[Yc A ns.length c] 22)) (Yg #[u] 61);have a:=i.trans (a2.mono i.size);have q:=(Blk.start w #[Yc A ns.length c] 22).keep a2;have g:=Blk.start (w.alloc (Yg #[Yc A ns.length c] 22)) #[u] 61;rw[World.size_alloc]at g;have s:=Zn6 _ p d (fun k=>!t.f (Zs ns k)) (w.heap.size+1) w.heap.size (z.below a) (fun w' l k hm=>Zp5 _ t u (w.heap.size+1) w.heap.size A c ns (m.below a) g q (j.below a) w' l k (hk k hm));rw[<-Zrh];generalize d.any (fun k=>!t.f (Zs ns k))=B at *;have h:=zh s;have r:=zh a;clear s a i a2 g q j z hk;obtain⟨f,b,o,_⟩:=Zlm m;subst o;clear m;generalize ns.length=n at *;go_enter Tryz.func74,Tryz.ntmps74;go_wp2_with (go_at_call 104;go_fit h.out;rintro e D ⟨rfl,l⟩);go_ret;exact⟨rfl,r.out.trans (l.mono r.out.size)⟩
end Go.Proofs.YtdkegpkfjgloeaaGreatDoor
