import Derived.Deep.DeepFit
import Derived.Test.YtbfnnolakggbfaaGreatDoorQAF
set_option maxRecDepth 100000
set_option maxHeartbeats 8000000
open Option renaming some → Ya, none → Yb
open Go.Value renaming slice → Yc, int → Yd
open Go.IntKind renaming i64 → Yf
open Go renaming World → Yh, Value → Yi
open Go.RowKit
namespace Go.Proofs.YtbfnnolakggbfaaGreatDoor
theorem ZhM (w:Yh) (b:Bool):(w.alloc (.cells #[.bool b] 4)).ownsRow w.heap.size 4 1 (Yc (Ya ⟨w.heap.size,0,Yb⟩) 1 1) 1 [.bool b]:=
 ⟨rfl,.inr ⟨w.heap.size,1,#[.bool b],rfl,Nat.le_refl _,heap_alloc_new w _,Nat.le_refl _,by decide,rfl,rfl⟩⟩
theorem Zge {w:Yh} {base:Nat} {v:Yi} {b:Bool} {l:List Bool} (h:w.ownsRow base 4 1 v (1+l.length) ([.bool b]++l.map Value.bool)):Zi w v (b::l):=by refine ZhN (base:=base) ?_;rw[List.length_cons,List.map_cons,Nat.add_comm];exact h
theorem ZdB {w0 w c:Yh} {b:Bool} (a:Below w0.heap.size w0 w) (d:(w.alloc (.cells #[.bool b] 4)).grownBy c (Value.slice (Ya ⟨w.heap.size,0,Yb⟩) 1 1).ownBlock):Below w0.heap.size w0 c:=by
 refine(a.alloc a.size _).grown d ?_ ?_
 ·have:=a.size;simp;omega
 ·intro k f;have:=a.size;have e:w.heap.size=k:=by simpa[Value.ownBlock]using f
  omega
theorem Zi4 (b:Bool) (n:Nat):Zg (b::bitsOf n)=b.toNat+2*n:=by rw[Zg,Zab]
theorem Zj4 {n k c:Nat} (h:(bitsOf n).length<=k) (hc:c<=1):(bitsOf (c+2*n)).length<=k+1:=by have a:=Zca (bitsOf n);rw[Zab]at a;have b:=Nat.pow_le_pow_right (show 0<2 by decide) h;exact ZbG _ _ (by rw[Nat.pow_succ];omega)
def ZrF (a:Nat) (lb:List Bool) (w:Yh) (g:Nat) (v5 b:Yi) (wr:Yh):Prop:=∃(k p:Nat) (z:Int),k<=lb.length/\g=k/\z=(k:Int)-1/\b=Yd Yf z/\p=a*Zg (lb.drop k)/\Zi wr v5 (bitsOf p)/\Below w.heap.size w wr/\Zp w.heap.size v5
theorem Zo8 {a k:Nat} {lb:List Bool} {p:Nat} (b:p=a*Zg (lb.drop (k+1))):a*Zg (lb.drop k)=2*p+(Zad lb k).toNat*a:=by rw[ZbN,b,Nat.mul_add,Nat.mul_comm a (Zad lb k).toNat,Nat.add_comm,<-Nat.mul_assoc,<-Nat.mul_assoc,Nat.mul_comm a 2]
theorem Zfj {a:Nat} {lb:List Bool} {k p:Nat} (d:p=a*Zg (lb.drop k)) (n:Nat) (h:(bitsOf a).length+lb.length<=n):(bitsOf p).length<=n-k/\(bitsOf p).length<=n:=by
 have b:=Zca (bitsOf a);rw[Zab]at b;have c:=Zca (lb.drop k);rw[List.length_drop]at c;by_cases f:k<=lb.length
 ·have:p<2 ^ (n-k):=by have e:2 ^ ((bitsOf a).length+(lb.length-k))<=2 ^ (n-k):=Nat.pow_le_pow_right (by decide) (by omega);rw[Nat.pow_add]at e;have:=Nat.mul_lt_mul'' b c;omega
  have:=ZbG p (n-k) this;omega
 ·have:p=0:=by rw[d,List.drop_eq_nil_of_le (by omega)];rfl
  rw[this,ZaM];simp
theorem ZdY (w:Yh) (x y:Yi) (a b:Nat) (hx:Zi w x (bitsOf a)) (hy:Zi w y (bitsOf b)) (r:(bitsOf a).length+(bitsOf b).length<=290) :
  Calls Tryz.prog 86 #[x,y] w (ZfJ w (bitsOf (a*b))):=by
 obtain⟨i0,hi,Z,aa,ab⟩:=info_parts ZiZ;have nb:Zg (bitsOf b)=b:=Zab b;have ky:=fun(wr:Yh) (hw:Below w.heap.size w wr)=>hy.below hw;obtain⟨B,d,rfl,k2,k3,H⟩:=hy;obtain⟨I,F⟩:∃I,I=bitsOf b:=⟨_,rfl⟩
 rw[<-F]at ky k2 H r nb⊢;obtain⟨m,hm⟩:∃m,m=I.length:=⟨_,rfl⟩
 rw[<-hm]at ky k2 H⊢;have ay:m<=290:=by omega
 have o:=Lib.hid (And.intro nb (And.intro hm r));have HX:=Lib.hid hx;have HC:=Lib.hid (And.intro k2 k3);clear nb hm F hx r k2 k3 ky;go_enter Tryz.func86,Tryz.ntmps86;go_wp2_with fail;go_loopg [5,6] m (fun g v5 v6 wr=>ZrF a I w g v5 v6 wr)
 case atStart=>exact⟨m,0,_,by rw[o.out.2.1];exact Nat.le_refl _,rfl,rfl,by go_num,by rw[List.drop_eq_nil_of_le (Nat.le_of_eq o.out.2.1.symm)];rfl,by rw[ZaM];exact Zi.nil w,Below.refl _ _,Zp.none_ _ _ _⟩
 case round=>
  obtain⟨k,p,z,T,S,Y,rfl,C,n,f,R⟩:=hrel;have K:=Lib.hid (And.intro T (And.intro S C));have l:=Zfj C 290 o.out.2.2;by_cases t:k=0
  ·obtain rfl:z=-1:=by omega
   have U:p=a*b:=by rw[C,t,List.drop_zero,o.out.1]
   subst U;clear T S Y C t l;go_wp2_with fail;go_ret;exact⟨_,rfl,n,f,R⟩
  ·obtain⟨j,rfl⟩:∃j,k=j+1:=⟨k-1,by omega⟩
   obtain rfl:z=(j:Int):=by omega
   have s:j<m:=by have:=o.out.2.1;omega
   have v:=Zo8 C;obtain⟨bd,rfl,c2⟩:=Zi.bit o.out.2.1.symm H s;have wj:IntKind.i64.wrap ((j:Int)-1)=(j:Int)-1:=IntWalk.i64_in _ (by omega);have i1:(j:Int)<(m:Int):=by omega
   have i2:(0:Int)<=(j:Int):=by omega
   have i3:decide ((0:Int)<=(j:Int))=true:=decide_eq_true i2;obtain⟨O,D⟩:∃O,O=Zad I j:=⟨_,rfl⟩
   rw[<-D]at v c2;obtain⟨A,c,rfl,h2,h3,h4⟩:=n;have NX:=Lib.hid v;have N:=Lib.hid (And.intro l s);have H3:=Lib.hid (And.intro h2 h3);have HZ:=Lib.hid Y;clear v C t T S l s D Y h2 h3;go_wp2_with (at_builtin;refine Zj _ rfl _ _ 87 rfl wr.heap.size 4 i0 (.bool false) 1 1 Tryz.underlying87 hi Z aa ab rfl (by decide) _ 1 [.bool false] rfl (ZhM wr false) wr.heap.size A _ c _ rfl (h4.alloc (Nat.le_refl _) _) ?c2 ?c3 ?c4 ?c5 ?_)
   case c2=>
    intro u hu;obtain⟨q,_,rfl⟩:=List.mem_map.1 hu;rfl
   case c3=>have:=N.out;unfold maxLen;omega
   case c4=>have:=N.out;omega
   case c5=>simp
   intro v' w1 h i _;have M:=ZdB f i;have n1:=Zge h;have f1:=Zp.mono (Zc1 h) f.size;have L:=Lib.hid M;have G:=Ze8 w1 v' _ n1;rw[Zi4]at G;have c3:=(M.cell (p:=bd.add j) (by obtain⟨_,e,hb,_⟩:=H.2 (by omega);injection e with e;subst e;rw[ZJ];exact hb)).trans c2;have X:=HX.out.below M;clear h i f n1 h4 M c2 H;have E:(bitsOf (2*p)).length<=291/\(bitsOf a).length<=290:=by refine⟨?_,by have:=o.out;omega⟩;have:=Zj4 (c:=0) N.out.1.2 (by omega);rwa[Nat.zero_add]at this
   cases O
   ·have e0:false.toNat+2*p=2*p+false.toNat*a:=by simp
    rw[e0,<-NX.out]at G;go_wp2_with (go_at_call 133;go_fit G;rintro e w' ⟨J,rfl,V,rfl,ho⟩);go_roundg j
    case measure=>have:=K.out;omega
    case rel=>exact⟨j,_,_,by have:=K.out;omega,rfl,rfl,rfl,rfl,V,L.out,f1.of_eq ho⟩
   ·rw[Bool.toNat_false,Nat.zero_add]at G
    go_wp2_with (first
     |(go_at_call 133;go_fit G;rintro e w' ⟨J,rfl,V,rfl,ho⟩;have ha:=Zjp w1 J x (2*p) a V X (by have:=E;omega) (by have:=E;omega))
     |(go_at_call 93;go_fit ha;rintro e w' ⟨v3,rfl,W,P,Q⟩))
    go_roundg j
    case measure=>have:=K.out;omega
    case rel=>
     refine⟨j,_,_,by have:=K.out;omega,rfl,rfl,rfl,rfl,?_,(L.out.trans (P.mono L.out.size)),Q.mono L.out.size⟩;rw[NX.out,Bool.toNat_true,Nat.one_mul];exact W
theorem Zi.drewN {w:Yh} {v:Yi} {l:List Bool} (h:Zi w v l) (n:Nat):Zi (w.drewN n) v l:=h
theorem Below.drewN_ {B:Nat} {a w:Yh} (h:Below B a w) (n:Nat):Below B a (w.drewN n):=⟨h.os,h.tape,h.output,h.size,h.block⟩
def ZrL (w:Yh) (p q:Nat) (e:Ending) (w':Yh):Prop:=∃v u,e=.returned (.tuple #[v,u])/\Zi w' v (bitsOf p)/\Zi w' u (bitsOf q)/\Below w.heap.size w w'/\Zp w.heap.size v/\Zp w.heap.size u
def ZrC (a:List Bool) (b:Nat) (w:Yh) (g:Nat) (c d e:Yi) (wr:Yh):Prop:=∃(k p r:Nat) (z:Int) (l:List Bool),k<=a.length/\g=k/\z=(k:Int)-1/\e=Yd Yf z ∧
 p=Zg (a.drop k)/\r=p % b/\l.length+k=a.length/\Zg l=p / b/\Zi wr c l/\Zi wr d (bitsOf r)/\Below w.heap.size w wr/\Zp w.heap.size c/\Zp w.heap.size d
theorem ZoL {b p r c t q:Nat} (a:0<b) (f:r=p % b) (hq:q=p / b) (hc:c<=1) (g:t=c+2*r) :
  (t<b->(c+2*p) % b=t/\(c+2*p) / b=2*q)/\(b<=t->(c+2*p) % b=t-b/\(c+2*p) / b=1+2*q):=by
 have i:=Nat.div_add_mod p b;have j:=Nat.mod_lt p a;have e:c+2*p=b*(2*q)+t:=by rw[g,hq,f,Nat.mul_left_comm];omega
 refine⟨fun h=>?_,fun h=>?_⟩
 ·rw[e,Nat.mul_add_mod,Nat.mod_eq_of_lt h,Nat.mul_add_div a,Nat.div_eq_of_lt h];exact⟨rfl,rfl⟩
 ·have d:t-b<b:=by omega
  rw[e,show b*(2*q)+t=b*(1+2*q)+(t-b)by rw[Nat.mul_add];omega,Nat.mul_add_mod,Nat.mod_eq_of_lt d,Nat.mul_add_div a,Nat.div_eq_of_lt d];exact⟨rfl,rfl⟩
theorem Zhd {n m:Nat} (h:n<=m):(bitsOf n).length<=(bitsOf m).length:=by have a:=Zca (bitsOf m);rw[Zab]at a;exact ZbG _ _ (by omega)
theorem Zju (w:Yh) (x y:Yi) (a b:Nat) (hx:Zi w x (bitsOf a)) (hy:Zi w y (bitsOf b)) (ha:(bitsOf a).length<=298) (Z:(bitsOf b).length<=298) (aa:0<b) :
  Calls Tryz.prog 92 #[x,y] w (ZrL w (a / b) (a % b)):=by
 obtain⟨i0,hi,S,T,U⟩:=info_parts ZiZ;have HY:=Lib.hid hy;have na:Zg (bitsOf a)=a:=Zab a;obtain⟨A,d,rfl,k2,k3,k4⟩:=hx;obtain⟨B,e,rfl,_,_,_⟩:=hy;obtain⟨V,ae⟩:∃V,V=bitsOf a:=⟨_,rfl⟩
 rw[<-ae]at k2 k4 ha na⊢;obtain⟨n,hn⟩:∃n,n=V.length:=⟨_,rfl⟩
 obtain⟨m,hm⟩:∃m,m=(bitsOf b).length:=⟨_,rfl⟩
 rw[<-hn]at k2 k4 ha⊢;rw[<-hm]at HY Z⊢;have af:0<m:=by rw[hm,Zbz (by omega),List.length_cons];omega
 have e0:((m:Int)==0)=false:=by simp;omega
 have E:=Lib.hid (And.intro na (And.intro hn (And.intro hm aa)));have W:=Lib.hid (And.intro ha (And.intro Z af));clear k2 k3 na ae hn hm ha Z aa af;go_enter Tryz.func92,Tryz.ntmps92;go_wp2_with fail;go_loopg [6,7,8,9] n (fun g v6 v7 v8 v9 wr=>ZrC V b w g v6 v7 v8 wr)
 case atStart=>
  have e2:=W.out.1;have hw:wrap64 ((n:Int)-1)=(n:Int)-1:=IntWalk.wrap64_in _ (by omega);have e:=E.out.2.1;refine⟨n,0,0,_,[],Nat.le_of_eq e,rfl,rfl,by first|rw[hw]|exact congrArg (Value.int Yf) hw,by rw[List.drop_eq_nil_of_le (Nat.le_of_eq e.symm)];rfl,by simp,by simpa using e,by simp[Zg],Zi.nil w,by rw[ZaM];exact Zi.nil w,Below.refl _ _,Zp.none_ _ _ _,Zp.none_ _ _ _⟩
 case round=>
  obtain⟨k,p,r,z,l,hk,hg,hz,rfl,hp,hr,hl,hq,nq,nr,i,fq,fr⟩:=hrel;have HK:=Lib.hid (And.intro hk (And.intro hg (And.intro hp (And.intro hr (And.intro hl hq)))));by_cases M:k=0
  ·obtain rfl:z=-1:=by omega
   have N:p=a:=by rw[hp,M,List.drop_zero,E.out.1]
   have s:=Ze8 wr _ l nq;rw[hq,N]at s;rw[hr,N]at nr;clear hk hg hz hp M hr hl hq N;go_wp2_with (go_at_call 133;go_fit s;rintro e w' ⟨v',rfl,P,rfl,ho⟩);exact bodyPost_ret (v:=.tuple #[v',_]) (by simp[results,Tryz.results92,go_sem]) rfl ⟨_,_,rfl,P,nr,i,fq.of_eq ho,fr⟩
  ·obtain⟨j,rfl⟩:∃j,k=j+1:=⟨k-1,by omega⟩
   obtain rfl:z=(j:Int):=by omega
   have L:j<n:=by have:=E.out.2.1;omega
   obtain⟨bd,rfl,c2⟩:=Zi.bit E.out.2.1.symm k4 L;have wj:IntKind.i64.wrap ((j:Int)-1)=(j:Int)-1:=IntWalk.i64_in _ (by have:=W.out;omega);have i1:(j:Int)<(n:Int):=by omega
   have i2:(0:Int)<=(j:Int):=by omega
   have i3:decide ((0:Int)<=(j:Int))=true:=decide_eq_true i2;have F:=ZbN V j;rw[<-hp]at F;obtain⟨J,ab⟩:∃J,J=Zad V j:=⟨_,rfl⟩
   rw[<-ab]at F c2;obtain⟨t,s⟩:∃t,t=J.toNat+2*r:=⟨_,rfl⟩
   have step:=ZoL E.out.2.2.2 hr hq (ZcM J) s;rw[<-F]at step;have O:(bitsOf r).length<=298:=by have:=Nat.mod_lt p E.out.2.2.2;have:=Zhd (n:=r) (m:=b) (by omega);have:=W.out;have:=E.out;omega
   have ai:(bitsOf t).length<=299:=by rw[s];exact Zj4 O (ZcM J)
   have ST:=Lib.hid step;have c3:wr.cell? (bd.add j)=Ya (.bool J):=(i.cell (p:=bd.add j) (by obtain⟨_,e,Z,_⟩:=k4.2 (by omega);injection e with e;subst e;rw[ZJ];exact Z)).trans c2;have ad:l.length<=298:=by have:=E.out.2.1;have:=W.out;omega
   obtain⟨C,c,rfl,h2,h3,h4⟩:=nr;obtain⟨Q,qc,rfl,m2,m3,m4⟩:=nq;have H:=Lib.hid (And.intro O (And.intro ai (And.intro L (And.intro s ad))));have aj:=HY.out;clear hk hg hz hp M hr hl hq F ab step c2 O ai L s ad;go_wp2_with (at_builtin;refine Zj _ rfl _ _ 87 rfl wr.heap.size 4 i0 (.bool false) 1 1 Tryz.underlying87 hi S T U rfl (by decide) _ 1 [.bool J] rfl (ZhM wr J) wr.heap.size C _ c _ rfl (h4.alloc (Nat.le_refl _) _) ?c2 ?c3 ?c4 ?c5 ?_)
   case c2=>
    intro u hu;obtain⟨q,_,rfl⟩:=List.mem_map.1 hu;rfl
   case c3=>have:=H.out;unfold maxLen;omega
   case c4=>have:=H.out;omega
   case c5=>simp
   intro v' o f h _;have b1:=ZdB i h;have bq:Below wr.heap.size wr o:=ZdB (Below.refl _ _) h;have n1:=Zge f;have f1:=Zp.mono (Zc1 f) i.size;have m5:=(m4.below bq).more bq.size;have ak:Zi o (Yc B m e) (bitsOf b):=aj.below b1;have K:=Lib.hid b1;have s:=Ze8 o v' _ n1;rw[Zi4,<-H.out.2.2.2.1]at s;clear f h i n1 h4 b1 m4 c3 aj;have G:=fun(u:Yi) (hu:Zi o u (bitsOf t))=>Ziw o u (Yc B m e) t b hu ak;by_cases D:t<b
   ·have hd:decide (t<b)=true:=decide_eq_true D;rw[hd]at G;have X:=Lib.hid (ST.out.1 D);clear D hd
    go_wp2_with (first
     |(go_at_call 133;go_fit s;rintro e w' ⟨bf,rfl,P,rfl,ho⟩)
     |(go_at_call 131;go_fit (G _ P);rintro e w' ⟨rfl,q,rfl⟩)
     |(at_builtin;refine Zj _ rfl _ _ 87 rfl o.heap.size 4 i0 (.bool false) 1 1 Tryz.underlying87 hi S T U rfl (by decide) _ 1 [.bool false] rfl (ZhM (o.drewN q) false) o.heap.size Q _ qc _ rfl (m5.alloc (Nat.le_refl _) _) ?c2 ?c3 ?c4 ?c5 ?_))
    case c2=>
     intro u hu;obtain⟨q,_,rfl⟩:=List.mem_map.1 hu;rfl
    case c3=>have:=H.out;unfold maxLen;omega
    case c4=>have:=H.out;omega
    case c5=>simp
    intro v3 w3 f h _;have Y:=ZdB (w0:=o) (Go.Proofs.YtbfnnolakggbfaaGreatDoor.Below.drewN_ (Below.refl _ _) q) h;have n3:=Zge f;have f3:=Zp.mono (Zc1 f) K.out.size;have R:=P.below Y;have b4:=K.out.trans (Y.mono K.out.size);clear f h m5;go_wp2_with fail;go_roundg j
    case measure=>have:=HK.out;omega
    case rel=>
     have:=HK.out;exact⟨j,_,_,_,false::l,by omega,rfl,rfl,rfl,rfl,rfl,by rw[List.length_cons];omega,by rw[Zg,X.out.2];simp,n3,by rw[X.out.1];exact R,b4,f3,f1.of_eq ho⟩
   ·have hd:decide (t<b)=false:=decide_eq_false D;rw[hd]at G;have X:=Lib.hid (ST.out.2 (by omega));have a7:=fun(u:Yi) (q:Nat) (hu:Zi o u (bitsOf t))=>ZjK (o.drewN q) u (Yc B m e) t b (hu.drewN q) (ak.drewN q) (by have:=H.out;omega) (by have:=W.out;have:=E.out;omega) (by omega);clear D hd
    go_wp2_with (first
     |(go_at_call 133;go_fit s;rintro e w' ⟨bf,rfl,P,rfl,ho⟩)
     |(go_at_call 131;go_fit (G _ P);rintro e w' ⟨rfl,q,rfl⟩)
     |(go_at_call 132;go_fit (a7 _ q P);rintro e w2 ⟨v2,rfl,a8,I,fs⟩;have m6:=(m5.drewN q|>.below I).more I.size)
     |(at_builtin;refine Zj _ rfl _ _ 87 rfl w2.heap.size 4 i0 (.bool false) 1 1 Tryz.underlying87 hi S T U rfl (by decide) _ 1 [.bool true] rfl (ZhM w2 true) w2.heap.size Q _ qc _ rfl (m6.alloc (Nat.le_refl _) _) ?c2 ?c3 ?c4 ?c5 ?_))
    case c2=>
     intro u hu;obtain⟨q,_,rfl⟩:=List.mem_map.1 hu;rfl
    case c3=>have:=H.out;unfold maxLen;omega
    case c4=>have:=H.out;omega
    case c5=>simp
    intro v3 w3 f h _;have Y:=ZdB (w0:=w2) (Below.refl _ _) h;have n3:=Zge f;have f3:=Zp.mono (Zc1 f) (Nat.le_trans K.out.size I.size);have R:=a8.below Y;have b5:Below o.heap.size o w2:=⟨I.os,I.tape,I.output,I.size,I.block⟩
    have b4:=K.out.trans ((b5.trans (Y.mono b5.size)).mono K.out.size);clear f h m5 m6;go_wp2_with fail;go_roundg j
    case measure=>have:=HK.out;omega
    case rel=>
     have:=HK.out;exact⟨j,_,_,_,true::l,by omega,rfl,rfl,rfl,rfl,rfl,by rw[List.length_cons];omega,by rw[Zg,X.out.2];simp,n3,by rw[X.out.1];exact R,b4,f3,fs.mono K.out.size⟩
theorem Zj7 {n k:Nat} (h:(bitsOf n).length<=k):n<2 ^ k:=by have a:=Zca (bitsOf n);rw[Zab]at a;have b:=Nat.pow_le_pow_right (show 0<2 by decide) h;omega
def Zq0 (B:Nat) (w:Yh) (l:List Bool) (e:Ending) (w':Yh):Prop:=∃a,e=.returned a/\Zi w' a l/\Below w.heap.size w w'/\Zp B a
def ZrB (B a b:Nat) (w:Yh) (g:Nat) (v0 c:Yi) (wr:Yh):Prop:=∃p q:Nat,g=q/\(bitsOf p).length<=298/\(bitsOf q).length<=298/\Nat.gcd p q=Nat.gcd a b ∧
 Zi wr v0 (bitsOf p)/\Zi wr c (bitsOf q)/\Below w.heap.size w wr/\Zp B v0/\Zp B c
theorem ZiR (w:Yh) (x y:Yi) (a b:Nat) (J:Zi w x (bitsOf a)) (K:Zi w y (bitsOf b)) (H:(bitsOf a).length<=298) (j:(bitsOf b).length<=298) (B:Nat) (G:B<=w.heap.size) (E:Zp B x) (F:Zp B y) :
  Calls Tryz.prog 58 #[x,y] w (Zq0 B w (bitsOf (Nat.gcd a b))):=by
 have r:=Lib.hid (And.intro J (And.intro K (And.intro H j)));have C:=Lib.hid (And.intro G (And.intro E F));clear J K H j G E F;go_enter Tryz.func58,Tryz.ntmps58;go_wp2_with fail;go_loopg [0,1,5,6] b (fun g v0 Q v5 V wr=>ZrB B a b w g v0 Q wr)
 case atStart=>exact⟨a,b,rfl,r.out.2.2.1,r.out.2.2.2,rfl,r.out.1,r.out.2.1,Below.refl _ _,C.out.2⟩
 case round=>
  obtain⟨p,q,u,v,hq,f,z,o,c,L,M⟩:=hrel;by_cases i:q=0
  ·subst i;have h:p=Nat.gcd a b:=by rw[<-f,Nat.gcd_zero_right]
   rw[ZaM]at o;rw[h]at z;obtain⟨A,d,rfl,_,_,_⟩:=o;clear u v hq f h;go_wp2_with fail;go_ret;exact⟨_,rfl,z,c,L⟩
  ·have O:=Zju _ _ _ p q z o v hq (by omega);have k:Nat.gcd q (p % q)=Nat.gcd a b:=by rw[<-f,Nat.gcd_comm p q,Nat.gcd_rec q p,Nat.gcd_comm]
   have I:=Zhd (n:=p % q) (m:=q) (Nat.le_of_lt (Nat.mod_lt _ (by omega)));have l:=Nat.mod_lt p (show 0<q by omega);have P:(0:Int)<((bitsOf q).length:Int):=by rw[Zbz i,List.length_cons];omega
   have s:=Lib.hid (And.intro u (And.intro hq (And.intro k (And.intro I l))));have D:=Lib.hid (And.intro o M);obtain⟨A,d,rfl,_,_,_⟩:=o;have t:=Lib.hid c;clear u v hq f k I l i c;generalize hm:(bitsOf q).length=m at *;go_wp2_with (go_at_call 92;go_fit O;rintro e W ⟨U,T,rfl,S,hu,j,R,N⟩);go_roundg (p % q)
   case measure=>have:=s.out;omega
   case rel=>
    have:=s.out;exact⟨q,p % q,rfl,by omega,by omega,s.out.2.2.1,D.out.1.below j,hu,t.out.trans (j.mono t.out.size),D.out.2,N.mono (Nat.le_trans C.out.1 t.out.size)⟩
def ZrM (l:List Bool) (w:Yh) (g:Nat) (v4 v5:Yi) (wr:Yh):Prop:=∃(k p:Nat) (z:Int),k<=l.length/\g=k/\z=(k:Int)-1/\v5=Yd Yf z/\v4=Yd Yf p/\p=Zg (l.drop k)/\w=wr
theorem ZgL (l:List Bool) (k:Nat) (h:l.length<=63):Zg (l.drop k)<9223372036854775808:=by
 have a:=Zca (l.drop k);have b:=Nat.pow_le_pow_right (show 0<2 by decide) (show(l.drop k).length<=63 by rw[List.length_drop];omega);have c:(2:Nat) ^ 63=9223372036854775808:=by decide
 omega
def ZfF (a:Nat):Yi:=if a<9223372036854775808 then .tuple #[Yd Yf a,.bool true]else .tuple #[Yd Yf 0,.bool false]
theorem ZkE (w:Yh) (x:Yi) (a:Nat) (N:Zi w x (bitsOf a)) (y:(bitsOf a).length<=298) :
  Calls Tryz.prog 130 #[x] w fun e w'=>e=.returned (ZfF a)/\w=w':=by
 have t:Zg (bitsOf a)=a:=Zab a;obtain⟨A,d,rfl,u,F,G⟩:=N;obtain⟨l,B⟩:∃l,l=bitsOf a:=⟨_,rfl⟩
 rw[<-B]at u G y t⊢;obtain⟨n,C⟩:∃n,n=l.length:=⟨_,rfl⟩
 rw[<-C]at u G y⊢;by_cases r:n<=63
 ·have c:ZfF a=.tuple #[Yd Yf a,.bool true]:=by have:=ZgL l 0 (by omega);rw[List.drop_zero,t]at this;exact if_pos this
  rw[c];have m:=Lib.hid (And.intro t (And.intro C r));have M:¬((n:Int) > 63):=by omega
  have L:decide ((63:Int)<(n:Int))=false:=decide_eq_false (by omega);clear t B C u F y c;go_enter Tryz.func130,Tryz.ntmps130;go_wp2_with fail;go_loopg [4,5] n (fun g v4 v5 wr=>ZrM l w g v4 v5 wr)
  case atStart=>exact⟨n,0,_,by rw[m.out.2.1];exact Nat.le_refl _,rfl,rfl,by go_num,rfl,by rw[List.drop_eq_nil_of_le (Nat.le_of_eq m.out.2.1.symm)];rfl,rfl⟩
  case round=>
   obtain⟨k,p,z,J,H,K,rfl,rfl,D,rfl⟩:=hrel;by_cases i:k=0
   ·obtain rfl:z=-1:=by omega
    obtain rfl:p=a:=by rw[D,i,List.drop_zero,m.out.1]
    clear J H K D i;go_wp2_with fail;exact bodyPost_ret (v:=.tuple #[Yd Yf p,.bool true]) (by simp[results,Tryz.results130,go_sem]) rfl ⟨rfl,rfl⟩
   ·obtain⟨j,rfl⟩:∃j,k=j+1:=⟨k-1,by omega⟩
    obtain rfl:z=(j:Int):=by omega
    have I:j<n:=by have:=m.out.2.1;omega
    obtain⟨P,rfl,c2⟩:=Zi.bit m.out.2.1.symm G I;have R:IntKind.i64.wrap ((j:Int)-1)=(j:Int)-1:=IntWalk.i64_in _ (by omega);have i1:(j:Int)<(n:Int):=by omega
    have i2:(0:Int)<=(j:Int):=by omega
    have i3:decide ((0:Int)<=(j:Int))=true:=decide_eq_true i2;have b:=ZbN l j;have f:=ZgL l j (by have:=m.out;omega);rw[<-D]at b;obtain⟨E,s⟩:∃E,E=Zad l j:=⟨_,rfl⟩
    rw[<-s]at b c2;have o:=Lib.hid (And.intro b (And.intro H J));rw[b]at f;have Q:IntKind.i64.wrap (2*(p:Int))=((2*p:Nat):Int):=by rw[IntWalk.i64_in _ (by omega)];omega
    clear b s H J i K D;cases E
    ·clear f;go_wp2_with fail;go_roundg j
     case measure=>have:=o.out;omega
     case rel=>exact⟨j,2*p,_,by have:=o.out;omega,rfl,rfl,rfl,rfl,by rw[o.out.1];simp,rfl⟩
    ·have O:wrap64 (2*(p:Int)+1)=((1+2*p:Nat):Int):=by rw[Bool.toNat_true]at f;rw[IntWalk.wrap64_in _ (by omega)];omega
     clear f;go_wp2_with fail;go_roundg j
     case measure=>have:=o.out;omega
     case rel=>exact⟨j,1+2*p,_,by have:=o.out;omega,rfl,rfl,rfl,by rw[O],by rw[o.out.1];simp,rfl⟩
 ·have c:ZfF a=.tuple #[Yd Yf 0,.bool false]:=by refine if_neg fun h=>?_;have:=ZbG a 63 (by have F:(2:Nat) ^ 63=9223372036854775808:=(by decide);omega);rw[<-B]at this;omega
  rw[c];have L:decide ((63:Int)<(n:Int))=true:=decide_eq_true (by omega);clear t B C u F y c r;go_enter Tryz.func130,Tryz.ntmps130;go_wp2_with fail;exact bodyPost_ret (v:=.tuple #[Yd Yf 0,.bool false]) (by simp[results,Tryz.results130,go_sem]) rfl ⟨rfl,rfl⟩
theorem Zhc {n:Nat} (h:n<18446744073709551616):(bitsOf n).length<=64:=ZbG n 64 h
theorem Zfq (n:Int) (w:Yh) (o:-9223372036854775808<=n) (p:n<=9223372036854775807) :
  Calls Tryz.prog 59 #[Yd Yf n] w (ZfJ w (bitsOf n.natAbs)):=by
 by_cases h:n<0
 ·obtain⟨m,hm⟩:∃m:Nat,n=-(m:Int)-1:=⟨(-(n+1)).toNat,by omega⟩
  have c:m<9223372036854775808:=by omega
  have r:n.natAbs=m+1:=by omega
  rw[r];subst hm;have I:wrap64 (-(m:Int))=-(m:Int):=IntWalk.wrap64_in _ (by omega);have J:wrap64 (m:Int)=(m:Int):=IntWalk.wrap64_in _ (by omega);have D:IntKind.u64.wrap (m:Int)=(m:Int):=by rw[IntWalk.u64_in _ (by omega)]
  have u:decide (-(m:Int)-1<0)=true:=decide_eq_true (by omega);have f:=ZlD m w (by omega);have y:∀d,Calls Tryz.prog 94 #[.int .u64 1] d (ZfJ d (bitsOf 1)):=fun d=>ZlD 1 d (by decide);have s:(bitsOf m).length<=64/\(bitsOf 1).length<=64:=⟨Zhc (by omega),Zhc (by decide)⟩
  clear o p h r c;go_enter Tryz.func59,Tryz.ntmps59
  go_wp2_with (first
   |(go_at_call 94;go_fit f;rintro e E ⟨B,rfl,j,b,_⟩;have z:=y E;clear f)
   |(go_at_call 94;go_fit z;rintro e F ⟨C,rfl,k,a,_⟩;have A:=Zjp F B C m 1 (j.below a) k (by have:=s;omega) (by have:=s;omega))
   |(go_at_call 93;go_fit A;rintro e wc ⟨H,rfl,l,g,i⟩))
  go_ret;exact⟨_,rfl,l,b.trans ((a.trans (g.mono a.size)).mono b.size),i.mono (Nat.le_trans b.size a.size)⟩
 ·obtain⟨m,rfl⟩:∃m:Nat,n=(m:Int):=⟨n.toNat,by omega⟩
  have c:m<9223372036854775808:=by omega
  rw[Int.natAbs_natCast];have D:IntKind.u64.wrap (m:Int)=(m:Int):=by rw[IntWalk.u64_in _ (by omega)]
  have u:decide ((m:Int)<0)=false:=decide_eq_false (by omega);have f:=ZlD m w (by omega);clear o p h c;go_enter Tryz.func59,Tryz.ntmps59;go_wp2_with (go_at_call 94;go_fit f;rintro e d ⟨G,rfl,x,t,v⟩);go_ret;exact⟨_,rfl,x,t,v⟩
def ZcT (w:Yh) (B:Nat) (v:Yi) (N D:Nat) (m:Bool):Prop:=∃b a,v=.agg #[b,a,.bool m]/\Zi w b (bitsOf N)/\Zi w a (bitsOf D)/\Zp B b/\Zp B a
theorem ZcT.below {w w':Yh} {B:Nat} {v:Yi} {N D:Nat} {m:Bool} (h:ZcT w B v N D m) (c:Below w.heap.size w w'):ZcT w' B v N D m:=by obtain⟨a,b,d,e,f,g⟩:=h;exact⟨a,b,d,e.below c,f.below c,g⟩
def Zjk (w:Yh) (N D:Nat) (m:Bool) (e:Ending) (w':Yh):Prop:=∃v,e=.returned v/\ZcT w' w.heap.size v N D m/\Below w.heap.size w w'
theorem Zi.drew {w:Yh} {v:Yi} {l:List Bool} (h:Zi w v l):Zi w.drew v l:=h
theorem Zi.setCell {w:Yh} {B:Nat} {v:Yi} {l:List Bool} (h:Zi w v l) (f:Zp B v) {p:Addr} (m:p.block<B) (x:Yi):Zi (w.setCell p x) v l:=by obtain⟨A,c,rfl,d,g,b⟩:=h;refine⟨A,c,rfl,d,g,b.1,fun k=>?_⟩;obtain⟨a,rfl,i,hc⟩:=b.2 k;have:=f a.block rfl;refine⟨a,rfl,by rw[World.size_setCell];exact i,fun j u hu=>?_⟩;rw[World.cell?_setCell_other _ _ _ _ (fun e=>by have:=congrArg Addr.block e;rw[ZJ]at this;omega)];exact hc j u hu
theorem Ze7 {w g f:Yh} {b:Nat} {x y z:Yi} {A B F:Prop} (e:f=((g.setCell ⟨b,0,Yb⟩ x).setCell ⟨b,1,Yb⟩ y).setCell ⟨b,2,Yb⟩ z)
  (h:A/\B/\Below w.heap.size w f/\(f.cell? ⟨b,0,Yb⟩=Ya (Zf f ⟨b,0,Yb⟩)/\f.cell? ⟨b,1,Yb⟩=Ya (Zf f ⟨b,1,Yb⟩)/\f.cell? ⟨b,2,Yb⟩=Ya (Zf f ⟨b,2,Yb⟩))/\F) :
  f.cell? ⟨b,0,Yb⟩=Ya x/\f.cell? ⟨b,1,Yb⟩=Ya y/\f.cell? ⟨b,2,Yb⟩=Ya z/\Below w.heap.size w f:=by
 obtain⟨_,_,k,⟨i0,i1,i2⟩,_⟩:=h;subst e;obtain⟨a,c,d⟩:=Zeo i0 i1 i2;exact⟨i0.trans (congrArg Ya a),i1.trans (congrArg Ya c),i2.trans (congrArg Ya d),k⟩
theorem Zo2 {w a b:Yh} {d e:Yi} (c:Below a.heap.size a b)
  (h:(a.cell? ⟨w.heap.size,0,Yb⟩=Ya d/\a.cell? ⟨w.heap.size,1,Yb⟩=Ya e)/\w.heap.size+1<a.heap.size/\Below w.heap.size w a/\(a.cell? ⟨w.heap.size+1,0,Yb⟩=Ya (Zf a ⟨w.heap.size+1,0,Yb⟩)/\a.cell? ⟨w.heap.size+1,1,Yb⟩=Ya (Zf a ⟨w.heap.size+1,1,Yb⟩)/\a.cell? ⟨w.heap.size+1,2,Yb⟩=Ya (Zf a ⟨w.heap.size+1,2,Yb⟩))/\(a.frozen? ⟨w.heap.size+1,0,Yb⟩=false/\a.frozen? ⟨w.heap.size+1,1,Yb⟩=false/\a.frozen? ⟨w.heap.size+1,2,Yb⟩=false)) :
  (b.cell? ⟨w.heap.size,0,Yb⟩=Ya d/\b.cell? ⟨w.heap.size,1,Yb⟩=Ya e)/\w.heap.size+1<b.heap.size/\Below w.heap.size w b/\(b.cell? ⟨w.heap.size+1,0,Yb⟩=Ya (Zf b ⟨w.heap.size+1,0,Yb⟩)/\b.cell? ⟨w.heap.size+1,1,Yb⟩=Ya (Zf b ⟨w.heap.size+1,1,Yb⟩)/\b.cell? ⟨w.heap.size+1,2,Yb⟩=Ya (Zf b ⟨w.heap.size+1,2,Yb⟩))/\(b.frozen? ⟨w.heap.size+1,0,Yb⟩=false/\b.frozen? ⟨w.heap.size+1,1,Yb⟩=false/\b.frozen? ⟨w.heap.size+1,2,Yb⟩=false):=by
 obtain⟨⟨a0,f⟩,g,k,⟨i0,i1,i2⟩,⟨j0,j1,j2⟩⟩:=h;have i:=c.size;exact⟨⟨Zd c (by omega) a0,Zd c (by omega) f⟩,by omega,k.trans (c.mono k.size),⟨ZH (Zd c (by omega) i0),ZH (Zd c (by omega) i1),ZH (Zd c (by omega) i2)⟩,⟨Zo c (by omega) j0,Zo c (by omega) j1,Zo c (by omega) j2⟩⟩
theorem Zho {w a:Yh} {d f:Yi} {o:Nat} {x:Yi}
  (h:(a.cell? ⟨w.heap.size,0,Yb⟩=Ya d/\a.cell? ⟨w.heap.size,1,Yb⟩=Ya f)/\w.heap.size+1<a.heap.size/\Below w.heap.size w a/\(a.cell? ⟨w.heap.size+1,0,Yb⟩=Ya (Zf a ⟨w.heap.size+1,0,Yb⟩)/\a.cell? ⟨w.heap.size+1,1,Yb⟩=Ya (Zf a ⟨w.heap.size+1,1,Yb⟩)/\a.cell? ⟨w.heap.size+1,2,Yb⟩=Ya (Zf a ⟨w.heap.size+1,2,Yb⟩))/\(a.frozen? ⟨w.heap.size+1,0,Yb⟩=false/\a.frozen? ⟨w.heap.size+1,1,Yb⟩=false/\a.frozen? ⟨w.heap.size+1,2,Yb⟩=false)) :
  ((a.setCell ⟨w.heap.size+1,o,Yb⟩ x).cell? ⟨w.heap.size,0,Yb⟩=Ya d/\(a.setCell ⟨w.heap.size+1,o,Yb⟩ x).cell? ⟨w.heap.size,1,Yb⟩=Ya f)/\w.heap.size+1<(a.setCell ⟨w.heap.size+1,o,Yb⟩ x).heap.size/\Below w.heap.size w (a.setCell ⟨w.heap.size+1,o,Yb⟩ x)/\((a.setCell ⟨w.heap.size+1,o,Yb⟩ x).cell? ⟨w.heap.size+1,0,Yb⟩=Ya (Zf (a.setCell ⟨w.heap.size+1,o,Yb⟩ x) ⟨w.heap.size+1,0,Yb⟩)/\(a.setCell ⟨w.heap.size+1,o,Yb⟩ x).cell? ⟨w.heap.size+1,1,Yb⟩=Ya (Zf (a.setCell ⟨w.heap.size+1,o,Yb⟩ x) ⟨w.heap.size+1,1,Yb⟩)/\(a.setCell ⟨w.heap.size+1,o,Yb⟩ x).cell? ⟨w.heap.size+1,2,Yb⟩=Ya (Zf (a.setCell ⟨w.heap.size+1,o,Yb⟩ x) ⟨w.heap.size+1,2,Yb⟩))/\((a.setCell ⟨w.heap.size+1,o,Yb⟩ x).frozen? ⟨w.heap.size+1,0,Yb⟩=false/\(a.setCell ⟨w.heap.size+1,o,Yb⟩ x).frozen? ⟨w.heap.size+1,1,Yb⟩=false/\(a.setCell ⟨w.heap.size+1,o,Yb⟩ x).frozen? ⟨w.heap.size+1,2,Yb⟩=false):=by
 obtain⟨⟨a0,i⟩,g,k,⟨i0,i1,i2⟩,⟨j0,j1,j2⟩⟩:=h;have q:∀b c,b≠w.heap.size+1->(a.setCell ⟨w.heap.size+1,o,Yb⟩ x).cell? ⟨b,c,Yb⟩=a.cell? ⟨b,c,Yb⟩:=fun b c j=>World.cell?_setCell_other _ _ _ _ (by intro e;injection e with e;exact j e.symm);exact⟨⟨(q _ _ (by omega)).trans a0,(q _ _ (by omega)).trans i⟩,by rw[World.size_setCell];exact g,k.setCell (by show w.heap.size<=w.heap.size+1;omega) _,⟨Zao i0,Zao i1,Zao i2⟩,⟨by rw[World.frozen?_setCell];exact j0,by rw[World.frozen?_setCell];exact j1,by rw[World.frozen?_setCell];exact j2⟩⟩
theorem Zcp (n d:Int) (w:Yh) (r:-9223372036854775808<=n) (s:n<=9223372036854775807) (t:-9223372036854775808<=d) (u:d<=9223372036854775807) :
  Calls Tryz.prog 83 #[Zb n d] w (Zjk w n.natAbs d.natAbs (decide (n<0))):=by
 have G:=fun w=>Zfq n w r s;have H:=fun w=>Zfq d w t u;clear r s t u;generalize n.natAbs=N at *;generalize d.natAbs=D at *;go_enter Tryz.func83,Tryz.ntmps83;go_upto_region 1 with fail
 go_region_held3 (fun a=>(a.cell? ⟨w.heap.size,0,Yb⟩=Ya (Yd Yf n)/\a.cell? ⟨w.heap.size,1,Yb⟩=Ya (Yd Yf d))/\w.heap.size+1<a.heap.size/\Below w.heap.size w a/\(a.cell? ⟨w.heap.size+1,0,Yb⟩=Ya (Zf a ⟨w.heap.size+1,0,Yb⟩)/\a.cell? ⟨w.heap.size+1,1,Yb⟩=Ya (Zf a ⟨w.heap.size+1,1,Yb⟩)/\a.cell? ⟨w.heap.size+1,2,Yb⟩=Ya (Zf a ⟨w.heap.size+1,2,Yb⟩))/\(a.frozen? ⟨w.heap.size+1,0,Yb⟩=false/\a.frozen? ⟨w.heap.size+1,1,Yb⟩=false/\a.frozen? ⟨w.heap.size+1,2,Yb⟩=false))
  (first
   |with_reducible assumption
   |with_reducible exact Zo2 (by with_reducible assumption) (by with_reducible assumption)
   |with_reducible exact Zho (Zho (Zho (by with_reducible assumption)))
   |exact⟨⟨by go_simp,by go_simp⟩,by simp,(below_alloc2 _ _ _).drew,⟨ZH (v:=Yc Yb 0 0) (by go_simp),ZH (v:=Yc Yb 0 0) (by go_simp),ZH (v:=.bool false) (by go_simp)⟩,⟨by go_simp,by go_simp,by go_simp⟩⟩)
  (first
   |(go_at_call 59;go_fit (G _);rintro e J ⟨I,rfl,b,m,i⟩;have o:=b;obtain⟨y,A,rfl,_⟩:=o;have f:=Lib.hid (And.intro b i);clear b i)
   |(go_at_call 59;go_fit (H _);rintro e K ⟨v2,rfl,c,h,j⟩;have p:=c;obtain⟨z,B,rfl,_⟩:=p;have g:=Lib.hid (And.intro c j);clear c j))
 go_wp2_with fail;have E:=f.out.1.below h;have F:=g.out.1;have x:=m.size;have z2:=h.size;simp at x z2;have k:=f.out.2.mono (B':=w.heap.size+2) (by simp);have l:=g.out.2.mono (B':=w.heap.size+2) (by simpa using x);obtain⟨c0,c1,c2,C⟩:=Ze7 (w:=w) rfl (by with_reducible assumption);refine bodyPost_ret (v:=.agg #[.slice y (bitsOf N).length A,.slice z (bitsOf D).length B,.bool (decide (n<0))]) (by simp[results,Tryz.results83,go_sem,c0,c1,c2]) rfl ⟨_,rfl,⟨_,_,rfl,?_,?_,k.mono (by omega),l.mono (by omega)⟩,C⟩
 ·exact(((E.setCell k (by show w.heap.size+1<_;omega) _).setCell k (by show w.heap.size+1<_;omega) _).setCell k (by show w.heap.size+1<_;omega) _)
 ·exact(((F.setCell l (by show w.heap.size+1<_;omega) _).setCell l (by show w.heap.size+1<_;omega) _).setCell l (by show w.heap.size+1<_;omega) _)
end Go.Proofs.YtbfnnolakggbfaaGreatDoor
