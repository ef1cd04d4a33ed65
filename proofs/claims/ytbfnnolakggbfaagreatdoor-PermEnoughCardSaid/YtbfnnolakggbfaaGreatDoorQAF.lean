import Derived.Deep.DeepFit
import Derived.Deep.DeepCutAuto
import Derived.Test.YtbfnnolakggbfaaGreatDoorQAA
import Derived.Test.YtbfnnolakggbfaaGreatDoorQAE
set_option maxRecDepth 100000
set_option maxHeartbeats 8000000
open Go renaming World → Yh, Value → Yi
open Go.RowKit
namespace Go.Proofs.YtbfnnolakggbfaaGreatDoor
theorem ZiZ:(Tryz.prog.info? 4).map (fun i=>(i.zero,i.size,i.bytes))=some (some (.bool false),1,1):=by kernel_rfl
theorem ZhN {w:Yh} {base:Nat} {l:List Bool} {v:Yi} (h:w.ownsRow base 4 1 v l.length (l.map Value.bool)):Zi w v l:=by
 have e:=h;rcases h.2 with⟨rfl,f⟩|⟨g,b,d,rfl,_,i,c,a⟩
 ·have:l=[]:=List.eq_nil_of_length_eq_zero (by simpa using f);subst this;exact Zi.nil w
 ·exact⟨some _,b,rfl,c,a.1,Zw.of_own e⟩
def Zp (B:Nat) (v:Yi):Prop:=∀k,v.ownBlock=some k->B<=k
theorem Zp.none_ (B n c:Nat):Zp B (.slice none n c):=fun _ h=>by cases h
theorem Zp.mono {B B':Nat} {v:Yi} (h:Zp B v) (a:B'<=B):Zp B' v:=fun k b=>Nat.le_trans a (h k b)
theorem Zp.of_eq {B:Nat} {v u:Yi} (h:Zp B v) (e:u.ownBlock=v.ownBlock):Zp B u:=fun k a=>h k (e.symm.trans a)
def ZfJ (w:Yh) (l:List Bool) (e:Ending) (w':Yh):Prop:=∃a,e=.returned a/\Zi w' a l/\Below w.heap.size w w'/\Zp w.heap.size a
theorem Zpb {w:Yh} {base k n:Nat} {v:Yi} {d:List Yi} (h:w.ownsRow base 4 1 v n d) (a:v.ownBlock=some k):base<=k:=by
 rcases h.2 with⟨rfl,_⟩|⟨g,b,c,rfl,e,_⟩
 ·cases a
 ·have:g=k:=by simpa[Value.ownBlock]using a
  omega
theorem Zc1 {w:Yh} {base n:Nat} {v:Yi} {b:List Yi} (h:w.ownsRow base 4 1 v n b):Zp base v:=fun _ a=>Zpb h a
theorem ZiB {w:Yh} {base:Nat} {v:Yi} {l:List Bool} {b:Bool} (h:w.ownsRow base 4 1 v (l.length+1) (l.map Value.bool++[.bool b])):w.ownsRow base 4 1 v (l++[b]).length ((l++[b]).map Value.bool):=by rw[List.length_append,List.map_append];exact h
theorem Zgb {w0 w c:Yh} {n:Nat} {v:Yi} {f:List Yi} {o:Obj} (b:Below w0.heap.size w0 w) (a:w.ownsRow w0.heap.size 4 1 v n f) (d:(w.alloc o).grownBy c v.ownBlock):Below w0.heap.size w0 c:=
 (b.alloc b.size o).grown d (by have:=b.size;simp;omega) (fun _ e=>Zpb a e)
theorem ZfY {w:Yh} {b:Bool}:∀(j:Nat) (u:Yi),[Value.bool b][j]? = some u->(w.alloc (.cells #[.bool b] 4)).cell? ((⟨w.heap.size,0,none⟩:Addr).add j)=some u:=by
 intro j u h;rcases j with _|j
 ·have:Value.bool b=u:=by simpa using h
  subst this;show(w.alloc (.cells #[.bool b] 4)).cell? ⟨w.heap.size,0,none⟩=_;go_simp
 ·simp at h
def Zr2 (n:Nat) (w:Yh) (g:Nat) (v0 v3:Yi) (wr:Yh):Prop:=∃(m:Nat) (l:List Bool),v0=.int .u64 m/\g=m/\m<=n/\l++bitsOf m=bitsOf n/\wr.ownsRow w.heap.size 4 1 v3 l.length (l.map Value.bool)/\Below w.heap.size w wr
theorem ZlD (n:Nat) (w:Yh) (s:n<18446744073709551616) :
  Calls Tryz.prog 94 #[.int .u64 n] w (ZfJ w (bitsOf n)):=by
 obtain⟨i0,I,t,v,x⟩:=info_parts ZiZ;have e:=ZbG n 64 s;have E:=Lib.hid s;have D:=Lib.hid e;clear s e;go_enter Tryz.func94,Tryz.ntmps94;go_wp2_with fail;go_loopg [0,3] n (fun g v0 v3 wr=>Zr2 n w g v0 v3 wr)
 case atStart=>exact⟨n,[],rfl,rfl,Nat.le_refl _,rfl,⟨rfl,.inl ⟨rfl,rfl⟩⟩,Below.refl _ _⟩
 case round=>
  obtain⟨m,l,rfl,rfl,hm,A,b,a⟩:=hrel;have o:=Lib.hid A;have y:=Lib.hid hm;clear A hm;by_cases j:gk=0
  ·subst j;have f:l=bitsOf n:=by have:=o.out;rw[ZaM,List.append_nil]at this;exact this
   subst f;go_wp2_with fail;go_ret;exact⟨_,rfl,ZhN b,a,Zc1 b⟩
  ·have B:(0:Int)<(gk:Int):=by omega
   have f:l.length+(bitsOf gk).length<=64:=by have:=D.out;rw[<-o.out,List.length_append]at this;exact this
   have h:l.length<64:=by rw[Zbz j,List.length_cons]at f;omega
   have H:(gk:Int) % 2=((gk % 2:Nat):Int):=by omega
   obtain⟨r,k⟩:∃r,r=gk % 2:=⟨_,rfl⟩
   rw[<-k]at H;have i:((r:Int)==1)=(gk % 2==1):=by rw[k,Bool.eq_iff_iff];simp;omega
   have M:IntKind.u64.wrap ((gk:Int) / 2)=((gk / 2:Nat):Int):=by have:=y.out;have:=E.out;rw[IntWalk.u64_in _ (by omega)];omega
   have C:=Lib.hid j;have J:=Lib.hid k;have p:=Lib.hid i;have z:=Lib.hid (And.intro f h);clear k j f h i;go_wp2_with (at_builtin;refine wpList_append_own _ rfl _ _ 87 rfl w.heap.size 4 i0 (.bool false) 1 1 Tryz.underlying87 I t v x rfl (by decide) _ _ _ rfl (b.alloc _) ⟨wr.heap.size,0,none⟩ 1 1 [.bool ((r:Int)==1)] rfl rfl ?c1 ?c2 ?c3 ?c4 ?c5 ?_)
   case c1=>exact ZfY
   case c2=>intro u hu;simp at hu;subst hu;rfl
   case c3=>have:=z.out;unfold maxLen;omega
   case c4=>have:=z.out;omega
   case c5=>have:=a.size;simp;omega
   intro K L d c _;have F:=Lib.hid (Zgb a b c);have G:=Lib.hid (ZiB d);clear b d c a;go_wp2_with fail;go_roundg (gk / 2)
   case measure=>omega
   case rel=>exact⟨gk / 2,l++[(r:Int)==1],by rfl,rfl,by have:=y.out;omega,by rw[p.out,List.append_assoc,<-o.out,Zbz C.out];rfl,G.out,F.out⟩
theorem Ziw (w:Yh) (x y:Yi) (a b:Nat) (W:Zi w x (bitsOf a)) (X:Zi w y (bitsOf b)) :
  Calls Tryz.prog 131 #[x,y] w (ZiM w (.bool (decide (a<b)))):=by
 obtain⟨A,c,rfl,u,E,F⟩:=W;obtain⟨B,d,rfl,k2,L,M⟩:=X;unfold maxLen at E L;obtain⟨n,v⟩:∃n,n=(bitsOf a).length:=⟨_,rfl⟩
 obtain⟨m,hm⟩:∃m,m=(bitsOf b).length:=⟨_,rfl⟩
 obtain⟨r,s⟩:∃r,r=decide (a<b):=⟨_,rfl⟩
 rw[<-v]at u F⊢;rw[<-hm]at k2 M⊢;rw[<-s];have U:n<=9223372036854775807:=by omega
 have J:m<=9223372036854775807:=by omega
 have t:=Lib.hid s;have D:=Lib.hid v;have C:=Lib.hid hm;by_cases p:n=m
 ·subst p;have HC:=Lib.hid (And.intro u k2);clear s v hm u k2 E L J;go_enter Tryz.func131,Tryz.ntmps131;go_wp2_with fail;go_loopg [5] n (fun g v5 Y=>∃(k q:Nat) (z:Int),k<=n/\g=k/\z=(k:Int)-1/\v5=.int .i64 z/\Zg ((bitsOf a).drop k)=Zg ((bitsOf b).drop k)/\Y=w.drewN q)
  case atStart=>exact⟨n,0,_,Nat.le_refl _,rfl,rfl,rfl,by rw[List.drop_eq_nil_of_le (Nat.le_of_eq D.out.symm),List.drop_eq_nil_of_le (Nat.le_of_eq C.out.symm)],rfl⟩
  case round=>
   obtain⟨k,q,z,I,O,K,rfl,h,rfl⟩:=hrel;have N:=Lib.hid h;have Q:=Lib.hid O;clear h O;by_cases f:k=0
   ·obtain rfl:z=-1:=by omega
    have G:a=b:=by have:=N.out;rw[f,List.drop_zero,List.drop_zero,Zab,Zab]at this;exact this
    obtain rfl:r=false:=by rw[t.out];exact decide_eq_false (by omega)
    clear K I G f;go_wp2_with fail;go_ret;exact⟨rfl,_,rfl⟩
   ·obtain⟨j,H⟩:∃j,j=k-1:=⟨_,rfl⟩
    obtain rfl:z=(j:Int):=by omega
    have o:j<n:=by omega
    have e:j+1=k:=by omega
    have h:=N.out;rw[<-e]at h;obtain⟨ad,rfl,c1⟩:=Zi.bit D.out.symm F o;obtain⟨bd,rfl,c2⟩:=Zi.bit C.out.symm M o;have wj:IntKind.i64.wrap ((j:Int)-1)=(j:Int)-1:=IntWalk.i64_in _ (by omega);have i1:(j:Int)<(n:Int):=by omega
    have i2:(0:Int)<=(j:Int):=by omega
    by_cases l:Zad (bitsOf a) j=Zad (bitsOf b) j
    ·have P:=ZkM h l;rw[l]at c1;generalize Zad (bitsOf b) j=T at *;have S:=Lib.hid P;have R:=Lib.hid (And.intro H e);clear P l h H e K I f;go_upto_region 6 with fail;go_quiet (fail);go_wp2_with fail;go_roundg j
     case measure=>have:=Q.out;have:=R.out;omega
     case rel=>exact⟨j,_,_,by omega,rfl,rfl,rfl,S.out,rfl⟩
    ·have i:=Zsb j h l;rw[Zab,Zab]at i;rw[<-t.out]at i;subst i;have V:(Zad (bitsOf a) j==Zad (bitsOf b) j)=false:=by simpa using l
     generalize Zad (bitsOf a) j=ab at *;generalize Zad (bitsOf b) j=T at *;have Z:=Lib.hid l;clear l h H e K I f t;go_upto_region 6 with fail;go_quiet (fail);go_wp2_with fail;go_ret;exact⟨rfl,_,rfl⟩
 ·have e1:((n:Int)==(m:Int))=false:=by simp;omega
  have e2:((n:Int) != (m:Int))=true:=by simp;omega
  obtain rfl:r=decide (n<m):=by
   rw[s];rcases Nat.lt_or_ge n m with g|g
   ·rw[decide_eq_true g];exact decide_eq_true (Zhf (by omega))
   ·rw[show decide (n<m)=false from decide_eq_false (by omega)];exact decide_eq_false (by have:=Zhf (a:=b) (b:=a) (by omega);omega)
  clear s v hm u k2 E L p t D C F M;go_enter Tryz.func131,Tryz.ntmps131;go_wp2_with fail;go_ret;exact⟨rfl,0,rfl⟩
def Zrz (b lb:List Bool) (w:Yh) (g:Nat) (v5 c d:Yi) (wr:Yh):Prop:=∃(k a:Nat) (z:Int) (l:List Bool),g=500-k/\a<=1/\z=(a:Int)/\c=.int .i64 z/\d=.int .i64 k/\l.length=k ∧
 Zg l+2 ^ k*(a+Zg (b.drop k)+Zg (lb.drop k))=Zg b+Zg lb/\(k<=max b.length lb.length+1/\(k=max b.length lb.length+1->a=0))/\wr.ownsRow w.heap.size 4 1 v5 l.length (l.map Value.bool)/\Below w.heap.size w wr
theorem Zg1 {l:List Bool} {k:Nat} (h:¬k<l.length):Zad l k=false:=by unfold Zad;rw[List.getD_eq_getElem?_getD,List.getElem?_eq_none (by omega)];rfl
theorem ZoB {a lb l:List Bool} {k c:Nat} (e:l.length=k) (d:Zg l+2 ^ k*(c+Zg (a.drop k)+Zg (lb.drop k))=Zg a+Zg lb) (p q:Bool) (f:Zad a k=p) (hq:Zad lb k=q)
  (b:Bool) (c2:Nat) (g:c+p.toNat+q.toNat=b.toNat+2*c2) :
  Zg (l++[b])+2 ^ (k+1)*(c2+Zg (a.drop (k+1))+Zg (lb.drop (k+1)))=Zg a+Zg lb:=by
 rw[ZbN a k,ZbN lb k,f,hq]at d;rw[ZdG,e,<-d,Nat.pow_succ,Nat.mul_assoc,Nat.add_assoc,<-Nat.mul_add]
 congr 2
 omega
theorem Zjp (w:Yh) (x y:Yi) (a b:Nat) (hx:Zi w x (bitsOf a)) (hy:Zi w y (bitsOf b)) (ha:(bitsOf a).length<=300) (hb:(bitsOf b).length<=300) :
  Calls Tryz.prog 93 #[x,y] w (ZfJ w (bitsOf (a+b))):=by
 have K:=fun(wr:Yh) (hw:Below w.heap.size w wr) (i:Nat)=>ZhH wr x (bitsOf a) (hx.below hw) i;have s:=fun(wr:Yh) (hw:Below w.heap.size w wr) (i:Nat)=>ZhH wr y (bitsOf b) (hy.below hw) i;obtain⟨i0,hi,U,V,W⟩:=info_parts ZiZ;obtain⟨A,c,rfl,h2,h3,h4⟩:=hx;obtain⟨B,d,rfl,k2,k3,k4⟩:=hy;have na:Zg (bitsOf a)=a:=Zab a;have nb:Zg (bitsOf b)=b:=Zab b;obtain⟨o,N⟩:∃o,o=bitsOf a:=⟨_,rfl⟩
 obtain⟨r,O⟩:∃r,r=bitsOf b:=⟨_,rfl⟩
 rw[<-N]at K ha na⊢;rw[<-O]at s hb nb⊢;obtain⟨n,hn⟩:∃n,n=o.length:=⟨_,rfl⟩
 obtain⟨m,hm⟩:∃m,m=r.length:=⟨_,rfl⟩
 rw[<-hn]at K ha⊢;rw[<-hm]at s hb⊢;have HA:=Lib.hid (And.intro na (And.intro nb (And.intro hn hm)));have HL:=Lib.hid (And.intro ha hb);clear h2 h3 h4 k2 k3 k4 na nb N O hn hm;go_enter Tryz.func93,Tryz.ntmps93;go_wp2_with fail;go_loopg [5,6,7] 500 (fun g v5 v6 v7 wr=>Zrz o r w g v5 v6 v7 wr)
 case atStart=>exact⟨0,0,0,[],rfl,by omega,rfl,rfl,rfl,rfl,by simp[Zg],⟨by omega,fun _=>rfl⟩,⟨rfl,.inl ⟨rfl,rfl⟩⟩,Below.refl _ _⟩
 case round=>
  obtain⟨k,J,z,l,hg,hc,hz,rfl,rfl,hl,j,Q,h,f⟩:=hrel;have P:n=o.length/\m=r.length:=HA.out.2.2;have hk:k<=301:=by have:=HL.out;omega
  by_cases M:k<n\/k<m\/0<J
  ·have F:k+1<=max o.length r.length+1/\(k+1=max o.length r.length+1->¬k<n/\¬k<m):=by omega
   have T:(∃b1,decide (k<n)=b1/\b1=true)\/(decide (k<n)=false/\decide (k<m)=true)\/(decide (k<n)=false/\decide (k<m)=false/\J=1):=by
    by_cases g1:k<n
    ·exact .inl ⟨_,rfl,decide_eq_true g1⟩
    ·by_cases g2:k<m
     ·exact .inr (.inl ⟨decide_eq_false g1,decide_eq_true g2⟩)
     ·exact .inr (.inr ⟨decide_eq_false g1,decide_eq_false g2,by omega⟩)
   have X:∀(p q bt:Bool) (c2:Nat),Zad o k=p->Zad r k=q->J+p.toNat+q.toNat=bt.toNat+2*c2->c2<=1/\Zg (l++[bt])+2 ^ (k+1)*(c2+Zg (o.drop (k+1))+Zg (r.drop (k+1)))=Zg o+Zg r/\(k+1<=max o.length r.length+1/\(k+1=max o.length r.length+1->c2=0)):=by intro p q bt c2 hp hq ht;have p1:=ZcM p;have q1:=ZcM q;refine⟨by omega,ZoB hl j p q hp hq bt c2 ht,F.1,fun e=>?_⟩;obtain⟨x1,x2⟩:=F.2 e;rw[Zg1 (by omega)]at hp;rw[Zg1 (by omega)]at hq;subst hp hq;have z0:false.toNat=0:=rfl;omega
   have wk:IntKind.i64.wrap ((k:Int)+1)=((k+1:Nat):Int):=by rw[IntWalk.i64_in _ (by omega)];omega
   have af:=K wr f k;have ag:=s wr f k;have Z:=Lib.hid X;have E:=Lib.hid (And.intro hg (And.intro hl hk));have ak:(z=0/\J=0)\/(z=1/\J=1):=by omega
   generalize R:Zad o k=pa at *;generalize S:Zad r k=pb at *;have HP:=Lib.hid (And.intro R S);clear X j Q hg hl hk F M P hc hz R S K s;go_upto_region 4 with fail;go_cut [21] (fun v wx=>v=.bool true/\wr=wx)
   case first=>
    rcases T with⟨b1,t1,rfl⟩|⟨t1,t2⟩|⟨t1,t2,t3⟩
    ·go_wp2_with fail;go_meet;exact⟨rfl,rfl⟩
    ·go_wp2_with fail;go_meet;exact⟨rfl,rfl⟩
    ·obtain rfl:z=1:=by omega
     go_wp2_with fail;go_meet;exact⟨rfl,rfl⟩
   case rest=>
    obtain⟨rfl,rfl⟩:=hcut;clear T;rcases ak with⟨rfl,rfl⟩|⟨rfl,rfl⟩<;>cases pa<;>cases pb
    all_goals
     go_wp2_with (first
      |(go_at_call 139;(first|with_reducible refine af.mono ?_|with_reducible refine ag.mono ?_);rintro e w' ⟨rfl,rfl⟩)
      |(at_builtin;first
       |refine wpList_append_own _ rfl _ _ 87 rfl w.heap.size 4 i0 (.bool false) 1 1 Tryz.underlying87 hi U V W rfl (by decide) _ _ _ rfl (h.alloc _) ⟨wr.heap.size,0,none⟩ 1 1 [.bool false] rfl rfl (ZfY (b:=false)) ?c2 ?c3 ?c4 ?c5 ?_
       |refine wpList_append_own _ rfl _ _ 87 rfl w.heap.size 4 i0 (.bool false) 1 1 Tryz.underlying87 hi U V W rfl (by decide) _ _ _ rfl (h.alloc _) ⟨wr.heap.size,0,none⟩ 1 1 [.bool true] rfl rfl (ZfY (b:=true)) ?c2 ?c3 ?c4 ?c5 ?_))
     case c2=>intro u hu;simp at hu;subst hu;rfl
     case c3=>have:=E.out;unfold maxLen;omega
     case c4=>have:=E.out;omega
     case c5=>have:=f.size;simp;omega
     intro v' w1 C t _;have Y:=Lib.hid (Zgb f h t);have O1:=Lib.hid (ZiB C);clear h C t f;go_wp2_with fail;go_roundg (500-(k+1))
     case measure=>have:=E.out;omega
     case rel=>
      first
       |(obtain⟨G,H,I⟩:=Z.out _ _ false 0 rfl rfl (by decide);exact⟨k+1,0,_,l++[false],rfl,G,rfl,rfl,by go_num,by rw[List.length_append,E.out.2.1];rfl,H,I,O1.out,Y.out⟩)
       |(obtain⟨G,H,I⟩:=Z.out _ _ false 1 rfl rfl (by decide);exact⟨k+1,1,_,l++[false],rfl,G,rfl,rfl,by go_num,by rw[List.length_append,E.out.2.1];rfl,H,I,O1.out,Y.out⟩)
       |(obtain⟨G,H,I⟩:=Z.out _ _ true 0 rfl rfl (by decide);exact⟨k+1,0,_,l++[true],rfl,G,rfl,rfl,by go_num,by rw[List.length_append,E.out.2.1];rfl,H,I,O1.out,Y.out⟩)
       |(obtain⟨G,H,I⟩:=Z.out _ _ true 1 rfl rfl (by decide);exact⟨k+1,1,_,l++[true],rfl,G,rfl,rfl,by go_num,by rw[List.length_append,E.out.2.1];rfl,H,I,O1.out,Y.out⟩)
  ·have L:J=0:=by omega
   obtain rfl:z=0:=by omega
   have D:Zg l=a+b:=by rw[List.drop_eq_nil_of_le (show o.length<=k by omega),List.drop_eq_nil_of_le (show r.length<=k by omega),L]at j;have:=HA.out;simp[Zg]at j;omega
   have d1:decide (k<n)=false:=decide_eq_false (by omega);have d2:decide (k<m)=false:=decide_eq_false (by omega);have ht:=Ze8 wr _ l (ZhN h);have al:=Zc1 h;rw[D]at ht;clear hg hc hz hl j Q h P hk M L D K s;go_wp2_with (go_at_call 133;go_fit ht;rintro e w' ⟨v',rfl,hv,rfl,ho⟩;have HV:=Lib.hid (And.intro hv (al.of_eq ho));clear hv ho);go_ret;exact⟨_,rfl,HV.out.1,f,HV.out.2⟩
def ZrI (b lb:List Bool) (w:Yh) (g:Nat) (v5 c d:Yi) (wr:Yh):Prop:=∃(k a:Nat) (z:Int) (l:List Bool),g=500-k/\a<=1/\z=(a:Int)/\c=.int .i64 z/\d=.int .i64 k/\l.length=k ∧
 Zg l+2 ^ k*Zg (b.drop k)+Zg lb=Zg b+2 ^ k*(Zg (lb.drop k)+a)/\k<=b.length/\wr.ownsRow w.heap.size 4 1 v5 l.length (l.map Value.bool)/\Below w.heap.size w wr
theorem ZpB {a lb l:List Bool} {k br:Nat} (f:l.length=k) (d:Zg l+2 ^ k*Zg (a.drop k)+Zg lb=Zg a+2 ^ k*(Zg (lb.drop k)+br)) (p q:Bool) (g:Zad a k=p) (hq:Zad lb k=q)
  (c:Bool) (b:Nat) (h:p.toNat+2*b=q.toNat+br+c.toNat) :
  Zg (l++[c])+2 ^ (k+1)*Zg (a.drop (k+1))+Zg lb=Zg a+2 ^ (k+1)*(Zg (lb.drop (k+1))+b):=by
 rw[ZbN a k,ZbN lb k,g,hq]at d;rw[ZdG,f,Nat.pow_succ,Nat.mul_assoc,Nat.mul_assoc];generalize Zg (a.drop (k+1))=x at *;generalize Zg (lb.drop (k+1))=y at *;generalize 2 ^ k=P at *;have e:P*(p.toNat+2*b)=P*(q.toNat+br+c.toNat):=by rw[h]
 simp only[Nat.mul_add]at e d⊢;omega
theorem Zrr {a lb l:List Bool} {n br:Nat} (f:a.length=n) (e:l.length=n) (d:Zg l+2 ^ n*Zg (a.drop n)+Zg lb=Zg a+2 ^ n*(Zg (lb.drop n)+br)) (h:Zg lb<=Zg a):Zg l=Zg a-Zg lb:=by
 rw[List.drop_eq_nil_of_le (Nat.le_of_eq f)]at d;have c:=Zca l;rw[e]at c;generalize Zg (lb.drop n)+br=X at *;generalize 2 ^ n=P at *;simp only[Zg,Nat.mul_zero,Nat.add_zero]at d;rcases Nat.eq_zero_or_pos X with b|b
 ·rw[b,Nat.mul_zero]at d;omega
 ·have:=Nat.le_mul_of_pos_right P b;omega
theorem ZjK (w:Yh) (x y:Yi) (a b:Nat) (hx:Zi w x (bitsOf a)) (hy:Zi w y (bitsOf b)) (ha:(bitsOf a).length<=300) (hb:(bitsOf b).length<=300) (a7:b<=a) :
  Calls Tryz.prog 132 #[x,y] w (ZfJ w (bitsOf (a-b))):=by
 have L:=fun(wr:Yh) (hw:Below w.heap.size w wr) (i:Nat)=>ZhH wr x (bitsOf a) (hx.below hw) i;have o:=fun(wr:Yh) (hw:Below w.heap.size w wr) (i:Nat)=>ZhH wr y (bitsOf b) (hy.below hw) i;obtain⟨i0,hi,R,S,T⟩:=info_parts ZiZ;obtain⟨A,c,rfl,h2,h3,h4⟩:=hx;obtain⟨B,d,rfl,k2,k3,k4⟩:=hy;have na:Zg (bitsOf a)=a:=Zab a;have nb:Zg (bitsOf b)=b:=Zab b;obtain⟨t,O⟩:∃t,t=bitsOf a:=⟨_,rfl⟩
 obtain⟨C,P⟩:∃C,C=bitsOf b:=⟨_,rfl⟩
 rw[<-O]at L ha na⊢;rw[<-P]at o hb nb⊢;obtain⟨n,hn⟩:∃n,n=t.length:=⟨_,rfl⟩
 obtain⟨m,hm⟩:∃m,m=C.length:=⟨_,rfl⟩
 rw[<-hn]at L ha⊢;rw[<-hm]at o hb⊢;have HA:=Lib.hid (And.intro na (And.intro nb (And.intro hn hm)));have HL:=Lib.hid (And.intro ha hb);clear h2 h3 h4 k2 k3 k4 na nb O P hn hm;go_enter Tryz.func132,Tryz.ntmps132;go_wp2_with fail;go_loopg [5,6,7] 500 (fun g v5 v6 v7 wr=>ZrI t C w g v5 v6 v7 wr)
 case atStart=>exact⟨0,0,0,[],rfl,by omega,rfl,rfl,rfl,rfl,by simp[Zg],Nat.zero_le _,⟨rfl,.inl ⟨rfl,rfl⟩⟩,Below.refl _ _⟩
 case round=>
  obtain⟨k,J,z,l,hg,hc,hz,rfl,rfl,N,j,M,h,f⟩:=hrel;have Q:n=t.length/\m=C.length:=HA.out.2.2;have hk:k<=300:=by have:=HL.out;omega
  by_cases v:k<n
  ·have U:∀(p q K:Bool) (I:Nat),Zad t k=p->Zad C k=q->p.toNat+2*I=q.toNat+J+K.toNat->I<=1/\Zg (l++[K])+2 ^ (k+1)*Zg (t.drop (k+1))+Zg C=Zg t+2 ^ (k+1)*(Zg (C.drop (k+1))+I)/\k+1<=t.length:=by intro p q K I hp hq Y;have p1:=ZcM p;have q1:=ZcM q;have E:=ZcM K;exact⟨by omega,ZpB N j p q hp hq K I Y,by omega⟩
   have wk:IntKind.i64.wrap ((k:Int)+1)=((k+1:Nat):Int):=by rw[IntWalk.i64_in _ (by omega)];omega
   have d1:decide (k<n)=true:=decide_eq_true v;have Z:=L wr f k;have aa:=o wr f k;have W:=Lib.hid U;have F:=Lib.hid (And.intro hg (And.intro N hk));have ad:(z=0/\J=0)\/(z=1/\J=1):=by omega
   generalize aj:Zad t k=pa at *;generalize ak:Zad C k=pb at *;clear U j M hg N hk v Q hc hz aj ak L o;rcases ad with⟨rfl,rfl⟩|⟨rfl,rfl⟩<;>cases pa<;>cases pb
   all_goals
    go_wp2_with (first
     |(go_at_call 139;(first|with_reducible refine Z.mono ?_|with_reducible refine aa.mono ?_);rintro e w' ⟨rfl,rfl⟩)
     |(at_builtin;first
      |refine wpList_append_own _ rfl _ _ 87 rfl w.heap.size 4 i0 (.bool false) 1 1 Tryz.underlying87 hi R S T rfl (by decide) _ _ _ rfl (h.alloc _) ⟨wr.heap.size,0,none⟩ 1 1 [.bool false] rfl rfl (ZfY (b:=false)) ?c2 ?c3 ?c4 ?c5 ?_
      |refine wpList_append_own _ rfl _ _ 87 rfl w.heap.size 4 i0 (.bool false) 1 1 Tryz.underlying87 hi R S T rfl (by decide) _ _ _ rfl (h.alloc _) ⟨wr.heap.size,0,none⟩ 1 1 [.bool true] rfl rfl (ZfY (b:=true)) ?c2 ?c3 ?c4 ?c5 ?_))
    case c2=>intro u hu;simp at hu;subst hu;rfl
    case c3=>have:=F.out;unfold maxLen;omega
    case c4=>have:=F.out;omega
    case c5=>have:=f.size;simp;omega
    intro v' w1 s r _;have V:=Lib.hid (Zgb f h r);have X:=Lib.hid (ZiB s);clear h s r f;go_wp2_with fail;go_roundg (500-(k+1))
    case measure=>have:=F.out;omega
    case rel=>
     first
      |(obtain⟨E,G,H⟩:=W.out _ _ false 0 rfl rfl rfl;exact⟨k+1,0,_,l++[false],rfl,E,rfl,rfl,by go_num,by rw[List.length_append,F.out.2.1];rfl,G,H,X.out,V.out⟩)
      |(obtain⟨E,G,H⟩:=W.out _ _ false 1 rfl rfl rfl;exact⟨k+1,1,_,l++[false],rfl,E,rfl,rfl,by go_num,by rw[List.length_append,F.out.2.1];rfl,G,H,X.out,V.out⟩)
      |(obtain⟨E,G,H⟩:=W.out _ _ true 0 rfl rfl rfl;exact⟨k+1,0,_,l++[true],rfl,E,rfl,rfl,by go_num,by rw[List.length_append,F.out.2.1];rfl,G,H,X.out,V.out⟩)
      |(obtain⟨E,G,H⟩:=W.out _ _ true 1 rfl rfl rfl;exact⟨k+1,1,_,l++[true],rfl,E,rfl,rfl,by go_num,by rw[List.length_append,F.out.2.1];rfl,G,H,X.out,V.out⟩)
  ·have ah:k=n:=by omega
   have D:Zg l=a-b:=by have:=HA.out;have e:=Zrr (br:=J) (show t.length=k by omega) N j (by omega);omega
   have d1:decide (k<n)=false:=decide_eq_false v;have Y:=Ze8 wr _ l (ZhN h);have ae:=Zc1 h;rw[D]at Y;clear hg hc hz N j M h Q hk v ah D L o;go_wp2_with (go_at_call 133;go_fit Y;rintro e w' ⟨v',rfl,hv,rfl,ho⟩;have HV:=Lib.hid (And.intro hv (ae.of_eq ho));clear hv ho);go_ret;exact⟨_,rfl,HV.out.1,f,HV.out.2⟩
end Go.Proofs.YtbfnnolakggbfaaGreatDoor
