import Derived.Test.YtfbepcelkijgkaaGreatDoorRows
import Derived.ProofKit
import Derived.Below
import Derived.Lib.SmallJoins
import Derived.OpenShut
import Derived.WalkKit
import Derived.ChangeSlices
import Derived.SliceStrings
import Derived.Deep.Slices
import Derived.SizedLaws
import Derived.Test.YtfbepcelkijgkaaGreatDoorQAJ
import Derived.Test.YtfbepcelkijgkaaGreatDoorQBC
import Derived.Test.YtfbepcelkijgkaaGreatDoorQBD
set_option maxRecDepth 100000
set_option maxHeartbeats 8000000
open Option renaming some → Ya
open Go.Value renaming slice → Yc
open Go.IntKind renaming i64 → Yf
open Go renaming Value → Yi
namespace Go.Proofs.YtfbepcelkijgkaaGreatDoor
section
open Go.RowKit
theorem Zj4 {ns:List Nd} (h:ZeO ns):Zn3 ns:=fun i d hd=>(h.2 i d hd).2
theorem Zhj {w:World} {v:Yi} {ns:List Nd} (E:Zi w v ns) {q:Nat} (hq:q<ns.length):∃(d:Nd) (a:Addr) (s:Nat) (b f g:Option Addr) (h i j:Nat),ns[q]? = Ya d/\v=Yc (Ya a) ns.length s/\ZS w ((.slice b d.words.length h,.slice f d.nums.length i,.slice g d.kids.length j),d)/\∀wr:World,Below w.heap.size w wr ->
  wr.cell? (a.add (q*5))=Ya (.int Yf d.kind)/\wr.cell? ⟨(a.add (q*5)).block,(a.add (q*5)).off+1,none⟩=Ya (.slice b d.words.length h)/\wr.cell? ⟨(a.add (q*5)).block,(a.add (q*5)).off+2,none⟩=Ya (.slice f d.nums.length i)/\wr.cell? ⟨(a.add (q*5)).block,(a.add (q*5)).off+3,none⟩=Ya (.slice g d.kids.length j)/\wr.cell? ⟨(a.add (q*5)).block,(a.add (q*5)).off+4,none⟩=Ya (.int Yf d.pos):=by
 obtain⟨A,c,K,rfl,L,M,o,p,z⟩:=E;obtain⟨y,k⟩:∃y,K[q]? = Ya y:=⟨_,Ym (by have:=congrArg List.length o;rw[List.length_map]at this;omega)⟩
 have hd:ns[q]? = Ya y.2:=by rw[<-o,List.getElem?_map,k];rfl
 obtain⟨a,rfl,_⟩:=Zan p (Below.refl _ _) k (by omega);have G:=z y (List.mem_of_getElem? k);obtain⟨⟨b,h,B,H⟩,⟨f,i,C,I⟩,g,j,D,J⟩:=id G;refine⟨y.2,a,c,b,f,g,h,i,j,hd,rfl,⟨⟨b,h,rfl,H⟩,⟨f,i,rfl,I⟩,g,j,rfl,J⟩,fun wr F=>?_⟩;obtain⟨r,e,t,l,m,n,u⟩:=Zan p F k (by omega);injection e with e;subst e;rw[B]at l;rw[C]at m;rw[D]at n;exact⟨t,l,m,n,u⟩
theorem ZnM (w:World) (v:Yi) (ns:List Nd) (m:Zi w v ns) (E:Zd4 ns) :
  Calls Tryz.prog 8 #[v] w fun e w'=>OkB (ZcB ns=true) e/\Below w.heap.size w w':=by
 obtain⟨A,c,rfl⟩:∃A c,v=Yc A ns.length c:=by obtain⟨A,c,_,e,_⟩:=m;exact⟨A,c,e⟩
 by_cases q:1500<ns.length
 ·have tq:(1500:Int)<(ns.length:Int):=by omega
  clear m E q;go_enter Tryz.func8,Tryz.ntmps8;go_wp2_with fail;go_ret;exact⟨Zh,Below.refl _ _⟩
 ·have tq:¬(1500:Int)<(ns.length:Int):=by omega
  have au:(ns.length:Int)<=1500:=by omega
  have X:=zh (ZlN w _ ns m (by omega) E);have K:=zh (zi m (zi E q));have D0:=zh (fun(h0:0<ns.length)=>Zhj m h0);have DE:=zh (fun(h:ZeO ns)=>ZjI w _ ns m E (Zj4 h) ns.length 0 (by omega) h.1 (by omega));clear m E q;go_enter Tryz.func8,Tryz.ntmps8;go_wp2_with (go_at_call 13;(with_reducible refine X.out.mono ?_);rintro M w1 ⟨⟨b,rfl,hq⟩,rfl⟩;have W:=zh hq;clear hq;cases b)
  ·go_ret;exact⟨Zh,Below.refl _ _⟩
  ·have G:=W.out trivial;have h1:=G.1;have tz:(0:Int)<(ns.length:Int):=by omega
   obtain⟨d,Y,cp,T,U,V,M,y,Z,hd,N,hI,hc⟩:=D0.out h1;injection N with ea _ ec;subst ea ec;obtain⟨I,O,P,Q,R⟩:=hc _ (Below.refl _ _);rw[show Y.add (0*5)=Y by unfold Addr.add;simp]at I;have J:=zh (zi G hd);have g:=zh (DE.out G);clear G hd hI hc O P Q R X W;cases zk:(d.kind==0)
   ·have uk:(d.kind != 0)=true:=by rw[bne,zk];rfl
    go_wp2_with fail;go_ret;exact⟨Zh,Below.refl _ _⟩
   ·have uk:(d.kind != 0)=false:=by rw[bne,zk];rfl
    have K0:=zh (show Zp ns 0=0 from(Zdk (k:=0) J.out.2).trans (by simpa using zk));rw[show(((0:Nat):Int))=0 from rfl]at g;obtain⟨H,r⟩:∃H,H=htF ns ns.length 0:=⟨_,rfl⟩
    rw[<-r]at g;have HZ:=zh r;clear r;by_cases ao:24<H
    ·go_wp2_with (go_at_call 14;(with_reducible refine g.out.mono ?_);rintro y w2 ⟨rfl,rfl⟩);go_ret;exact⟨Zh,Below.refl _ _⟩
    ·have S:H<=24:=by omega
     go_wp2_with (go_at_call 14;(with_reducible refine g.out.mono ?_);rintro y w2 ⟨rfl,rfl⟩);clear I uk;go_loopg [3] ns.length (fun gk v3 wr=>∃j:Nat,v3=.int Yf j/\j<=ns.length/\gk=ns.length-j/\(ns.take j).all (ZD ns)=true/\Below w.heap.size w wr)
     case atStart=>exact⟨0,rfl,Nat.zero_le _,rfl,rfl,Below.refl _ _⟩
     case round=>
      obtain⟨j,rfl,hj,p,a,n⟩:=hrel;by_cases D:j=ns.length
      ·have tj:¬(j:Int)<(ns.length:Int):=by omega
       have e:ns.take j=ns:=by rw[D];exact List.take_length
       rw[e]at a;have u:=zh (zi (Zql J.out.1 (by have:=K.out.2.2;omega) K0.out (by rw[<-HZ.out];exact S) (fun d hd=>List.all_eq_true.mp a d hd)) n);clear e a n p hj;go_wp2_with fail;go_ret;exact⟨Zbc u.out.1,u.out.2⟩
      ·have s:j<ns.length:=by omega
       obtain⟨t,ai,aj,T,U,V,M,y,Z,o,N,z,C⟩:=Zhj K.out.1 s;injection N with ea _ ec;injection ea with ea;subst ea ec;obtain⟨I,O,P,Q,R⟩:=C _ n;have F:=Zcr (f:=ZD ns) o a;have L:=zh (Zpd wr _ ns ((Yc T t.words.length M,Yc U t.nums.length y,Yc V t.kids.length Z),t) (K.out.1.below n) (z.below n) (fun k hk=>by have:=(J.out.1.2 j t o).2 k hk;omega));have tj:(j:Int)<(ns.length:Int):=by omega
       have aq:(0:Int)<=(j:Int):=by omega
       have wj:IntKind.i64.wrap ((j:Int)+1)=(j:Int)+1:=IntWalk.i64_in _ (by omega);have i:=zh (zi p (zi s (zi F n)));clear p s F n D hj a z C o;obtain⟨dk,dw,dn,ak,dp⟩:=t;unfold ndV at L;dsimp only at I O P Q R L i;go_wp2_with (go_at_call 15;(with_reducible refine L.out.mono ?_);rintro y w2 ⟨⟨b,rfl,hq⟩,B⟩;have l:=zh (zi hq B);clear hq B;cases b)
       ·go_ret;exact⟨Zh,i.out.2.2.2.trans (l.out.2.mono i.out.2.2.2.size)⟩
       ·go_roundg (ns.length-(j+1))
        case measure=>have:=i.out;omega
        case rel=>exact⟨j+1,by push_cast;rfl,by have:=i.out;omega,rfl,i.out.2.2.1.trans (l.out.1 trivial),i.out.2.2.2.trans (l.out.2.mono i.out.2.2.2.size)⟩
end
section
open Go.RowKit
def ZmM (ns:List Nd):Prop:=ns.length<=1000/\∀d∈ns,d.words.length<=1000
theorem ZlU (w:World) (v:Yi) (ns:List Nd) (p:Zi w v ns) (C:Zd4 ns) :
  Calls Tryz.prog 7 #[v] w fun e w'=>OkB (ZmM ns) e/\Below w.heap.size w w':=by
 obtain⟨A,c,rfl⟩:∃A c,v=Yc A ns.length c:=by obtain⟨A,c,_,e,_⟩:=p;exact⟨A,c,e⟩
 have hm:ns.length<=maxLen:=by obtain⟨_,_,_,e,a,b,_⟩:=p;omega
 have r:=zh (zi p (zi hm C));clear p hm C;go_enter Tryz.func7,Tryz.ntmps7;go_wp2_with fail;go_loopg [3,4] ns.length (fun gk v3 v4 wr=>∃(z i:Nat),v3=.int Yf (z:Int)/\v4=.int Yf i/\i<=ns.length/\gk=ns.length-i/\Below w.heap.size w wr/\ns.length<=z/\∀d∈ns.take i,d.words.length<=z)
 case atStart=>exact⟨ns.length,0,rfl,rfl,Nat.zero_le _,rfl,Below.refl _ _,Nat.le_refl _,fun d hd=>by cases hd⟩
 case round=>
  obtain⟨z,i,rfl,rfl,q,j,m,l,f⟩:=hrel;by_cases g:i<ns.length
  ·have R:(i:Int)<(ns.length:Int):=by omega
   by_cases K:(z:Int)<=1000
   ·obtain⟨d,W,X,T,U,V,e1,e2,e3,hd,I,J,hc⟩:=Zhj r.out.1 g;injection I with ea _ ec;subst ea ec;obtain⟨M,N,O,P,Q⟩:=hc _ m;have S:(0:Int)<=(i:Int):=by omega
    have wi:IntKind.i64.wrap ((i:Int)+1)=(i:Int)+1:=IntWalk.i64_in _ (by have:=r.out.2.1;unfold maxLen at this;omega);have t:=r.out.2.2 d (List.mem_of_getElem? hd);have u:IntKind.i64.wrap ((z:Int)+(d.words.length:Int))=(z:Int)+(d.words.length:Int):=IntWalk.i64_in _ (by omega);have y:IntKind.i64.wrap ((z:Int)+(d.words.length:Int)+(d.nums.length:Int))=(z:Int)+(d.words.length:Int)+(d.nums.length:Int):=IntWalk.i64_in _ (by omega);have B:IntKind.i64.wrap ((z:Int)+(d.words.length:Int)+(d.nums.length:Int)+(d.kids.length:Int))=(z:Int)+(d.words.length:Int)+(d.nums.length:Int)+(d.kids.length:Int):=IntWalk.i64_in _ (by omega)
    have D:∀x∈ns.take (i+1),x.words.length<=z+d.words.length+d.nums.length+d.kids.length:=fun x hx=>by
     rw[List.take_add_one,hd]at hx;rcases List.mem_append.1 hx with h|h
     ·have:=f x h;omega
     ·have:x=d:=by simpa using h
      rw[this];omega
    have n:=zh (zi j (zi g (zi m (zi l D))));clear j g m q hd J hc l f t D;obtain⟨Y,H,G,s,Z⟩:=d;dsimp only at M N O P Q u y B n;generalize H.length=F at *;generalize G.length=a2 at *;generalize s.length=a3 at *;go_upto_region 5 with fail;go_region
    all_goals
     go_wp2_with fail;go_roundg (ns.length-(i+1))
     case measure=>have:=n.out;omega
     case rel=>exact⟨z+F+a2+a3,i+1,by push_cast;rfl,by push_cast;rfl,by have:=n.out;omega,rfl,n.out.2.2.1.drew,by have:=n.out;omega,n.out.2.2.2.2⟩
   ·have L:1000<(z:Int):=by omega
    have o:=zh m;clear j m q g l f;go_wp2_with fail;go_ret;exact⟨Zh,o.out⟩
  ·have R:¬(i:Int)<(ns.length:Int):=by omega
   have k:i=ns.length:=by omega
   have o:=zh m;by_cases K:(z:Int)<=1000
   ·have E:=zh (show ZmM ns from⟨by omega,fun d hd=>by have:=f d (by rw[k,List.take_length];exact hd);omega⟩);clear j m q g l f k;go_wp2_with fail;go_ret;exact⟨Zbc E.out,o.out⟩
   ·clear j m q g l f k;go_wp2_with fail;go_ret;exact⟨Zh,o.out⟩
end
section
open Go.RowKit Go.WideShapes Go.ChangeShapes Go.ChangeAt Go.Joins
section
variable {H:Type} {enc:TypeId×Yi->H} {P:Program}
theorem Zj6 {f:Func} {s:ChangeSpec} {c n d m:Bool} {W q:World} {args:Array Yi} {v:Yi} {u w:List (DataW H)} {a pa pv:List MemPlace}
  (B:DataW.Whole enc P f.params.toList s.vars c W args.toList u w a)
  (l:∀(b:Nat) (o:Nat->Bool) (hd:Bool),DataW.TrodAll enc P q b o hd f.resultTypes.toList (v.resultList f.resultTypes.size) (s.fn H (u++w)).results [])
  (e:∀o:Nat->Bool,(∀p∈a,o p.block=true)->DataW.TrodAll enc P q 0 o true f.params.toList args.toList (s.fn H (u++w)).args pa)
  (h:∀o:Nat->Bool,(∀p∈a,o p.block=true)->DataW.TrodVars enc P q o s.vars (s.fn H (u++w)).vars pv)
  (i:a=pa++pv) (D:Below W.heap.size W q)
  (C:∀(j:Nat) (t:TypeId) (r:Yi),f.resultTypes[j]? = Ya t->(v.resultList f.resultTypes.size)[j]? = Ya r->Value.okWide P q .any 0 t r) :
  s.post enc P f c n d m W args v q:=by
 have z:∀p∈a,p.block<W.heap.size:=fun p g=>B.lt p g;have k:∀p∈a,(fun b=>decide (b<W.heap.size)) p.block=true:=fun p g=>by simpa using z p g
 refine⟨u,w,a,[],pa,pv,B,l _ _ _,e _ k,h _ k,World.keptBut_mono (fun p g=>⟨g,?_⟩) (D.frame (·∈a)),fun _=>?_⟩
 ·rw[i,List.mem_append]at g;exact Or.inr g
 ·obtain⟨_,_,_,_,_,F,E⟩:=B;refine⟨C,_,_,([]++pa)++pv,⟨[]++pa,pv,trodAll_append (e _ (fun _ _=>rfl)) (l _ _ _),h _ (fun _ _=>rfl),rfl,?_,?_⟩,?_⟩
  ·intro b A g;have y:MemPlace.cell b A∈a:=by rw[i];simpa using g
   rw[D.frozen (z _ y)];exact F b A y
  ·intro ha;have:=E ha;rw[i]at this;simpa using this
  ·intro p g _;rw[i];simpa using g
end
theorem Tryz.own:ownKnob Tryz.prog.godebug=none:=by kernel_rfl
end
section
open Go.RowKit Go.ChangeShapes Go.WideShapes Go.ChangeAt Go.Joins Go.Deep
theorem ZhU {H:Type} {P:Program} {e:TypeId}:∀{a:List (DataW H)} {d:DataW H},d∈a->∀n∈d.weights P e,n∈DataW.weightsAll P e a
 |d0::a,d,hd,n,hn=>by
  simp only[DataW.weightsAll,List.mem_append];rcases List.mem_cons.mp hd with rfl|hd
  ·exact .inl hn
  ·exact .inr (ZhU hd n hn)
theorem ZgU:∀(l:List (NdV×Nd)) (j:Nat) (u:Yi),(Zas l)[j]? = Ya u->∃i x,l[i]? = Ya x/\((j=i*5/\u=.int Yf x.2.kind)\/(j=i*5+1/\u=x.1.1)\/(j=i*5+2/\u=x.1.2.1)\/(j=i*5+3/\u=x.1.2.2)\/(j=i*5+4/\u=.int Yf x.2.pos))
 |[],j,u,h=>by simp[Zas]at h
 |y::r,0,u,h=>⟨0,y,rfl,.inl ⟨rfl,by simpa[Zas]using h.symm⟩⟩
 |y::r,1,u,h=>⟨0,y,rfl,.inr (.inl ⟨rfl,by simpa[Zas]using h.symm⟩)⟩
 |y::r,2,u,h=>⟨0,y,rfl,.inr (.inr (.inl ⟨rfl,by simpa[Zas]using h.symm⟩))⟩
 |y::r,3,u,h=>⟨0,y,rfl,.inr (.inr (.inr (.inl ⟨rfl,by simpa[Zas]using h.symm⟩)))⟩
 |y::r,4,u,h=>⟨0,y,rfl,.inr (.inr (.inr (.inr ⟨rfl,by simpa[Zas]using h.symm⟩)))⟩
 |y::r,j+5,u,h=>by
  obtain⟨i,x,hx,hc⟩:=ZgU r j u (by simpa[Zas]using h);refine⟨i+1,x,by simpa using hx,?_⟩;rcases hc with⟨a,b⟩|⟨a,b⟩|⟨a,b⟩|⟨a,b⟩|⟨a,b⟩
  ·exact .inl ⟨by omega,b⟩
  ·exact .inr (.inl ⟨by omega,b⟩)
  ·exact .inr (.inr (.inl ⟨by omega,b⟩))
  ·exact .inr (.inr (.inr (.inl ⟨by omega,b⟩)))
  ·exact .inr (.inr (.inr (.inr ⟨by omega,b⟩)))
section
variable {H:Type} {enc:TypeId×Yi->H} {P:Program} {w:World} {base:Nat} {spare:Nat->Bool} {held:Bool}
theorem ZiG {t e:TypeId} {i:Nat} {c:Yi} {x:DataW H×List MemPlace} (p:P.underlying t=Ya (.slice e)) (r:P.underlying e=Ya (.int Yf)) (hc:P.cellsOf e=1) (q:P.bytesOf e=8) (h:DataW.trod enc P w base spare held i t [c]=Ya x) :
  ∃l,ZaX w c l/\((∀n∈x.1.weights P t,n<=reachBytes)->l.length*8<=reachBytes):=by
 rcases open_ints p r hc h with⟨o,rfl⟩|⟨a,b,g,f,o,_,v,hm,B,rfl,k,_⟩
 ·obtain rfl:c=Yc none 0 0:=by simpa using o
  exact⟨[],ZaX.nil w,fun _=>by simp⟩
 ·obtain rfl:c=Yc (Ya a) b g:=by simpa using o
  have z:b<=f.length:=by rw[B];split<;>omega
  have d:(f.take b).length=b:=by rw[List.length_take];omega
  refine⟨f.take b,⟨Ya a,g,by rw[d],by rw[d];exact v,hm,?_⟩,fun A=>?_⟩
  ·rw[d];refine⟨by rw[List.length_map,d,Nat.mul_one],fun C=>⟨a,rfl,?_,fun j u m=>?_⟩⟩
   ·have:=World.block_lt_of_cell? _ _ (k 0 (by omega));rwa[Zbf]at this
   ·rw[List.getElem?_map]at m;cases hq:(f.take b)[j]? with
    |none=>rw[hq]at m;cases m
    |some y=>
     rw[hq]at m;obtain rfl:Value.int Yf y=u:=by simpa using m
     have s:j<b:=by have:=(List.getElem?_eq_some_iff.mp hq).1;omega
     rw[List.getElem?_take_of_lt s]at hq;rw[k j (by omega),List.getD_eq_getElem?_getD,hq];rfl
  ·have:=A ((lits (H:=H) IntKind.i64 (f.take b)).length*8+(lits (H:=H) IntKind.i64 (f.drop b)).length*8) (by
    simp only[DataW.weights,p,q,List.mem_cons]
    exact .inl (by rw[Nat.add_mul]))
   simp only[lits,List.length_map]at this;omega
theorem Znm {t e:TypeId} {i:Nat} {c:Yi} {x:DataW H×List MemPlace} (r:P.underlying t=Ya (.slice e)) (A:P.underlying e=Ya .string) (hc:P.cellsOf e=1) (z:P.bytesOf e=16) (h:DataW.trod enc P w base spare held i t [c]=Ya x) :
  ∃l,Zdc w c l/\((∀n∈x.1.weights P t,n<=reachBytes)->l.length*16<=reachBytes):=by
 rcases open_strings r A hc h with⟨o,rfl⟩|⟨a,b,g,f,o,_,C,hm,G,rfl,k,q⟩
 ·obtain rfl:c=Yc none 0 0:=by simpa using o
  exact⟨[],Zdc.nil w,fun _=>by simp⟩
 ·obtain rfl:c=Yc (Ya a) b g:=by simpa using o
  have D:b<=f.length:=by rw[G];split<;>omega
  have d:((f.take b).map fun s=>s.data.toList).length=b:=by rw[List.length_map,List.length_take];omega
  refine⟨(f.take b).map fun s=>s.data.toList,⟨Ya a,g,by rw[d],by rw[d];exact C,hm,?_,fun s E=>?_⟩,fun F=>?_⟩
  ·rw[d];refine⟨by rw[List.length_map,d,Nat.mul_one],fun I=>⟨a,rfl,?_,fun j u m=>?_⟩⟩
   ·have:=World.block_lt_of_cell? _ _ (k 0 (by omega));rwa[Zbf]at this
   ·rw[List.getElem?_map,List.getElem?_map]at m;cases hq:(f.take b)[j]? with
    |none=>rw[hq]at m;cases m
    |some y=>
     rw[hq]at m;obtain rfl:txt y.data.toList=u:=by simpa using m
     have B:j<b:=by have:=(List.getElem?_eq_some_iff.mp hq).1;rw[List.length_take]at this;omega
     rw[List.getElem?_take_of_lt B]at hq;rw[k j (by omega),List.getD_eq_getElem?_getD,hq];cases y;rfl
  ·obtain⟨v,p,rfl⟩:=List.mem_map.1 E;have:=q v (List.mem_of_mem_take p);show v.data.toList.length<=maxLen;rw[Array.length_toList];exact this
  ·have:=F ((strs (H:=H) (f.take b)).length*16+(strs (H:=H) (f.drop b)).length*16) (by
    simp only[DataW.weights,r,z,List.mem_cons]
    exact .inl (by rw[Nat.add_mul]))
   simp only[strs,List.length_map,List.length_take]at this;rw[d];omega
end
section
variable {H:Type} {enc:TypeId×Yi->H} {w:World} {base:Nat} {spare:Nat->Bool} {held:Bool}
theorem Zly {a:Nat} {cs:List Yi} {x:DataW H×List MemPlace} (E:cs.length=5) (h:DataW.trod enc Tryz.prog w base spare held a 37 cs=Ya x) :
  ∃q:NdV×Nd,cs=[.int Yf q.2.kind,q.1.1,q.1.2.1,q.1.2.2,.int Yf q.2.pos]/\ZS w q/\((∀n∈x.1.weights Tryz.prog 37,n<=reachBytes)->q.2.words.length*16<=reachBytes/\q.2.nums.length*8<=reachBytes/\q.2.kids.length*8<=reachBytes):=by
 have z:Tryz.prog.cellsOf 3=1:=by kernel_rfl
 have g:Tryz.prog.cellsOf 2=1:=by kernel_rfl
 have i:Tryz.prog.cellsOf 9=1:=by kernel_rfl
 have k:Tryz.prog.cellsOf 35=1:=by kernel_rfl
 have l:Tryz.prog.cellsOf 34=1:=by kernel_rfl
 have o:Tryz.prog.cellsOf 33=1:=by kernel_rfl
 have D:Tryz.prog.bytesOf 3=8:=by kernel_rfl
 have e:Tryz.prog.bytesOf 2=8:=by kernel_rfl
 have f:Tryz.prog.bytesOf 9=16:=by kernel_rfl
 match cs,E with
 |[c0,c1,c2,c3,c4],_=>
  obtain⟨O,n,_,rfl,_,c,b⟩:=DataW.trod_struct Tryz.underlying37 h
  match O,c with
  |[y0,y1,y2,y3,y4],_=>
   have s:=b 0 _ rfl;have t:=b 1 _ rfl;have u:=b 2 _ rfl;have v:=b 3 _ rfl;have y:=b 4 _ rfl;simp[z,k,l,o]at s t u v y;obtain⟨J,p,_,P⟩:=DataW.trod_int Tryz.underlying3 s;obtain⟨K,r,_,Q⟩:=DataW.trod_int Tryz.underlying3 y;obtain⟨F,L,A⟩:=Znm Tryz.underlying33 Tryz.underlying9 i f t;obtain⟨G,M,B⟩:=ZiG Tryz.underlying34 Tryz.underlying2 g e u;obtain⟨I,N,C⟩:=ZiG Tryz.underlying35 Tryz.underlying3 z D v;simp only[List.cons.injEq,and_true]at p r;subst p r;refine⟨((c1,c2,c3),⟨J,F,G,I,K⟩),rfl,⟨L,M,N⟩,fun d=>?_⟩;simp only[DataW.weights,Tryz.underlying37,List.map_cons,List.map_nil]at d;exact⟨A fun m hm=>d m (DataW.weights_mem_each (j:=1) rfl rfl m hm),B fun m hm=>d m (DataW.weights_mem_each (j:=2) rfl rfl m hm),C fun m hm=>d m (DataW.weights_mem_each (j:=3) rfl rfl m hm)⟩
theorem Zsk {b:Type} [Inhabited b] {n:Nat} {p:Nat->b->Prop} (h:∀i,i<n->∃a,p i a):∃f:Nat->b,∀i,i<n->p i (f i):=
 ⟨fun i=>if q:i<n then Classical.choose (h i q)else default,fun i q=>by dsimp only;rw[dif_pos q];exact Classical.choose_spec (h i q)⟩
instance:Inhabited (NdV×Nd):=⟨((undef,undef,undef),nd0)⟩
theorem Znk {O:Nat} {r:Reach} {v:Yi} {d:DataW H} {p:List MemPlace} (Y:Value.okWide Tryz.prog w r O 22 v) (h:DataW.Trod enc Tryz.prog w base spare held 22 v d p):∃ns,Zi w v ns/\((∀n∈d.weights Tryz.prog 22,n<=reachBytes)->Zd4 ns):=by
 obtain⟨a,b,o,rfl⟩:=okWide_slice Tryz.underlying22 Y;obtain⟨F,T⟩:=h;have S:Tryz.prog.cellsOf 37=5:=by kernel_rfl
 rcases open_slice Tryz.underlying22 (by simpa[Value.cells]using T)with⟨hc,_⟩|⟨l,z,s,m,n,D,Z,hc,hb,U,hm,B,hx,M⟩
 ·obtain⟨rfl,rfl,rfl⟩:a=none/\b=0/\o=0:=by simpa using hc
  exact⟨[],Zi.nil w,fun _ x hx=>by cases hx⟩
 ·obtain⟨rfl,rfl,rfl⟩:a=Ya l/\b=z/\o=s:=by simpa using hc
  have V:b<=m:=by rw[B];split<;>omega
  rw[S]at M;have hd:d=.slice ((List.range b).map D) ((List.range (m-b)).map fun j=>D (b+j)):=(Prod.mk.inj hx).1;have y:∀i,i<b->∃q:NdV×Nd,(w.cell? (l.add (i*5))=Ya (.int Yf q.2.kind)/\w.cell? (l.add (i*5+1))=Ya q.1.1/\w.cell? (l.add (i*5+2))=Ya q.1.2.1/\w.cell? (l.add (i*5+3))=Ya q.1.2.2/\w.cell? (l.add (i*5+4))=Ya (.int Yf q.2.pos))/\ZS w q/\((∀n∈(D i).weights Tryz.prog 37,n<=reachBytes)->q.2.words.length*16<=reachBytes/\q.2.nums.length*8<=reachBytes/\q.2.kids.length*8<=reachBytes):=by intro i c;obtain⟨P,Q,R⟩:=M i (by omega);obtain⟨_,A,f⟩:=World.cells?_some Q;obtain⟨q,e,N,E⟩:=Zly A R;subst e;have G:=f 0 (by omega);have I:=f 1 (by omega);have J:=f 2 (by omega);have K:=f 3 (by omega);have L:=f 4 (by omega);rw[Zfl]at G I J K L;exact⟨q,⟨G,I,J,K,L⟩,N,E⟩
  obtain⟨q,hq⟩:=Zsk y;have k:((List.range b).map fun i=>(q i).2).length=b:=by simp
  refine⟨(List.range b).map fun i=>(q i).2,⟨Ya l,o,(List.range b).map q,by rw[k],by rw[k];exact U,hm,by rw[List.map_map];rfl,?_,fun x hx=>?_⟩,fun E t W=>?_⟩
  ·rw[k];refine⟨by rw[Zei,List.length_map,List.length_range],fun C=>⟨l,rfl,?_,fun j u X=>?_⟩⟩
   ·have:=World.block_lt_of_cell? _ _ (hq 0 C).1.1;rwa[Zbf]at this
   ·obtain⟨i,x,hx,hc⟩:=ZgU _ j u X;rw[List.getElem?_map]at hx;have c:i<b:=by
     rcases Nat.lt_or_ge i b with g|g
     ·exact g
     ·rw[List.getElem?_eq_none (by simpa using g)]at hx;cases hx
    rw[List.getElem?_range c]at hx;obtain rfl:q i=x:=by simpa using hx
    rcases hc with⟨rfl,rfl⟩|⟨rfl,rfl⟩|⟨rfl,rfl⟩|⟨rfl,rfl⟩|⟨rfl,rfl⟩
    ·exact(hq i c).1.1
    ·exact(hq i c).1.2.1
    ·exact(hq i c).1.2.2.1
    ·exact(hq i c).1.2.2.2.1
    ·exact(hq i c).1.2.2.2.2
  ·obtain⟨i,c,rfl⟩:=List.mem_map.1 hx;exact(hq i (List.mem_range.1 c)).2.1
  ·obtain⟨i,c,rfl⟩:=List.mem_map.1 W
   have:=(hq i (List.mem_range.1 c)).2.2 (fun n C=>E n (by
    rw[hd];simp only[DataW.weights,Tryz.underlying22,List.mem_cons,List.mem_append]
    exact .inr (.inl (ZhU (List.mem_map.mpr ⟨i,c,rfl⟩) n C))))
   have N:reachBytes=140737488351232:=rfl;omega
end
end
end Go.Proofs.YtfbepcelkijgkaaGreatDoor
