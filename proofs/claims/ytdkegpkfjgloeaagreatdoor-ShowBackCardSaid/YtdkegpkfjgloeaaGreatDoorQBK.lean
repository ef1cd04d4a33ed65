import Derived.Deep.DeepFit
import Derived.RegionTactic
import Derived.BigQuiet
import Derived.Deep.CutRange
import Derived.Test.YtdkegpkfjgloeaaGreatDoorQAD
import Derived.Test.YtdkegpkfjgloeaaGreatDoorQBI
set_option maxRecDepth 100000
set_option maxHeartbeats 8000000
open Option renaming some → Ya
open Go.Value renaming slice → Yc, int → Yd
open Go.IntKind renaming i64 → Yf
open Go renaming World → Yh
open Go.RowKit
namespace Go.Proofs.YtdkegpkfjgloeaaGreatDoor
theorem Zhw (w:Yh) (n:Nat):Below w.heap.size w (w.drewN n):=⟨rfl,rfl,rfl,Nat.le_refl _,fun _ _=>rfl⟩
def ZgB (w a:Yh) (d e:Nat) (b c:Array Value):Prop:=Blk a d b/\Blk a e c/\Below w.heap.size w a
theorem ZgB.keep {w b g:Yh} {e f:Nat} {c d:Array Value} (h:ZgB w b e f c d) (a:Below b.heap.size b g):ZgB w g e f c d:=⟨h.1.keep a,h.2.1.keep a,h.2.2.trans (a.mono h.2.2.size)⟩
theorem ZjZ (w:Yh) (a b:Array Value) (t:TypeId):ZgB w (((w.alloc (.cells a t)).alloc (.cells b t)).drew) w.heap.size (w.heap.size+1) a b:=by have c:=below_alloc1 w (.cells a t);have a2:=below_alloc1 (w.alloc (.cells a t)) (.cells b t);have d:=Blk.start (w.alloc (.cells a t)) b t;rw[World.size_alloc]at d;exact⟨((Blk.start w a t).keep a2).keep (Zfz _),d.keep (Zfz _),(c.trans (a2.mono c.size)).drew⟩
theorem Zn7 (w:Yh) (d e:Array Value) (t:TypeId):ZgB w (((w.alloc (.cells e t)).alloc (.cells d t)).drew) (w.heap.size+1) w.heap.size d e:=by obtain⟨a,b,c⟩:=ZjZ w e d t;exact⟨b,a,c⟩
theorem ZjR {ns ms:List Nd}:∀(f:Nat) (w:Yh) (va vb:Value) (i k:Int),Zi w va ns->Zi w vb ms->Zgz ns ms f i k ->
  Calls Tryz.prog 9 #[va,Yd Yf i,vb,Yd Yf k] w fun e w'=>e=.returned (.bool true)/\Below w.heap.size w w'
 |0,_,_,_,_,_,_,_,h=>h.elim
 |f+1,w,va,vb,i,k,hA,hB,h=>by
  rw[Zgz]at h;obtain⟨a,b,x,y,rfl,rfl,hx,hy,e1,e2,e3,e4,e5⟩:=h;have IH:=zh (fun(wr:Yh) (E:Below w.heap.size w wr) (q:Nat) (c e:Int) (hc:x.kids[q]? = Ya c) (he:y.kids[q]? = Ya e)=>ZjR f wr va vb c e (hA.below E) (hB.below E) (e5 q c e hc he));obtain⟨A,cA,rs,rfl,a1,a2,a3,a4,a5⟩:=hA;obtain⟨B,cB,ss,rfl,b1,b2,b3,b4,b5⟩:=hB;have cc:=(List.getElem?_eq_some_iff.1 hx).1;have cd:=(List.getElem?_eq_some_iff.1 hy).1;obtain⟨X,hX⟩:∃X,rs[a]? = Ya X:=⟨_,Ym (by have:=congrArg List.length a3;rw[List.length_map]at this;omega)⟩
  obtain⟨Y,hY⟩:∃Y,ss[b]? = Ya Y:=⟨_,Ym (by have:=congrArg List.length b3;rw[List.length_map]at this;omega)⟩
  obtain rfl:X.2=x:=by
   have:ns[a]? = Ya X.2:=by rw[<-a3,List.getElem?_map,hX];rfl
   exact Option.some.inj (this.symm.trans hx)
  obtain rfl:Y.2=y:=by
   have:ms[b]? = Ya Y.2:=by rw[<-b3,List.getElem?_map,hY];rfl
   exact Option.some.inj (this.symm.trans hy)
  obtain⟨ao,ap,aq⟩:=a5 X (List.mem_of_getElem? hX);obtain⟨ar,au,av⟩:=b5 Y (List.mem_of_getElem? hY);have CA:=zh (fun(wr:Yh) (E:Below w.heap.size w wr)=>ZaG a4 E hX (by omega));have CB:=zh (fun(wr:Yh) (E:Below w.heap.size w wr)=>ZaG b4 E hY (by omega));obtain⟨⟨xw,xu,xk⟩,F,u,d,ks,ps⟩:=X;obtain⟨⟨yw,yu,yk⟩,dm,dx,ci,W,K⟩:=Y;dsimp only at e1 e2 e3 e4 ao ap aq ar au av CA CB IH;subst e1 e2 e3;obtain⟨P1,p1,rfl,l1,cf,ac,_⟩:=ao;obtain⟨P2,p2,rfl,l2,cg,ae⟩:=ap;obtain⟨P3,p3,rfl,l3,ch,U⟩:=aq;obtain⟨Q1,q1,rfl,_,_,af,_⟩:=ar;obtain⟨Q2,q2,rfl,_,_,ag⟩:=au;obtain⟨Q3,q3,rfl,_,_,ah⟩:=av;have LM:u.length<=maxLen/\d.length<=maxLen/\W.length<=maxLen:=⟨by omega,by omega,by omega⟩
  rw[e4]at CA U;generalize hn:W.length=n at *;obtain⟨P,rfl,d0,d1,d2,d3,d4⟩:=CA.out w (Below.refl _ _);obtain⟨Q,rfl,f0,f1,f2,f3,f4⟩:=CB.out w (Below.refl _ _);have l:∀o,Below w.heap.size w (w.alloc o):=fun o=>below_alloc1 w o;have p:∀o t,Below w.heap.size w ((w.alloc o).alloc t):=fun o t=>(l o).trans ((below_alloc1 (w.alloc o) t).mono (l o).size)
  have r:∀wr,Below w.heap.size w wr->wr.cell? (P.add (a*5))=Ya (Yd Yf F)/\wr.cell? ⟨(P.add (a*5)).block,(P.add (a*5)).off+1,none⟩=Ya (Yc P1 u.length p1)/\wr.cell? ⟨(P.add (a*5)).block,(P.add (a*5)).off+2,none⟩=Ya (Yc P2 d.length p2)/\wr.cell? ⟨(P.add (a*5)).block,(P.add (a*5)).off+3,none⟩=Ya (Yc P3 n p3)/\wr.cell? ⟨(P.add (a*5)).block,(P.add (a*5)).off+4,none⟩=Ya (Yd Yf ps):=fun wr E=>by
   obtain⟨N,j,r'⟩:=CA.out wr E;injection j with j;subst j;exact r'
  have bl:=fun o=>(r _ (l o)).1;have bq:=fun o t=>(r _ (p o t)).1;have bm:=fun o=>(r _ (l o)).2.1;have br:=fun o t=>(r _ (p o t)).2.1;have bn:=fun o=>(r _ (l o)).2.2.1;have bs:=fun o t=>(r _ (p o t)).2.2.1;have bo:=fun o=>(r _ (l o)).2.2.2.1;have bt:=fun o t=>(r _ (p o t)).2.2.2.1;have bp:=fun o=>(r _ (l o)).2.2.2.2;have bu:=fun o t=>(r _ (p o t)).2.2.2.2
  have s:∀wr,Below w.heap.size w wr->wr.cell? (Q.add (b*5))=Ya (Yd Yf F)/\wr.cell? ⟨(Q.add (b*5)).block,(Q.add (b*5)).off+1,none⟩=Ya (Yc Q1 u.length q1)/\wr.cell? ⟨(Q.add (b*5)).block,(Q.add (b*5)).off+2,none⟩=Ya (Yc Q2 d.length q2)/\wr.cell? ⟨(Q.add (b*5)).block,(Q.add (b*5)).off+3,none⟩=Ya (Yc Q3 n q3)/\wr.cell? ⟨(Q.add (b*5)).block,(Q.add (b*5)).off+4,none⟩=Ya (Yd Yf K):=fun wr E=>by
   obtain⟨N,j,r'⟩:=CB.out wr E;injection j with j;subst j;exact r'
  have bw:=fun o=>(s _ (l o)).1;have b7:=fun o t=>(s _ (p o t)).1;have bx:=fun o=>(s _ (l o)).2.1;have b8:=fun o t=>(s _ (p o t)).2.1;have bz:=fun o=>(s _ (l o)).2.2.1;have b9:=fun o t=>(s _ (p o t)).2.2.1;have b0:=fun o=>(s _ (l o)).2.2.2.1;have ca:=fun o t=>(s _ (p o t)).2.2.2.1;have b6:=fun o=>(s _ (l o)).2.2.2.2;have cb:=fun o t=>(s _ (p o t)).2.2.2.2;have AB:=zh (zi l p);clear r s l p;have R:(a:Int)<(ns.length:Int):=by omega
  have j2:(0:Int)<=(a:Int):=by omega
  have j3:(b:Int)<(ms.length:Int):=by omega
  have j4:(0:Int)<=(b:Int):=by omega
  have G:=zh (zi ac (zi ae (zi U (zi af (zi ag (zi ah (zi e4 (zi hn LM))))))));clear ac ae U af ag ah hX hY hx hy a1 a2 a3 a4 a5 b1 b2 b3 b4 b5 cc cd e5 e4 hn l1 cf l2 cg l3 ch LM;go_enter Tryz.func9,Tryz.ntmps9;go_upto_region 1 with fail;go_cut [9,10]from 14 to 21 (fun v9 ck wx=>∃Z g2:Nat,v9=.pointer (Ya ⟨Z,0,none⟩)/\ck=.pointer (Ya ⟨g2,0,none⟩)/\ZgB w wx Z g2 #[Yd Yf F,Yc P1 u.length p1,Yc P2 d.length p2,Yc P3 n p3,Yd Yf ps] #[Yd Yf F,Yc Q1 u.length q1,Yc Q2 d.length q2,Yc Q3 n q3,Yd Yf K])
  case first=>
   go_region
   ·go_wp2_with fail;go_meet;exact⟨_,_,rfl,rfl,ZjZ w _ _ _⟩
   ·go_wp2_with fail;go_meet;exact⟨_,_,rfl,rfl,Zn7 w _ _ _⟩
  case rest=>
   obtain⟨Z,g2,rfl,rfl,O⟩:=hcut;clear bl bm bn bo bp bq br bs bt bu bw bx bz b0 b6 b7 b8 b9 ca cb d0 d1 d2 d3 d4 f0 f1 f2 f3 f4 CA CB AB;have HT:=zh O;have aw:=O.1.cell 0;have I:=O.1.cell 1;have J:=O.1.cell 2;have S:=O.1.cell 3;have a7:=O.2.1.cell 0;have L:=O.2.1.cell 1;have M:=O.2.1.cell 2;have T:=O.2.1.cell 3;simp only[List.getElem?_toArray,List.getElem?_cons_zero,List.getElem?_cons_succ]at aw I J S a7 L M T;have t0:(F != F)=false:=by simp
   have t1:((u.length:Int) != (u.length:Int))=false:=by simp
   have t2:((d.length:Int) != (d.length:Int))=false:=by simp
   have t3:((n:Int) != (n:Int))=false:=by simp
   clear O R j2 j3 j4;go_wp2_with fail;clear aw I J S a7 L M T t0 t1 t2 t3;go_loopg [11] u.length (fun g v wr=>∃q:Nat,v=Yd Yf q/\q<=u.length/\g=u.length-q/\ZgB w wr Z g2 #[Yd Yf F,Yc P1 u.length p1,Yc P2 d.length p2,Yc P3 n p3,Yd Yf ps] #[Yd Yf F,Yc Q1 u.length q1,Yc Q2 d.length q2,Yc Q3 n q3,Yd Yf K])
   case atStart=>exact⟨0,rfl,Nat.zero_le _,rfl,HT.out⟩
   case round=>
    clear HT;obtain⟨q,rfl,hq,H,m⟩:=hrel;have I:=m.1.cell 1;have L:=m.2.1.cell 1;simp only[List.getElem?_toArray,List.getElem?_cons_zero,List.getElem?_cons_succ]at I L;by_cases C:q=u.length
    ·have R:decide (q<u.length)=false:=decide_eq_false (by omega);have S1:=zh m;clear hq H m C;go_wp2_with fail;clear I L R;generalize wr=dv at *;go_loopg [12] d.length (fun g v wr=>∃q:Nat,v=Yd Yf q/\q<=d.length/\g=d.length-q/\ZgB w wr Z g2 #[Yd Yf F,Yc P1 u.length p1,Yc P2 d.length p2,Yc P3 n p3,Yd Yf ps] #[Yd Yf F,Yc Q1 u.length q1,Yc Q2 d.length q2,Yc Q3 n q3,Yd Yf K])
     case atStart=>exact⟨0,rfl,Nat.zero_le _,rfl,S1.out⟩
     case round=>
      clear S1;obtain⟨q,rfl,hq,H,m⟩:=hrel;have J:=m.1.cell 2;have M:=m.2.1.cell 2;simp only[List.getElem?_toArray,List.getElem?_cons_zero,List.getElem?_cons_succ]at J M;by_cases C:q=d.length
      ·have R:decide (q<d.length)=false:=decide_eq_false (by omega);have S2:=zh m;clear hq H m C;go_wp2_with fail;clear J M R;generalize wr=dw at *;go_loopg [13] n (fun g v wr=>∃q:Nat,v=Yd Yf q/\q<=n/\g=n-q/\ZgB w wr Z g2 #[Yd Yf F,Yc P1 u.length p1,Yc P2 d.length p2,Yc P3 n p3,Yd Yf ps] #[Yd Yf F,Yc Q1 u.length q1,Yc Q2 d.length q2,Yc Q3 n q3,Yd Yf K])
       case atStart=>exact⟨0,rfl,Nat.zero_le _,rfl,S2.out⟩
       case round=>
        clear S2;obtain⟨q,rfl,hq,H,m⟩:=hrel;have S:=m.1.cell 3;have T:=m.2.1.cell 3;simp only[List.getElem?_toArray,List.getElem?_cons_zero,List.getElem?_cons_succ]at S T;by_cases C:q=n
        ·have R:decide (q<n)=false:=decide_eq_false (by omega);have S3:=zh m;clear hq H m C;go_wp2_with fail;go_ret;exact⟨rfl,S3.out.2.2⟩
        ·have z:q<n:=by omega
         have R:(q:Int)<(n:Int):=by omega
         have j2:(0:Int)<=(q:Int):=by omega
         have wq:IntKind.i64.wrap ((q:Int)+1)=(q:Int)+1:=IntWalk.i64_in _ (by have:=G.out.2.2.2.2.2.2.2.2;unfold maxLen at this;omega);obtain⟨N,j⟩:∃N,ks[q]? = Ya N:=⟨_,Ym (by have:=G.out.2.2.2.2.2.2.1;omega)⟩
         obtain⟨y',V⟩:∃y',W[q]? = Ya y':=⟨_,Ym (by have:=G.out.2.2.2.2.2.2.2.1;omega)⟩
         obtain⟨xd,rfl,xc⟩:=ints_at G.out.2.2.1 m.2.2 j (by omega);obtain⟨yd,rfl,yc⟩:=ints_at G.out.2.2.2.2.2.1 m.2.2 V (by omega);have CT:=zh (IH.out _ m.2.2.drew q N y' j V);have D:=zh (zi z (zi H m));clear C z hq H j V m;go_wp2_with fail;go_region_with (go_at_call 9;go_fit CT.out;rintro e w3 ⟨rfl,E⟩;have B3:=zh E;clear E)
         all_goals
          go_wp2_with fail;go_roundg (n-(q+1))
          case measure=>have:=D.out.1;have:=D.out.2.1;omega
          case rel=>exact⟨q+1,by push_cast;rfl,D.out.1,rfl,(D.out.2.2.keep (Zfz _)).keep B3.out⟩
      ·have z:q<d.length:=by omega
       have R:(q:Int)<(d.length:Int):=by omega
       have j2:(0:Int)<=(q:Int):=by omega
       have wq:IntKind.i64.wrap ((q:Int)+1)=(q:Int)+1:=IntWalk.i64_in _ (by have:=G.out.2.2.2.2.2.2.2.2;unfold maxLen at this;omega);obtain⟨N,j⟩:∃N,d[q]? = Ya N:=⟨_,Ym z⟩
       obtain⟨xd,rfl,xc⟩:=ints_at G.out.2.1 m.2.2 j (by omega);obtain⟨yd,rfl,yc⟩:=ints_at G.out.2.2.2.2.1 m.2.2 j (by omega);have D:=zh (zi z (zi H m));clear C z hq H j m;go_wp2_with fail;go_quiet (fail);go_wp2_with fail;go_roundg (d.length-(q+1))
       case measure=>have:=D.out.1;have:=D.out.2.1;omega
       case rel=>exact⟨q+1,by push_cast;rfl,D.out.1,rfl,D.out.2.2.keep (Zhw _ _)⟩
    ·have z:q<u.length:=by omega
     have R:(q:Int)<(u.length:Int):=by omega
     have j2:(0:Int)<=(q:Int):=by omega
     have wq:IntKind.i64.wrap ((q:Int)+1)=(q:Int)+1:=IntWalk.i64_in _ (by have:=G.out.2.2.2.2.2.2.2.2;unfold maxLen at this;omega);obtain⟨N,j⟩:∃N,u[q]? = Ya N:=⟨_,Ym z⟩
     obtain⟨xd,rfl,xc⟩:=ZbR G.out.1 m.2.2 j (by omega);obtain⟨yd,rfl,yc⟩:=ZbR G.out.2.2.2.1 m.2.2 j (by omega);have D:=zh (zi z (zi H m));clear C z hq H j m;go_wp2_with fail;go_quiet (fail);go_wp2_with fail;go_roundg (u.length-(q+1))
     case measure=>have:=D.out.1;have:=D.out.2.1;omega
     case rel=>exact⟨q+1,by push_cast;rfl,D.out.1,rfl,D.out.2.2.keep (Zhw _ _)⟩
end Go.Proofs.YtdkegpkfjgloeaaGreatDoor
