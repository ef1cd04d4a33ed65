import Derived.Deep.DeepFit
import Derived.Test.YtdkegpkfjgloeaaGreatDoorQAJ
set_option maxRecDepth 100000
set_option maxHeartbeats 8000000
open Option renaming some → Ya, none → Yb
open Go.Value renaming slice → Yc, int → Yd
open Go.IntKind renaming i64 → Yf
open Go.Obj renaming cells → Yg
open Go renaming World → Yh, Value → Yi
open Go.RowKit
namespace Go.Proofs.YtdkegpkfjgloeaaGreatDoor
theorem hd6 {w:Yh} {v:Yi} {ns:List Nd} {x:NdV×Nd} (g:Zi w v ns) (hx:ZU w x) (hk:ZaB x.2.kids ns.length) :
  Hid (∀(wr:Yh),Below w.heap.size w wr->∀(a b:Int),Calls Tryz.prog 22 #[ndV x,Yd Yf a,Yd Yf b] wr fun e w'=>e=.returned (.bool (ZA x.2 a b))/\Below wr.heap.size wr w') ∧
  Hid (∀(wr:Yh),Below w.heap.size w wr->Calls Tryz.prog 23 #[ndV x] wr fun e w'=>e=.returned (.bool (Zan x.2))/\Below wr.heap.size wr w') ∧
  Hid (∀(wr:Yh),Below w.heap.size w wr->∀(i:Nat),i<x.2.kids.length->Calls Tryz.prog 25 #[v,ndV x,Yd Yf i] wr fun e w'=>e=.returned (Yd Yf (kdR ns x.2 i))/\Below wr.heap.size wr w') ∧
  Hid (∀(wr:Yh),Below w.heap.size w wr->∀(f:Nat) (a b:Int),f<=x.2.kids.length->f<=1->Calls Tryz.prog 51 #[v,ndV x,Yd Yf f,Yd Yf a,Yd Yf b] wr fun e w'=>e=.returned (.bool (ZbH ns x.2 f a b))/\Below wr.heap.size wr w') ∧
  Hid (x.2.nums.length=3->∀(wr:Yh),Below w.heap.size w wr->Calls Tryz.prog 52 #[ndV x] wr fun e w'=>e=.returned (.bool (Zdc x.2))/\Below wr.heap.size wr w'):=
 ⟨zh fun wr c a b=>ZnZ wr _ a b (hx.below c),zh fun wr c=>Zpz wr _ (hx.below c),zh fun wr c i j=>ZkZ wr v ns _ i (g.below c) (hx.below c) hk j,
  zh fun wr c f a b h d=>ZlP wr v ns _ f a b (g.below c) (hx.below c) hk h d,zh fun k wr c=>Zpj wr _ (hx.below c) k⟩
theorem ZcE (w:Yh) (a b c d e:Yi):Stb (fun w'=>(w'.cell? ⟨w.heap.size,0,Yb⟩=Ya a/\w'.cell? ⟨w.heap.size,1,Yb⟩=Ya b/\w'.cell? ⟨w.heap.size,2,Yb⟩=Ya c/\w'.cell? ⟨w.heap.size,3,Yb⟩=Ya d/\w'.cell? ⟨w.heap.size,4,Yb⟩=Ya e)/\Below w.heap.size w w'):=
 Zaj (Zaj (ZV _ _) (Zaj (ZV _ _) (Zaj (ZV _ _) (Zaj (ZV _ _) (ZV _ _))))) (ZcG w)
theorem ZcA (w:Yh) (a b c d e:Yi):((w.alloc (Yg #[a,b,c,d,e] 36)).cell? ⟨w.heap.size,0,Yb⟩=Ya a/\(w.alloc (Yg #[a,b,c,d,e] 36)).cell? ⟨w.heap.size,1,Yb⟩=Ya b/\(w.alloc (Yg #[a,b,c,d,e] 36)).cell? ⟨w.heap.size,2,Yb⟩=Ya c/\(w.alloc (Yg #[a,b,c,d,e] 36)).cell? ⟨w.heap.size,3,Yb⟩=Ya d/\(w.alloc (Yg #[a,b,c,d,e] 36)).cell? ⟨w.heap.size,4,Yb⟩=Ya e)/\Below w.heap.size w (w.alloc (Yg #[a,b,c,d,e] 36)):=
 ⟨⟨(Blk.start w _ _).cell 0,(Blk.start w _ _).cell 1,(Blk.start w _ _).cell 2,(Blk.start w _ _).cell 3,(Blk.start w _ _).cell 4⟩,below_alloc1 w _⟩
theorem Zjl (w:Yh) (v:Yi) (ns:List Nd) (va vb vc:Yi) (h:List (List UInt8)) (a b:List Int) (g:Int) (hN:Zi w v ns) (hx:ZU w ((va,vb,vc),⟨0,h,a,b,g⟩)) (hk:ZaB b ns.length) :
  Calls Tryz.prog 21 #[v,ndV ((va,vb,vc),⟨0,h,a,b,g⟩)] w fun e w'=>OkB (ZE ns ⟨0,h,a,b,g⟩=true) e/\Below w.heap.size w w':=by
 obtain⟨h1,h2,h3⟩:=id hx;dsimp only at h1 h2 h3;obtain⟨X,p,o,H,I⟩:=hd6 hN hx hk;obtain⟨A,E,rfl,_⟩:=h1;obtain⟨B,F,rfl,_,_,K⟩:=h2;have KL:=zh h3.len;obtain⟨C,G,rfl,_⟩:=h3;have R2:=zh K;unfold ndV at X p o H I⊢;dsimp only at X p o H I⊢;have m:=zh (ZcE w (Yd Yf 0) (Yc A h.length E) (Yc B a.length F) (Yc C b.length G) (Yd Yf g));have J:=ZcA w (Yd Yf 0) (Yc A h.length E) (Yc B a.length F) (Yc C b.length G) (Yd Yf g);have l:=zh J;obtain⟨⟨g0,g1,g2,g3,g4⟩,_⟩:=J;clear K hx hN hk;go_enter Tryz.func21,Tryz.ntmps21;go_upto_region 1 with fail;generalize(w.alloc (Yg #[Yd Yf 0,Yc A h.length E,Yc B a.length F,Yc C b.length G,Yd Yf g] 36))=w1 at *;go_wp2_with fail;go_loopg [6] (b.length) (fun gk vi wr=>∃i:Nat,vi=Yd Yf i/\i<=b.length/\gk=b.length-i/\Zat ns (b.take i) (isB [1,4])=true/\(wr.cell? ⟨w.heap.size,0,Yb⟩=Ya (Yd Yf 0)/\wr.cell? ⟨w.heap.size,1,Yb⟩=Ya (Yc A h.length E)/\wr.cell? ⟨w.heap.size,2,Yb⟩=Ya (Yc B a.length F)/\wr.cell? ⟨w.heap.size,3,Yb⟩=Ya (Yc C b.length G)/\wr.cell? ⟨w.heap.size,4,Yb⟩=Ya (Yd Yf g))/\Below w.heap.size w wr)
 case atStart=>exact⟨0,rfl,Nat.zero_le _,rfl,rfl,l.out⟩
 case round=>
  clear l g0 g1 g2 g3 g4;obtain⟨i,rfl,hi,q,d,hS⟩:=hrel;have l:=zh hS;obtain⟨⟨g0,g1,g2,g3,g4⟩,_⟩:=hS;by_cases M:i=b.length
  ·have e:b.take i=b:=by rw[M];exact List.take_length
   rw[e]at d;have HA:=zh d;have ti:¬(i:Int)<(b.length:Int):=by omega
   clear e d q;have WF:=zh (show ∀wr:Yh,Below w.heap.size w wr->Calls Tryz.prog 22 #[.agg #[Yd Yf 0,Yc A h.length E,Yc B a.length F,Yc C b.length G,Yd Yf g],Yd Yf 0,Yd Yf 0] wr fun e w'=>e=.returned (.bool (ZA ⟨0,h,a,b,g⟩ 0 0))/\Below wr.heap.size wr w' from fun wr hb=>X.out wr hb 0 0);generalize P:ZA ⟨0,h,a,b,g⟩ 0 0=W at WF;have QW:=zh P;clear P;have NF:=zh (show ∀wr:Yh,Below w.heap.size w wr->Calls Tryz.prog 23 #[.agg #[Yd Yf 0,Yc A h.length E,Yc B a.length F,Yc C b.length G,Yd Yf g]] wr fun e w'=>e=.returned (.bool (Zan ⟨0,h,a,b,g⟩))/\Below wr.heap.size wr w' from fun wr hb=>p.out wr hb);generalize O:Zan ⟨0,h,a,b,g⟩=N at NF;have QN:=zh O;clear O
   go_wp2_with (first
    |(go_at_call 22;go_fit (WF.out wr (Za l.out));rintro Y T ⟨rfl,c⟩;have j:=zh (m.out _ _ c l.out);obtain⟨⟨r,s,t,u,y⟩,_⟩:=id j.out;clear c;cases W)
    |(go_at_call 23;go_fit (NF.out T (Za j.out));rintro e3 w3 ⟨rfl,L⟩;have U:=zh (m.out _ _ L j.out);obtain⟨⟨ay,az,a1,a6,a7⟩,_⟩:=id U.out;clear L;cases N))
   all_goals go_ret
   all_goals first
    |exact⟨Zbm (Zmc HA.out QW.out QN.out),Za U.out⟩
    |exact⟨Zh,Za U.out⟩
    |exact⟨Zh,Za j.out⟩
    |exact⟨Zh,Za l.out⟩
  ·have n:i<b.length:=by omega
   obtain⟨z,Q⟩:∃z,b[i]? = Ya z:=⟨_,Ym n⟩
   have R:=ZcJ (f:=fun k=>(isB [1,4]) (Zs ns k)) Q d;have kk:kdR ns ⟨0,h,a,b,g⟩ i=Zs ns z:=by unfold kdR;dsimp only;rw[Zcp Q]
   have S:=zh (fun(wz:Yh) (Q:Below w.heap.size w wz)=>o.out wz Q i n);rw[kk]at S;have ti:(i:Int)<(b.length:Int):=by omega
   have ba:(0:Int)<=(i:Int):=by omega
   have wk:IntKind.i64.wrap ((i:Int)+1)=(i:Int)+1:=IntWalk.i64_in _ (by have:=KL.out;unfold maxLen at this;omega);have D:=zh (zi n (zi q R));clear q R Q d kk M n hi;generalize Zs ns z=Z at *;cases z1:(Z==1)
   ·have u1:(Z != 1)=true:=by rw[bne,z1];rfl
    cases z4:(Z==4)
    ·have u4:(Z != 4)=true:=by rw[bne,z4];rfl
     go_wp2_with (first
      |(go_at_call 25;go_fit (S.out wr (Za l.out));rintro Y T ⟨rfl,c⟩;have j:=zh (m.out _ _ c l.out);obtain⟨⟨r,s,t,u,y⟩,_⟩:=id j.out;clear c))
     go_ret;exact⟨Zh,Za j.out⟩
    ·have u4:(Z != 4)=false:=by rw[bne,z4];rfl
     have V:=zh (show isB [1,4] Z=true from by unfold isB;rw[List.contains_cons,List.contains_cons,z1,z4];rfl)
     go_wp2_with (first
      |(go_at_call 25;go_fit (S.out wr (Za l.out));rintro Y T ⟨rfl,c⟩;have j:=zh (m.out _ _ c l.out);obtain⟨⟨r,s,t,u,y⟩,_⟩:=id j.out;clear c))
     go_roundg (b.length-(i+1))
     case measure=>have:=D.out;omega
     case rel=>exact⟨i+1,by push_cast;rfl,by have:=D.out;omega,rfl,D.out.2.2.trans (V.out),j.out⟩
   ·have u1:(Z != 1)=false:=by rw[bne,z1];rfl
    have V:=zh (show isB [1,4] Z=true from by unfold isB;rw[List.contains_cons,z1];rfl)
    go_wp2_with (first
     |(go_at_call 25;go_fit (S.out wr (Za l.out));rintro Y T ⟨rfl,c⟩;have j:=zh (m.out _ _ c l.out);obtain⟨⟨r,s,t,u,y⟩,_⟩:=id j.out;clear c))
    go_roundg (b.length-(i+1))
    case measure=>have:=D.out;omega
    case rel=>exact⟨i+1,by push_cast;rfl,by have:=D.out;omega,rfl,D.out.2.2.trans (V.out),j.out⟩
theorem Zk3 (w:Yh) (v:Yi) (ns:List Nd) (va vb vc:Yi) (h:List (List UInt8)) (a b:List Int) (g:Int) (hN:Zi w v ns) (hx:ZU w ((va,vb,vc),⟨1,h,a,b,g⟩)) (hk:ZaB b ns.length) :
  Calls Tryz.prog 21 #[v,ndV ((va,vb,vc),⟨1,h,a,b,g⟩)] w fun e w'=>OkB (ZE ns ⟨1,h,a,b,g⟩=true) e/\Below w.heap.size w w':=by
 obtain⟨h1,h2,h3⟩:=id hx;dsimp only at h1 h2 h3;obtain⟨X,p,o,H,I⟩:=hd6 hN hx hk;obtain⟨A,E,rfl,_⟩:=h1;obtain⟨B,F,rfl,_,_,K⟩:=h2;have KL:=zh h3.len;obtain⟨C,G,rfl,_⟩:=h3;have R2:=zh K;unfold ndV at X p o H I⊢;dsimp only at X p o H I⊢;have m:=zh (ZcE w (Yd Yf 1) (Yc A h.length E) (Yc B a.length F) (Yc C b.length G) (Yd Yf g));have J:=ZcA w (Yd Yf 1) (Yc A h.length E) (Yc B a.length F) (Yc C b.length G) (Yd Yf g);have l:=zh J;obtain⟨⟨g0,g1,g2,g3,g4⟩,_⟩:=J;clear K hx hN hk;go_enter Tryz.func21,Tryz.ntmps21;go_upto_region 1 with fail;generalize(w.alloc (Yg #[Yd Yf 1,Yc A h.length E,Yc B a.length F,Yc C b.length G,Yd Yf g] 36))=w1 at *;go_wp2_with fail;go_loopg [6] (b.length) (fun gk vi wr=>∃i:Nat,vi=Yd Yf i/\i<=b.length/\gk=b.length-i/\Zat ns (b.take i) (isB [2,3])=true/\(wr.cell? ⟨w.heap.size,0,Yb⟩=Ya (Yd Yf 1)/\wr.cell? ⟨w.heap.size,1,Yb⟩=Ya (Yc A h.length E)/\wr.cell? ⟨w.heap.size,2,Yb⟩=Ya (Yc B a.length F)/\wr.cell? ⟨w.heap.size,3,Yb⟩=Ya (Yc C b.length G)/\wr.cell? ⟨w.heap.size,4,Yb⟩=Ya (Yd Yf g))/\Below w.heap.size w wr)
 case atStart=>exact⟨0,rfl,Nat.zero_le _,rfl,rfl,l.out⟩
 case round=>
  clear l g0 g1 g2 g3 g4;obtain⟨i,rfl,hi,q,d,hS⟩:=hrel;have l:=zh hS;obtain⟨⟨g0,g1,g2,g3,g4⟩,_⟩:=hS;by_cases M:i=b.length
  ·have e:b.take i=b:=by rw[M];exact List.take_length
   rw[e]at d;have HA:=zh d;have ti:¬(i:Int)<(b.length:Int):=by omega
   clear e d q;have WF:=zh (show ∀wr:Yh,Below w.heap.size w wr->Calls Tryz.prog 22 #[.agg #[Yd Yf 1,Yc A h.length E,Yc B a.length F,Yc C b.length G,Yd Yf g],Yd Yf 1,Yd Yf 1] wr fun e w'=>e=.returned (.bool (ZA ⟨1,h,a,b,g⟩ 1 1))/\Below wr.heap.size wr w' from fun wr hb=>X.out wr hb 1 1);generalize P:ZA ⟨1,h,a,b,g⟩ 1 1=W at WF;have QW:=zh P;clear P;have NF:=zh (show ∀wr:Yh,Below w.heap.size w wr->Calls Tryz.prog 23 #[.agg #[Yd Yf 1,Yc A h.length E,Yc B a.length F,Yc C b.length G,Yd Yf g]] wr fun e w'=>e=.returned (.bool (Zan ⟨1,h,a,b,g⟩))/\Below wr.heap.size wr w' from fun wr hb=>p.out wr hb);generalize O:Zan ⟨1,h,a,b,g⟩=N at NF;have QN:=zh O;clear O
   go_wp2_with (first
    |(go_at_call 22;go_fit (WF.out wr (Za l.out));rintro Y T ⟨rfl,c⟩;have j:=zh (m.out _ _ c l.out);obtain⟨⟨r,s,t,u,y⟩,_⟩:=id j.out;clear c;cases W)
    |(go_at_call 23;go_fit (NF.out T (Za j.out));rintro e3 w3 ⟨rfl,L⟩;have U:=zh (m.out _ _ L j.out);obtain⟨⟨ay,az,a1,a6,a7⟩,_⟩:=id U.out;clear L;cases N))
   all_goals go_ret
   all_goals first
    |exact⟨Zbm (ZpV HA.out QW.out QN.out),Za U.out⟩
    |exact⟨Zh,Za U.out⟩
    |exact⟨Zh,Za j.out⟩
    |exact⟨Zh,Za l.out⟩
  ·have n:i<b.length:=by omega
   obtain⟨z,Q⟩:∃z,b[i]? = Ya z:=⟨_,Ym n⟩
   have R:=ZcJ (f:=fun k=>(isB [2,3]) (Zs ns k)) Q d;have kk:kdR ns ⟨1,h,a,b,g⟩ i=Zs ns z:=by unfold kdR;dsimp only;rw[Zcp Q]
   have S:=zh (fun(wz:Yh) (Q:Below w.heap.size w wz)=>o.out wz Q i n);rw[kk]at S;have ti:(i:Int)<(b.length:Int):=by omega
   have ba:(0:Int)<=(i:Int):=by omega
   have wk:IntKind.i64.wrap ((i:Int)+1)=(i:Int)+1:=IntWalk.i64_in _ (by have:=KL.out;unfold maxLen at this;omega);have D:=zh (zi n (zi q R));clear q R Q d kk M n hi;generalize Zs ns z=Z at *;cases z2:(Z==2)
   ·have u2:(Z != 2)=true:=by rw[bne,z2];rfl
    cases z3:(Z==3)
    ·have u3:(Z != 3)=true:=by rw[bne,z3];rfl
     go_wp2_with (first
      |(go_at_call 25;go_fit (S.out wr (Za l.out));rintro Y T ⟨rfl,c⟩;have j:=zh (m.out _ _ c l.out);obtain⟨⟨r,s,t,u,y⟩,_⟩:=id j.out;clear c))
     go_ret;exact⟨Zh,Za j.out⟩
    ·have u3:(Z != 3)=false:=by rw[bne,z3];rfl
     have V:=zh (show isB [2,3] Z=true from by unfold isB;rw[List.contains_cons,List.contains_cons,z2,z3];rfl)
     go_wp2_with (first
      |(go_at_call 25;go_fit (S.out wr (Za l.out));rintro Y T ⟨rfl,c⟩;have j:=zh (m.out _ _ c l.out);obtain⟨⟨r,s,t,u,y⟩,_⟩:=id j.out;clear c))
     go_roundg (b.length-(i+1))
     case measure=>have:=D.out;omega
     case rel=>exact⟨i+1,by push_cast;rfl,by have:=D.out;omega,rfl,D.out.2.2.trans (V.out),j.out⟩
   ·have u2:(Z != 2)=false:=by rw[bne,z2];rfl
    have V:=zh (show isB [2,3] Z=true from by unfold isB;rw[List.contains_cons,z2];rfl)
    go_wp2_with (first
     |(go_at_call 25;go_fit (S.out wr (Za l.out));rintro Y T ⟨rfl,c⟩;have j:=zh (m.out _ _ c l.out);obtain⟨⟨r,s,t,u,y⟩,_⟩:=id j.out;clear c))
    go_roundg (b.length-(i+1))
    case measure=>have:=D.out;omega
    case rel=>exact⟨i+1,by push_cast;rfl,by have:=D.out;omega,rfl,D.out.2.2.trans (V.out),j.out⟩
theorem ZnM (w:Yh) (v:Yi) (ns:List Nd) (va vb vc:Yi) (d:List (List UInt8)) (a b:List Int) (c:Int) (hN:Zi w v ns) (hx:ZU w ((va,vb,vc),⟨8,d,a,b,c⟩)) (hk:ZaB b ns.length) :
  Calls Tryz.prog 26 #[v,ndV ((va,vb,vc),⟨8,d,a,b,c⟩)] w fun e w'=>OkB (ZE ns ⟨8,d,a,b,c⟩=true) e/\Below w.heap.size w w':=by
 obtain⟨h1,h2,J⟩:=id hx;dsimp only at h1 h2 J;obtain⟨I,o,n,t,u⟩:=hd6 hN hx hk;obtain⟨j,p,rfl,_⟩:=h1;obtain⟨k,q,rfl,_,_,z⟩:=h2;have KL:=zh J.len;obtain⟨l,r,rfl,_⟩:=J;have R2:=zh z;unfold ndV at I o n t u⊢;dsimp only at I o n t u⊢;have f:=zh (ZcE w (Yd Yf 8) (.slice j d.length p) (.slice k a.length q) (.slice l b.length r) (Yd Yf c));have y:=ZcA w (Yd Yf 8) (.slice j d.length p) (.slice k a.length q) (.slice l b.length r) (Yd Yf c);have s:=zh y;obtain⟨⟨g0,g1,g2,g3,g4⟩,_⟩:=y;clear z hx hN hk;have WF:=zh (show ∀wr:Yh,Below w.heap.size w wr->Calls Tryz.prog 22 #[.agg #[Yd Yf 8,.slice j d.length p,.slice k a.length q,.slice l b.length r,Yd Yf c],Yd Yf 1,Yd Yf 1] wr fun e w'=>e=.returned (.bool (ZA ⟨8,d,a,b,c⟩ 1 1))/\Below wr.heap.size wr w' from fun wr A=>I.out wr A 1 1);generalize F:ZA ⟨8,d,a,b,c⟩ 1 1=W at WF;have QW:=zh F;clear F;have H:=zh (show ∀wr:Yh,Below w.heap.size w wr->Calls Tryz.prog 23 #[.agg #[Yd Yf 8,.slice j d.length p,.slice k a.length q,.slice l b.length r,Yd Yf c]] wr fun e w'=>e=.returned (.bool (Zan ⟨8,d,a,b,c⟩))/\Below wr.heap.size wr w' from fun wr A=>o.out wr A);generalize D:Zan ⟨8,d,a,b,c⟩=N at H;have QN:=zh D;clear D;by_cases qk:b.length=1
 ·have tk:((b.length:Int)==1)=true:=by rw[beq_iff_eq];omega
  have Z:=zh qk;clear qk;have EG:=zh (show ∀wr:Yh,Below w.heap.size w wr->Calls Tryz.prog 25 #[v,.agg #[Yd Yf 8,.slice j d.length p,.slice k a.length q,.slice l b.length r,Yd Yf c],Yd Yf 0] wr fun e w'=>e=.returned (Yd Yf (kdR ns ⟨8,d,a,b,c⟩ 0))/\Below wr.heap.size wr w' from fun wr A=>n.out wr A 0 (by have:=Z.out;omega));have Y:=zh (fun wr=>Zdm wr (kdR ns ⟨8,d,a,b,c⟩ 0));generalize C:ZR (kdR ns ⟨8,d,a,b,c⟩ 0)=E at Y;have QE:=zh C;clear C;go_enter Tryz.func26,Tryz.ntmps26;go_upto_region 1 with fail;generalize(w.alloc (Yg #[Yd Yf 8,.slice j d.length p,.slice k a.length q,.slice l b.length r,Yd Yf c] 36))=V at *
  go_wp2_with (first
   |(go_at_call 22;go_fit (WF.out V (Za s.out));rintro e2 X ⟨rfl,g⟩;have i:=zh (f.out _ _ g s.out);obtain⟨⟨K,L,M,O,P⟩,_⟩:=id i.out;clear g;cases W)
   |(go_at_call 23;go_fit (H.out X (Za i.out));rintro e3 w3 ⟨rfl,h⟩;have m:=zh (f.out _ _ h i.out);obtain⟨⟨Q,R,S,T,U⟩,_⟩:=id m.out;clear h;cases N)
   |(go_at_call 25;go_fit (EG.out w3 (Za m.out));rintro e4 w4 ⟨rfl,B⟩;have G:=zh (f.out _ _ B m.out);obtain⟨⟨ao,ap,aq,ar,au⟩,_⟩:=id G.out;clear B)
   |(go_at_call 24;go_fit (Y.out w4);rintro _ _ ⟨rfl,rfl⟩;cases E))
  all_goals go_ret
  all_goals first
   |exact⟨Zbm (Zr9 QW.out QN.out Z.out QE.out),Za G.out⟩
   |exact⟨Zh,Za G.out⟩
   |exact⟨Zh,Za m.out⟩
   |exact⟨Zh,Za i.out⟩
   |exact⟨Zh,Za s.out⟩
 ·have tk:((b.length:Int)==1)=false:=by rw[beq_eq_false_iff_ne];omega
  go_enter Tryz.func26,Tryz.ntmps26;go_upto_region 1 with fail;generalize(w.alloc (Yg #[Yd Yf 8,.slice j d.length p,.slice k a.length q,.slice l b.length r,Yd Yf c] 36))=V at *
  go_wp2_with (first
   |(go_at_call 22;go_fit (WF.out V (Za s.out));rintro e2 X ⟨rfl,g⟩;have i:=zh (f.out _ _ g s.out);obtain⟨⟨K,L,M,O,P⟩,_⟩:=id i.out;clear g;cases W)
   |(go_at_call 23;go_fit (H.out X (Za i.out));rintro e3 w3 ⟨rfl,h⟩;have m:=zh (f.out _ _ h i.out);obtain⟨⟨Q,R,S,T,U⟩,_⟩:=id m.out;clear h;cases N))
  all_goals go_ret
  all_goals first
   |exact⟨Zh,Za m.out⟩
   |exact⟨Zh,Za i.out⟩
   |exact⟨Zh,Za s.out⟩
theorem ZnN (w:Yh) (v:Yi) (ns:List Nd) (va vb vc:Yi) (d:List (List UInt8)) (a b:List Int) (c:Int) (hN:Zi w v ns) (hx:ZU w ((va,vb,vc),⟨9,d,a,b,c⟩)) (hk:ZaB b ns.length) :
  Calls Tryz.prog 26 #[v,ndV ((va,vb,vc),⟨9,d,a,b,c⟩)] w fun e w'=>OkB (ZE ns ⟨9,d,a,b,c⟩=true) e/\Below w.heap.size w w':=by
 obtain⟨h1,h2,J⟩:=id hx;dsimp only at h1 h2 J;obtain⟨I,o,n,t,u⟩:=hd6 hN hx hk;obtain⟨j,p,rfl,_⟩:=h1;obtain⟨k,q,rfl,_,_,z⟩:=h2;have KL:=zh J.len;obtain⟨l,r,rfl,_⟩:=J;have R2:=zh z;unfold ndV at I o n t u⊢;dsimp only at I o n t u⊢;have f:=zh (ZcE w (Yd Yf 9) (.slice j d.length p) (.slice k a.length q) (.slice l b.length r) (Yd Yf c));have y:=ZcA w (Yd Yf 9) (.slice j d.length p) (.slice k a.length q) (.slice l b.length r) (Yd Yf c);have s:=zh y;obtain⟨⟨g0,g1,g2,g3,g4⟩,_⟩:=y;clear z hx hN hk;have WF:=zh (show ∀wr:Yh,Below w.heap.size w wr->Calls Tryz.prog 22 #[.agg #[Yd Yf 9,.slice j d.length p,.slice k a.length q,.slice l b.length r,Yd Yf c],Yd Yf 1,Yd Yf 1] wr fun e w'=>e=.returned (.bool (ZA ⟨9,d,a,b,c⟩ 1 1))/\Below wr.heap.size wr w' from fun wr A=>I.out wr A 1 1);generalize F:ZA ⟨9,d,a,b,c⟩ 1 1=W at WF;have QW:=zh F;clear F;have H:=zh (show ∀wr:Yh,Below w.heap.size w wr->Calls Tryz.prog 23 #[.agg #[Yd Yf 9,.slice j d.length p,.slice k a.length q,.slice l b.length r,Yd Yf c]] wr fun e w'=>e=.returned (.bool (Zan ⟨9,d,a,b,c⟩))/\Below wr.heap.size wr w' from fun wr A=>o.out wr A);generalize D:Zan ⟨9,d,a,b,c⟩=N at H;have QN:=zh D;clear D;by_cases qk:b.length=1
 ·have tk:((b.length:Int)==1)=true:=by rw[beq_iff_eq];omega
  have Z:=zh qk;clear qk;have EG:=zh (show ∀wr:Yh,Below w.heap.size w wr->Calls Tryz.prog 25 #[v,.agg #[Yd Yf 9,.slice j d.length p,.slice k a.length q,.slice l b.length r,Yd Yf c],Yd Yf 0] wr fun e w'=>e=.returned (Yd Yf (kdR ns ⟨9,d,a,b,c⟩ 0))/\Below wr.heap.size wr w' from fun wr A=>n.out wr A 0 (by have:=Z.out;omega));have Y:=zh (fun wr=>Zdm wr (kdR ns ⟨9,d,a,b,c⟩ 0));generalize C:ZR (kdR ns ⟨9,d,a,b,c⟩ 0)=E at Y;have QE:=zh C;clear C;go_enter Tryz.func26,Tryz.ntmps26;go_upto_region 1 with fail;generalize(w.alloc (Yg #[Yd Yf 9,.slice j d.length p,.slice k a.length q,.slice l b.length r,Yd Yf c] 36))=V at *
  go_wp2_with (first
   |(go_at_call 22;go_fit (WF.out V (Za s.out));rintro e2 X ⟨rfl,g⟩;have i:=zh (f.out _ _ g s.out);obtain⟨⟨K,L,M,O,P⟩,_⟩:=id i.out;clear g;cases W)
   |(go_at_call 23;go_fit (H.out X (Za i.out));rintro e3 w3 ⟨rfl,h⟩;have m:=zh (f.out _ _ h i.out);obtain⟨⟨Q,R,S,T,U⟩,_⟩:=id m.out;clear h;cases N)
   |(go_at_call 25;go_fit (EG.out w3 (Za m.out));rintro e4 w4 ⟨rfl,B⟩;have G:=zh (f.out _ _ B m.out);obtain⟨⟨ao,ap,aq,ar,au⟩,_⟩:=id G.out;clear B)
   |(go_at_call 24;go_fit (Y.out w4);rintro _ _ ⟨rfl,rfl⟩;cases E))
  all_goals go_ret
  all_goals first
   |exact⟨Zbm (Zsc QW.out QN.out Z.out QE.out),Za G.out⟩
   |exact⟨Zh,Za G.out⟩
   |exact⟨Zh,Za m.out⟩
   |exact⟨Zh,Za i.out⟩
   |exact⟨Zh,Za s.out⟩
 ·have tk:((b.length:Int)==1)=false:=by rw[beq_eq_false_iff_ne];omega
  go_enter Tryz.func26,Tryz.ntmps26;go_upto_region 1 with fail;generalize(w.alloc (Yg #[Yd Yf 9,.slice j d.length p,.slice k a.length q,.slice l b.length r,Yd Yf c] 36))=V at *
  go_wp2_with (first
   |(go_at_call 22;go_fit (WF.out V (Za s.out));rintro e2 X ⟨rfl,g⟩;have i:=zh (f.out _ _ g s.out);obtain⟨⟨K,L,M,O,P⟩,_⟩:=id i.out;clear g;cases W)
   |(go_at_call 23;go_fit (H.out X (Za i.out));rintro e3 w3 ⟨rfl,h⟩;have m:=zh (f.out _ _ h i.out);obtain⟨⟨Q,R,S,T,U⟩,_⟩:=id m.out;clear h;cases N))
  all_goals go_ret
  all_goals first
   |exact⟨Zh,Za m.out⟩
   |exact⟨Zh,Za i.out⟩
   |exact⟨Zh,Za s.out⟩
theorem ZlU (w:Yh) (v:Yi) (ns:List Nd) (P Q R:Yi) (d:List (List UInt8)) (a b:List Int) (c:Int) (O:Zi w v ns) (hx:ZU w ((P,Q,R),⟨10,d,a,b,c⟩)) (hk:ZaB b ns.length) :
  Calls Tryz.prog 26 #[v,ndV ((P,Q,R),⟨10,d,a,b,c⟩)] w fun e w'=>OkB (ZE ns ⟨10,d,a,b,c⟩=true) e/\Below w.heap.size w w':=by
 obtain⟨L,M,I⟩:=id hx;dsimp only at L M I;obtain⟨H,g,q,f,o⟩:=hd6 O hx hk;obtain⟨i,l,rfl,_⟩:=L;obtain⟨j,m,rfl,_,_,r⟩:=M;have KL:=zh I.len;obtain⟨k,n,rfl,_⟩:=I;have R2:=zh r;unfold ndV at H g q f o⊢;dsimp only at H g q f o⊢;have h:=zh (ZcE w (Yd Yf 10) (.slice i d.length l) (.slice j a.length m) (.slice k b.length n) (Yd Yf c));have p:=ZcA w (Yd Yf 10) (.slice i d.length l) (.slice j a.length m) (.slice k b.length n) (Yd Yf c);have F:=zh p;obtain⟨⟨g0,g1,g2,g3,g4⟩,_⟩:=p;clear r hx O hk;have WF:=zh (show ∀wr:Yh,Below w.heap.size w wr->Calls Tryz.prog 22 #[.agg #[Yd Yf 10,.slice i d.length l,.slice j a.length m,.slice k b.length n,Yd Yf c],Yd Yf 2,Yd Yf 2] wr fun e w'=>e=.returned (.bool (ZA ⟨10,d,a,b,c⟩ 2 2))/\Below wr.heap.size wr w' from fun wr s=>H.out wr s 2 2);generalize C:ZA ⟨10,d,a,b,c⟩ 2 2=W at WF;have U:=zh C;clear C;have K:=zh (show ∀wr:Yh,Below w.heap.size w wr->Calls Tryz.prog 23 #[.agg #[Yd Yf 10,.slice i d.length l,.slice j a.length m,.slice k b.length n,Yd Yf c]] wr fun e w'=>e=.returned (.bool (Zan ⟨10,d,a,b,c⟩))/\Below wr.heap.size wr w' from fun wr s=>g.out wr s);generalize A:Zan ⟨10,d,a,b,c⟩=N at K;have T:=zh A;clear A;have J:=zh (show ∀wr:Yh,Below w.heap.size w wr->Calls Tryz.prog 51 #[v,.agg #[Yd Yf 10,.slice i d.length l,.slice j a.length m,.slice k b.length n,Yd Yf c],Yd Yf 0,Yd Yf 2,Yd Yf 2] wr fun e w'=>e=.returned (.bool (ZbH ns ⟨10,d,a,b,c⟩ 0 2 2))/\Below wr.heap.size wr w' from fun wr s=>f.out wr s 0 2 2 (by omega) (by omega));generalize z:ZbH ns ⟨10,d,a,b,c⟩ 0 2 2=B at J;have S:=zh z;clear z;go_enter Tryz.func26,Tryz.ntmps26;go_upto_region 1 with fail;generalize(w.alloc (Yg #[Yd Yf 10,.slice i d.length l,.slice j a.length m,.slice k b.length n,Yd Yf c] 36))=w1 at *
 go_wp2_with (first
  |(go_at_call 22;go_fit (WF.out w1 (Za F.out));rintro e2 w2 ⟨rfl,t⟩;have D:=zh (h.out _ _ t F.out);obtain⟨⟨V,X,Y,Z,aa⟩,_⟩:=id D.out;clear t;cases W)
  |(go_at_call 23;go_fit (K.out w2 (Za D.out));rintro e3 w3 ⟨rfl,u⟩;have E:=zh (h.out _ _ u D.out);obtain⟨⟨ab,ac,ad,ae,af⟩,_⟩:=id E.out;clear u;cases N)
  |(go_at_call 51;go_fit (J.out w3 (Za E.out));rintro e4 w4 ⟨rfl,y⟩;have G:=zh (h.out _ _ y E.out);obtain⟨⟨ag,ah,ai,aj,ak⟩,_⟩:=id G.out;clear y;cases B))
 all_goals go_ret
 all_goals first
  |exact⟨Zbm (Zq5 U.out T.out S.out),Za G.out⟩
  |exact⟨Zh,Za G.out⟩
  |exact⟨Zh,Za E.out⟩
  |exact⟨Zh,Za D.out⟩
  |exact⟨Zh,Za F.out⟩
theorem ZlS (w:Yh) (v:Yi) (ns:List Nd) (P Q R:Yi) (d:List (List UInt8)) (a b:List Int) (c:Int) (O:Zi w v ns) (hx:ZU w ((P,Q,R),⟨12,d,a,b,c⟩)) (hk:ZaB b ns.length) :
  Calls Tryz.prog 26 #[v,ndV ((P,Q,R),⟨12,d,a,b,c⟩)] w fun e w'=>OkB (ZE ns ⟨12,d,a,b,c⟩=true) e/\Below w.heap.size w w':=by
 obtain⟨L,M,I⟩:=id hx;dsimp only at L M I;obtain⟨H,g,q,f,o⟩:=hd6 O hx hk;obtain⟨i,l,rfl,_⟩:=L;obtain⟨j,m,rfl,_,_,r⟩:=M;have KL:=zh I.len;obtain⟨k,n,rfl,_⟩:=I;have R2:=zh r;unfold ndV at H g q f o⊢;dsimp only at H g q f o⊢;have h:=zh (ZcE w (Yd Yf 12) (.slice i d.length l) (.slice j a.length m) (.slice k b.length n) (Yd Yf c));have p:=ZcA w (Yd Yf 12) (.slice i d.length l) (.slice j a.length m) (.slice k b.length n) (Yd Yf c);have F:=zh p;obtain⟨⟨g0,g1,g2,g3,g4⟩,_⟩:=p;clear r hx O hk;have WF:=zh (show ∀wr:Yh,Below w.heap.size w wr->Calls Tryz.prog 22 #[.agg #[Yd Yf 12,.slice i d.length l,.slice j a.length m,.slice k b.length n,Yd Yf c],Yd Yf 1,Yd Yf 1] wr fun e w'=>e=.returned (.bool (ZA ⟨12,d,a,b,c⟩ 1 1))/\Below wr.heap.size wr w' from fun wr s=>H.out wr s 1 1);generalize C:ZA ⟨12,d,a,b,c⟩ 1 1=W at WF;have U:=zh C;clear C;have K:=zh (show ∀wr:Yh,Below w.heap.size w wr->Calls Tryz.prog 23 #[.agg #[Yd Yf 12,.slice i d.length l,.slice j a.length m,.slice k b.length n,Yd Yf c]] wr fun e w'=>e=.returned (.bool (Zan ⟨12,d,a,b,c⟩))/\Below wr.heap.size wr w' from fun wr s=>g.out wr s);generalize A:Zan ⟨12,d,a,b,c⟩=N at K;have T:=zh A;clear A;have J:=zh (show ∀wr:Yh,Below w.heap.size w wr->Calls Tryz.prog 51 #[v,.agg #[Yd Yf 12,.slice i d.length l,.slice j a.length m,.slice k b.length n,Yd Yf c],Yd Yf 0,Yd Yf 1,Yd Yf 1] wr fun e w'=>e=.returned (.bool (ZbH ns ⟨12,d,a,b,c⟩ 0 1 1))/\Below wr.heap.size wr w' from fun wr s=>f.out wr s 0 1 1 (by omega) (by omega));generalize z:ZbH ns ⟨12,d,a,b,c⟩ 0 1 1=B at J;have S:=zh z;clear z;go_enter Tryz.func26,Tryz.ntmps26;go_upto_region 1 with fail;generalize(w.alloc (Yg #[Yd Yf 12,.slice i d.length l,.slice j a.length m,.slice k b.length n,Yd Yf c] 36))=w1 at *
 go_wp2_with (first
  |(go_at_call 22;go_fit (WF.out w1 (Za F.out));rintro e2 w2 ⟨rfl,t⟩;have D:=zh (h.out _ _ t F.out);obtain⟨⟨V,X,Y,Z,aa⟩,_⟩:=id D.out;clear t;cases W)
  |(go_at_call 23;go_fit (K.out w2 (Za D.out));rintro e3 w3 ⟨rfl,u⟩;have E:=zh (h.out _ _ u D.out);obtain⟨⟨ab,ac,ad,ae,af⟩,_⟩:=id E.out;clear u;cases N)
  |(go_at_call 51;go_fit (J.out w3 (Za E.out));rintro e4 w4 ⟨rfl,y⟩;have G:=zh (h.out _ _ y E.out);obtain⟨⟨ag,ah,ai,aj,ak⟩,_⟩:=id G.out;clear y;cases B))
 all_goals go_ret
 all_goals first
  |exact⟨Zbm (Zq3 U.out T.out S.out),Za G.out⟩
  |exact⟨Zh,Za G.out⟩
  |exact⟨Zh,Za E.out⟩
  |exact⟨Zh,Za D.out⟩
  |exact⟨Zh,Za F.out⟩
theorem Zpo (w:Yh) (v:Yi) (ns:List Nd) (va vb vc:Yi) (d:List (List UInt8)) (a b:List Int) (c:Int) (hN:Zi w v ns) (hx:ZU w ((va,vb,vc),⟨16,d,a,b,c⟩)) (hk:ZaB b ns.length) :
  Calls Tryz.prog 26 #[v,ndV ((va,vb,vc),⟨16,d,a,b,c⟩)] w fun e w'=>OkB (ZE ns ⟨16,d,a,b,c⟩=true) e/\Below w.heap.size w w':=by
 obtain⟨h1,h2,P⟩:=id hx;dsimp only at h1 h2 P;obtain⟨O,s,r,p,y⟩:=hd6 hN hx hk;obtain⟨j,m,rfl,_⟩:=h1;obtain⟨k,n,rfl,_,_,A⟩:=h2;have KL:=zh P.len;obtain⟨l,o,rfl,_⟩:=P;have R2:=zh A;unfold ndV at O s r p y⊢;dsimp only at O s r p y⊢;have f:=zh (ZcE w (Yd Yf 16) (.slice j d.length m) (.slice k a.length n) (.slice l b.length o) (Yd Yf c));have z:=ZcA w (Yd Yf 16) (.slice j d.length m) (.slice k a.length n) (.slice l b.length o) (Yd Yf c);have u:=zh z;obtain⟨⟨g0,g1,g2,g3,g4⟩,_⟩:=z;clear A hx hN hk;have WF:=zh (show ∀wr:Yh,Below w.heap.size w wr->Calls Tryz.prog 22 #[.agg #[Yd Yf 16,.slice j d.length m,.slice k a.length n,.slice l b.length o,Yd Yf c],Yd Yf 0,Yd Yf 0] wr fun e w'=>e=.returned (.bool (ZA ⟨16,d,a,b,c⟩ 0 0))/\Below wr.heap.size wr w' from fun wr t=>O.out wr t 0 0);generalize I:ZA ⟨16,d,a,b,c⟩ 0 0=W at WF;have QW:=zh I;clear I;have L:=zh (show ∀wr:Yh,Below w.heap.size w wr->Calls Tryz.prog 23 #[.agg #[Yd Yf 16,.slice j d.length m,.slice k a.length n,.slice l b.length o,Yd Yf c]] wr fun e w'=>e=.returned (.bool (Zan ⟨16,d,a,b,c⟩))/\Below wr.heap.size wr w' from fun wr t=>s.out wr t);generalize H:Zan ⟨16,d,a,b,c⟩=N at L;have QN:=zh H;clear H;by_cases qk:0<b.length
 ·have tk:(0:Int)<(b.length:Int):=by omega
  have M:=zh qk;have EG:=zh (show ∀wr:Yh,Below w.heap.size w wr->Calls Tryz.prog 25 #[v,.agg #[Yd Yf 16,.slice j d.length m,.slice k a.length n,.slice l b.length o,Yd Yf c],Yd Yf 0] wr fun e w'=>e=.returned (Yd Yf (kdR ns ⟨16,d,a,b,c⟩ 0))/\Below wr.heap.size wr w' from fun wr t=>r.out wr t 0 (by have:=M.out;omega));have EF:=zh (fun wr=>Zdm wr (kdR ns ⟨16,d,a,b,c⟩ 0));generalize G:ZR (kdR ns ⟨16,d,a,b,c⟩ 0)=E at EF;have QE:=zh G;clear G;have BF:=zh (show ∀wr:Yh,Below w.heap.size w wr->Calls Tryz.prog 51 #[v,.agg #[Yd Yf 16,.slice j d.length m,.slice k a.length n,.slice l b.length o,Yd Yf c],Yd Yf 1,Yd Yf 1,Yd Yf 2] wr fun e w'=>e=.returned (.bool (ZbH ns ⟨16,d,a,b,c⟩ 1 1 2))/\Below wr.heap.size wr w' from fun wr t=>p.out wr t 1 1 2 (by have:=M.out;omega) (by omega));generalize F:ZbH ns ⟨16,d,a,b,c⟩ 1 1 2=B at BF;have QB:=zh F;clear F;go_enter Tryz.func26,Tryz.ntmps26;go_upto_region 1 with fail;generalize(w.alloc (Yg #[Yd Yf 16,.slice j d.length m,.slice k a.length n,.slice l b.length o,Yd Yf c] 36))=w1 at *
  go_wp2_with (first
   |(go_at_call 22;go_fit (WF.out w1 (Za u.out));rintro e2 w2 ⟨rfl,g⟩;have i:=zh (f.out _ _ g u.out);obtain⟨⟨Q,R,S,T,U⟩,_⟩:=id i.out;clear g;cases W)
   |(go_at_call 23;go_fit (L.out w2 (Za i.out));rintro e3 w3 ⟨rfl,h⟩;have q:=zh (f.out _ _ h i.out);obtain⟨⟨V,X,Y,Z,aa⟩,_⟩:=id q.out;clear h;cases N)
   |(go_at_call 25;go_fit (EG.out w3 (Za q.out));rintro e4 w4 ⟨rfl,C⟩;have J:=zh (f.out _ _ C q.out);obtain⟨⟨aw,ax,ay,az,a1⟩,_⟩:=id J.out;clear C)
   |(go_at_call 24;go_fit (EF.out w4);rintro _ _ ⟨rfl,rfl⟩;cases E)
   |(go_at_call 51;go_fit (BF.out w4 (Za J.out));rintro e5 w5 ⟨rfl,D⟩;have K:=zh (f.out _ _ D J.out);obtain⟨⟨a6,a7,a8,ba,bb⟩,_⟩:=id K.out;clear D;cases B))
  all_goals go_ret
  all_goals first
   |exact⟨Zbm (ZsC QW.out QN.out M.out QE.out QB.out),Za K.out⟩
   |exact⟨Zh,Za K.out⟩
   |exact⟨Zh,Za J.out⟩
   |exact⟨Zh,Za q.out⟩
   |exact⟨Zh,Za i.out⟩
   |exact⟨Zh,Za u.out⟩
 ·have tk:¬(0:Int)<(b.length:Int):=by omega
  have bd:(b.length:Int)<=0:=by omega
  go_enter Tryz.func26,Tryz.ntmps26;go_upto_region 1 with fail;generalize(w.alloc (Yg #[Yd Yf 16,.slice j d.length m,.slice k a.length n,.slice l b.length o,Yd Yf c] 36))=w1 at *
  go_wp2_with (first
   |(go_at_call 22;go_fit (WF.out w1 (Za u.out));rintro e2 w2 ⟨rfl,g⟩;have i:=zh (f.out _ _ g u.out);obtain⟨⟨Q,R,S,T,U⟩,_⟩:=id i.out;clear g;cases W)
   |(go_at_call 23;go_fit (L.out w2 (Za i.out));rintro e3 w3 ⟨rfl,h⟩;have q:=zh (f.out _ _ h i.out);obtain⟨⟨V,X,Y,Z,aa⟩,_⟩:=id q.out;clear h;cases N))
  all_goals go_ret
  all_goals first
   |exact⟨Zh,Za q.out⟩
   |exact⟨Zh,Za i.out⟩
   |exact⟨Zh,Za u.out⟩
theorem ZkX (w:Yh) (v:Yi) (ns:List Nd) (va vb vc:Yi) (d:List (List UInt8)) (a b:List Int) (c:Int) (hN:Zi w v ns) (hx:ZU w ((va,vb,vc),⟨17,d,a,b,c⟩)) (hk:ZaB b ns.length) :
  Calls Tryz.prog 26 #[v,ndV ((va,vb,vc),⟨17,d,a,b,c⟩)] w fun e w'=>OkB (ZE ns ⟨17,d,a,b,c⟩=true) e/\Below w.heap.size w w':=by
 obtain⟨h1,h2,P⟩:=id hx;dsimp only at h1 h2 P;obtain⟨O,s,r,p,y⟩:=hd6 hN hx hk;obtain⟨j,m,rfl,_⟩:=h1;obtain⟨k,n,rfl,_,_,A⟩:=h2;have KL:=zh P.len;obtain⟨l,o,rfl,_⟩:=P;have R2:=zh A;unfold ndV at O s r p y⊢;dsimp only at O s r p y⊢;have f:=zh (ZcE w (Yd Yf 17) (.slice j d.length m) (.slice k a.length n) (.slice l b.length o) (Yd Yf c));have z:=ZcA w (Yd Yf 17) (.slice j d.length m) (.slice k a.length n) (.slice l b.length o) (Yd Yf c);have u:=zh z;obtain⟨⟨g0,g1,g2,g3,g4⟩,_⟩:=z;clear A hx hN hk;have WF:=zh (show ∀wr:Yh,Below w.heap.size w wr->Calls Tryz.prog 22 #[.agg #[Yd Yf 17,.slice j d.length m,.slice k a.length n,.slice l b.length o,Yd Yf c],Yd Yf 0,Yd Yf 0] wr fun e w'=>e=.returned (.bool (ZA ⟨17,d,a,b,c⟩ 0 0))/\Below wr.heap.size wr w' from fun wr t=>O.out wr t 0 0);generalize I:ZA ⟨17,d,a,b,c⟩ 0 0=W at WF;have QW:=zh I;clear I;have L:=zh (show ∀wr:Yh,Below w.heap.size w wr->Calls Tryz.prog 23 #[.agg #[Yd Yf 17,.slice j d.length m,.slice k a.length n,.slice l b.length o,Yd Yf c]] wr fun e w'=>e=.returned (.bool (Zan ⟨17,d,a,b,c⟩))/\Below wr.heap.size wr w' from fun wr t=>s.out wr t);generalize H:Zan ⟨17,d,a,b,c⟩=N at L;have QN:=zh H;clear H;by_cases qk:0<b.length
 ·have tk:(0:Int)<(b.length:Int):=by omega
  have M:=zh qk;have EG:=zh (show ∀wr:Yh,Below w.heap.size w wr->Calls Tryz.prog 25 #[v,.agg #[Yd Yf 17,.slice j d.length m,.slice k a.length n,.slice l b.length o,Yd Yf c],Yd Yf 0] wr fun e w'=>e=.returned (Yd Yf (kdR ns ⟨17,d,a,b,c⟩ 0))/\Below wr.heap.size wr w' from fun wr t=>r.out wr t 0 (by have:=M.out;omega));have EF:=zh (fun wr=>Zdm wr (kdR ns ⟨17,d,a,b,c⟩ 0));generalize G:ZR (kdR ns ⟨17,d,a,b,c⟩ 0)=E at EF;have QE:=zh G;clear G;have BF:=zh (show ∀wr:Yh,Below w.heap.size w wr->Calls Tryz.prog 51 #[v,.agg #[Yd Yf 17,.slice j d.length m,.slice k a.length n,.slice l b.length o,Yd Yf c],Yd Yf 1,Yd Yf 1,Yd Yf 1] wr fun e w'=>e=.returned (.bool (ZbH ns ⟨17,d,a,b,c⟩ 1 1 1))/\Below wr.heap.size wr w' from fun wr t=>p.out wr t 1 1 1 (by have:=M.out;omega) (by omega));generalize F:ZbH ns ⟨17,d,a,b,c⟩ 1 1 1=B at BF;have QB:=zh F;clear F;go_enter Tryz.func26,Tryz.ntmps26;go_upto_region 1 with fail;generalize(w.alloc (Yg #[Yd Yf 17,.slice j d.length m,.slice k a.length n,.slice l b.length o,Yd Yf c] 36))=w1 at *
  go_wp2_with (first
   |(go_at_call 22;go_fit (WF.out w1 (Za u.out));rintro e2 w2 ⟨rfl,g⟩;have i:=zh (f.out _ _ g u.out);obtain⟨⟨Q,R,S,T,U⟩,_⟩:=id i.out;clear g;cases W)
   |(go_at_call 23;go_fit (L.out w2 (Za i.out));rintro e3 w3 ⟨rfl,h⟩;have q:=zh (f.out _ _ h i.out);obtain⟨⟨V,X,Y,Z,aa⟩,_⟩:=id q.out;clear h;cases N)
   |(go_at_call 25;go_fit (EG.out w3 (Za q.out));rintro e4 w4 ⟨rfl,C⟩;have J:=zh (f.out _ _ C q.out);obtain⟨⟨aw,ax,ay,az,a1⟩,_⟩:=id J.out;clear C)
   |(go_at_call 24;go_fit (EF.out w4);rintro _ _ ⟨rfl,rfl⟩;cases E)
   |(go_at_call 51;go_fit (BF.out w4 (Za J.out));rintro e5 w5 ⟨rfl,D⟩;have K:=zh (f.out _ _ D J.out);obtain⟨⟨a6,a7,a8,ba,bb⟩,_⟩:=id K.out;clear D;cases B))
  all_goals go_ret
  all_goals first
   |exact⟨Zbm (ZpW QW.out QN.out M.out QE.out QB.out),Za K.out⟩
   |exact⟨Zh,Za K.out⟩
   |exact⟨Zh,Za J.out⟩
   |exact⟨Zh,Za q.out⟩
   |exact⟨Zh,Za i.out⟩
   |exact⟨Zh,Za u.out⟩
 ·have tk:¬(0:Int)<(b.length:Int):=by omega
  have bd:(b.length:Int)<=0:=by omega
  go_enter Tryz.func26,Tryz.ntmps26;go_upto_region 1 with fail;generalize(w.alloc (Yg #[Yd Yf 17,.slice j d.length m,.slice k a.length n,.slice l b.length o,Yd Yf c] 36))=w1 at *
  go_wp2_with (first
   |(go_at_call 22;go_fit (WF.out w1 (Za u.out));rintro e2 w2 ⟨rfl,g⟩;have i:=zh (f.out _ _ g u.out);obtain⟨⟨Q,R,S,T,U⟩,_⟩:=id i.out;clear g;cases W)
   |(go_at_call 23;go_fit (L.out w2 (Za i.out));rintro e3 w3 ⟨rfl,h⟩;have q:=zh (f.out _ _ h i.out);obtain⟨⟨V,X,Y,Z,aa⟩,_⟩:=id q.out;clear h;cases N))
  all_goals go_ret
  all_goals first
   |exact⟨Zh,Za q.out⟩
   |exact⟨Zh,Za i.out⟩
   |exact⟨Zh,Za u.out⟩
theorem Zj9 (w:Yh) (v:Yi) (ns:List Nd) (va vb vc:Yi) (d:List (List UInt8)) (a b:List Int) (c:Int) (hN:Zi w v ns) (hx:ZU w ((va,vb,vc),⟨18,d,a,b,c⟩)) (hk:ZaB b ns.length) :
  Calls Tryz.prog 26 #[v,ndV ((va,vb,vc),⟨18,d,a,b,c⟩)] w fun e w'=>OkB (ZE ns ⟨18,d,a,b,c⟩=true) e/\Below w.heap.size w w':=by
 obtain⟨h1,h2,J⟩:=id hx;dsimp only at h1 h2 J;obtain⟨I,o,n,t,u⟩:=hd6 hN hx hk;obtain⟨j,p,rfl,_⟩:=h1;obtain⟨k,q,rfl,_,_,z⟩:=h2;have KL:=zh J.len;obtain⟨l,r,rfl,_⟩:=J;have R2:=zh z;unfold ndV at I o n t u⊢;dsimp only at I o n t u⊢;have f:=zh (ZcE w (Yd Yf 18) (.slice j d.length p) (.slice k a.length q) (.slice l b.length r) (Yd Yf c));have y:=ZcA w (Yd Yf 18) (.slice j d.length p) (.slice k a.length q) (.slice l b.length r) (Yd Yf c);have s:=zh y;obtain⟨⟨g0,g1,g2,g3,g4⟩,_⟩:=y;clear z hx hN hk;have WF:=zh (show ∀wr:Yh,Below w.heap.size w wr->Calls Tryz.prog 22 #[.agg #[Yd Yf 18,.slice j d.length p,.slice k a.length q,.slice l b.length r,Yd Yf c],Yd Yf 0,Yd Yf 0] wr fun e w'=>e=.returned (.bool (ZA ⟨18,d,a,b,c⟩ 0 0))/\Below wr.heap.size wr w' from fun wr A=>I.out wr A 0 0);generalize F:ZA ⟨18,d,a,b,c⟩ 0 0=W at WF;have QW:=zh F;clear F;have H:=zh (show ∀wr:Yh,Below w.heap.size w wr->Calls Tryz.prog 23 #[.agg #[Yd Yf 18,.slice j d.length p,.slice k a.length q,.slice l b.length r,Yd Yf c]] wr fun e w'=>e=.returned (.bool (Zan ⟨18,d,a,b,c⟩))/\Below wr.heap.size wr w' from fun wr A=>o.out wr A);generalize D:Zan ⟨18,d,a,b,c⟩=N at H;have QN:=zh D;clear D;by_cases qk:b.length=1
 ·have tk:((b.length:Int)==1)=true:=by rw[beq_iff_eq];omega
  have Z:=zh qk;clear qk;have EG:=zh (show ∀wr:Yh,Below w.heap.size w wr->Calls Tryz.prog 25 #[v,.agg #[Yd Yf 18,.slice j d.length p,.slice k a.length q,.slice l b.length r,Yd Yf c],Yd Yf 0] wr fun e w'=>e=.returned (Yd Yf (kdR ns ⟨18,d,a,b,c⟩ 0))/\Below wr.heap.size wr w' from fun wr A=>n.out wr A 0 (by have:=Z.out;omega));have Y:=zh (fun wr=>Zdm wr (kdR ns ⟨18,d,a,b,c⟩ 0));generalize C:ZR (kdR ns ⟨18,d,a,b,c⟩ 0)=E at Y;have QE:=zh C;clear C;go_enter Tryz.func26,Tryz.ntmps26;go_upto_region 1 with fail;generalize(w.alloc (Yg #[Yd Yf 18,.slice j d.length p,.slice k a.length q,.slice l b.length r,Yd Yf c] 36))=V at *
  go_wp2_with (first
   |(go_at_call 22;go_fit (WF.out V (Za s.out));rintro e2 X ⟨rfl,g⟩;have i:=zh (f.out _ _ g s.out);obtain⟨⟨K,L,M,O,P⟩,_⟩:=id i.out;clear g;cases W)
   |(go_at_call 23;go_fit (H.out X (Za i.out));rintro e3 w3 ⟨rfl,h⟩;have m:=zh (f.out _ _ h i.out);obtain⟨⟨Q,R,S,T,U⟩,_⟩:=id m.out;clear h;cases N)
   |(go_at_call 25;go_fit (EG.out w3 (Za m.out));rintro e4 w4 ⟨rfl,B⟩;have G:=zh (f.out _ _ B m.out);obtain⟨⟨ao,ap,aq,ar,au⟩,_⟩:=id G.out;clear B)
   |(go_at_call 24;go_fit (Y.out w4);rintro _ _ ⟨rfl,rfl⟩;cases E))
  all_goals go_ret
  all_goals first
   |exact⟨Zbm (Zob QW.out QN.out Z.out QE.out),Za G.out⟩
   |exact⟨Zh,Za G.out⟩
   |exact⟨Zh,Za m.out⟩
   |exact⟨Zh,Za i.out⟩
   |exact⟨Zh,Za s.out⟩
 ·have tk:((b.length:Int)==1)=false:=by rw[beq_eq_false_iff_ne];omega
  go_enter Tryz.func26,Tryz.ntmps26;go_upto_region 1 with fail;generalize(w.alloc (Yg #[Yd Yf 18,.slice j d.length p,.slice k a.length q,.slice l b.length r,Yd Yf c] 36))=V at *
  go_wp2_with (first
   |(go_at_call 22;go_fit (WF.out V (Za s.out));rintro e2 X ⟨rfl,g⟩;have i:=zh (f.out _ _ g s.out);obtain⟨⟨K,L,M,O,P⟩,_⟩:=id i.out;clear g;cases W)
   |(go_at_call 23;go_fit (H.out X (Za i.out));rintro e3 w3 ⟨rfl,h⟩;have m:=zh (f.out _ _ h i.out);obtain⟨⟨Q,R,S,T,U⟩,_⟩:=id m.out;clear h;cases N))
  all_goals go_ret
  all_goals first
   |exact⟨Zh,Za m.out⟩
   |exact⟨Zh,Za i.out⟩
   |exact⟨Zh,Za s.out⟩
theorem ZlT (w:Yh) (v:Yi) (ns:List Nd) (Y Z vc:Yi) (d:List (List UInt8)) (a b:List Int) (c:Int) (V:Zi w v ns) (hx:ZU w ((Y,Z,vc),⟨19,d,a,b,c⟩)) (hk:ZaB b ns.length) :
  Calls Tryz.prog 26 #[v,ndV ((Y,Z,vc),⟨19,d,a,b,c⟩)] w fun e w'=>OkB (ZE ns ⟨19,d,a,b,c⟩=true) e/\Below w.heap.size w w':=by
 obtain⟨T,U,E⟩:=id hx;dsimp only at T U E;obtain⟨D,j,y,s,t⟩:=hd6 V hx hk;obtain⟨k,p,rfl,_⟩:=T;obtain⟨l,q,rfl,_,_,z⟩:=U;have KL:=zh E.len;obtain⟨m,r,rfl,_⟩:=E;have R2:=zh z;unfold ndV at D j y s t⊢;dsimp only at D j y s t⊢;have i:=zh (ZcE w (Yd Yf 19) (.slice k d.length p) (.slice l a.length q) (.slice m b.length r) (Yd Yf c));have u:=ZcA w (Yd Yf 19) (.slice k d.length p) (.slice l a.length q) (.slice m b.length r) (Yd Yf c);have n:=zh u;obtain⟨⟨g0,g1,g2,g3,g4⟩,_⟩:=u;clear z hx V hk;have WF:=zh (show ∀wr:Yh,Below w.heap.size w wr->Calls Tryz.prog 22 #[.agg #[Yd Yf 19,.slice k d.length p,.slice l a.length q,.slice m b.length r,Yd Yf c],Yd Yf 0,Yd Yf 0] wr fun e w'=>e=.returned (.bool (ZA ⟨19,d,a,b,c⟩ 0 0))/\Below wr.heap.size wr w' from fun wr F=>D.out wr F 0 0);generalize B:ZA ⟨19,d,a,b,c⟩ 0 0=W at WF;have QW:=zh B;clear B;have C:=zh (show ∀wr:Yh,Below w.heap.size w wr->Calls Tryz.prog 23 #[.agg #[Yd Yf 19,.slice k d.length p,.slice l a.length q,.slice m b.length r,Yd Yf c]] wr fun e w'=>e=.returned (.bool (Zan ⟨19,d,a,b,c⟩))/\Below wr.heap.size wr w' from fun wr F=>j.out wr F);generalize A:Zan ⟨19,d,a,b,c⟩=N at C;have QN:=zh A;clear A;by_cases X:b.length=0
 ·have tk:((b.length:Int)==0)=true:=by rw[beq_iff_eq];omega
  have QK:=zh X;clear X;go_enter Tryz.func26,Tryz.ntmps26;go_upto_region 1 with fail;generalize(w.alloc (Yg #[Yd Yf 19,.slice k d.length p,.slice l a.length q,.slice m b.length r,Yd Yf c] 36))=R at *
  go_wp2_with (first
   |(go_at_call 22;go_fit (WF.out R (Za n.out));rintro e2 S ⟨rfl,f⟩;have h:=zh (i.out _ _ f n.out);obtain⟨⟨G,H,I,J,K⟩,_⟩:=id h.out;clear f;cases W)
   |(go_at_call 23;go_fit (C.out S (Za h.out));rintro e3 w3 ⟨rfl,g⟩;have o:=zh (i.out _ _ g h.out);obtain⟨⟨L,M,O,P,Q⟩,_⟩:=id o.out;clear g;cases N))
  all_goals go_ret
  all_goals first
   |exact⟨Zbm (Zq4 QW.out QN.out QK.out),Za o.out⟩
   |exact⟨Zh,Za o.out⟩
   |exact⟨Zh,Za h.out⟩
   |exact⟨Zh,Za n.out⟩
 ·have tk:((b.length:Int)==0)=false:=by rw[beq_eq_false_iff_ne];omega
  go_enter Tryz.func26,Tryz.ntmps26;go_upto_region 1 with fail;generalize(w.alloc (Yg #[Yd Yf 19,.slice k d.length p,.slice l a.length q,.slice m b.length r,Yd Yf c] 36))=R at *
  go_wp2_with (first
   |(go_at_call 22;go_fit (WF.out R (Za n.out));rintro e2 S ⟨rfl,f⟩;have h:=zh (i.out _ _ f n.out);obtain⟨⟨G,H,I,J,K⟩,_⟩:=id h.out;clear f;cases W)
   |(go_at_call 23;go_fit (C.out S (Za h.out));rintro e3 w3 ⟨rfl,g⟩;have o:=zh (i.out _ _ g h.out);obtain⟨⟨L,M,O,P,Q⟩,_⟩:=id o.out;clear g;cases N))
  all_goals go_ret
  all_goals first
   |exact⟨Zh,Za o.out⟩
   |exact⟨Zh,Za h.out⟩
   |exact⟨Zh,Za n.out⟩
theorem ZkV (w:Yh) (v:Yi) (ns:List Nd) (va vb vc:Yi) (h:List (List UInt8)) (a b:List Int) (g:Int) (hN:Zi w v ns) (hx:ZU w ((va,vb,vc),⟨7,h,a,b,g⟩)) (hk:ZaB b ns.length) :
  Calls Tryz.prog 26 #[v,ndV ((va,vb,vc),⟨7,h,a,b,g⟩)] w fun e w'=>OkB (ZE ns ⟨7,h,a,b,g⟩=true) e/\Below w.heap.size w w':=by
 obtain⟨h1,h2,h3⟩:=id hx;dsimp only at h1 h2 h3;obtain⟨Y,p,o,B,C⟩:=hd6 hN hx hk;obtain⟨r,u,rfl,_⟩:=h1;obtain⟨s,y,rfl,_,_,E⟩:=h2;have KL:=zh h3.len;obtain⟨t,A,rfl,_⟩:=h3;have R2:=zh E;unfold ndV at Y p o B C⊢;dsimp only at Y p o B C⊢;have m:=zh (ZcE w (Yd Yf 7) (.slice r h.length u) (.slice s a.length y) (.slice t b.length A) (Yd Yf g));have D:=ZcA w (Yd Yf 7) (.slice r h.length u) (.slice s a.length y) (.slice t b.length A) (Yd Yf g);have j:=zh D;obtain⟨⟨g0,g1,g2,g3,g4⟩,_⟩:=D;clear E hx hN hk;go_enter Tryz.func26,Tryz.ntmps26;go_upto_region 1 with fail;generalize(w.alloc (Yg #[Yd Yf 7,.slice r h.length u,.slice s a.length y,.slice t b.length A,Yd Yf g] 36))=w1 at *;go_wp2_with fail;go_loopg [6] (b.length) (fun gk vi wr=>∃i:Nat,vi=Yd Yf i/\i<=b.length/\gk=b.length-i/\Zat ns (b.take i) ZcT=true/\(wr.cell? ⟨w.heap.size,0,Yb⟩=Ya (Yd Yf 7)/\wr.cell? ⟨w.heap.size,1,Yb⟩=Ya (.slice r h.length u)/\wr.cell? ⟨w.heap.size,2,Yb⟩=Ya (.slice s a.length y)/\wr.cell? ⟨w.heap.size,3,Yb⟩=Ya (.slice t b.length A)/\wr.cell? ⟨w.heap.size,4,Yb⟩=Ya (Yd Yf g))/\Below w.heap.size w wr)
 case atStart=>exact⟨0,rfl,Nat.zero_le _,rfl,rfl,j.out⟩
 case round=>
  clear j g0 g1 g2 g3 g4;obtain⟨i,rfl,hi,q,c,hS⟩:=hrel;have j:=zh hS;obtain⟨⟨g0,g1,g2,g3,g4⟩,_⟩:=hS;by_cases G:i=b.length
  ·have e:b.take i=b:=by rw[G];exact List.take_length
   rw[e]at c;have HA:=zh c;have ti:¬(i:Int)<(b.length:Int):=by omega
   clear e c q;have NF:=zh (show ∀wr:Yh,Below w.heap.size w wr->Calls Tryz.prog 23 #[.agg #[Yd Yf 7,.slice r h.length u,.slice s a.length y,.slice t b.length A,Yd Yf g]] wr fun e w'=>e=.returned (.bool (Zan ⟨7,h,a,b,g⟩))/\Below wr.heap.size wr w' from fun wr hb=>p.out wr hb);generalize H:Zan ⟨7,h,a,b,g⟩=N at NF;have QN:=zh H;clear H;have WF:=zh (show ∀wr:Yh,Below w.heap.size w wr->Calls Tryz.prog 22 #[.agg #[Yd Yf 7,.slice r h.length u,.slice s a.length y,.slice t b.length A,Yd Yf g],Yd Yf 0,Yd Yf 0] wr fun e w'=>e=.returned (.bool (ZA ⟨7,h,a,b,g⟩ 0 0))/\Below wr.heap.size wr w' from fun wr hb=>Y.out wr hb 0 0);generalize I:ZA ⟨7,h,a,b,g⟩ 0 0=W at WF;have QW:=zh I;clear I
   go_wp2_with (first
    |(go_at_call 23;go_fit (NF.out wr (Za j.out));rintro e2 R ⟨rfl,d⟩;have l:=zh (m.out _ _ d j.out);obtain⟨⟨K,L,M,O,P⟩,_⟩:=id l.out;clear d;cases N)
    |(go_at_call 22;go_fit (WF.out R (Za l.out));rintro e3 w3 ⟨rfl,F⟩;have T:=zh (m.out _ _ F l.out);obtain⟨⟨a1,a6,a7,a8,ba⟩,_⟩:=id T.out;clear F;cases W))
   all_goals go_ret
   all_goals first
    |exact⟨Zbm (ZpT HA.out QN.out QW.out),Za T.out⟩
    |exact⟨Zh,Za T.out⟩
    |exact⟨Zh,Za l.out⟩
    |exact⟨Zh,Za j.out⟩
  ·have n:i<b.length:=by omega
   obtain⟨z,J⟩:∃z,b[i]? = Ya z:=⟨_,Ym n⟩
   have Q:=ZcJ (f:=fun k=>ZcT (Zs ns k)) J c;have kk:kdR ns ⟨7,h,a,b,g⟩ i=Zs ns z:=by unfold kdR;dsimp only;rw[Zcp J]
   have U:=zh (fun(wz:Yh) (J:Below w.heap.size w wz)=>o.out wz J i n);rw[kk]at U;have ti:(i:Int)<(b.length:Int):=by omega
   have bc:(0:Int)<=(i:Int):=by omega
   have wk:IntKind.i64.wrap ((i:Int)+1)=(i:Int)+1:=IntWalk.i64_in _ (by have:=KL.out;unfold maxLen at this;omega);have S:=zh (zi n (zi q Q));clear q Q J c kk G n hi;generalize Zs ns z=Z at *;have V:=zh (fun wr=>ZpD wr Z);generalize hq:ZcT Z=X at V;have TZ:=zh hq;clear hq;cases X
   ·go_wp2_with (first
     |(go_at_call 25;go_fit (U.out wr (Za j.out));rintro e2 R ⟨rfl,d⟩;have l:=zh (m.out _ _ d j.out);obtain⟨⟨K,L,M,O,P⟩,_⟩:=id l.out;clear d)
     |(go_at_call 50;go_fit (V.out R);rintro _ _ ⟨rfl,rfl⟩))
    go_ret;exact⟨Zh,Za l.out⟩
   ·go_wp2_with (first
     |(go_at_call 25;go_fit (U.out wr (Za j.out));rintro e2 R ⟨rfl,d⟩;have l:=zh (m.out _ _ d j.out);obtain⟨⟨K,L,M,O,P⟩,_⟩:=id l.out;clear d)
     |(go_at_call 50;go_fit (V.out R);rintro _ _ ⟨rfl,rfl⟩))
    go_roundg (b.length-(i+1))
    case measure=>have:=S.out;omega
    case rel=>exact⟨i+1,by push_cast;rfl,by have:=S.out;omega,rfl,S.out.2.2.trans (TZ.out),l.out⟩
theorem Zpn (w:Yh) (v:Yi) (ns:List Nd) (va vb vc:Yi) (h:List (List UInt8)) (a b:List Int) (g:Int) (hN:Zi w v ns) (hx:ZU w ((va,vb,vc),⟨11,h,a,b,g⟩)) (hk:ZaB b ns.length) :
  Calls Tryz.prog 26 #[v,ndV ((va,vb,vc),⟨11,h,a,b,g⟩)] w fun e w'=>OkB (ZE ns ⟨11,h,a,b,g⟩=true) e/\Below w.heap.size w w':=by
 obtain⟨h1,h2,V⟩:=id hx;dsimp only at h1 h2 V;obtain⟨U,p,o,B,C⟩:=hd6 hN hx hk;obtain⟨r,u,rfl,_⟩:=h1;obtain⟨s,y,rfl,_,_,E⟩:=h2;have KL:=zh V.len;obtain⟨t,A,rfl,_⟩:=V;have R2:=zh E;unfold ndV at U p o B C⊢;dsimp only at U p o B C⊢;have m:=zh (ZcE w (Yd Yf 11) (.slice r h.length u) (.slice s a.length y) (.slice t b.length A) (Yd Yf g));have D:=ZcA w (Yd Yf 11) (.slice r h.length u) (.slice s a.length y) (.slice t b.length A) (Yd Yf g);have j:=zh D;obtain⟨⟨g0,g1,g2,g3,g4⟩,_⟩:=D;clear E hx hN hk;go_enter Tryz.func26,Tryz.ntmps26;go_upto_region 1 with fail;generalize(w.alloc (Yg #[Yd Yf 11,.slice r h.length u,.slice s a.length y,.slice t b.length A,Yd Yf g] 36))=w1 at *;go_wp2_with fail;go_loopg [6] (b.length) (fun gk vi wr=>∃i:Nat,vi=Yd Yf i/\i<=b.length/\gk=b.length-i/\Zat ns (b.take i) (isB [12])=true/\(wr.cell? ⟨w.heap.size,0,Yb⟩=Ya (Yd Yf 11)/\wr.cell? ⟨w.heap.size,1,Yb⟩=Ya (.slice r h.length u)/\wr.cell? ⟨w.heap.size,2,Yb⟩=Ya (.slice s a.length y)/\wr.cell? ⟨w.heap.size,3,Yb⟩=Ya (.slice t b.length A)/\wr.cell? ⟨w.heap.size,4,Yb⟩=Ya (Yd Yf g))/\Below w.heap.size w wr)
 case atStart=>exact⟨0,rfl,Nat.zero_le _,rfl,rfl,j.out⟩
 case round=>
  clear j g0 g1 g2 g3 g4;obtain⟨i,rfl,hi,q,c,hS⟩:=hrel;have j:=zh hS;obtain⟨⟨g0,g1,g2,g3,g4⟩,_⟩:=hS;by_cases G:i=b.length
  ·have e:b.take i=b:=by rw[G];exact List.take_length
   rw[e]at c;have HA:=zh c;have ti:¬(i:Int)<(b.length:Int):=by omega
   clear e c q;have NF:=zh (show ∀wr:Yh,Below w.heap.size w wr->Calls Tryz.prog 23 #[.agg #[Yd Yf 11,.slice r h.length u,.slice s a.length y,.slice t b.length A,Yd Yf g]] wr fun e w'=>e=.returned (.bool (Zan ⟨11,h,a,b,g⟩))/\Below wr.heap.size wr w' from fun wr X=>p.out wr X);generalize H:Zan ⟨11,h,a,b,g⟩=N at NF;have QN:=zh H;clear H;have WF:=zh (show ∀wr:Yh,Below w.heap.size w wr->Calls Tryz.prog 22 #[.agg #[Yd Yf 11,.slice r h.length u,.slice s a.length y,.slice t b.length A,Yd Yf g],Yd Yf 2,Yd Yf 2] wr fun e w'=>e=.returned (.bool (ZA ⟨11,h,a,b,g⟩ 2 2))/\Below wr.heap.size wr w' from fun wr X=>U.out wr X 2 2);generalize I:ZA ⟨11,h,a,b,g⟩ 2 2=W at WF;have QW:=zh I;clear I
   go_wp2_with (first
    |(go_at_call 23;go_fit (NF.out wr (Za j.out));rintro e2 w2 ⟨rfl,d⟩;have l:=zh (m.out _ _ d j.out);obtain⟨⟨K,L,M,O,P⟩,_⟩:=id l.out;clear d;cases N)
    |(go_at_call 22;go_fit (WF.out w2 (Za l.out));rintro e3 w3 ⟨rfl,F⟩;have S:=zh (m.out _ _ F l.out);obtain⟨⟨az,a1,a6,a7,a8⟩,_⟩:=id S.out;clear F;cases W))
   all_goals go_ret
   all_goals first
    |exact⟨Zbm (ZsA HA.out QN.out QW.out),Za S.out⟩
    |exact⟨Zh,Za S.out⟩
    |exact⟨Zh,Za l.out⟩
    |exact⟨Zh,Za j.out⟩
  ·have n:i<b.length:=by omega
   obtain⟨z,J⟩:∃z,b[i]? = Ya z:=⟨_,Ym n⟩
   have Q:=ZcJ (f:=fun k=>(isB [12]) (Zs ns k)) J c;have kk:kdR ns ⟨11,h,a,b,g⟩ i=Zs ns z:=by unfold kdR;dsimp only;rw[Zcp J]
   have T:=zh (fun(wz:Yh) (J:Below w.heap.size w wz)=>o.out wz J i n);rw[kk]at T;have ti:(i:Int)<(b.length:Int):=by omega
   have bb:(0:Int)<=(i:Int):=by omega
   have wk:IntKind.i64.wrap ((i:Int)+1)=(i:Int)+1:=IntWalk.i64_in _ (by have:=KL.out;unfold maxLen at this;omega);have R:=zh (zi n (zi q Q));clear q Q J c kk G n hi;generalize Zs ns z=Z at *;cases z12:(Z==12)
   ·have Y:(Z != 12)=true:=by rw[bne,z12];rfl
    go_wp2_with (first
     |(go_at_call 25;go_fit (T.out wr (Za j.out));rintro e2 w2 ⟨rfl,d⟩;have l:=zh (m.out _ _ d j.out);obtain⟨⟨K,L,M,O,P⟩,_⟩:=id l.out;clear d))
    go_ret;exact⟨Zh,Za l.out⟩
   ·have Y:(Z != 12)=false:=by rw[bne,z12];rfl
    have TZ:=zh (show isB [12] Z=true from by unfold isB;rw[List.contains_cons,z12];rfl)
    go_wp2_with (first
     |(go_at_call 25;go_fit (T.out wr (Za j.out));rintro e2 w2 ⟨rfl,d⟩;have l:=zh (m.out _ _ d j.out);obtain⟨⟨K,L,M,O,P⟩,_⟩:=id l.out;clear d))
    go_roundg (b.length-(i+1))
    case measure=>have:=R.out;omega
    case rel=>exact⟨i+1,by push_cast;rfl,by have:=R.out;omega,rfl,R.out.2.2.trans (TZ.out),l.out⟩
end Go.Proofs.YtdkegpkfjgloeaaGreatDoor
