import Derived.Test.YtfbepcelkijgkaaGreatDoorQAO
set_option maxRecDepth 100000
set_option maxHeartbeats 8000000
open Option renaming some → Ya
open Go.Value renaming slice → Yc, int → Yd
open Go.IntKind renaming i64 → Yf
open Go.Obj renaming cells → Yg
open Go renaming World → Yh, Value → Yi
namespace Go.Proofs.YtfbepcelkijgkaaGreatDoor
section
open Go.RowKit
theorem PrS.deep {f w:Yh} {a g:Nat} {t:Txt} {e:Yi} (h:PrS f w a t g e) (d:Nat):PrS f (w.setCell ⟨a,1,none⟩ (Yd Yf (d:Int))) a t d e:=by obtain⟨v,b,c⟩:=h.box;exact⟨⟨v,by simpa using b.set 1 (Yd Yf (d:Int)),Zdt c (b.off c (by decide))⟩,h.below.setCell h.ge _,h.ge⟩
theorem Fr.cell (w:Yh) (a i:Nat) (v:Yi):Fr w (w.setCell ⟨a,i,none⟩ v) a:=
 ⟨by simp[World.setCell],fun b g f c _ d=>Zk.other d (fun e=>c e.symm) _⟩
theorem PrS.cells {i w:Yh} {a e:Nat} {t:Txt} {f:Yi} (h:PrS i w a t e f):w.cell? ⟨a,1,none⟩=Ya (Yd Yf e)/\w.frozen? ⟨a,1,none⟩=false/\w.cell? ⟨a,2,none⟩=Ya f:=by obtain⟨v,b,_⟩:=h.box;have c:=b.blk.cell 1;have d:=b.blk.cell 2;have g:=b.blk.free 1;simp only[List.getElem?_toArray,List.getElem?_cons_zero,List.getElem?_cons_succ]at c d;exact⟨c,g,d⟩
theorem Zgw (F:Nat) (hF:Enters F) (i w:Yh) (j b:Nat) (t:Txt) (l:Yi) (ns:List Nd) (A:Option Addr) (c:Nat) (g:List Int) (C:Nd->Prop) (T:Nd->Txt) (h:PrS i w j t b l) (G:Zi i l ns) (hd:b<4000)
  (E:ZM i i.heap.size 1 A g.length (g.map (Value.int Yf))) (m:g.length<=maxLen) (o:Zax ns g C) (D:ZcF F i ns (b+1) C T) (n:t.length+(Zcs b (g.map fun k=>T (Zf ns k))).length+10000<=140737488355328) :
  Calls Tryz.prog 37 #[.pointer (Ya ⟨j,0,none⟩),Yc A g.length c,.func (.func F) #[.pointer (Ya ⟨j,0,none⟩)] #[]] w fun e w'=>e=.returned (.tuple #[])/\PrS i w' j (t++Zcs b (g.map fun k=>T (Zf ns k))) b l/\Fr w w' j:=by
 by_cases s:g=[]
 ·subst s;have q:Zcs b (([]:List Int).map fun k=>T (Zf ns k))=[32,123,32,125]:=rfl;rw[q]at n⊢;have y:=zh (Zao i w j b t l [32,123,32,125] h (by simp only[Yk,Yl]at n⊢;omega));have t0:(((([]:List Int).length:Nat):Int)==0)=true:=rfl;clear n q D o m E G h;go_enter Tryz.func37,Tryz.ntmps37;go_wp2_with (go_at_call 36;(refine y.out.mono ?_);rintro e u ⟨rfl,f,d⟩;have p:=zh (zi f d);clear f d);refine bodyPost_ret (v:=.tuple #[]) (results_none (by kernel_rfl) _ _ _) rfl ⟨rfl,p.out⟩
 ·have q:Zcs b (g.map fun k=>T (Zf ns k))=[32,123,10]++Zb1 (b+1) (g.map fun k=>T (Zf ns k))++ZeA b++[125]:=by
   cases g with
   |nil=>exact absurd rfl s
   |cons a r=>rfl
  rw[q]at n⊢;simp only[Yj,Yk,Yl]at n;have t0:((g.length:Int)==0)=false:=by
   cases g with
   |nil=>exact absurd rfl s
   |cons a r=>rw[beq_eq_false_iff_ne];simp only[Yk];omega
  have wd:IntKind.i64.wrap ((b:Int)+1)=((b+1:Nat):Int):=(IntWalk.i64_in _ (by omega)).trans (by push_cast;rfl);have R:IntKind.i64.wrap (((b+1:Nat):Int)-1)=(b:Int):=(IntWalk.i64_in _ (by omega)).trans (by push_cast;omega);have S:IntKind.i64.wrap (b:Int)=(b:Int):=IntWalk.i64_in _ (by omega);have U:wrap64 (b:Int)=(b:Int):=IntWalk.wrap64_in _ (by omega);have y:=zh (Zao i w j b t l [32,123,10] h (by simp only[Yk,Yl];omega));have K:=zh (fun(u:Yh) (P:PrS i u j (t++[32,123,10]) (b+1) l)=>ZjC F hF i u j (b+1) _ l ns A c g C T P G (by omega) E m o D (by simp only[Yj,Yk,Yl];omega));have B:=zh (zi n hd);clear s q D o m E G h hd n;go_enter Tryz.func37,Tryz.ntmps37;go_upto_region 3 with(go_at_call 36;(refine y.out.mono ?_);rintro e u ⟨rfl,f,d⟩;have p:=zh (zi f d);clear f d)
  obtain⟨V,Z,W⟩:=p.out.1.cells;have N:=zh (p.out.1.deep (b+1));have M:=zh (K.out _ N.out);go_upto_region 5 with(go_at_call 17;(refine M.out.mono ?_);rintro e w3 ⟨rfl,f,d⟩;have z:=zh (zi f d);clear f d)
  obtain⟨X,g1,Y⟩:=z.out.1.cells;have O:=zh (z.out.1.deep b);have L:=zh (Zix i _ j b _ l O.out (by have:=B.out.2;omega) (by have:=B.out.1;simp only[Yj,Yk,Yl];omega));go_upto_region 7 with(go_at_call 35;(refine L.out.mono ?_);rintro e Q ⟨rfl,f,d⟩;have H:=zh (zi f d);clear f d)
  have J:=zh (Zao i Q j b _ l [125] H.out.1 (by have:=B.out.1;simp only[Yj,Yk,Yl];omega));go_wp2_with (go_at_call 36;(refine J.out.mono ?_);rintro e w6 ⟨rfl,f,d⟩;have I:=zh (zi f d);clear f d);go_end0;refine⟨rfl,?_,((((p.out.2.trans (Fr.cell _ _ _ _)).trans z.out.2).trans (Fr.cell _ _ _ _)).trans H.out.2).trans I.out.2⟩;have:=I.out.1;simp only[List.append_assoc]at this⊢;exact this
end
section
open Go.RowKit
theorem Zhc (s:Txt) (a b:List Txt):Lib.joinTail s (a++b)=Lib.joinTail s a++Lib.joinTail s b:=by unfold Lib.joinTail;rw[List.map_append,List.flatten_append]
theorem Zpp (s:Txt) (l:List Txt) (x:Txt) (h:l≠[]):Za5 s (l++[x])=Za5 s l++s++x:=by
 cases l with
 |nil=>exact absurd rfl h
 |cons a r=>rw[List.cons_append,Zes,Zes,Zhc];simp[Lib.joinTail]
theorem Zmx (s:Txt) (l:List Txt) (k:Nat):(Za5 s (l.take k)).length<=(Za5 s l).length:=by
 cases l with
 |nil=>simp
 |cons a r=>
  cases k with
  |zero=>simp[Za5]
  |succ k=>
   rw[List.take_succ_cons,Zes,Zes];have e:Lib.joinTail s r=Lib.joinTail s (r.take k)++Lib.joinTail s (r.drop k):=by rw[<-Zhc,List.take_append_drop]
   rw[e];simp only[Yj];omega
def Zsh (F:Nat) (g:Array Yi) (f w1:Yh) (a b:Nat) (c:Yi) (L:List Txt):Prop:=
 ∀(k:Nat) (x:Txt) (w:Yh) (t:Txt),L[k]? = Ya x->PrS f w a t b c->Fr w1 w a->t.length+x.length+10000<=140737488355328 ->
  Calls Tryz.prog F (#[Yd Yf (k:Int)]++g) w fun e d=>e=.returned (.tuple #[])/\PrS f d a (t++x) b c/\Fr w d a
theorem Zfh (F:Nat) (K:Array Yi) (hF:Enters F) (v w:Yh) (f p:Nat) (t s:Txt) (u:Yi) (L:List Txt) (h:PrS v w f t p u) (M:Zsh F K v w f p u L) (B:L.length<=maxLen) (N:t.length+(Za5 s L).length+10000<=140737488355328) :
  Calls Tryz.prog 64 #[.pointer (Ya ⟨f,0,none⟩),txt s,Yd Yf (L.length:Nat),.func (.func F) #[] K] w fun e w'=>e=.returned (.tuple #[])/\PrS v w' f (t++Za5 s L) p u/\Fr w w' f:=by
 have o:=zh (zi h (zi M (zi B N)));have z:=hF;unfold Enters at z;clear h M B N;obtain⟨m,hm⟩:∃m,m=L.length:=⟨_,rfl⟩
 rw[<-hm];have D:=zh hm;clear hm;go_enter Tryz.func64,Tryz.ntmps64;go_wp2_with fail;go_loopg [10] m (fun g I wr=>∃k:Nat,I=Yd Yf k/\k<=m/\g=m-k/\PrS v wr f (t++Za5 s (L.take k)) p u/\Fr w wr f)
 case atStart=>exact⟨0,rfl,Nat.zero_le _,rfl,by simpa[Za5]using o.out.1,Fr.refl _ _⟩
 case round=>
  obtain⟨k,rfl,hk,A,j,a⟩:=hrel;by_cases i:k=m
  ·have R:decide (k<m)=false:=decide_eq_false (by omega);have O:¬((k:Int)<(m:Int)):=by omega
   have G:=zh (zi (show PrS v wr f (t++Za5 s L) p u by rw[show L.take k=L by rw[i,D.out,List.take_length]]at j;exact j) a);clear hk A j a i;go_wp2_with fail;go_end0;exact⟨rfl,G.out⟩
  ·have d:k<m:=by omega
   obtain⟨x,hx⟩:∃x,L[k]? = Ya x:=⟨_,Ym (by rw[<-D.out];exact d)⟩
   have R:(k:Int)<(m:Int):=by omega
   have U:IntKind.i64.wrap ((k:Int)+1)=(k:Int)+1:=IntWalk.i64_in _ (by have:=o.out.2.2.1;have:=D.out;have e:maxLen=9223372036854775807:=rfl;omega);have r:=Zmx s L (k+1);rw[List.take_add_one,hx]at r;dsimp only[Option.toList]at r;by_cases c:k=0
   ·have J:Za5 s (L.take k)=[]:=by rw[c];rfl
    have q:Za5 s (L.take (k+1))=x:=by rw[List.take_add_one,hx,c];rfl
    have O:¬((0:Int)<(k:Int)):=by omega
    rw[J,List.append_nil]at j
    have E:=zh (o.out.2.1 k x wr _ hx j a (by
     have:=o.out.2.2.2;rw[c]at r;have:(Za5 s (L.take 0++[x]))=x:=rfl;rw[this]at r
     omega))
    have b:=zh (zi d (zi A (zi q a)));clear i d hk A a j hx J q r c;go_wp2_with (with_reducible refine E.out.mono ?_;rintro e T ⟨rfl,n,l⟩;have y:=zh (zi n l);clear n l);go_roundg (m-(k+1))
    case measure=>have:=b.out.1;have:=b.out.2.1;omega
    case rel=>exact⟨k+1,by push_cast;rfl,b.out.1,rfl,by rw[b.out.2.2.1];exact y.out.1,b.out.2.2.2.trans y.out.2⟩
   ·have P:L.take k≠[]:=fun e=>by
     have:=congrArg List.length e;rw[List.length_take,Yl]at this;have:=D.out;omega
    have q:Za5 s (L.take (k+1))=Za5 s (L.take k)++s++x:=by rw[List.take_add_one,hx];exact Zpp s _ x P
    have O:(0:Int)<(k:Int):=by omega
    have C:(Za5 s (L.take k)).length+s.length+x.length<=(Za5 s L).length:=by have:=Zmx s L (k+1);rw[q]at this;simp only[Yj]at this;exact this
    have Q:=zh (Zao v wr f p _ u s j (by have:=o.out.2.2.2;rw[Yj];omega));have b:=zh (zi d (zi A (zi q (zi a (zi hx C)))));clear i d hk A a j hx q r C c P;go_upto_region 5 with(go_at_call 36;(refine Q.out.mono ?_);rintro e S ⟨rfl,n,l⟩;have H:=zh (zi n l);clear n l)
    have E:=zh (o.out.2.1 k x S _ b.out.2.2.2.2.1 H.out.1 (b.out.2.2.2.1.trans H.out.2) (by
     have:=o.out.2.2.2;have:=b.out.2.2.2.2.2;simp only[Yj]
     omega))
    go_wp2_with (with_reducible refine E.out.mono ?_;rintro e T ⟨rfl,n,l⟩;have y:=zh (zi n l);clear n l);go_roundg (m-(k+1))
    case measure=>have:=b.out.1;have:=b.out.2.1;omega
    case rel=>
     refine⟨k+1,by push_cast;rfl,b.out.1,rfl,?_,(b.out.2.2.2.1.trans H.out.2).trans y.out.2⟩;rw[b.out.2.2.1];have:=y.out.1;simp only[List.append_assoc]at this⊢;exact this
end
section
open Go.RowKit
theorem enters_of {f:FuncId} {b:Func} {c:Code} (g:Tryz.prog.funcs[f]? = Ya b) (a:(b.name=="runtime.NumGoroutine")=false) (e:b.body=Ya c):Enters f:=fun args w=>by
 have d:b.name≠"runtime.NumGoroutine":=by simpa using a
 simp[callFunc,g,d,e,go_sem]
theorem Zbm {i w:Yh} {c d b:Nat} {t:Txt} {g:Yi} {cs:Array Yi} {ty:TypeId} (h:PrS i w c t d g) (k:Zk w b ty cs) (a:ty≠47):b≠c:=by obtain⟨v,f,_⟩:=h.box;intro e;subst e;exact absurd (Zhw k f) a
theorem one_cell {w:Yh} {b:Nat} {ty:TypeId} {v:Yi} (h:Zk w b ty #[v]):w.cell? ⟨b,0,none⟩=Ya v:=by have c:=h.blk.cell 0;simpa using c
abbrev ZaF (b:Nat):Yi:=.pointer (Ya ⟨b,0,none⟩)
theorem Zol (F:Nat) (hF:Enters F) (i w:Yh) (a E b1 Q R:Nat) (t:Txt) (N:Yi) (ns:List Nd) (A:Option Addr) (c:Nat) (g:List Int) (P:Nd->Prop) (T:Nd->Txt) (k:Nat) (y:Int) (h:PrS i w a t E N) (G:Zi i N ns)
  (p:Zk w b1 49 #[.func (.func F) #[ZaF a] #[]]) (q:Zk w Q 42 #[ZaF a]) (s:Zk w R 35 #[Yc A g.length c])
  (U:ZM i i.heap.size 1 A g.length (g.map (Value.int Yf))) (u:Zax ns g P) (S:ZcF F i ns E P T) (C:g[k]? = Ya y) (J:t.length+(T (Zf ns y)).length+10000<=140737488355328) :
  Calls Tryz.prog 66 #[Yd Yf (k:Int),ZaF b1,ZaF Q,ZaF R] w fun e w'=>e=.returned (.tuple #[])/\PrS i w' a (t++T (Zf ns y)) E N/\Fr w w' a:=by
 obtain⟨An,cn,rs,rfl,_,Z,hm,V,b⟩:=id G;have I:=(List.getElem?_eq_some_iff.1 C).1;obtain⟨B,L,f⟩:=u y (List.mem_of_getElem? C);obtain⟨n,rfl⟩:=Int.eq_ofNat_of_zero_le B;have d:n<ns.length:=by omega
 obtain⟨r,v⟩:∃r,rs[n]? = Ya r:=⟨_,Ym (by rw[<-hm,List.length_map]at d;exact d)⟩
 have z:ns[n]? = Ya r.2:=by rw[<-hm,List.getElem?_map,v];rfl
 rw[ZbP z]at f J⊢;obtain⟨ak,rfl,q0⟩:=ints_at U h.below C (by omega);obtain⟨an,rfl,n0,n1,n2,n3,n4⟩:=Zan V h.below v (by omega);have j1:(k:Int)<(g.length:Int):=by omega
 have j0:(0:Int)<=(k:Int):=by omega
 have i0:(0:Int)<=(n:Int):=by omega
 have i1:(n:Int)<(ns.length:Int):=by omega
 have e1:=one_cell p;have e2:=one_cell q;have e3:=one_cell s;have c2:=h.cells.2.2;have H:=Zo w;have D:=zh (S w.drew a t _ r (h.keep H) G (b r (List.mem_of_getElem? v)) f J);have Y:=zh (Fr.of_below a H);have K:=b r (List.mem_of_getElem? v);clear h G p q s U u S C J hm V b I B L f d v z H;obtain⟨⟨yw,yu,yk⟩,aa,aj,M,ab,ah⟩:=r;obtain⟨l,m,o⟩:=K;dsimp only at l m o;obtain⟨Bw,dw,rfl,_⟩:=l;obtain⟨Bu,du,rfl,_⟩:=m;obtain⟨Bk,dk,rfl,_⟩:=o;unfold ndX at D;dsimp only at n0 n1 n2 n3 n4 D;have j:=hF;unfold Enters at j;clear hF;go_enter Tryz.func66,Tryz.ntmps66;go_upto_region 0 with fail;refine wp_region_still_tail 11 (by kernel_rfl) (by kernel_rfl) ?_;simp only[List.take_succ_cons,List.take_zero,List.drop_succ_cons,List.drop_zero]
 iterate 11 still_step
 refine wpStill_nil ?_;change wpList _ _ _ _ _ w.drew;go_wp2_with (with_reducible refine D.out.mono ?_;rintro e w2 ⟨rfl,X,W⟩;have O:=zh (zi X W);clear X W);go_end0;exact⟨rfl,O.out.1,Y.out.trans O.out.2⟩
theorem ZfJ (F:Nat) (hF:Enters F) (i w:Yh) (b n:Nat) (t:Txt) (o:Yi) (ns:List Nd) (A:Option Addr) (c:Nat) (d:List Int) (G:Nd->Prop) (T:Nd->Txt) (h:PrS i w b t n o) (V:Zi i o ns)
  (U:ZM i i.heap.size 1 A d.length (d.map (Value.int Yf))) (s:d.length<=maxLen) (u:Zax ns d G) (S:ZcF F i ns n G T) (W:t.length+(Za5 [44,32] (d.map fun k=>T (Zf ns k))).length+10002<=140737488355328) :
  Calls Tryz.prog 39 #[ZaF b,Yc A d.length c,.func (.func F) #[ZaF b] #[]] w fun e w'=>e=.returned (.tuple #[])/\PrS i w' b (t++([40]++Za5 [44,32] (d.map fun k=>T (Zf ns k))++[41])) n o/\Fr w w' b:=by
 have H:=below_alloc1 w (Yg #[ZaF b] 42);have N:Zk _ _ _ _:=Zk.start w #[ZaF b] 42;generalize J:w.alloc (Yg #[ZaF b] 42)=v at *;have M:v.heap.size=w.heap.size+1:=by rw[<-J,World.size_alloc]
 have a2:=below_alloc1 v (Yg #[Yc A d.length c] 35);have O:Zk _ _ _ _:=Zk.start v #[Yc A d.length c] 35;generalize K:v.alloc (Yg #[Yc A d.length c] 35)=z at *;have z2:z.heap.size=w.heap.size+2:=by rw[<-K,World.size_alloc,M]
 have a3:=below_alloc1 z (Yg #[.func (.func F) #[ZaF b] #[]] 49);have D:Zk _ _ _ _:=Zk.start z #[.func (.func F) #[ZaF b] #[]] 49;generalize aa:z.alloc (Yg #[.func (.func F) #[ZaF b] #[]] 49)=w3 at *;have l:=(N.keep a2).keep a3;have m:=O.keep a3;have L:=((h.keep H).keep a2).keep a3;have P:=((Fr.of_below b H).trans (Fr.of_below b a2)).trans (Fr.of_below b a3);have c1:=one_cell D;have c2:=one_cell l;have c3:=one_cell m;have X:=zh (Zao i w3 b n t o [40] L (by simp only[Yk,Yl];omega));have a:=zh (zi L (zi D (zi l (zi m (zi P W)))));have r:=zh (zi V (zi U (zi s (zi u S))));have Z:=zh hF;have HZ:=zh (zi M z2);clear H a2 a3 D N O l m L P h V U s u S W hF M z2;go_enter Tryz.func39,Tryz.ntmps39;go_upto_region 2 with(go_at_call 36;(refine X.out.mono ?_);rintro e j ⟨rfl,g,f⟩;have p:=zh (zi g f);clear g f)
 have B:=p.out.2.at_ _ _ _ (Zbm a.out.1 a.out.2.1 (by decide)) (by decide) a.out.2.1;have q:=p.out.2.at_ _ _ _ (Zbm a.out.1 a.out.2.2.1 (by decide)) (by decide) a.out.2.2.1;have C:=p.out.2.at_ _ _ _ (Zbm a.out.1 a.out.2.2.2.1 (by decide)) (by decide) a.out.2.2.2.1;have d1:=one_cell B;have d2:=one_cell q;have d3:=one_cell C;have e1:=one_cell (B.keep (Zo j));have e2:=one_cell (q.keep (Zo j));have e3:=one_cell (C.keep (Zo j))
 have R:=zh (Zfh 66 #[ZaF z.heap.size,ZaF w.heap.size,ZaF v.heap.size] (enters_of Tryz.func66 (by kernel_rfl) rfl) i j.drew b n _ [44,32] o (d.map fun k=>T (Zf ns k)) (p.out.1.keep (Zo j)) (fun k x w' t' hx g f I=>by
  rw[List.getElem?_map]at hx;cases hy:d[k]? with
  |none=>rw[hy]at hx;cases hx
  |some y=>
   rw[hy]at hx;obtain rfl:=Option.some.inj hx
   exact Zol F Z.out i w' b n _ _ _ t' o ns A c d G T k y g r.out.1
    (f.at_ _ _ _ (Zbm a.out.1 a.out.2.1 (by decide)) (by decide) (B.keep (Zo j)))
    (f.at_ _ _ _ (Zbm a.out.1 a.out.2.2.1 (by decide)) (by decide) (q.keep (Zo j)))
    (f.at_ _ _ _ (Zbm a.out.1 a.out.2.2.2.1 (by decide)) (by decide) (C.keep (Zo j)))
    r.out.2.1 r.out.2.2.2.1 r.out.2.2.2.2 hy I) (by rw[List.length_map];exact r.out.2.2.1) (by have:=a.out.2.2.2.2.2;simp only[Yj,Yk,Yl];omega))
 rw[List.length_map]at R;clear B q C;go_region_with (go_at_call 64;(refine R.out.mono ?_);rintro e w5 ⟨rfl,g,f⟩;have E:=zh (zi g f);clear g f)
 all_goals
  have Y:=zh (Zao i w5 b n _ o [41] E.out.1 (by have:=a.out.2.2.2.2.2;simp only[Yj,Yk,Yl];omega));have q:=p.out.2.at_ _ _ _ (Zbm a.out.1 a.out.2.2.1 (by decide)) (by decide) a.out.2.2.1;have g2:=one_cell (E.out.2.at_ _ _ _ (Zbm a.out.1 a.out.2.2.1 (by decide)) (by decide) (q.keep (Zo j)));go_wp2_with (go_at_call 36;(refine Y.out.mono ?_);rintro e w6 ⟨rfl,g,f⟩;have Q:=zh (zi g f);clear g f);go_end0;refine⟨rfl,?_,(((a.out.2.2.2.2.1.trans p.out.2).trans (Fr.of_below b (Zo j))).trans E.out.2).trans Q.out.2⟩;have:=Q.out.1;simp only[List.append_assoc]at this⊢;exact this
end
section
open Go.RowKit
theorem Zlp:Enters 69:=enters_of Tryz.func69 (by kernel_rfl) rfl
theorem Zgv (F:Yh) (ns:List Nd) (g:Nat) (S:Nd->Prop) (T:Nd->Txt) (hd:g<4000) (L:ZcF 69 F ns (g+1) S T):ZcF 41 F ns g (Zdh ns S) (fun m=>Zcs g (m.kids.map fun k=>T (Zf ns k))):=by intro w I t vn x h K hx b z;have hq:=hx;obtain⟨⟨vw,vu,vk⟩,q,j,a,c,r⟩:=x;obtain⟨P,O,i⟩:=hx;dsimp only at b P O i z⊢;obtain⟨n,p,rfl,D,E,hW,u⟩:=P;obtain⟨l,o,rfl,A,B,hU⟩:=O;obtain⟨d,f,rfl,v,y,J⟩:=i;have s:=below_alloc1 w (Yg #[Yd Yf q,.slice n j.length p,.slice l a.length o,.slice d c.length f,Yd Yf r] 37);have G:Zk _ _ _ _:=Zk.start w #[Yd Yf q,.slice n j.length p,.slice l a.length o,.slice d c.length f,Yd Yf r] 37;have Q:=h.keep s;have b:Zax ns c S:=b;obtain⟨V,W,X,Y,Z⟩:=Zm (x:=((.slice n j.length p,.slice l a.length o,.slice d c.length f),⟨q,j,a,c,r⟩)) (G);dsimp only at V W X Y Z;generalize C:w.alloc (Yg #[Yd Yf q,.slice n j.length p,.slice l a.length o,.slice d c.length f,Yd Yf r] 37)=w1 at *;have R:=zh (Zgw _ Zlp F w1 I g t vn ns d f c S T Q K hd J (by omega) b L z);have U:=zh s;clear Q G s hq D E hW u A B hU v y J h z K b L hd;go_enter Tryz.func41,Tryz.ntmps41;go_wp2_with (go_at_call 37;(refine R.out.mono ?_);rintro e w2 ⟨rfl,N,M⟩;have H:=zh (zi N M);clear N M);go_end0;exact⟨rfl,H.out.1,(Fr.of_below I (C▸U.out)).trans H.out.2⟩
theorem Zob (i w:Yh) (f C N O:Nat) (t:Txt) (K:Yi) (ns:List Nd) (A:Option Addr) (c:Nat) (g:List Int) (M:Nd->Prop) (T:Nd->Txt) (k:Nat) (y:Int) (h:PrS i w f t C K) (D:Zi i K ns)
  (o:Zk w N 42 #[ZaF f]) (p:Zk w O 35 #[Yc A g.length c])
  (Q:ZM i i.heap.size 1 A g.length (g.map (Value.int Yf))) (q:Zax ns g M) (P:ZcF 41 i ns C M T) (z:g[k]? = Ya y) (G:t.length+(T (Zf ns y)).length+10000<=140737488355328) :
  Calls Tryz.prog 119 #[Yd Yf (k:Int),ZaF N,ZaF O] w fun e w'=>e=.returned (.tuple #[])/\PrS i w' f (t++T (Zf ns y)) C K/\Fr w w' f:=by
 obtain⟨An,cn,rs,rfl,_,W,hm,R,a⟩:=id D;have F:=(List.getElem?_eq_some_iff.1 z).1;obtain⟨v,I,d⟩:=q y (List.mem_of_getElem? z);obtain⟨n,rfl⟩:=Int.eq_ofNat_of_zero_le v;have b:n<ns.length:=by omega
 obtain⟨r,s⟩:∃r,rs[n]? = Ya r:=⟨_,Ym (by rw[<-hm,List.length_map]at b;exact b)⟩
 have u:ns[n]? = Ya r.2:=by rw[<-hm,List.getElem?_map,s];rfl
 rw[ZbP u]at d G⊢;obtain⟨ak,rfl,q0⟩:=ints_at Q h.below z (by omega);obtain⟨an,rfl,Z,n1,n2,n3,n4⟩:=Zan R h.below s (by omega);have j1:(k:Int)<(g.length:Int):=by omega
 have j0:(0:Int)<=(k:Int):=by omega
 have i0:(0:Int)<=(n:Int):=by omega
 have i1:(n:Int)<(ns.length:Int):=by omega
 have e2:=one_cell o;have e3:=one_cell p;have c2:=h.cells.2.2;have E:=Zo w;have B:=zh (P w.drew f t _ r (h.keep E) D (a r (List.mem_of_getElem? s)) d G);have V:=zh (Fr.of_below f E);have H:=a r (List.mem_of_getElem? s);clear h D o p Q q P z G hm R a F v I d b s u E;obtain⟨⟨yw,yu,yk⟩,X,ag,J,Y,ae⟩:=r;obtain⟨j,l,m⟩:=H;dsimp only at j l m;obtain⟨Bw,dw,rfl,_⟩:=j;obtain⟨Bu,du,rfl,_⟩:=l;obtain⟨Bk,dk,rfl,_⟩:=m;unfold ndX at B;dsimp only at Z n1 n2 n3 n4 B;go_enter Tryz.func119,Tryz.ntmps119;go_upto_region 0 with fail;refine wp_region_still_tail 11 (by kernel_rfl) (by kernel_rfl) ?_;simp only[List.take_succ_cons,List.take_zero,List.drop_succ_cons,List.drop_zero]
 iterate 11 still_step
 refine wpStill_nil ?_;change wpList _ _ _ _ _ w.drew;go_wp2_with (go_at_call 41;refine B.out.mono ?_;rintro e w2 ⟨rfl,U,S⟩;have L:=zh (zi U S);clear U S);go_end0;exact⟨rfl,L.out.1,V.out.trans L.out.2⟩
theorem Zg4 (d w:Yh) (b g:Nat) (t:Txt) (m:Yi) (ns:List Nd) (A:Option Addr) (c:Nat) (a:List Int) (v:Nd->Prop) (T:Nd->Txt) (h:PrS d w b t g m) (I:Zi d m ns)
  (H:ZM d d.heap.size 1 A a.length (a.map (Value.int Yf))) (j:a.length<=maxLen) (l:Zax ns a v) (G:ZcF 41 d ns g v T) (J:t.length+(Za5 [32,101,108,115,101] (a.map fun k=>T (Zf ns k))).length+10000<=140737488355328) :
  Calls Tryz.prog 91 #[ZaF b,Yc A a.length c] w fun e w'=>e=.returned (.tuple #[])/\PrS d w' b (t++Za5 [32,101,108,115,101] (a.map fun k=>T (Zf ns k))) g m/\Fr w w' b:=by
 have z:=below_alloc1 w (Yg #[ZaF b] 42);have C:Zk _ _ _ _:=Zk.start w #[ZaF b] 42;generalize M:w.alloc (Yg #[ZaF b] 42)=s at *;have a2:=below_alloc1 s (Yg #[Yc A a.length c] 35);have u:Zk _ _ _ _:=Zk.start s #[Yc A a.length c] 35;generalize N:s.alloc (Yg #[Yc A a.length c] 35)=n at *;have f:=C.keep a2;have K:=(h.keep z).keep a2;have D:=(Fr.of_below b z).trans (Fr.of_below b a2);have P:=one_cell f;have Q:=one_cell u;have o:=f.keep (Zo n);have p:=u.keep (Zo n);have R:=one_cell o;have S:=one_cell p;have r:=K.keep (Zo n)
 have F:=zh (Zfh 119 #[ZaF w.heap.size,ZaF s.heap.size] (enters_of Tryz.func119 (by kernel_rfl) rfl) d n.drew b g t [32,101,108,115,101] m (a.map fun k=>T (Zf ns k)) r (fun k x w' O hx q i B=>by
  rw[List.getElem?_map]at hx;cases hy:a[k]? with
  |none=>rw[hy]at hx;cases hx
  |some y=>
   rw[hy]at hx;obtain rfl:=Option.some.inj hx
   exact Zob d w' b g _ _ O m ns A c a v T k y q I (i.at_ _ _ _ (Zbm r o (by decide)) (by decide) o) (i.at_ _ _ _ (Zbm r p (by decide)) (by decide) p) H l G hy B) (by rw[List.length_map];exact j) J)
 rw[List.length_map]at F;have L:=zh D;clear z a2 C u f K D o p r h I H j l G J;go_enter Tryz.func91,Tryz.ntmps91;go_upto_region 1 with fail;go_region_with (go_at_call 64;(refine F.out.mono ?_);rintro e U ⟨rfl,q,i⟩;have E:=zh (zi q i);clear q i)
 all_goals
  go_wp2_with fail;go_end0;exact⟨rfl,E.out.1,(L.out.trans (Fr.of_below b (Zo n))).trans E.out.2⟩
theorem ZkK (J:Yh) (ns:List Nd) (B:Nat) (Ok:Nd->Prop) (T:Nd->Txt) (hB:ZcF 41 J ns B Ok T):ZcF 120 J ns B (fun n=>(∃s r,n.words=s::r)/\∃k,n.kids=[k]/\Zax ns [k] Ok) (fun n=>word n 0++T (Zaa ns n 0)):=by
 intro w j t S x h hN hx Z G;obtain⟨⟨s,r,A⟩,kz,P,F⟩:=Z;obtain⟨D,W,hv⟩:=F kz (by simp);obtain⟨k,rfl⟩:=Int.eq_ofNat_of_zero_le D;have l:k<ns.length:=by omega
 have hq:=hx;obtain⟨⟨vw,vu,vk⟩,f,c,a,b,g⟩:=x;obtain⟨hw,hu,E⟩:=hx;dsimp only at A P hw hu E G⊢;obtain⟨K,v,rfl,ae,af,hW,V⟩:=hw;obtain⟨o,u,rfl,aa,ab,hU⟩:=hu;obtain⟨m,q,rfl,X,Y,hK⟩:=E;have U:=below_alloc1 w (Yg #[Yd Yf f,Yc K c.length v,.slice o a.length u,.slice m b.length q,Yd Yf g] 37);have L:Zk _ _ _ _:=Zk.start w #[Yd Yf f,Yc K c.length v,.slice o a.length u,.slice m b.length q,Yd Yf g] 37;have R:=h.keep U;obtain⟨z,Q⟩:∃z,ns[k]? = Ya z:=⟨_,Ym l⟩
 have he:word ⟨f,c,a,b,g⟩ 0++T (Zaa ns ⟨f,c,a,b,g⟩ 0)=s++T z:=by unfold word;rw[Zcu (n:=⟨f,c,a,b,g⟩) (k:=k) (by rw[P];rfl) Q];dsimp only;rw[A];rfl
 rw[ZbP Q]at hv;rw[he]at G⊢;simp only[Yj]at G;obtain⟨c0,c1,c2,c3,c4⟩:=Zm (x:=((Yc K c.length v,.slice o a.length u,.slice m b.length q),⟨f,c,a,b,g⟩)) (L);dsimp only at c0 c1 c2 c3 c4;generalize ad:w.alloc (Yg #[Yd Yf f,Yc K c.length v,.slice o a.length u,.slice m b.length q,Yd Yf g] 37)=i at *;obtain⟨O,rfl,u0⟩:=ZbH (k:=0) (x:=s) hW (R.keep (Zo i)).below (by rw[A];rfl) (by rw[A];exact Nat.succ_pos _);have u1:i.drew.cell? O=Ya (txt s):=u0;have u2:i.cell? O=Ya (txt s):=u0;have bn:0<c.length:=by rw[A];exact Nat.succ_pos _
 obtain⟨d0,d1,d2,d3,d4⟩:=Zm (x:=((Yc (Ya O) c.length v,.slice o a.length u,.slice m b.length q),⟨f,c,a,b,g⟩)) (L.keep (Zo i));dsimp only at d0 d1 d2 d3 d4;have AD:=zh (Zao J i.drew j B t S s (R.keep (Zo i)) (by omega));have d:=zh (zi U (zi (L.keep (Zo i)) (zi hq (zi hN (zi hB (zi G (R.keep (Zo i))))))));have N:=zh (zi (show b[0]? = Ya (k:Int)by rw[P];rfl) (zi l (zi Q hv)));clear R L U hq ae af hW V aa ab hU X Y hK h G he u0 A P l Q hv hB hN F D W;go_enter Tryz.func120,Tryz.ntmps120;go_upto_region 1 with fail;go_region_with (go_at_call 36;(refine AD.out.mono ?_);rintro e w3 ⟨rfl,H,C⟩;have M:=zh (zi H C);clear H C)
 all_goals
  have K3:=M.out.2.at_ _ _ _ (ZdP d.out.2.2.2.2.2.2 d.out.2.1) (by decide) d.out.2.1;obtain⟨b0,b1,b2,b3,b4⟩:=Zm (x:=((Yc (Ya O) c.length v,.slice o a.length u,.slice m b.length q),⟨f,c,a,b,g⟩)) (K3);dsimp only at b0 b1 b2 b3 b4;have KI:=zh (Zb0 J w3 j B _ S ns _ 0 k ⟨M.out.1,d.out.2.2.2.1⟩ d.out.2.2.1 N.out.1 N.out.2.1);clear K3
  go_wp2_with (first
   |(go_at_call 42;(refine KI.out.mono ?_);rintro e w4 ⟨y,rfl,hy,I,hb⟩;have ey:y.2=z:=Option.some.inj (hy.symm.trans N.out.2.2.1);have p:=zh (zi I (zi hb ey));clear hy I hb ey;have EX:=zh (d.out.2.2.2.2.1 w4 j _ S y (M.out.1.keep p.out.2.1) d.out.2.2.2.1 p.out.1 (p.out.2.2▸N.out.2.2.2) (by rw[p.out.2.2];have:=d.out.2.2.2.2.2.1;simp only[Yj];omega)))
   |(go_at_call 41;(refine EX.out.mono ?_);rintro e w5 ⟨rfl,H,C⟩;have H5:=zh (zi (show PrS J w5 j (t++s++T z) B S from p.out.2.2▸H) C);clear H C))
  go_end0;refine⟨rfl,?_,((((Fr.of_below j (ad▸d.out.1)).trans (Fr.of_below j (Zo i))).trans M.out.2).trans (Fr.of_below j p.out.2.1)).trans H5.out.2⟩;have:=H5.out.1;simp only[List.append_assoc]at this⊢;exact this
end
end Go.Proofs.YtfbepcelkijgkaaGreatDoor
