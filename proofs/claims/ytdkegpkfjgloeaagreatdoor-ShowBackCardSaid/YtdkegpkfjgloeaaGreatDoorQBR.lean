import Derived.Test.YtdkegpkfjgloeaaGreatDoorQBM
import Derived.Test.YtdkegpkfjgloeaaGreatDoorQBN
import Derived.Test.YtdkegpkfjgloeaaGreatDoorQBO
import Derived.Test.YtdkegpkfjgloeaaGreatDoorQBP
import Derived.Test.YtdkegpkfjgloeaaGreatDoorQBQ
set_option maxRecDepth 100000
set_option maxHeartbeats 8000000
open Option renaming some → Ya, none → Yb
open Go.Value renaming slice → Yc, int → Yd
open Go.IntKind renaming i64 → Yf
open Go.Obj renaming cells → Yg
open Go renaming World → Yh, Value → Yi
open Go.RowKit
namespace Go.Proofs.YtdkegpkfjgloeaaGreatDoor
theorem enters_of {f:FuncId} {b:Func} {c:Code} (g:Tryz.prog.funcs[f]? = Ya b) (a:(b.name=="runtime.NumGoroutine")=false) (e:b.body=Ya c):Enters f:=fun args w=>by
 have d:b.name≠"runtime.NumGoroutine":=by simpa using a
 simp[callFunc,g,d,e,go_sem]
theorem Zby {i w:Yh} {c d b:Nat} {t:Txt} {g:Yi} {cs:Array Yi} {ty:TypeId} (h:PrS i w c t d g) (k:Zk w b ty cs) (a:ty≠44):b≠c:=by obtain⟨v,f,_⟩:=h.box;intro e;subst e;exact absurd (ZhF k f) a
theorem one_cell {w:Yh} {b:Nat} {ty:TypeId} {v:Yi} (h:Zk w b ty #[v]):w.cell? ⟨b,0,Yb⟩=Ya v:=by have c:=h.blk.cell 0;simpa using c
abbrev ZaK (b:Nat):Yi:=.pointer (Ya ⟨b,0,Yb⟩)
theorem Zoy (F:Nat) (hF:Enters F) (i w:Yh) (a E b1 Q R:Nat) (t:Txt) (N:Yi) (ns:List Nd) (A:Option Addr) (c:Nat) (g:List Int) (P:Nd->Prop) (T:Nd->Txt) (k:Nat) (y:Int) (h:PrS i w a t E N) (G:Zi i N ns)
  (p:Zk w b1 46 #[.func (.func F) #[ZaK a] #[]]) (q:Zk w Q 39 #[ZaK a]) (s:Zk w R 32 #[Yc A g.length c])
  (U:ZO i i.heap.size 1 A g.length (g.map (Value.int Yf))) (u:Zae ns g P) (S:ZcZ F i ns E P T) (C:g[k]? = Ya y) (J:t.length+(T (Zb ns y)).length+10000<=140737488355328) :
  Calls Tryz.prog 59 #[Yd Yf (k:Int),ZaK b1,ZaK Q,ZaK R] w fun e w'=>e=.returned (.tuple #[])/\PrS i w' a (t++T (Zb ns y)) E N/\Fr w w' a:=by
 obtain⟨An,cn,rs,rfl,_,Z,hm,V,b⟩:=id G;have I:=(List.getElem?_eq_some_iff.1 C).1;obtain⟨B,L,f⟩:=u y (List.mem_of_getElem? C);obtain⟨n,rfl⟩:=Int.eq_ofNat_of_zero_le B;have d:n<ns.length:=by omega
 obtain⟨r,v⟩:∃r,rs[n]? = Ya r:=⟨_,Ym (by rw[<-hm,List.length_map]at d;exact d)⟩
 have z:ns[n]? = Ya r.2:=by rw[<-hm,List.getElem?_map,v];rfl
 rw[ZbZ z]at f J⊢;obtain⟨ak,rfl,q0⟩:=ints_at U h.below C (by omega);obtain⟨an,rfl,n0,n1,n2,n3,n4⟩:=ZaG V h.below v (by omega);have j1:(k:Int)<(g.length:Int):=by omega
 have j0:(0:Int)<=(k:Int):=by omega
 have i0:(0:Int)<=(n:Int):=by omega
 have i1:(n:Int)<(ns.length:Int):=by omega
 have e1:=one_cell p;have e2:=one_cell q;have e3:=one_cell s;have c2:=h.cells.2.2;have H:=Zp w;have D:=zh (S w.drew a t _ r (h.keep H) G (b r (List.mem_of_getElem? v)) f J);have Y:=zh (Fr.of_below a H);have K:=b r (List.mem_of_getElem? v);clear h G p q s U u S C J hm V b I B L f d v z H;obtain⟨⟨yw,yu,yk⟩,aa,aj,M,ab,ah⟩:=r;obtain⟨l,m,o⟩:=K;dsimp only at l m o;obtain⟨Bw,dw,rfl,_⟩:=l;obtain⟨Bu,du,rfl,_⟩:=m;obtain⟨Bk,dk,rfl,_⟩:=o;unfold ndX at D;dsimp only at n0 n1 n2 n3 n4 D;have j:=hF;unfold Enters at j;clear hF;go_enter Tryz.func59,Tryz.ntmps59;go_upto_region 0 with fail;refine wp_region_still_tail 11 (by kernel_rfl) (by kernel_rfl) ?_;simp only[List.take_succ_cons,List.take_zero,List.drop_succ_cons,List.drop_zero]
 iterate 11 still_step
 refine wpStill_nil ?_;change wpList _ _ _ _ _ w.drew;go_wp2_with (with_reducible refine D.out.mono ?_;rintro e w2 ⟨rfl,X,W⟩;have O:=zh (zi X W);clear X W);go_end0;exact⟨rfl,O.out.1,Y.out.trans O.out.2⟩
theorem ZfV (F:Nat) (hF:Enters F) (i w:Yh) (b n:Nat) (t:Txt) (o:Yi) (ns:List Nd) (A:Option Addr) (c:Nat) (d:List Int) (G:Nd->Prop) (T:Nd->Txt) (h:PrS i w b t n o) (V:Zi i o ns)
  (U:ZO i i.heap.size 1 A d.length (d.map (Value.int Yf))) (s:d.length<=maxLen) (u:Zae ns d G) (S:ZcZ F i ns n G T) (W:t.length+(Zap [44,32] (d.map fun k=>T (Zb ns k))).length+10002<=140737488355328) :
  Calls Tryz.prog 35 #[ZaK b,Yc A d.length c,.func (.func F) #[ZaK b] #[]] w fun e w'=>e=.returned (.tuple #[])/\PrS i w' b (t++([40]++Zap [44,32] (d.map fun k=>T (Zb ns k))++[41])) n o/\Fr w w' b:=by
 have H:=below_alloc1 w (Yg #[ZaK b] 39);have N:Zk _ _ _ _:=Zk.start w #[ZaK b] 39;generalize J:w.alloc (Yg #[ZaK b] 39)=v at *;have M:v.heap.size=w.heap.size+1:=by rw[<-J,World.size_alloc]
 have a2:=below_alloc1 v (Yg #[Yc A d.length c] 32);have O:Zk _ _ _ _:=Zk.start v #[Yc A d.length c] 32;generalize K:v.alloc (Yg #[Yc A d.length c] 32)=z at *;have z2:z.heap.size=w.heap.size+2:=by rw[<-K,World.size_alloc,M]
 have a3:=below_alloc1 z (Yg #[.func (.func F) #[ZaK b] #[]] 46);have D:Zk _ _ _ _:=Zk.start z #[.func (.func F) #[ZaK b] #[]] 46;generalize aa:z.alloc (Yg #[.func (.func F) #[ZaK b] #[]] 46)=w3 at *;have l:=(N.keep a2).keep a3;have m:=O.keep a3;have L:=((h.keep H).keep a2).keep a3;have P:=((Fr.of_below b H).trans (Fr.of_below b a2)).trans (Fr.of_below b a3);have c1:=one_cell D;have c2:=one_cell l;have c3:=one_cell m;have X:=zh (Zas i w3 b n t o [40] L (by simp only[Yk,Yl];omega));have a:=zh (zi L (zi D (zi l (zi m (zi P W)))));have r:=zh (zi V (zi U (zi s (zi u S))));have Z:=zh hF;have HZ:=zh (zi M z2);clear H a2 a3 D N O l m L P h V U s u S W hF M z2;go_enter Tryz.func35,Tryz.ntmps35;go_upto_region 2 with(go_at_call 32;(refine X.out.mono ?_);rintro e j ⟨rfl,g,f⟩;have p:=zh (zi g f);clear g f)
 have B:=p.out.2.at_ _ _ _ (Zby a.out.1 a.out.2.1 (by decide)) (by decide) a.out.2.1;have q:=p.out.2.at_ _ _ _ (Zby a.out.1 a.out.2.2.1 (by decide)) (by decide) a.out.2.2.1;have C:=p.out.2.at_ _ _ _ (Zby a.out.1 a.out.2.2.2.1 (by decide)) (by decide) a.out.2.2.2.1;have d1:=one_cell B;have d2:=one_cell q;have d3:=one_cell C;have e1:=one_cell (B.keep (Zp j));have e2:=one_cell (q.keep (Zp j));have e3:=one_cell (C.keep (Zp j))
 have R:=zh (Zft 59 #[ZaK z.heap.size,ZaK w.heap.size,ZaK v.heap.size] (enters_of Tryz.func59 (by kernel_rfl) rfl) i j.drew b n _ [44,32] o (d.map fun k=>T (Zb ns k)) (p.out.1.keep (Zp j)) (fun k x w' t' hx g f I=>by
  rw[List.getElem?_map]at hx;cases hy:d[k]? with
  |none=>rw[hy]at hx;cases hx
  |some y=>
   rw[hy]at hx;obtain rfl:=Option.some.inj hx
   exact Zoy F Z.out i w' b n _ _ _ t' o ns A c d G T k y g r.out.1
    (f.at_ _ _ _ (Zby a.out.1 a.out.2.1 (by decide)) (by decide) (B.keep (Zp j)))
    (f.at_ _ _ _ (Zby a.out.1 a.out.2.2.1 (by decide)) (by decide) (q.keep (Zp j)))
    (f.at_ _ _ _ (Zby a.out.1 a.out.2.2.2.1 (by decide)) (by decide) (C.keep (Zp j)))
    r.out.2.1 r.out.2.2.2.1 r.out.2.2.2.2 hy I) (by rw[List.length_map];exact r.out.2.2.1) (by have:=a.out.2.2.2.2.2;simp only[Yj,Yk,Yl];omega))
 rw[List.length_map]at R;clear B q C;go_region_with (go_at_call 57;(refine R.out.mono ?_);rintro e w5 ⟨rfl,g,f⟩;have E:=zh (zi g f);clear g f)
 all_goals
  have Y:=zh (Zas i w5 b n _ o [41] E.out.1 (by have:=a.out.2.2.2.2.2;simp only[Yj,Yk,Yl];omega));have q:=p.out.2.at_ _ _ _ (Zby a.out.1 a.out.2.2.1 (by decide)) (by decide) a.out.2.2.1;have g2:=one_cell (E.out.2.at_ _ _ _ (Zby a.out.1 a.out.2.2.1 (by decide)) (by decide) (q.keep (Zp j)));go_wp2_with (go_at_call 32;(refine Y.out.mono ?_);rintro e w6 ⟨rfl,g,f⟩;have Q:=zh (zi g f);clear g f);go_end0;refine⟨rfl,?_,(((a.out.2.2.2.2.1.trans p.out.2).trans (Fr.of_below b (Zp j))).trans E.out.2).trans Q.out.2⟩;have:=Q.out.1;simp only[List.append_assoc]at this⊢;exact this
theorem Zlx:Enters 62:=enters_of Tryz.func62 (by kernel_rfl) rfl
theorem ZgE (F:Yh) (ns:List Nd) (g:Nat) (S:Nd->Prop) (T:Nd->Txt) (hd:g<4000) (L:ZcZ 62 F ns (g+1) S T):ZcZ 37 F ns g (Zce ns S) (fun m=>ZX g (m.kids.map fun k=>T (Zb ns k))):=by intro w I t vn x h K hx b z;have hq:=hx;obtain⟨⟨vw,vu,vk⟩,q,j,a,c,r⟩:=x;obtain⟨P,O,i⟩:=hx;dsimp only at b P O i z⊢;obtain⟨n,p,rfl,D,E,hW,u⟩:=P;obtain⟨l,o,rfl,A,B,hU⟩:=O;obtain⟨d,f,rfl,v,y,J⟩:=i;have s:=below_alloc1 w (Yg #[Yd Yf q,.slice n j.length p,.slice l a.length o,.slice d c.length f,Yd Yf r] 36);have G:Zk _ _ _ _:=Zk.start w #[Yd Yf q,.slice n j.length p,.slice l a.length o,.slice d c.length f,Yd Yf r] 36;have Q:=h.keep s;have b:Zae ns c S:=b;obtain⟨V,W,X,Y,Z⟩:=Zm (x:=((.slice n j.length p,.slice l a.length o,.slice d c.length f),⟨q,j,a,c,r⟩)) (G);dsimp only at V W X Y Z;generalize C:w.alloc (Yg #[Yd Yf q,.slice n j.length p,.slice l a.length o,.slice d c.length f,Yd Yf r] 36)=w1 at *;have R:=zh (ZgF _ Zlx F w1 I g t vn ns d f c S T Q K hd J (by omega) b L z);have U:=zh s;clear Q G s hq D E hW u A B hU v y J h z K b L hd;go_enter Tryz.func37,Tryz.ntmps37;go_wp2_with (go_at_call 33;(refine R.out.mono ?_);rintro e w2 ⟨rfl,N,M⟩;have H:=zh (zi N M);clear N M);go_end0;exact⟨rfl,H.out.1,(Fr.of_below I (C▸U.out)).trans H.out.2⟩
theorem Zon (i w:Yh) (f C N O:Nat) (t:Txt) (K:Yi) (ns:List Nd) (A:Option Addr) (c:Nat) (g:List Int) (M:Nd->Prop) (T:Nd->Txt) (k:Nat) (y:Int) (h:PrS i w f t C K) (D:Zi i K ns)
  (o:Zk w N 39 #[ZaK f]) (p:Zk w O 32 #[Yc A g.length c])
  (Q:ZO i i.heap.size 1 A g.length (g.map (Value.int Yf))) (q:Zae ns g M) (P:ZcZ 37 i ns C M T) (z:g[k]? = Ya y) (G:t.length+(T (Zb ns y)).length+10000<=140737488355328) :
  Calls Tryz.prog 113 #[Yd Yf (k:Int),ZaK N,ZaK O] w fun e w'=>e=.returned (.tuple #[])/\PrS i w' f (t++T (Zb ns y)) C K/\Fr w w' f:=by
 obtain⟨An,cn,rs,rfl,_,W,hm,R,a⟩:=id D;have F:=(List.getElem?_eq_some_iff.1 z).1;obtain⟨v,I,d⟩:=q y (List.mem_of_getElem? z);obtain⟨n,rfl⟩:=Int.eq_ofNat_of_zero_le v;have b:n<ns.length:=by omega
 obtain⟨r,s⟩:∃r,rs[n]? = Ya r:=⟨_,Ym (by rw[<-hm,List.length_map]at b;exact b)⟩
 have u:ns[n]? = Ya r.2:=by rw[<-hm,List.getElem?_map,s];rfl
 rw[ZbZ u]at d G⊢;obtain⟨ak,rfl,q0⟩:=ints_at Q h.below z (by omega);obtain⟨an,rfl,Z,n1,n2,n3,n4⟩:=ZaG R h.below s (by omega);have j1:(k:Int)<(g.length:Int):=by omega
 have j0:(0:Int)<=(k:Int):=by omega
 have i0:(0:Int)<=(n:Int):=by omega
 have i1:(n:Int)<(ns.length:Int):=by omega
 have e2:=one_cell o;have e3:=one_cell p;have c2:=h.cells.2.2;have E:=Zp w;have B:=zh (P w.drew f t _ r (h.keep E) D (a r (List.mem_of_getElem? s)) d G);have V:=zh (Fr.of_below f E);have H:=a r (List.mem_of_getElem? s);clear h D o p Q q P z G hm R a F v I d b s u E;obtain⟨⟨yw,yu,yk⟩,X,ag,J,Y,ae⟩:=r;obtain⟨j,l,m⟩:=H;dsimp only at j l m;obtain⟨Bw,dw,rfl,_⟩:=j;obtain⟨Bu,du,rfl,_⟩:=l;obtain⟨Bk,dk,rfl,_⟩:=m;unfold ndX at B;dsimp only at Z n1 n2 n3 n4 B;go_enter Tryz.func113,Tryz.ntmps113;go_upto_region 0 with fail;refine wp_region_still_tail 11 (by kernel_rfl) (by kernel_rfl) ?_;simp only[List.take_succ_cons,List.take_zero,List.drop_succ_cons,List.drop_zero]
 iterate 11 still_step
 refine wpStill_nil ?_;change wpList _ _ _ _ _ w.drew;go_wp2_with (go_at_call 37;refine B.out.mono ?_;rintro e w2 ⟨rfl,U,S⟩;have L:=zh (zi U S);clear U S);go_end0;exact⟨rfl,L.out.1,V.out.trans L.out.2⟩
theorem Zhd (d w:Yh) (b g:Nat) (t:Txt) (m:Yi) (ns:List Nd) (A:Option Addr) (c:Nat) (a:List Int) (v:Nd->Prop) (T:Nd->Txt) (h:PrS d w b t g m) (I:Zi d m ns)
  (H:ZO d d.heap.size 1 A a.length (a.map (Value.int Yf))) (j:a.length<=maxLen) (l:Zae ns a v) (G:ZcZ 37 d ns g v T) (J:t.length+(Zap [32,101,108,115,101] (a.map fun k=>T (Zb ns k))).length+10000<=140737488355328) :
  Calls Tryz.prog 84 #[ZaK b,Yc A a.length c] w fun e w'=>e=.returned (.tuple #[])/\PrS d w' b (t++Zap [32,101,108,115,101] (a.map fun k=>T (Zb ns k))) g m/\Fr w w' b:=by
 have z:=below_alloc1 w (Yg #[ZaK b] 39);have C:Zk _ _ _ _:=Zk.start w #[ZaK b] 39;generalize M:w.alloc (Yg #[ZaK b] 39)=s at *;have a2:=below_alloc1 s (Yg #[Yc A a.length c] 32);have u:Zk _ _ _ _:=Zk.start s #[Yc A a.length c] 32;generalize N:s.alloc (Yg #[Yc A a.length c] 32)=n at *;have f:=C.keep a2;have K:=(h.keep z).keep a2;have D:=(Fr.of_below b z).trans (Fr.of_below b a2);have P:=one_cell f;have Q:=one_cell u;have o:=f.keep (Zp n);have p:=u.keep (Zp n);have R:=one_cell o;have S:=one_cell p;have r:=K.keep (Zp n)
 have F:=zh (Zft 113 #[ZaK w.heap.size,ZaK s.heap.size] (enters_of Tryz.func113 (by kernel_rfl) rfl) d n.drew b g t [32,101,108,115,101] m (a.map fun k=>T (Zb ns k)) r (fun k x w' O hx q i B=>by
  rw[List.getElem?_map]at hx;cases hy:a[k]? with
  |none=>rw[hy]at hx;cases hx
  |some y=>
   rw[hy]at hx;obtain rfl:=Option.some.inj hx
   exact Zon d w' b g _ _ O m ns A c a v T k y q I (i.at_ _ _ _ (Zby r o (by decide)) (by decide) o) (i.at_ _ _ _ (Zby r p (by decide)) (by decide) p) H l G hy B) (by rw[List.length_map];exact j) J)
 rw[List.length_map]at F;have L:=zh D;clear z a2 C u f K D o p r h I H j l G J;go_enter Tryz.func84,Tryz.ntmps84;go_upto_region 1 with fail;go_region_with (go_at_call 57;(refine F.out.mono ?_);rintro e U ⟨rfl,q,i⟩;have E:=zh (zi q i);clear q i)
 all_goals
  go_wp2_with fail;go_end0;exact⟨rfl,E.out.1,(L.out.trans (Fr.of_below b (Zp n))).trans E.out.2⟩
theorem ZkP (I:Yh) (ns:List Nd) (A:Nat) (Ok:Nd->Prop) (T:Nd->Txt) (hB:ZcZ 37 I ns A Ok T):ZcZ 114 I ns A (fun n=>(∃s r,n.words=s::r)/\∃k,n.kids=[k]/\Zae ns [k] Ok) (fun n=>word n 0++T (Zx ns n 0)):=by
 intro w j t R x h hN hx Y F;obtain⟨⟨s,r,hn⟩,kz,O,E⟩:=Y;obtain⟨C,V,hv⟩:=E kz (by simp);obtain⟨k,rfl⟩:=Int.eq_ofNat_of_zero_le C;have l:k<ns.length:=by omega
 have hq:=hx;obtain⟨⟨vw,vu,vk⟩,f,c,a,b,g⟩:=x;obtain⟨hw,hu,D⟩:=hx;dsimp only at hn O hw hu D F⊢;obtain⟨J,v,rfl,ac,ad,hW,U⟩:=hw;obtain⟨o,u,rfl,Z,aa,hU⟩:=hu;obtain⟨m,q,rfl,W,X,hK⟩:=D;have S:=below_alloc1 w (Yg #[Yd Yf f,Yc J c.length v,.slice o a.length u,.slice m b.length q,Yd Yf g] 36);have K:Zk _ _ _ _:=Zk.start w #[Yd Yf f,Yc J c.length v,.slice o a.length u,.slice m b.length q,Yd Yf g] 36;have Q:=h.keep S;obtain⟨z,P⟩:∃z,ns[k]? = Ya z:=⟨_,Ym l⟩
 have he:word ⟨f,c,a,b,g⟩ 0++T (Zx ns ⟨f,c,a,b,g⟩ 0)=s++T z:=by unfold word;rw[ZcM (n:=⟨f,c,a,b,g⟩) (k:=k) (by rw[O];rfl) P];dsimp only;rw[hn];rfl
 rw[ZbZ P]at hv;rw[he]at F⊢;simp only[Yj]at F;obtain⟨c0,c1,c2,c3,c4⟩:=Zm (x:=((Yc J c.length v,.slice o a.length u,.slice m b.length q),⟨f,c,a,b,g⟩)) (K);dsimp only at c0 c1 c2 c3 c4;generalize ab:w.alloc (Yg #[Yd Yf f,Yc J c.length v,.slice o a.length u,.slice m b.length q,Yd Yf g] 36)=i at *;obtain⟨N,rfl,u0⟩:=ZbR (k:=0) (x:=s) hW (Q.keep (Zp i)).below (by rw[hn];rfl) (by rw[hn];exact Nat.succ_pos _);have u1:i.drew.cell? N=Ya (txt s):=u0;have u2:i.cell? N=Ya (txt s):=u0;have bl:0<c.length:=by rw[hn];exact Nat.succ_pos _
 obtain⟨d0,d1,d2,d3,d4⟩:=Zm (x:=((Yc (Ya N) c.length v,.slice o a.length u,.slice m b.length q),⟨f,c,a,b,g⟩)) (K.keep (Zp i));dsimp only at d0 d1 d2 d3 d4;have AD:=zh (Zas I i.drew j A t R s (Q.keep (Zp i)) (by omega));have d:=zh (zi S (zi (K.keep (Zp i)) (zi hq (zi hN (zi hB (zi F (Q.keep (Zp i))))))));have M:=zh (zi (show b[0]? = Ya (k:Int)by rw[O];rfl) (zi l (zi P hv)));clear Q K S hq ac ad hW U Z aa hU W X hK h F he u0 hn O l P hv hB hN E C V;go_enter Tryz.func114,Tryz.ntmps114;go_upto_region 1 with fail;go_region_with (go_at_call 32;(refine AD.out.mono ?_);rintro e w3 ⟨rfl,G,B⟩;have L:=zh (zi G B);clear G B)
 all_goals
  have K3:=L.out.2.at_ _ _ _ (ZdZ d.out.2.2.2.2.2.2 d.out.2.1) (by decide) d.out.2.1;obtain⟨b0,b1,b2,b3,b4⟩:=Zm (x:=((Yc (Ya N) c.length v,.slice o a.length u,.slice m b.length q),⟨f,c,a,b,g⟩)) (K3);dsimp only at b0 b1 b2 b3 b4;have KI:=zh (Zcf I w3 j A _ R ns _ 0 k ⟨L.out.1,d.out.2.2.2.1⟩ d.out.2.2.1 M.out.1 M.out.2.1);clear K3
  go_wp2_with (first
   |(go_at_call 38;(refine KI.out.mono ?_);rintro e w4 ⟨y,rfl,hy,H,hb⟩;have ey:y.2=z:=Option.some.inj (hy.symm.trans M.out.2.2.1);have p:=zh (zi H (zi hb ey));clear hy H hb ey;have EX:=zh (d.out.2.2.2.2.1 w4 j _ R y (L.out.1.keep p.out.2.1) d.out.2.2.2.1 p.out.1 (p.out.2.2▸M.out.2.2.2) (by rw[p.out.2.2];have:=d.out.2.2.2.2.2.1;simp only[Yj];omega)))
   |(go_at_call 37;(refine EX.out.mono ?_);rintro e w5 ⟨rfl,G,B⟩;have H5:=zh (zi (show PrS I w5 j (t++s++T z) A R from p.out.2.2▸G) B);clear G B))
  go_end0;refine⟨rfl,?_,((((Fr.of_below j (ab▸d.out.1)).trans (Fr.of_below j (Zp i))).trans L.out.2).trans (Fr.of_below j p.out.2.1)).trans H5.out.2⟩;have:=H5.out.1;simp only[List.append_assoc]at this⊢;exact this
structure Nw (w0 w wi:Yh) (bp b:Nat) (t:Txt) (dp:Nat) (vn:Yi) (cs:Array Yi):Prop where
 p:PrS w0 wi bp t dp vn
 k:Zk wi b 36 cs
 f:Fr w wi bp
theorem Nw.start {d w:Yh} {a b:Nat} {t:Txt} {c:Yi} (cs:Array Yi) (h:PrS d w a t b c):Nw d w (w.alloc (.cells cs 36)) a w.heap.size t b c cs:=
 ⟨h.keep (below_alloc1 w _),Zk.start w cs _,Fr.of_below a (below_alloc1 w _)⟩
theorem Nw.next {d w i w':Yh} {a b j e:Nat} {t t2:Txt} {c:Yi} {cs:Array Yi} (h:Nw d w i a b t j c cs) (l:PrS d w' a t2 e c) (g:Fr i w' a):Nw d w w' a b t2 e c cs:=
 ⟨l,g.at_ _ _ _ (ZdZ h.p h.k) (by decide) h.k,h.f.trans g⟩
theorem Nw.below {i w d w':Yh} {a b e:Nat} {t:Txt} {g:Yi} {cs:Array Yi} (h:Nw i w d a b t e g cs) (c:Below d.heap.size d w'):Nw i w w' a b t e g cs:=
 ⟨h.p.keep c,h.k.keep c,h.f.trans (Fr.of_below a c)⟩
theorem Nw.drew {f w a:Yh} {c b d:Nat} {t:Txt} {e:Yi} {cs:Array Yi} (h:Nw f w a c b t d e cs):Nw f w a.drew c b t d e cs:=h.below (Zp a)
theorem Zw {b W:Yh} {a:Addr} {n k:Nat} {l:List Txt} {x:Txt} (d:ZO b b.heap.size 1 (Ya a) n (l.map txt)) (f:Below b.heap.size b W) (hx:l[k]? = Ya x) (hn:k<n):W.cell? (a.add k)=Ya (txt x):=by obtain⟨g,e,c⟩:=ZbR d f hx (by omega);injection e with e;subst e;exact c
theorem ZaT {b W:Yh} {a:Addr} {n k:Nat} {l:List Int} {x:Int} (d:ZO b b.heap.size 1 (Ya a) n (l.map (Value.int Yf))) (f:Below b.heap.size b W) (hx:l[k]? = Ya x) (hn:k<n):W.cell? (a.add k)=Ya (Yd Yf x):=by obtain⟨g,e,c⟩:=ints_at d f hx (by omega);injection e with e;subst e;exact c
theorem Zja:Enters 114:=enters_of Tryz.func114 (by kernel_rfl) rfl
theorem Ziw:Enters 115:=enters_of Tryz.func115 (by kernel_rfl) rfl
theorem Zkt:Enters 36:=enters_of Tryz.func36 (by kernel_rfl) rfl
theorem Zlw:Enters 34:=enters_of Tryz.func34 (by kernel_rfl) rfl
theorem Zlv:Enters 15:=enters_of Tryz.func15 (by kernel_rfl) rfl
theorem ZgT (b:Yh) (ns:List Nd) (c:Nat) (f:ZaP b 1 Zch):ZcZ 61 b ns c Zex Zbl:=by
 intro w d t i x h l hx e m;obtain⟨a,g,r,hn,j,k⟩:=e;have:g=0\/g=1\/g=2:=by omega
 rcases this with rfl|rfl|rfl
 ·exact Zno b w d c t i x h hx f r hn a (by omega)
 ·exact Znp b w d c t i x h hx f r hn a (by omega)
 ·exact Znq b w d c t i x h hx f r hn a (by omega)
def ZeL:List Txt:=[ZaH 0,ZaH 1,ZaH 2,ZaH 3,ZaH 4]
theorem ZoR {a W:Yh} (h:ZaP a 0 ZeL) (b:Below a.heap.size a W) (k:Nat) (hk:k<=4):W.cell? ⟨0,k,Yb⟩=Ya (txt (ZaH k)):=by
 refine Zew h b ?_;have:k=0\/k=1\/k=2\/k=3\/k=4:=by omega
 rcases this with rfl|rfl|rfl|rfl|rfl<;>rfl
theorem ZfN {c W:Yh} {b i h:Nat} {d f:Addr} {e:List Txt} {a:List Int} {q r:Yi} {t:Yi} {s j:Txt} {p:Nat} (hk:Zk W b 36 #[q,Yc (Ya d) e.length i,Yc (Ya f) a.length h,t,r]) (g:Below c.heap.size c W)
  (o:ZO c c.heap.size 1 (Ya d) e.length (e.map txt)) (v:ZO c c.heap.size 1 (Ya f) a.length (a.map (Value.int Yf))) (u:e[0]? = Ya s) (n:e[1]? = Ya j) (m:a[0]? = Ya (p:Int)) (y:ZaP c 0 ZeL) (w:p<=4) :
  (W.cell? ⟨b,1,Yb⟩=Ya (Yc (Ya d) e.length i)/\W.cell? ⟨b,2,Yb⟩=Ya (Yc (Ya f) a.length h)/\W.cell? d=Ya (txt s)/\W.cell? (d.add 1)=Ya (txt j)/\W.cell? ⟨d.block,d.off+1,Yb⟩=Ya (txt j)/\W.cell? f=Ya (Yd Yf (p:Int))/\W.cell? ⟨0,p,Yb⟩=Ya (txt (ZaH p)))/\Zk W b 36 #[q,Yc (Ya d) e.length i,Yc (Ya f) a.length h,t,r]/\Below c.heap.size c W:=by
 have k:=hk.blk.cell 1;have l:=hk.blk.cell 2;simp only[List.getElem?_toArray,List.getElem?_cons_zero,List.getElem?_cons_succ]at k l;have z:=(List.getElem?_eq_some_iff.1 n).1;have e1:=Zw o g n z;exact⟨⟨k,l,Zw o g u (by omega),e1,e1,ZaT v g m (List.getElem?_eq_some_iff.1 m).1,ZoR y g p w⟩,hk,g⟩
def ZbX (ns:List Nd) (l:List Int):Txt:=(l.map fun k=>Zbl (Zb ns k)).flatten
theorem ZgL {ns:List Nd} {l:List Int} {i:Nat} {k:Int} (h:l[i]? = Ya k):ZbX ns (l.take (i+1))=ZbX ns (l.take i)++Zbl (Zb ns k):=by unfold ZbX;rw[List.take_add_one,h,List.map_append,List.flatten_append];simp
theorem Zib {ns:List Nd} {l:List Int} (i:Nat):(ZbX ns (l.take i)).length<=(ZbX ns l).length:=by
 have e:ZbX ns l=ZbX ns (l.take i)++ZbX ns (l.drop i):=by unfold ZbX;rw[<-List.flatten_append,<-List.map_append,List.take_append_drop]
 rw[e,Yj];omega
theorem Zki (a:Yh) (ns:List Nd) (b f:Nat) (g:ZbM a ns f):ZcZ 115 a ns b (Zfx ns f) (Zcz ns f):=by
 intro w d t e x h i hx c j;rcases c with⟨hk,s,r,hn⟩|⟨hk,hv⟩
 ·exact ZmZ a w d b f t e ns x h hx s r hk hn (by omega)
 ·exact Zp8 a w d b f t e ns x h i hx g hk hv (by omega)
def ZeJ (ns:List Nd) (f:Nat) (n:Nd):Txt:=[99,97,108,108,32]++(if n.words.length=2 then word n 1++[32,61,32]else [])++word n 0++[40]++Zap [44,32] (n.kids.map fun k=>Zcz ns f (Zb ns k))++[41,59]
theorem Zoo (l w:Yh) (r C f:Nat) (t:Txt) (G:Yi) (ns:List Nd) (x:NdV×Nd) (h:PrS l w r t C G) (hN:Zi l G ns) (hx:ZU l x) (hE:ZbM l ns f) (a:Txt) (hn:x.2.words=[a]) (D:Zae ns x.2.kids (Zfx ns f)) (K:t.length+(ZeJ ns f x.2).length+10000<=140737488355328) :
  Calls Tryz.prog 87 #[.pointer (Ya ⟨r,0,Yb⟩),ndX x] w fun e w'=>e=.returned (.tuple #[])/\PrS l w' r (t++ZeJ ns f x.2) C G/\Fr w w' r:=by
 have hq:=hx;obtain⟨⟨vw,vu,vk⟩,E,g,b,d,F⟩:=x;obtain⟨hw,hu,P⟩:=hx;dsimp only at hn D hw hu P K⊢;obtain⟨Aw,J,rfl,ae,af,hW,ab⟩:=hw;obtain⟨H,I,rfl,ac,ad,hU⟩:=hu;obtain⟨s,B,rfl,Q,R,hK⟩:=P;have he:ZeJ ns f ⟨E,g,b,d,F⟩=[99,97,108,108,32]++[]++a++[40]++Zap [44,32] (d.map fun k=>Zcz ns f (Zb ns k))++[41,59]:=by unfold ZeJ word;dsimp only;rw[hn];rfl
 rw[he]at K⊢;clear he;generalize hA:(d.map fun k=>Zcz ns f (Zb ns k))=L at K⊢;simp only[Yj,Yk,Yl]at K;have t2:((g.length:Int)==2)=false:=by rw[hn];rfl
 have Y:=Nw.start (w:=w) #[Yd Yf E,Yc Aw g.length J,Yc H b.length I,.slice s d.length B,Yd Yf F] h;generalize a8:w.alloc (Yg #[Yd Yf E,Yc Aw g.length J,Yc H b.length I,.slice s d.length B,Yd Yf F] 36)=w1 at *;obtain⟨q,rfl,_⟩:=ZbR (k:=0) (x:=a) hW Y.p.below (by rw[hn];rfl) (by rw[hn];exact Nat.succ_pos _);have n:0<g.length:=by rw[hn];exact Nat.succ_pos _
 have o:=zh (zi hW hn);have T:=zh Y;have X:=zh (zi hN (zi hq (zi hK (zi R Q))));have V:=zh K;have N:=zh (zi D (zi hE hA));clear Y hq ae af hW ab ac ad hU Q R hK h hN K D hE hn hA;obtain⟨u,v,y,z,A⟩:=Zm (x:=((Yc (Ya q) g.length J,Yc H b.length I,.slice s d.length B),⟨E,g,b,d,F⟩)) T.out.k;dsimp only at u v y z A;have c:=Zw (k:=0) (x:=a) o.out.1 T.out.p.below (by rw[o.out.2];rfl) n;have m:w1.cell? q=Ya (txt a):=c;have M:=zh (Zas l w1 r C t G [99,97,108,108,32] T.out.p (by have:=V.out;simp only[Yk,Yl];omega));go_enter Tryz.func87,Tryz.ntmps87;go_upto_region 2 with(go_at_call 32;(refine M.out.mono ?_);rintro e w2 ⟨rfl,j,i⟩;have W:=zh (T.out.next j i);clear j i)
 clear u v y z A c m;obtain⟨u,v,y,z,A⟩:=Zm (x:=((Yc (Ya q) g.length J,Yc H b.length I,.slice s d.length B),⟨E,g,b,d,F⟩)) W.out.k;dsimp only at u v y z A;have c:=Zw (k:=0) (x:=a) o.out.1 W.out.p.below (by rw[o.out.2];rfl) n;have m:w2.cell? q=Ya (txt a):=c;go_upto_region 4 with fail;have S:=zh W.out.drew;obtain⟨d0,d1,d2,d3,d4⟩:=Zm (x:=((Yc (Ya q) g.length J,Yc H b.length I,.slice s d.length B),⟨E,g,b,d,F⟩)) S.out.k;dsimp only at d0 d1 d2 d3 d4;have O:=Zw (k:=0) (x:=a) o.out.1 S.out.p.below (by rw[o.out.2];rfl) n;have Z:w2.drew.cell? q=Ya (txt a):=O;have M:=zh (Zas l w2.drew r C _ G a S.out.p (by have:=V.out;simp only[Yj,Yk,Yl];omega));go_region_with (go_at_call 32;(refine M.out.mono ?_);rintro e w3 ⟨rfl,j,i⟩;have U:=zh (S.out.next j i);clear j i)
 all_goals
  clear u v y z A c m d0 d1 d2 d3 d4 O Z;obtain⟨u,v,y,z,A⟩:=Zm (x:=((Yc (Ya q) g.length J,Yc H b.length I,.slice s d.length B),⟨E,g,b,d,F⟩)) U.out.k;dsimp only at u v y z A;have c:=Zw (k:=0) (x:=a) o.out.1 U.out.p.below (by rw[o.out.2];rfl) n;have m:w3.cell? q=Ya (txt a):=c;have EN:=zh (ZfV _ Ziw l w3 r C _ G ns s B d (Zfx ns f) (Zcz ns f) U.out.p X.out.1 X.out.2.2.1 (by have:=X.out.2.2.2;omega) N.out.1 (Zki l ns C f N.out.2.1) (by have:=V.out;rw[N.out.2.2];simp only[Yj,Yk,Yl];omega));go_upto_region 6 with(go_at_call 35;(refine EN.out.mono ?_);rintro e w4 ⟨rfl,j,i⟩;have H4:=zh (U.out.next j i);clear j i)
  have M:=zh (Zas l w4 r C _ G [59] H4.out.p (by have:=V.out;rw[N.out.2.2];simp only[Yj,Yk,Yl];omega));go_wp2_with (go_at_call 32;(refine M.out.mono ?_);rintro e w5 ⟨rfl,j,i⟩;have H5:=zh (H4.out.next j i);clear j i);go_end0;refine⟨rfl,?_,H5.out.f⟩;have:=H5.out.p;rw[N.out.2.2]at this;simp only[List.append_assoc,List.cons_append,List.nil_append]at this⊢;exact this
theorem Zop (z w:Yh) (G O f:Nat) (t:Txt) (P:Yi) (ns:List Nd) (x:NdV×Nd) (h:PrS z w G t O P) (hN:Zi z P ns) (hx:ZU z x) (hE:ZbM z ns f) (a b:Txt) (hn:x.2.words=[a,b]) (T:Zae ns x.2.kids (Zfx ns f)) (U:t.length+(ZeJ ns f x.2).length+10000<=140737488355328) :
  Calls Tryz.prog 87 #[.pointer (Ya ⟨G,0,Yb⟩),ndX x] w fun e w'=>e=.returned (.tuple #[])/\PrS z w' G (t++ZeJ ns f x.2) O P/\Fr w w' G:=by
 have hq:=hx;obtain⟨⟨vw,vu,vk⟩,I,m,c,l,J⟩:=x;obtain⟨hw,hu,ag⟩:=hx;dsimp only at hn T hw hu ag U⊢;obtain⟨Aw,N,rfl,av,ax,hW,aq⟩:=hw;obtain⟨K,M,rfl,ar,au,hU⟩:=hu;obtain⟨F,H,rfl,ah,ai,hK⟩:=ag;have he:ZeJ ns f ⟨I,m,c,l,J⟩=[99,97,108,108,32]++(b++[32,61,32])++a++[40]++Zap [44,32] (l.map fun k=>Zcz ns f (Zb ns k))++[41,59]:=by unfold ZeJ word;dsimp only;rw[hn];rfl
 rw[he]at U⊢;clear he;generalize hA:(l.map fun k=>Zcz ns f (Zb ns k))=L at U⊢;simp only[Yj,Yk,Yl]at U;have t2:((m.length:Int)==2)=true:=by rw[hn];rfl
 have N1:=Nw.start (w:=w) #[Yd Yf I,Yc Aw m.length N,Yc K c.length M,Yc F l.length H,Yd Yf J] h;generalize bi:w.alloc (Yg #[Yd Yf I,Yc Aw m.length N,Yc K c.length M,Yc F l.length H,Yd Yf J] 36)=w1 at *;obtain⟨g,rfl,_⟩:=ZbR (k:=0) (x:=a) hW N1.p.below (by rw[hn];rfl) (by rw[hn];exact Nat.succ_pos _);have s:0<m.length:=by rw[hn];exact Nat.succ_pos _
 have u:1<m.length:=by rw[hn];simp only[Yk];omega
 have d:=zh (zi hW hn);have X:=zh N1;have HN:=zh (zi hN (zi hq (zi hK (zi ai ah))));have Z:=zh U;have HO:=zh (zi T (zi hE hA));clear N1 hq av ax hW aq ar au hU ah ai hK h hN U T hE hn hA;obtain⟨A,B,C,D,E⟩:=Zm (x:=((Yc (Ya g) m.length N,Yc K c.length M,Yc F l.length H),⟨I,m,c,l,J⟩)) X.out.k;dsimp only at A B C D E;have i:=Zw (k:=0) (x:=a) d.out.1 X.out.p.below (by rw[d.out.2];rfl) s;have q:w1.cell? g=Ya (txt a):=i;have j:=Zw (k:=1) (x:=b) d.out.1 X.out.p.below (by rw[d.out.2];rfl) u;have r:w1.cell? ⟨g.block,g.off+1,Yb⟩=Ya (txt b):=j;have Q:=zh (Zas z w1 G O t P [99,97,108,108,32] X.out.p (by have:=Z.out;simp only[Yk,Yl];omega));go_enter Tryz.func87,Tryz.ntmps87;go_upto_region 2 with(go_at_call 32;(refine Q.out.mono ?_);rintro e w2 ⟨rfl,o,n⟩;have H2:=zh (X.out.next o n);clear o n)
 clear A B C D E i j q r;obtain⟨A,B,C,D,E⟩:=Zm (x:=((Yc (Ya g) m.length N,Yc K c.length M,Yc F l.length H),⟨I,m,c,l,J⟩)) H2.out.k;dsimp only at A B C D E;have i:=Zw (k:=0) (x:=a) d.out.1 H2.out.p.below (by rw[d.out.2];rfl) s;have q:w2.cell? g=Ya (txt a):=i;have j:=Zw (k:=1) (x:=b) d.out.1 H2.out.p.below (by rw[d.out.2];rfl) u;have r:w2.cell? ⟨g.block,g.off+1,Yb⟩=Ya (txt b):=j;go_upto_region 3 with fail;have V:=zh H2.out.drew;obtain⟨d0,d1,d2,d3,d4⟩:=Zm (x:=((Yc (Ya g) m.length N,Yc K c.length M,Yc F l.length H),⟨I,m,c,l,J⟩)) V.out.k;dsimp only at d0 d1 d2 d3 d4;have v:=Zw (k:=0) (x:=a) d.out.1 V.out.p.below (by rw[d.out.2];rfl) s;have R:w2.drew.cell? g=Ya (txt a):=v;have y:=Zw (k:=1) (x:=b) d.out.1 V.out.p.below (by rw[d.out.2];rfl) u;have S:w2.drew.cell? ⟨g.block,g.off+1,Yb⟩=Ya (txt b):=y;have Q:=zh (Zdp z w2.drew G O _ P b [32,61,32] V.out.p (by have:=Z.out;simp only[Yj,Yk,Yl];omega));go_region_with (go_at_call 32;(refine Q.out.mono ?_);rintro e w3 ⟨rfl,o,n⟩;have H3:=zh (V.out.next o n);clear o n)
 all_goals
  clear A B C D E i j q r d0 d1 d2 d3 d4 v y R S;obtain⟨A,B,C,D,E⟩:=Zm (x:=((Yc (Ya g) m.length N,Yc K c.length M,Yc F l.length H),⟨I,m,c,l,J⟩)) H3.out.k;dsimp only at A B C D E;have i:=Zw (k:=0) (x:=a) d.out.1 H3.out.p.below (by rw[d.out.2];rfl) s;have q:w3.cell? g=Ya (txt a):=i;have j:=Zw (k:=1) (x:=b) d.out.1 H3.out.p.below (by rw[d.out.2];rfl) u;have r:w3.cell? ⟨g.block,g.off+1,Yb⟩=Ya (txt b):=j;go_upto_region 4 with fail;have W:=zh H3.out.drew;obtain⟨d0,d1,d2,d3,d4⟩:=Zm (x:=((Yc (Ya g) m.length N,Yc K c.length M,Yc F l.length H),⟨I,m,c,l,J⟩)) W.out.k;dsimp only at d0 d1 d2 d3 d4;have v:=Zw (k:=0) (x:=a) d.out.1 W.out.p.below (by rw[d.out.2];rfl) s;have R:w3.drew.cell? g=Ya (txt a):=v;have y:=Zw (k:=1) (x:=b) d.out.1 W.out.p.below (by rw[d.out.2];rfl) u;have S:w3.drew.cell? ⟨g.block,g.off+1,Yb⟩=Ya (txt b):=y;have Q:=zh (Zas z w3.drew G O _ P a W.out.p (by have:=Z.out;simp only[Yj,Yk,Yl];omega));go_region_with (go_at_call 32;(refine Q.out.mono ?_);rintro e w4 ⟨rfl,o,n⟩;have Y:=zh (W.out.next o n);clear o n)
  all_goals
   clear A B C D E i j q r d0 d1 d2 d3 d4 v y R S;obtain⟨A,B,C,D,E⟩:=Zm (x:=((Yc (Ya g) m.length N,Yc K c.length M,Yc F l.length H),⟨I,m,c,l,J⟩)) Y.out.k;dsimp only at A B C D E;have i:=Zw (k:=0) (x:=a) d.out.1 Y.out.p.below (by rw[d.out.2];rfl) s;have q:w4.cell? g=Ya (txt a):=i;have j:=Zw (k:=1) (x:=b) d.out.1 Y.out.p.below (by rw[d.out.2];rfl) u;have r:w4.cell? ⟨g.block,g.off+1,Yb⟩=Ya (txt b):=j;have EN:=zh (ZfV _ Ziw z w4 G O _ P ns F H l (Zfx ns f) (Zcz ns f) Y.out.p HN.out.1 HN.out.2.2.1 (by have:=HN.out.2.2.2;omega) HO.out.1 (Zki z ns O f HO.out.2.1) (by have:=Z.out;rw[HO.out.2.2];simp only[Yj,Yk,Yl];omega));go_upto_region 6 with(go_at_call 35;(refine EN.out.mono ?_);rintro e w5 ⟨rfl,o,n⟩;have H5:=zh (Y.out.next o n);clear o n)
   have Q:=zh (Zas z w5 G O _ P [59] H5.out.p (by have:=Z.out;rw[HO.out.2.2];simp only[Yj,Yk,Yl];omega));go_wp2_with (go_at_call 32;(refine Q.out.mono ?_);rintro e w6 ⟨rfl,o,n⟩;have H6:=zh (H5.out.next o n);clear o n);go_end0;refine⟨rfl,?_,H6.out.f⟩;have:=H6.out.p;rw[HO.out.2.2]at this;simp only[List.append_assoc,List.cons_append,List.nil_append]at this⊢;exact this
end Go.Proofs.YtdkegpkfjgloeaaGreatDoor
