import Derived.Deep.DeepFit
import Derived.Test.YtdkegpkfjgloeaaGreatDoorQAH
import Derived.Test.YtdkegpkfjgloeaaGreatDoorQBW
import Derived.Test.YtdkegpkfjgloeaaGreatDoorQBX
set_option maxRecDepth 100000
set_option maxHeartbeats 8000000
open Option renaming some → Ya, none → Yb
open Go.Value renaming slice → Yc, int → Yd
open Go.IntKind renaming i64 → Yf
open Go.Obj renaming cells → Yg
open Go renaming World → Yh
open Go.RowKit
namespace Go.Proofs.YtdkegpkfjgloeaaGreatDoor
theorem ZpX (w:Yh) (v:Value) (ns:List Nd) (x:NdV×Nd) (z:ZaP w 3 ZI) (y:Zi w v ns) (hx:ZU w x) (hk:ZaB x.2.kids ns.length) (hq:ZE ns x.2=true) :
  Calls Tryz.prog 30 #[v,ndV x] w fun e w'=>e=.returned (.bool true)/\Below w.heap.size w w':=by
 have g:=zh (fun(wr:Yh) (b:Below w.heap.size w wr)=>Zo2 wr x.1.1 x.2.words (hx.1.below b) (z.below b));have h:=zh (fun(wr:Yh) (b:Below w.heap.size w wr)=>ZlF wr x.1.2.1 x.2.nums (hx.2.1.below b));unfold ZE at hq;rw[Bool.and_eq_true,Bool.and_eq_true]at hq;obtain⟨⟨A,B⟩,C⟩:=hq;rw[A]at g;rw[B]at h;obtain⟨s,t,u⟩:=id hx;obtain⟨⟨E,F,G⟩,i,l,a,j,k⟩:=x;have f:=zh (fun(wr:Yh) (b:Below w.heap.size w wr)=>Znm wr v ns E F G i l a j k (y.below b) (hx.below b) hk C);dsimp only at s t u g h hk;obtain⟨m,p,rfl,_⟩:=s;obtain⟨n,q,rfl,_⟩:=t;obtain⟨o,r,rfl,_⟩:=u;unfold ndV at f⊢;dsimp only at f⊢;have c:=zh (below_alloc1 w (Yg #[Yd Yf i,.slice m l.length p,.slice n a.length q,.slice o j.length r,Yd Yf k] 36));clear z y hx hk A B C;have K:=(Blk.start w #[Yd Yf i,.slice m l.length p,.slice n a.length q,.slice o j.length r,Yd Yf k] 36).cell 0;go_enter Tryz.func30,Tryz.ntmps30
 go_wp2_with (first
  |(go_at_call 54;go_fit (g.out _ c.out);rintro H L ⟨rfl,rfl⟩)
  |(go_at_call 55;go_fit (h.out _ c.out);rintro I M ⟨rfl,rfl⟩)
  |(go_at_call 56;go_fit (f.out _ c.out);rintro J N ⟨rfl,d⟩;have D:=zh (c.out.trans (d.mono c.out.size));clear d))
 go_ret;exact⟨rfl,D.out⟩
theorem ZkU (w:Yh) (v:Value) (ns:List Nd) (h:Zi w v ns) (hV:∀(w':Yh) (x:NdV×Nd) (i:Nat),Below w.heap.size w w'->ZU w x->ns[i]? = Ya x.2->ZaB x.2.kids ns.length->Calls Tryz.prog 30 #[v,ndV x] w' fun e w2=>e=.returned (.bool (ZE ns x.2))/\Below w'.heap.size w' w2) :
  Calls Tryz.prog 13 #[v] w fun e w'=>e=.returned (.bool (Zb9 ns))/\Below w.heap.size w w':=by
 cases hp:Zb7 ns with
 |none=>
  have I:=ZkQ h hp;rw[ZdR hp];clear h hp hV;go_enter Tryz.func13,Tryz.ntmps13;go_wp2_with (go_at_call 27;go_fit I;rintro e J ⟨rfl,a⟩;have l:=zh a;clear a);go_ret;exact⟨rfl,l.out⟩
 |some p=>
  have I:=ZkR h hp;have hr:=Zfb hp;obtain⟨f1,f2,_,_⟩:=ZfF hp;have de:=fun w g c=>Zou (w:=w) (g:=g) (c:=c) hp;have mx:=fun w g c=>Zsp (w:=w) (g:=g) (c:=c) hp;have hv:=(fun(w':Yh) (a:Below w.heap.size w w') (i:Nat) (x:NdV×Nd) (hx:ZU w x) (hd:ns[i]? = Ya x.2)=>hV w' x i a hx hd (Zo8 hp hd))
  obtain⟨A,cp,rs,rfl,h2,h3,W,Q,h6⟩:=h;obtain⟨n,hn⟩:∃n,n=ns.length:=⟨_,rfl⟩
  rw[<-hn]at h2 Q f1 f2⊢;rw[<-hn]at I;simp only[<-hn]at de mx hv;have HV:=zh hv;have DE:=zh de;have MX:=zh mx;obtain⟨x0,t⟩:∃x,rs[0]? = Ya x:=⟨_,Ym (by have:=congrArg List.length W;rw[List.length_map]at this;omega)⟩
  have R:Zs ns 0=x0.2.kind:=Zde (k:=0) (by rw[<-W,List.getElem?_map,t];rfl);obtain⟨ad,rfl,_⟩:=ZaG Q (Below.refl _ _) t (by omega)
  have D0:=zh (fun(w':Yh) (a:Below w.heap.size w w')=>show w'.cell? ad=Ya (Yd Yf (Zs ns 0))from by
   obtain⟨z,e,u,_⟩:=ZaG Q a t (by omega);injection e with e;rw[e,R]
   rwa[show z.add (0*5)=z by unfold Addr.add;simp]at u)
  rw[hr];have HN:=zh (zi hn (zi f1 f2));have K:=zh (zi W (zi Q h6));have i0:(0:Int)<(n:Int):=by omega
  clear hn f1 f2 h2 h3 W Q h6 t R hr hp hV de mx hv;generalize Zs ns 0=K0 at *;generalize Zf2 (Zb1 p)=M at *;cases t1:(K0==0)
  ·have t2:(K0 != 0)=true:=by rw[bne,t1];rfl
   go_enter Tryz.func13,Tryz.ntmps13;go_wp2_with (go_at_call 27;go_fit I;rintro e J ⟨g,c,rfl,y,a⟩;have l:=zh (zi y a);have u:=D0.out J a;clear y a);go_ret;exact⟨rfl,l.out.2⟩
  ·have t2:(K0 != 0)=false:=by rw[bne,t1];rfl
   by_cases q:24<M
   ·have q2:¬M<=24:=by omega
    rw[decide_eq_false q2];go_enter Tryz.func13,Tryz.ntmps13
    go_wp2_with (first
     |(go_at_call 27;go_fit I;rintro e J ⟨g,c,rfl,y,a⟩;have l:=zh (zi y a);have u:=D0.out J a;clear y a)
     |(go_at_call 29;go_fit (DE.out _ _ _ l.out.1);rintro e w2 ⟨g2,c2,rfl,m,o⟩;have H:=zh (zi m o);clear m o)
     |(go_at_call 28;go_fit (MX.out _ _ _ H.out.1);rintro e w3 ⟨rfl,rfl⟩))
    go_ret;exact⟨rfl,l.out.2.trans (H.out.2.mono l.out.2.size)⟩
   ·have q2:M<=24:=by omega
    rw[decide_eq_true q2];go_enter Tryz.func13,Tryz.ntmps13
    go_wp2_with (first
     |(go_at_call 27;go_fit I;rintro e J ⟨g,c,rfl,y,a⟩;have l:=zh (zi y a);have u:=D0.out J a;clear y a)
     |(go_at_call 29;go_fit (DE.out _ _ _ l.out.1);rintro e w2 ⟨g2,c2,rfl,m,o⟩;have H:=zh (zi m o);clear m o)
     |(go_at_call 28;go_fit (MX.out _ _ _ H.out.1);rintro e w3 ⟨rfl,rfl⟩))
    have bC:=l.out.2.trans (H.out.2.mono l.out.2.size);clear DE MX H u;go_loopg [29] n (fun gk ax wr=>∃j:Nat,ax=Yd Yf j/\j<=n/\gk=n-j/\(ns.take j).all (ZE ns)=true/\Below w.heap.size w wr)
    case atStart=>exact⟨0,rfl,Nat.zero_le _,rfl,rfl,bC⟩
    case round=>
     clear bC l;obtain⟨j,rfl,hj,D,b,a⟩:=hrel;by_cases E:j=n
     ·have e:ns.take j=ns:=by rw[E,HN.out.1];exact List.take_length
      rw[e]at b;subst E;have s:=zh (zi b a);clear e b a D hj;go_wp2_with fail;go_ret;exact⟨by rw[s.out.1];rfl,s.out.2⟩
     have S:j<n:=by omega
     obtain⟨x,hx⟩:∃x,rs[j]? = Ya x:=⟨_,Ym (by have:=congrArg List.length K.out.1;rw[List.length_map]at this;have:=HN.out.1;omega)⟩
     have hd:ns[j]? = Ya x.2:=by rw[<-K.out.1,List.getElem?_map,hx];rfl
     have V:=zh (fun w' a=>HV.out w' a j x (K.out.2.2 x (List.mem_of_getElem? hx)) hd);have T:=ZcJ (f:=ZE ns) hd b;have L:ZE ns x.2=false->ns.all (ZE ns)=false:=ZhK hd;obtain⟨z,ea,u,d1,d2,d3,d4⟩:=ZaG K.out.2.1 a hx (by omega);injection ea with ea;subst ea;have i2:(j:Int)<(n:Int):=by omega
     have i3:(0:Int)<=(j:Int):=by omega
     have u1:IntKind.i64.wrap ((j:Int)+1)=(j:Int)+1:=IntWalk.i64_in _ (by have:=HN.out;omega);obtain⟨⟨A1,c1,N,_⟩,⟨A2,C,O,_⟩,A3,c3,P,_⟩:=K.out.2.2 x (List.mem_of_getElem? hx);have U:=zh (zi D (zi a S));have NX:=zh (zi T L);clear D a S E hj hx hd b T L;obtain⟨⟨va,vb,vc⟩,X,ws,d,Y,Z⟩:=x;dsimp only at u d1 d2 d3 d4 N O P;subst N O P;unfold ndV at V;dsimp only at V;generalize ZE ns ⟨X,ws,d,Y,Z⟩=B at *;go_upto_region 7 with fail;have a5:=below_alloc1 wr (Yg #[Yd Yf X,Yc A1 ws.length c1,Yc A2 d.length C,Yc A3 Y.length c3,Yd Yf Z] 36);have b5:=U.out.2.1.trans (a5.mono U.out.2.1.size);have F:=Blk.start wr #[Yd Yf X,Yc A1 ws.length c1,Yc A2 d.length C,Yc A3 Y.length c3,Yd Yf Z] 36;have G:=zh b5;have g0:=F.cell 0;have g1:=F.cell 1;have aq:=F.cell 2;have g3:=F.cell 3;have g4:=F.cell 4;clear a5 b5 F u d1 d2 d3 d4;generalize wr.alloc (Yg #[Yd Yf X,Yc A1 ws.length c1,Yc A2 d.length C,Yc A3 Y.length c3,Yd Yf Z] 36)=w5 at *;generalize au:wr.heap.size=nb at *;clear au;simp only[List.getElem?_toArray,List.getElem?_cons_zero,List.getElem?_cons_succ]at g0 g1 aq g3 g4;cases B
     ·have s:=zh (NX.out.2 rfl);go_wp2_with (go_at_call 30;go_fit (V.out _ G.out);rintro e w6 ⟨rfl,r⟩;have H6:=zh r;clear r);go_ret;exact⟨by rw[s.out];rfl,G.out.trans (H6.out.mono G.out.size)⟩
     ·go_wp2_with (go_at_call 30;go_fit (V.out _ G.out);rintro e w6 ⟨rfl,r⟩;have H6:=zh r;clear r);go_roundg (n-(j+1))
      case measure=>have:=U.out;omega
      case rel=>exact⟨j+1,by push_cast;rfl,by have:=U.out;omega,rfl,NX.out.1,G.out.trans (H6.out.mono G.out.size)⟩
theorem Zpm (w:Yh) (v:Value) (ns:List Nd) (h:Zi w v ns) (f:ZaP w 3 ZI) (a:Zb9 ns=true) :
  Calls Tryz.prog 13 #[v] w fun e w'=>e=.returned (.bool true)/\Below w.heap.size w w':=by
 have b:∀d∈ns,ZE ns d=true:=by
  cases hp:Zb7 ns with
  |none=>rw[ZdR hp]at a;cases a
  |some p=>
   rw[Zfb hp,Bool.and_eq_true]at a;exact fun d hd=>List.all_eq_true.mp a.2 d hd
 have:=ZkU w v ns h fun w' x i c hx hd hk=>by
  have q:=b x.2 (List.mem_of_getElem? hd);rw[q];exact ZpX w' v ns x (f.below c) (h.below c) (hx.below c) hk q
 rw[a]at this;exact this
theorem Zpl (w:Yh):Calls Tryz.prog 13 #[Yc Yb 0 0] w fun e w'=>e=.returned (.bool false)/\Below w.heap.size w w':=
 ZkU w _ [] (Zi.nil w) fun w' x i a hx hd=>by simp at hd
theorem Zlf (w:Yh) (v:Value) (ns:List Nd) (s:Zi w v ns) (hk:ZaP w 3 ZI) (T:PTabs w) (t:Zb9 ns=true) (m:(Zcc ns).length+10000<=140737488355328) :
  Calls Tryz.prog 7 #[v] w fun e w'=>e=.returned (txt (Zcc ns))/\Below w.heap.size w w':=by
 have X:=zh (Zpm w v ns s hk t);obtain⟨An,q,rs,rfl,h⟩:=id s;have b:=zh h;clear h;have R:=Zf7 t;have K:Zcc ns=Zbv 0 ((Zb ns 0).kids.map fun k=>ZcH ns ns.length (Zb ns k)):=by unfold Zcc;rw[t];rfl
 rw[K]at m⊢;have z:=zh (ZfD R);have f:=R.some_;have a:=R.len;obtain⟨d,hd⟩:∃d,ns[0]? = Ya d:=⟨_,Ym f⟩
 have L:Zb ns 0=d:=ZbZ (k:=0) hd;rw[L]at m z⊢;obtain⟨r,c⟩:∃r,rs[0]? = Ya r:=⟨_,Ym (by have:=congrArg List.length b.out.2.2.1;rw[List.length_map]at this;omega)⟩
 obtain rfl:r.2=d:=by
  have:ns[0]? = Ya r.2:=by rw[<-b.out.2.2.1,List.getElem?_map,c];rfl
  exact Option.some.inj (this.symm.trans hd)
 obtain⟨⟨vw,vu,vk⟩,kd,ws,S,ks,ps⟩:=r;obtain⟨Q,P,i⟩:=b.out.2.2.2.2 _ (List.mem_of_getElem? c);dsimp only at Q P i m z⊢;obtain⟨Aw,cw,rfl,_⟩:=Q;obtain⟨Au,cu,rfl,_⟩:=P;obtain⟨V,Z,rfl,j,l,M⟩:=i;have i1:(0:Int)<(ns.length:Int):=by omega
 have p:=zh (zi s (zi c (zi M (zi l j))));have y:=zh (zi T (zi m (zi f a)));clear t R K m T hk s hd L c j l M f a;go_enter Tryz.func7,Tryz.ntmps7;go_upto_region 3 with(go_at_call 13;go_fit X.out;rintro e o ⟨rfl,N⟩;have u:=zh N;clear N)
 go_upto_region 4 with fail;have a2:=below_alloc1 o (Yg #[Yc Yb 0 0,Yd Yf 0,Yc An ns.length q] 44);have F:Zk _ _ _ _:=Zk.start o #[Yc Yb 0 0,Yd Yf 0,Yc An ns.length q] 44;generalize ac:o.alloc (Yg #[Yc Yb 0 0,Yd Yf 0,Yc An ns.length q] 44)=U at *;have H:=zh (show PrS w U o.heap.size [] 0 (Yc An ns.length q)from⟨⟨_,F,⟨rfl,.inl ⟨rfl,rfl⟩⟩⟩,u.out.trans (a2.mono u.out.size),u.out.size⟩);clear a2 F;obtain⟨I,rfl,A,B,C,D,E⟩:=ZaG b.out.2.2.2.1 H.out.below p.out.2.1 (by omega);have ea:I.add (0*5)=I:=by unfold Addr.add;simp
 rw[ea]at A B C D E;dsimp only at A B C D E;have W:=zh (ZjE _ Zlv w U o.heap.size 0 [] _ ns V Z ks _ _ H.out p.out.1 (by omega) p.out.2.2.1 (by have:=p.out.2.2.2;omega) z.out (ZoO w ns y.out.1 ns.length y.out.2.2.2) (by have:=y.out.2.1;simpa using this));go_upto_region 5 with(go_at_call 14;(refine W.out.mono ?_);rintro e w3 ⟨rfl,O,hf⟩;have G:=zh O;clear O hf)
 obtain⟨v3,n,g⟩:=G.out.box;have J:=n.blk.cell 0;simp only[List.getElem?_toArray,List.getElem?_cons_zero]at J;have cv:=Zot g;obtain⟨A3,Y,rfl⟩:=ZbB g;rw[List.nil_append]at cv J;clear n g A B C D E;go_wp2_with fail;go_ret;exact⟨rfl,G.out.below⟩
theorem Zl8 (w:Yh):Calls Tryz.prog 7 #[Yc Yb 0 0] w fun e w'=>e=.returned (txt [])/\Below w.heap.size w w':=by have c:=zh (Zpl w);go_enter Tryz.func7,Tryz.ntmps7;go_wp2_with (go_at_call 13;go_fit c.out;rintro e d ⟨rfl,a⟩;have b:=zh a;clear a);go_ret;exact⟨rfl,b.out⟩
theorem Zol (w:Yh) (r:ShoTabs w):Calls Tryz.prog 4 #[] w fun e w'=>e=.returned (.bool true)/\Below w.heap.size w w':=by
 have d:=below_alloc1 w (Yg #[Yd Yf 1] 3);have k:Za7 (w.alloc (Yg #[Yd Yf 1] 3)) (Yc (Ya ⟨w.heap.size,0,Yb⟩) 1 1) [1]:=Ze0 w [1] 3 (by simp[maxLen]);generalize v:w.alloc (Yg #[Yd Yf 1] 3)=a at *;have a2:=below_alloc1 a (Yg #[txt [109,97,105,110]] 9);have l:Zdt (a.alloc (Yg #[txt [109,97,105,110]] 9)) (Yc (Ya ⟨a.heap.size,0,Yb⟩) 1 1) [[109,97,105,110]]:=ZqS a [[109,97,105,110]] 9 (by simp[maxLen]) (by simp[maxLen]);generalize y:a.alloc (Yg #[txt [109,97,105,110]] 9)=b at *;have a3:=below_alloc1 b (Yg #[Yd Yf 2] 3);have m:Za7 (b.alloc (Yg #[Yd Yf 2] 3)) (Yc (Ya ⟨b.heap.size,0,Yb⟩) 1 1) [2]:=Ze0 b [2] 3 (by simp[maxLen]);generalize z:b.alloc (Yg #[Yd Yf 2] 3)=c at *;have a4:=below_alloc1 c (Yg #[Yd Yf 3] 3);have n:Za7 (c.alloc (Yg #[Yd Yf 3] 3)) (Yc (Ya ⟨c.heap.size,0,Yb⟩) 1 1) [3]:=Ze0 c [3] 3 (by simp[maxLen]);generalize A:c.alloc (Yg #[Yd Yf 3] 3)=g at *;have a5:=below_alloc1 g (Yg #[Yd Yf 0,Yc Yb 0 0,Yc Yb 0 0,Yc (Ya ⟨w.heap.size,0,Yb⟩) 1 1,Yd Yf 0,Yd Yf 4,Yc (Ya ⟨a.heap.size,0,Yb⟩) 1 1,Yc Yb 0 0,Yc (Ya ⟨b.heap.size,0,Yb⟩) 1 1,Yd Yf 0,Yd Yf 7,Yc Yb 0 0,Yc Yb 0 0,Yc (Ya ⟨c.heap.size,0,Yb⟩) 1 1,Yd Yf 0,Yd Yf 19,Yc Yb 0 0,Yc Yb 0 0,Yc Yb 0 0,Yd Yf 0] 36);have o:Zi (g.alloc (Yg #[Yd Yf 0,Yc Yb 0 0,Yc Yb 0 0,Yc (Ya ⟨w.heap.size,0,Yb⟩) 1 1,Yd Yf 0,Yd Yf 4,Yc (Ya ⟨a.heap.size,0,Yb⟩) 1 1,Yc Yb 0 0,Yc (Ya ⟨b.heap.size,0,Yb⟩) 1 1,Yd Yf 0,Yd Yf 7,Yc Yb 0 0,Yc Yb 0 0,Yc (Ya ⟨c.heap.size,0,Yb⟩) 1 1,Yd Yf 0,Yd Yf 19,Yc Yb 0 0,Yc Yb 0 0,Yc Yb 0 0,Yd Yf 0] 36)) (Yc (Ya ⟨g.heap.size,0,Yb⟩) 4 4) ns8:=
  Zo4 g [((Yc Yb 0 0,Yc Yb 0 0,Yc (Ya ⟨w.heap.size,0,Yb⟩) 1 1),⟨0,[],[],[1],0⟩),((Yc (Ya ⟨a.heap.size,0,Yb⟩) 1 1,Yc Yb 0 0,Yc (Ya ⟨b.heap.size,0,Yb⟩) 1 1),⟨4,[[109,97,105,110]],[],[2],0⟩),((Yc Yb 0 0,Yc Yb 0 0,Yc (Ya ⟨c.heap.size,0,Yb⟩) 1 1),⟨7,[],[],[3],0⟩),((Yc Yb 0 0,Yc Yb 0 0,Yc Yb 0 0),⟨19,[],[],[],0⟩)] 36 (by simp[maxLen]) (fun x hx=>by
   simp only[List.mem_cons,List.not_mem_nil,or_false]at hx;rcases hx with rfl|rfl|rfl|rfl
   ·exact⟨Zdt.nil _,Za7.nil _,(((k.below a2).below a3).below a4).below a5⟩
   ·exact⟨((l.below a3).below a4).below a5,Za7.nil _,(m.below a4).below a5⟩
   ·exact⟨Zdt.nil _,Za7.nil _,n.below a5⟩
   ·exact⟨Zdt.nil _,Za7.nil _,Za7.nil _⟩)
 generalize B:g.alloc (Yg #[Yd Yf 0,Yc Yb 0 0,Yc Yb 0 0,Yc (Ya ⟨w.heap.size,0,Yb⟩) 1 1,Yd Yf 0,Yd Yf 4,Yc (Ya ⟨a.heap.size,0,Yb⟩) 1 1,Yc Yb 0 0,Yc (Ya ⟨b.heap.size,0,Yb⟩) 1 1,Yd Yf 0,Yd Yf 7,Yc Yb 0 0,Yc Yb 0 0,Yc (Ya ⟨c.heap.size,0,Yb⟩) 1 1,Yd Yf 0,Yd Yf 19,Yc Yb 0 0,Yc Yb 0 0,Yc Yb 0 0,Yd Yf 0] 36)=s at *;have h:Below w.heap.size w s:=d.trans ((a2.mono d.size).trans ((a3.mono (Nat.le_trans d.size a2.size)).trans ((a4.mono (Nat.le_trans d.size (Nat.le_trans a2.size a3.size))).trans (a5.mono (Nat.le_trans d.size (Nat.le_trans a2.size (Nat.le_trans a3.size a4.size)))))));have t5:=r.below h;have q:=zh (Zlf s _ _ o t5.keys t5.p (by decide +kernel) (by rw[Zrc];decide));rw[Zrc]at q;have u:=zh (fun w'=>Zl8 w');have j:=zh h;clear r k l m n o d a2 a3 a4 a5 h t5;go_enter Tryz.func4,Tryz.ntmps4
 go_wp2_with (first
  |(go_at_call 7;go_fit q.out;rintro C E ⟨rfl,f⟩;have i:=zh f;clear f)
  |(go_at_call 7;go_fit (u.out _);rintro D F ⟨rfl,f⟩;have t:=zh (i.out.trans (f.mono i.out.size));clear f))
 go_ret;exact⟨rfl,j.out.trans (t.out.mono j.out.size)⟩
end Go.Proofs.YtdkegpkfjgloeaaGreatDoor
