import Derived.Test.YtfbepcelkijgkaaGreatDoorQBE
import Derived.Test.YtfbepcelkijgkaaGreatDoorQBK
import Derived.Test.YtfbepcelkijgkaaGreatDoorQBQ
import Derived.Test.YtfbepcelkijgkaaGreatDoorQBR
import Derived.Test.YtfbepcelkijgkaaGreatDoorQBY
set_option maxRecDepth 100000
set_option maxHeartbeats 8000000
open Option renaming some → Ya, none → Yb
open Go.Value renaming slice → Yc, int → Yd
open Go.IntKind renaming i64 → Yf
open Go.Obj renaming cells → Yg
open Go renaming World → Yh
namespace Go.Proofs.YtfbepcelkijgkaaGreatDoor
section
open Go.RowKit
theorem Zn9 (w:Yh) (r:ShoTabs w):Calls Tryz.prog 6 #[] w fun e w'=>e=.returned (.bool true)/\Below w.heap.size w w':=by
 have d:=below_alloc1 w (Yg #[Yd Yf 1] 3);have k:ZaX (w.alloc (Yg #[Yd Yf 1] 3)) (Yc (Ya ⟨w.heap.size,0,Yb⟩) 1 1) [1]:=ZeS w [1] 3 (by simp[maxLen]);generalize v:w.alloc (Yg #[Yd Yf 1] 3)=a at *;have a2:=below_alloc1 a (Yg #[txt [109,97,105,110]] 9);have l:Zdc (a.alloc (Yg #[txt [109,97,105,110]] 9)) (Yc (Ya ⟨a.heap.size,0,Yb⟩) 1 1) [[109,97,105,110]]:=Zqt a [[109,97,105,110]] 9 (by simp[maxLen]) (by simp[maxLen]);generalize y:a.alloc (Yg #[txt [109,97,105,110]] 9)=b at *;have a3:=below_alloc1 b (Yg #[Yd Yf 2] 3);have m:ZaX (b.alloc (Yg #[Yd Yf 2] 3)) (Yc (Ya ⟨b.heap.size,0,Yb⟩) 1 1) [2]:=ZeS b [2] 3 (by simp[maxLen]);generalize z:b.alloc (Yg #[Yd Yf 2] 3)=c at *;have a4:=below_alloc1 c (Yg #[Yd Yf 3] 3);have n:ZaX (c.alloc (Yg #[Yd Yf 3] 3)) (Yc (Ya ⟨c.heap.size,0,Yb⟩) 1 1) [3]:=ZeS c [3] 3 (by simp[maxLen]);generalize A:c.alloc (Yg #[Yd Yf 3] 3)=g at *;have a5:=below_alloc1 g (Yg #[Yd Yf 0,Yc Yb 0 0,Yc Yb 0 0,Yc (Ya ⟨w.heap.size,0,Yb⟩) 1 1,Yd Yf 0,Yd Yf 4,Yc (Ya ⟨a.heap.size,0,Yb⟩) 1 1,Yc Yb 0 0,Yc (Ya ⟨b.heap.size,0,Yb⟩) 1 1,Yd Yf 0,Yd Yf 7,Yc Yb 0 0,Yc Yb 0 0,Yc (Ya ⟨c.heap.size,0,Yb⟩) 1 1,Yd Yf 0,Yd Yf 19,Yc Yb 0 0,Yc Yb 0 0,Yc Yb 0 0,Yd Yf 0] 37);have o:Zi (g.alloc (Yg #[Yd Yf 0,Yc Yb 0 0,Yc Yb 0 0,Yc (Ya ⟨w.heap.size,0,Yb⟩) 1 1,Yd Yf 0,Yd Yf 4,Yc (Ya ⟨a.heap.size,0,Yb⟩) 1 1,Yc Yb 0 0,Yc (Ya ⟨b.heap.size,0,Yb⟩) 1 1,Yd Yf 0,Yd Yf 7,Yc Yb 0 0,Yc Yb 0 0,Yc (Ya ⟨c.heap.size,0,Yb⟩) 1 1,Yd Yf 0,Yd Yf 19,Yc Yb 0 0,Yc Yb 0 0,Yc Yb 0 0,Yd Yf 0] 37)) (Yc (Ya ⟨g.heap.size,0,Yb⟩) 4 4) ns8:=
  ZoQ g [((Yc Yb 0 0,Yc Yb 0 0,Yc (Ya ⟨w.heap.size,0,Yb⟩) 1 1),⟨0,[],[],[1],0⟩),((Yc (Ya ⟨a.heap.size,0,Yb⟩) 1 1,Yc Yb 0 0,Yc (Ya ⟨b.heap.size,0,Yb⟩) 1 1),⟨4,[[109,97,105,110]],[],[2],0⟩),((Yc Yb 0 0,Yc Yb 0 0,Yc (Ya ⟨c.heap.size,0,Yb⟩) 1 1),⟨7,[],[],[3],0⟩),((Yc Yb 0 0,Yc Yb 0 0,Yc Yb 0 0),⟨19,[],[],[],0⟩)] 37 (by simp[maxLen]) (fun x hx=>by
   simp only[List.mem_cons,List.not_mem_nil,or_false]at hx;rcases hx with rfl|rfl|rfl|rfl
   ·exact⟨Zdc.nil _,ZaX.nil _,(((k.below a2).below a3).below a4).below a5⟩
   ·exact⟨((l.below a3).below a4).below a5,ZaX.nil _,(m.below a4).below a5⟩
   ·exact⟨Zdc.nil _,ZaX.nil _,n.below a5⟩
   ·exact⟨Zdc.nil _,ZaX.nil _,ZaX.nil _⟩)
 generalize B:g.alloc (Yg #[Yd Yf 0,Yc Yb 0 0,Yc Yb 0 0,Yc (Ya ⟨w.heap.size,0,Yb⟩) 1 1,Yd Yf 0,Yd Yf 4,Yc (Ya ⟨a.heap.size,0,Yb⟩) 1 1,Yc Yb 0 0,Yc (Ya ⟨b.heap.size,0,Yb⟩) 1 1,Yd Yf 0,Yd Yf 7,Yc Yb 0 0,Yc Yb 0 0,Yc (Ya ⟨c.heap.size,0,Yb⟩) 1 1,Yd Yf 0,Yd Yf 19,Yc Yb 0 0,Yc Yb 0 0,Yc Yb 0 0,Yd Yf 0] 37)=s at *;have h:Below w.heap.size w s:=d.trans ((a2.mono d.size).trans ((a3.mono (Nat.le_trans d.size a2.size)).trans ((a4.mono (Nat.le_trans d.size (Nat.le_trans a2.size a3.size))).trans (a5.mono (Nat.le_trans d.size (Nat.le_trans a2.size (Nat.le_trans a3.size a4.size)))))));have t5:=r.below h;have q:=zh (Zqp s _ _ o t5.keys t5.p (by decide +kernel) (by rw[ZqO];decide));rw[ZqO]at q;have u:=zh (fun w'=>Zl0 w');have j:=zh h;clear r k l m n o d a2 a3 a4 a5 h t5;go_enter Tryz.func6,Tryz.ntmps6
 go_wp2_with (first
  |(go_at_call 9;(with_reducible refine q.out.mono ?_);rintro C E ⟨rfl,f⟩;have i:=zh f;clear f)
  |(go_at_call 9;(with_reducible refine(u.out _).mono ?_);rintro D F ⟨rfl,f⟩;have t:=zh (i.out.trans (f.mono i.out.size));clear f))
 go_ret;exact⟨rfl,j.out.trans (t.out.mono j.out.size)⟩
end
section
open Go.RowKit
theorem Zi.len {w:Yh} {v:Value} {ns:List Nd} (h:Zi w v ns):∃A c,v=Yc A ns.length c:=by obtain⟨A,c,_,e,_⟩:=h;exact⟨A,c,e⟩
theorem Zm0 {ns:List Nd} (f:ZmM ns) (b:ZcB ns=true) {i:Nat} {n:Nd} (a:ns[i]? = Ya n) (hk:ZF n.kind=true):(ZH ns ns.length n).length<=75000000:=by
 have R:=ZfT b;have g:=ZqH R f.2;have h:=(List.getElem?_eq_some_iff.1 a).1;cases hp:ZbJ ns with
 |none=>rw[Zdb hp]at b;cases b
 |some p=>
  have c:=Zmu (ZeI hp) ns.length i h;rw[Zpz]at c;have e:Zf ns (i:Int)=n:=Zcm a;rw[e]at c;have d:=g (i:Int);rw[e]at d;have:=Zkv g ns.length ns.length n d (Zdr R ns.length i n a (by omega) hk) (Nat.le_refl _);have:=f.1;omega
theorem Zj9 (w:Yh) (Q:ShoTabs w) (v:Value) (ns:List Nd) (I:Zi w v ns) (C:Zd4 ns) (x:Int) (_:(Lit.int IntKind.i64 x).wf=true) :
  Calls Tryz.prog 5 #[v,Yd Yf x] w fun e w'=>e=.returned (.bool true)/\Below w.heap.size w w':=by
 have n:=zh (fun(w':Yh) (f:Below w.heap.size w w')=>Zn9 w' (Q.below f));have V:=zh (fun(w':Yh) (f:Below w.heap.size w w')=>ZlU w' v ns (I.below f) C);have U:=zh (fun(w':Yh) (f:Below w.heap.size w w')=>ZnM w' v ns (I.below f) C);have l:=zh (show Below w.heap.size w w from Below.refl _ _);have Y:=I.len;by_cases bg:x<0
 ·have G:=zh (fun(w':Yh) (_:Below w.heap.size w w')=>trivial);obtain⟨A,c,rfl⟩:=Y;clear Q I C;go_enter Tryz.func5,Tryz.ntmps5
  go_wp2_with (first
   |(go_at_call 6;(refine(n.out _ l.out).mono ?_);rintro o O ⟨rfl,f⟩;have m:=zh (l.out.trans (f.mono l.out.size));clear f l)
   |(go_at_call 7;(refine(V.out _ m.out).mono ?_);rintro e2 r ⟨⟨b,rfl,hq⟩,f⟩;have g:=zh (m.out.trans (f.mono m.out.size));have S:=zh hq;clear f hq;cases b)
   |(go_at_call 8;(refine(U.out _ g.out).mono ?_);rintro e3 w3 ⟨⟨B,rfl,hq⟩,f⟩;have j:=zh (g.out.trans (f.mono g.out.size));have T:=zh hq;have n0:=G.out _ j.out;clear f hq;cases B)
   |(go_at_call 6;(refine(n.out _ j.out).mono ?_);rintro o F ⟨rfl,f⟩;have k:=zh (j.out.trans (f.mono j.out.size));clear f)
   |(go_at_call 6;(refine(n.out _ g.out).mono ?_);rintro o F ⟨rfl,f⟩;have k:=zh (g.out.trans (f.mono g.out.size));clear f))
  ·go_ret;exact⟨rfl,k.out⟩
  ·go_ret;exact⟨rfl,k.out⟩
  ·go_ret;exact⟨rfl,k.out⟩
 by_cases bh:(ns.length:Int)<=x
 ·have G:=zh (fun(w':Yh) (_:Below w.heap.size w w')=>trivial);obtain⟨A,c,rfl⟩:=Y;clear Q I C;go_enter Tryz.func5,Tryz.ntmps5
  go_wp2_with (first
   |(go_at_call 6;(refine(n.out _ l.out).mono ?_);rintro o O ⟨rfl,f⟩;have m:=zh (l.out.trans (f.mono l.out.size));clear f l)
   |(go_at_call 7;(refine(V.out _ m.out).mono ?_);rintro e2 r ⟨⟨b,rfl,hq⟩,f⟩;have g:=zh (m.out.trans (f.mono m.out.size));have S:=zh hq;clear f hq;cases b)
   |(go_at_call 8;(refine(U.out _ g.out).mono ?_);rintro e3 w3 ⟨⟨B,rfl,hq⟩,f⟩;have j:=zh (g.out.trans (f.mono g.out.size));have T:=zh hq;have n0:=G.out _ j.out;clear f hq;cases B)
   |(go_at_call 6;(refine(n.out _ j.out).mono ?_);rintro o F ⟨rfl,f⟩;have k:=zh (j.out.trans (f.mono j.out.size));clear f)
   |(go_at_call 6;(refine(n.out _ g.out).mono ?_);rintro o F ⟨rfl,f⟩;have k:=zh (g.out.trans (f.mono g.out.size));clear f))
  ·go_ret;exact⟨rfl,k.out⟩
  ·go_ret;exact⟨rfl,k.out⟩
  ·go_ret;exact⟨rfl,k.out⟩
 obtain⟨i,rfl⟩:∃i:Nat,x=i:=⟨x.toNat,by omega⟩
 have K:i<ns.length:=by omega
 obtain⟨d,hd⟩:∃d,ns[i]? = Ya d:=⟨_,Ym K⟩
 have G:∃(Z:Addr) (c:Nat),v=Yc (Ya Z) ns.length c/\∀w':Yh,Below w.heap.size w w'->w'.cell? (Z.add (i*5))=Ya (Yd Yf d.kind):=by
  obtain⟨A,c,rs,rfl,g2,g3,g4,g5,g6⟩:=I;obtain⟨y,hy⟩:∃y,rs[i]? = Ya y:=⟨_,Ym (by have:=congrArg List.length g4;rw[List.length_map]at this;omega)⟩
  obtain rfl:y.2=d:=by
   have:ns[i]? = Ya y.2:=by rw[<-g4,List.getElem?_map,hy];rfl
   exact Option.some.inj (this.symm.trans hd)
  obtain⟨Z,rfl,_⟩:=Zan g5 (Below.refl _ _) hy (by omega);refine⟨Z,c,rfl,fun w' f=>?_⟩;obtain⟨bb,e,d0,_⟩:=Zan g5 f hy (by omega);injection e with e;subst e;exact d0
 obtain⟨Z,c,rfl,G⟩:=G;have G:=zh G;have j0:(0:Int)<=(i:Int):=by omega
 have j1:(i:Int)<(ns.length:Int):=by omega
 by_cases M:d.kind<20
 ·clear Q I C Y hd K;generalize d.kind=kd at *;go_enter Tryz.func5,Tryz.ntmps5
  go_wp2_with (first
   |(go_at_call 6;(refine(n.out _ l.out).mono ?_);rintro o O ⟨rfl,f⟩;have m:=zh (l.out.trans (f.mono l.out.size));clear f l)
   |(go_at_call 7;(refine(V.out _ m.out).mono ?_);rintro e2 r ⟨⟨b,rfl,hq⟩,f⟩;have g:=zh (m.out.trans (f.mono m.out.size));have S:=zh hq;clear f hq;cases b)
   |(go_at_call 8;(refine(U.out _ g.out).mono ?_);rintro e3 w3 ⟨⟨B,rfl,hq⟩,f⟩;have j:=zh (g.out.trans (f.mono g.out.size));have T:=zh hq;have n0:=G.out _ j.out;clear f hq;cases B)
   |(go_at_call 6;(refine(n.out _ j.out).mono ?_);rintro o F ⟨rfl,f⟩;have k:=zh (j.out.trans (f.mono j.out.size));clear f)
   |(go_at_call 6;(refine(n.out _ g.out).mono ?_);rintro o F ⟨rfl,f⟩;have k:=zh (g.out.trans (f.mono g.out.size));clear f))
  ·go_ret;exact⟨rfl,k.out⟩
  ·go_ret;exact⟨rfl,k.out⟩
  ·go_ret;exact⟨rfl,k.out⟩
 by_cases hh:ZmM ns/\ZcB ns=true
 ·obtain⟨hf,hr⟩:=hh;have hk:ZF d.kind=true:=by
   have h1:=((ZfT hr).node i d hd).2.2;have h2:d.kind<=23:=by
    refine Int.not_lt.1 fun q=>?_;unfold Zr at h1
    repeat rw[Yn (by omega)]at h1
    cases h1
   unfold ZF;rw[decide_eq_true (by omega),decide_eq_true h2];rfl
  have E:=Zm0 hf hr hd hk;obtain⟨a,ha⟩:∃a:ByteArray,a=⟨(ZH ns ns.length d).toArray⟩:=⟨_,rfl⟩
  have R:txt (ZH ns ns.length d)=.string a:=by rw[ha]
  have ae:a.size=(ZH ns ns.length d).length:=by rw[ha];show(ZH ns ns.length d).toArray.size=_;rw[List.size_toArray]
  have J:a.data.toList=ZH ns ns.length d:=by rw[ha]
  have P:∀w':Yh,Below w.heap.size w w'->Calls Tryz.prog 12 #[Yc (Ya Z) ns.length c,Yd Yf i] w' fun e r=>e=.returned (.string a)/\Below w'.heap.size w' r:=fun w' f=>by
   rw[<-R];exact Zld w' _ ns i d (I.below f) (Q.below f).keys (Q.below f).p hr hd hk (by omega)
  have P:=zh P;have g1:¬9223372036854775807<16+a.size:=by omega
  have g2:¬9223372036854775807<16+a.size+3:=by omega
  have bi:¬(d.kind<20):=M;by_cases h5:(ZH ns ns.length d).length<=5000
  ·have z5:¬((5000:Int)<(a.size:Int)):=by omega
   have hl:(ZbI ns d).length<=6000:=by unfold ZbI;simp only[Yj,Yk,Yl];omega
   rcases Zoo hr hf.1 hd hk hl with⟨pl,W⟩|⟨ms,W,h4,N⟩
   ·have t:∀(s:ByteArray) (w':Yh),s.data.toList=ZbI ns d->Calls Tryz.prog 10 #[.string s] w' (fun e r=>∃D,e=.returned (.tuple #[D,.agg #[Yd Yf 12,Yd Yf pl]])/\Zi r D []/\Below w'.heap.size w' r):=fun s w' C=>by
     have h:=ZgO s w';rw[C,W]at h;exact h
    have t:=zh t;unfold ZbI at t;rw[<-J]at t;clear Q I C Y hd K E ha R ae h5 hl W hk hr hf M J;generalize d.kind=kd at *;go_enter Tryz.func5,Tryz.ntmps5
    go_wp2_with (first
     |(go_at_call 6;(refine(n.out _ l.out).mono ?_);rintro o O ⟨rfl,f⟩;have m:=zh (l.out.trans (f.mono l.out.size));clear f l)
     |(go_at_call 7;(refine(V.out _ m.out).mono ?_);rintro e2 r ⟨⟨b,rfl,hq⟩,f⟩;have g:=zh (m.out.trans (f.mono m.out.size));have S:=zh hq;clear f hq;cases b)
     |(go_at_call 8;(refine(U.out _ g.out).mono ?_);rintro e3 w3 ⟨⟨B,rfl,hq⟩,f⟩;have j:=zh (g.out.trans (f.mono g.out.size));have T:=zh hq;have n0:=G.out _ j.out;clear f hq;cases B)
     |(go_at_call 6;(refine(n.out _ j.out).mono ?_);rintro o F ⟨rfl,f⟩;have k:=zh (j.out.trans (f.mono j.out.size));clear f)
     |(go_at_call 6;(refine(n.out _ g.out).mono ?_);rintro o F ⟨rfl,f⟩;have k:=zh (g.out.trans (f.mono g.out.size));clear f)
     |(go_at_call 12;(refine(P.out _ j.out).mono ?_);rintro e4 w5 ⟨rfl,f⟩;have L:=zh (j.out.trans (f.mono j.out.size));clear f P)
     |(go_at_call 10;(refine(t.out _ _ (by simp)).mono ?_);rintro e5 w6 ⟨D,rfl,u,f⟩;have z:=zh (L.out.trans (f.mono L.out.size));have X:=u.len;have HM:=zh u;clear f u;obtain⟨AM,cM,rfl⟩:=X))
    ·go_ret;exact⟨rfl,k.out⟩
    ·go_ret;exact⟨rfl,k.out⟩
    ·go_ret;exact⟨rfl,z.out.trans ((below_alloc1 _ _).mono z.out.size)⟩
   ·have t:∀(s:ByteArray) (w':Yh),s.data.toList=ZbI ns d->Calls Tryz.prog 10 #[.string s] w' (fun e r=>∃D,e=.returned (.tuple #[D,.agg #[Yd Yf 0,Yd Yf 0]])/\Zi r D ms/\Below w'.heap.size w' r):=fun s w' C=>by
     have h:=ZgO s w';rw[C,W]at h;exact h
    have t:=zh t;unfold ZbI at t;rw[<-J]at t;have z4:(4:Int)<(ms.length:Int):=by omega
    have LK:=zh (fun(O r:Yh) (D:Value) (f:Below w.heap.size w r) (u:Zi O D ms) (H:Below O.heap.size O r)=>ZjP 76 r (Yc (Ya Z) ns.length c) D i 4 (I.below f) (u.below H) N);clear Q I C Y hd K E ha R ae h5 hl W hk hr hf M J h4 N;generalize d.kind=kd at *;go_enter Tryz.func5,Tryz.ntmps5
    go_wp2_with (first
     |(go_at_call 6;(refine(n.out _ l.out).mono ?_);rintro o O ⟨rfl,f⟩;have m:=zh (l.out.trans (f.mono l.out.size));clear f l)
     |(go_at_call 7;(refine(V.out _ m.out).mono ?_);rintro e2 r ⟨⟨b,rfl,hq⟩,f⟩;have g:=zh (m.out.trans (f.mono m.out.size));have S:=zh hq;clear f hq;cases b)
     |(go_at_call 8;(refine(U.out _ g.out).mono ?_);rintro e3 w3 ⟨⟨B,rfl,hq⟩,f⟩;have j:=zh (g.out.trans (f.mono g.out.size));have T:=zh hq;have n0:=G.out _ j.out;clear f hq;cases B)
     |(go_at_call 6;(refine(n.out _ j.out).mono ?_);rintro o F ⟨rfl,f⟩;have k:=zh (j.out.trans (f.mono j.out.size));clear f)
     |(go_at_call 6;(refine(n.out _ g.out).mono ?_);rintro o F ⟨rfl,f⟩;have k:=zh (g.out.trans (f.mono g.out.size));clear f)
     |(go_at_call 12;(refine(P.out _ j.out).mono ?_);rintro e4 w5 ⟨rfl,f⟩;have L:=zh (j.out.trans (f.mono j.out.size));clear f P)
     |(go_at_call 10;(refine(t.out _ _ (by simp)).mono ?_);rintro e5 w6 ⟨D,rfl,u,f⟩;have z:=zh (L.out.trans (f.mono L.out.size));have X:=u.len;have HM:=zh u;clear f u;obtain⟨AM,cM,rfl⟩:=X)
     |(go_at_call 11;(refine(LK.out w6 _ _ (z.out.trans ((below_alloc1 _ _).mono z.out.size)) HM.out (below_alloc1 _ _)).mono ?_);rintro e6 w7 ⟨rfl,f⟩;have B7:=zh ((z.out.trans ((below_alloc1 _ _).mono z.out.size)).trans (f.mono (z.out.trans ((below_alloc1 _ _).mono z.out.size)).size));clear f))
    ·go_ret;exact⟨rfl,k.out⟩
    ·go_ret;exact⟨rfl,k.out⟩
    ·go_ret;exact⟨rfl,B7.out⟩
  ·have z5:(5000:Int)<(a.size:Int):=by omega
   obtain⟨ms,er,pl,W⟩:∃ms er pl,Ze5 (ZbI ns d)=(ms,er,pl):=⟨_,_,_,rfl⟩
   have t:∀(s:ByteArray) (w':Yh),s.data.toList=ZbI ns d->Calls Tryz.prog 10 #[.string s] w' (fun e r=>∃D,e=.returned (.tuple #[D,.agg #[Yd Yf er,Yd Yf pl]])/\Zi r D ms/\Below w'.heap.size w' r):=fun s w' C=>by
    have h:=ZgO s w';rw[C,W]at h;exact h
   have t:=zh t;unfold ZbI at t;rw[<-J]at t;clear Q I C Y hd K E ha R ae h5 W hk hr hf M J;generalize d.kind=kd at *;by_cases H:er=12
   ·have a1:(er==12)=true:=by simp[H]
    clear H;go_enter Tryz.func5,Tryz.ntmps5
    go_wp2_with (first
     |(go_at_call 6;(refine(n.out _ l.out).mono ?_);rintro o O ⟨rfl,f⟩;have m:=zh (l.out.trans (f.mono l.out.size));clear f l)
     |(go_at_call 7;(refine(V.out _ m.out).mono ?_);rintro e2 r ⟨⟨b,rfl,hq⟩,f⟩;have g:=zh (m.out.trans (f.mono m.out.size));have S:=zh hq;clear f hq;cases b)
     |(go_at_call 8;(refine(U.out _ g.out).mono ?_);rintro e3 w3 ⟨⟨B,rfl,hq⟩,f⟩;have j:=zh (g.out.trans (f.mono g.out.size));have T:=zh hq;have n0:=G.out _ j.out;clear f hq;cases B)
     |(go_at_call 6;(refine(n.out _ j.out).mono ?_);rintro o F ⟨rfl,f⟩;have k:=zh (j.out.trans (f.mono j.out.size));clear f)
     |(go_at_call 6;(refine(n.out _ g.out).mono ?_);rintro o F ⟨rfl,f⟩;have k:=zh (g.out.trans (f.mono g.out.size));clear f)
     |(go_at_call 12;(refine(P.out _ j.out).mono ?_);rintro e4 w5 ⟨rfl,f⟩;have L:=zh (j.out.trans (f.mono j.out.size));clear f P)
     |(go_at_call 10;(refine(t.out _ _ (by simp)).mono ?_);rintro e5 w6 ⟨D,rfl,u,f⟩;have z:=zh (L.out.trans (f.mono L.out.size));have X:=u.len;have HM:=zh u;clear f u;obtain⟨AM,cM,rfl⟩:=X))
    ·go_ret;exact⟨rfl,k.out⟩
    ·go_ret;exact⟨rfl,k.out⟩
    ·go_ret;exact⟨rfl,z.out.trans ((below_alloc1 _ _).mono z.out.size)⟩
   ·have a1:(er==12)=false:=by simp[H]
    clear H;go_enter Tryz.func5,Tryz.ntmps5
    go_wp2_with (first
     |(go_at_call 6;(refine(n.out _ l.out).mono ?_);rintro o O ⟨rfl,f⟩;have m:=zh (l.out.trans (f.mono l.out.size));clear f l)
     |(go_at_call 7;(refine(V.out _ m.out).mono ?_);rintro e2 r ⟨⟨b,rfl,hq⟩,f⟩;have g:=zh (m.out.trans (f.mono m.out.size));have S:=zh hq;clear f hq;cases b)
     |(go_at_call 8;(refine(U.out _ g.out).mono ?_);rintro e3 w3 ⟨⟨B,rfl,hq⟩,f⟩;have j:=zh (g.out.trans (f.mono g.out.size));have T:=zh hq;have n0:=G.out _ j.out;clear f hq;cases B)
     |(go_at_call 6;(refine(n.out _ j.out).mono ?_);rintro o F ⟨rfl,f⟩;have k:=zh (j.out.trans (f.mono j.out.size));clear f)
     |(go_at_call 6;(refine(n.out _ g.out).mono ?_);rintro o F ⟨rfl,f⟩;have k:=zh (g.out.trans (f.mono g.out.size));clear f)
     |(go_at_call 12;(refine(P.out _ j.out).mono ?_);rintro e4 w5 ⟨rfl,f⟩;have L:=zh (j.out.trans (f.mono j.out.size));clear f P)
     |(go_at_call 10;(refine(t.out _ _ (by simp)).mono ?_);rintro e5 w6 ⟨D,rfl,u,f⟩;have z:=zh (L.out.trans (f.mono L.out.size));have X:=u.len;have HM:=zh u;clear f u;obtain⟨AM,cM,rfl⟩:=X))
    ·go_ret;exact⟨rfl,k.out⟩
    ·go_ret;exact⟨rfl,k.out⟩
    ·go_ret;exact⟨rfl,z.out.trans ((below_alloc1 _ _).mono z.out.size)⟩
 ·have HN:=zh hh;clear Q I C Y hd K hh M;generalize d.kind=kd at *;go_enter Tryz.func5,Tryz.ntmps5
  go_wp2_with (first
   |(go_at_call 6;(refine(n.out _ l.out).mono ?_);rintro o O ⟨rfl,f⟩;have m:=zh (l.out.trans (f.mono l.out.size));clear f l)
   |(go_at_call 7;(refine(V.out _ m.out).mono ?_);rintro e2 r ⟨⟨b,rfl,hq⟩,f⟩;have g:=zh (m.out.trans (f.mono m.out.size));have S:=zh hq;clear f hq;cases b)
   |(go_at_call 8;(refine(U.out _ g.out).mono ?_);rintro e3 w3 ⟨⟨B,rfl,hq⟩,f⟩;have j:=zh (g.out.trans (f.mono g.out.size));have T:=zh hq;have n0:=G.out _ j.out;clear f hq;cases B<;>(try exact absurd (zi (S.out (by trivial)) (T.out (by trivial))) HN.out))
   |(go_at_call 6;(refine(n.out _ j.out).mono ?_);rintro o F ⟨rfl,f⟩;have k:=zh (j.out.trans (f.mono j.out.size));clear f)
   |(go_at_call 6;(refine(n.out _ g.out).mono ?_);rintro o F ⟨rfl,f⟩;have k:=zh (g.out.trans (f.mono g.out.size));clear f))
  ·go_ret;exact⟨rfl,k.out⟩
  ·go_ret;exact⟨rfl,k.out⟩
end
end Go.Proofs.YtfbepcelkijgkaaGreatDoor
