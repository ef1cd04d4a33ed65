import Derived.Test.YtfbepcelkijgkaaGreatDoorQBB
import Derived.Test.YtfbepcelkijgkaaGreatDoorQBC
set_option maxRecDepth 100000
set_option maxHeartbeats 8000000
open Option renaming some → Ya, none → Yb
open Go.Value renaming slice → Yc, int → Yd
open Go.IntKind renaming i64 → Yf
open Go.Obj renaming cells → Yg
open Go renaming World → Yh, Value → Yi
namespace Go.Proofs.YtfbepcelkijgkaaGreatDoor
section
open Go.RowKit
theorem Zk1 (w:Yh) (v:Yi) (ns:List Nd) (va vb vc:Yi) (i:List (List UInt8)) (a f:List Int) (h:Int) (hN:Zi w v ns) (hx:ZS w ((va,vb,vc),⟨2,i,a,f,h⟩)) (hk:Zaw f ns.length) :
  Calls Tryz.prog 25 #[v,ndV ((va,vb,vc),⟨2,i,a,f,h⟩)] w fun e w'=>OkB (ZD ns ⟨2,i,a,f,h⟩=true) e/\Below w.heap.size w w':=by
 obtain⟨Z,h2,T⟩:=id hx;dsimp only at Z h2 T;obtain⟨S,H,F,C,D⟩:=hd6 hN hx hk;obtain⟨s,u,rfl,_⟩:=Z;obtain⟨M,z,rfl,_,_,I⟩:=h2;have KL:=zh T.len;obtain⟨t,A,rfl,_⟩:=T;have Y:=zh I;unfold ndV at S H F C D⊢;dsimp only at S H F C D⊢;have j:=zh (Zcl w (Yd Yf 2) (.slice s i.length u) (Yc M a.length z) (.slice t f.length A) (Yd Yf h));have E:=Zcg w (Yd Yf 2) (.slice s i.length u) (Yc M a.length z) (.slice t f.length A) (Yd Yf h);have g:=zh E;obtain⟨⟨g0,g1,g2,g3,g4⟩,_⟩:=E;clear I hx hN hk;have WF:=zh (show ∀wr:Yh,Below w.heap.size w wr->Calls Tryz.prog 26 #[.agg #[Yd Yf 2,.slice s i.length u,Yc M a.length z,.slice t f.length A,Yd Yf h],Yd Yf 1,Yd Yf 1] wr fun e w'=>e=.returned (.bool (Zy ⟨2,i,a,f,h⟩ 1 1))/\Below wr.heap.size wr w' from fun wr U=>S.out wr U 1 1);generalize J:Zy ⟨2,i,a,f,h⟩ 1 1=W at WF;have X:=zh J;clear J;by_cases qn:a.length=1
 ·have tn:((a.length:Int)==1)=true:=by rw[beq_iff_eq];omega
  have ai:(0:Int)<(a.length:Int):=by omega
  obtain⟨y,N⟩:=List.length_eq_one_iff.mp qn;obtain⟨d,rfl,y1⟩:=ints_at (x:=y) Y.out (Za g.out) (k:=0) (by rw[N];rfl) (by omega);rw[show d.add 0=d by unfold Addr.add;simp]at y1;have G:=zh (fun(wr:Yh) (U:Below w.heap.size w wr)=>show wr.cell? d=Ya (Yd Yf y)from by obtain⟨a2,B,q2⟩:=ints_at (x:=y) Y.out U (k:=0) (by rw[N];rfl) (by omega);injection B with B;subst B;rwa[show d.add 0=d by unfold Addr.add;simp]at q2);have V:=zh N;clear N qn;by_cases L:y=0
  ·have ty:(y==0)=true:=by rw[beq_iff_eq];exact L
   have R:=zh (Or.inl L:y=0\/y=1);clear L;by_cases K:f.length=0
   ·have tk:((f.length:Int)==0)=true:=by rw[beq_iff_eq];omega
    have Q:=zh K;clear K;go_enter Tryz.func25,Tryz.ntmps25;go_upto_region 1 with fail;generalize(w.alloc (Yg #[Yd Yf 2,.slice s i.length u,Yc (Ya d) a.length z,.slice t f.length A,Yd Yf h] 37))=q at *
    go_wp2_with (first
     |(go_at_call 26;(with_reducible refine(WF.out q (Za g.out)).mono ?_);rintro B r ⟨rfl,b⟩;have c:=zh (j.out _ _ b g.out);obtain⟨⟨l,m,n,o,p⟩,_⟩:=id c.out;have P:=G.out r (Za c.out);clear b;cases W))
    all_goals go_ret
    all_goals first
     |exact⟨Zbc (ZjY X.out V.out R.out Q.out),Za c.out⟩
     |exact⟨Zh,Za c.out⟩
     |exact⟨Zh,Za g.out⟩
   ·have tk:((f.length:Int)==0)=false:=by rw[beq_eq_false_iff_ne];omega
    go_enter Tryz.func25,Tryz.ntmps25;go_upto_region 1 with fail;generalize(w.alloc (Yg #[Yd Yf 2,.slice s i.length u,Yc (Ya d) a.length z,.slice t f.length A,Yd Yf h] 37))=q at *
    go_wp2_with (first
     |(go_at_call 26;(with_reducible refine(WF.out q (Za g.out)).mono ?_);rintro B r ⟨rfl,b⟩;have c:=zh (j.out _ _ b g.out);obtain⟨⟨l,m,n,o,p⟩,_⟩:=id c.out;have P:=G.out r (Za c.out);clear b;cases W))
    all_goals go_ret
    all_goals first
     |exact⟨Zh,Za c.out⟩
     |exact⟨Zh,Za g.out⟩
  ·have ty:(y==0)=false:=by rw[beq_eq_false_iff_ne];exact L
   by_cases O:y=1
   ·have tz:(y==1)=true:=by rw[beq_iff_eq];exact O
    have R:=zh (Or.inr O:y=0\/y=1);clear L O;by_cases K:f.length=0
    ·have tk:((f.length:Int)==0)=true:=by rw[beq_iff_eq];omega
     have Q:=zh K;clear K;go_enter Tryz.func25,Tryz.ntmps25;go_upto_region 1 with fail;generalize(w.alloc (Yg #[Yd Yf 2,.slice s i.length u,Yc (Ya d) a.length z,.slice t f.length A,Yd Yf h] 37))=q at *
     go_wp2_with (first
      |(go_at_call 26;(with_reducible refine(WF.out q (Za g.out)).mono ?_);rintro B r ⟨rfl,b⟩;have c:=zh (j.out _ _ b g.out);obtain⟨⟨l,m,n,o,p⟩,_⟩:=id c.out;have P:=G.out r (Za c.out);clear b;cases W))
     all_goals go_ret
     all_goals first
      |exact⟨Zbc (ZjY X.out V.out R.out Q.out),Za c.out⟩
      |exact⟨Zh,Za c.out⟩
      |exact⟨Zh,Za g.out⟩
    ·have tk:((f.length:Int)==0)=false:=by rw[beq_eq_false_iff_ne];omega
     go_enter Tryz.func25,Tryz.ntmps25;go_upto_region 1 with fail;generalize(w.alloc (Yg #[Yd Yf 2,.slice s i.length u,Yc (Ya d) a.length z,.slice t f.length A,Yd Yf h] 37))=q at *
     go_wp2_with (first
      |(go_at_call 26;(with_reducible refine(WF.out q (Za g.out)).mono ?_);rintro B r ⟨rfl,b⟩;have c:=zh (j.out _ _ b g.out);obtain⟨⟨l,m,n,o,p⟩,_⟩:=id c.out;have P:=G.out r (Za c.out);clear b;cases W))
     all_goals go_ret
     all_goals first
      |exact⟨Zh,Za c.out⟩
      |exact⟨Zh,Za g.out⟩
   ·have tz:(y==1)=false:=by rw[beq_eq_false_iff_ne];exact O
    go_enter Tryz.func25,Tryz.ntmps25;go_upto_region 1 with fail;generalize(w.alloc (Yg #[Yd Yf 2,.slice s i.length u,Yc (Ya d) a.length z,.slice t f.length A,Yd Yf h] 37))=q at *
    go_wp2_with (first
     |(go_at_call 26;(with_reducible refine(WF.out q (Za g.out)).mono ?_);rintro B r ⟨rfl,b⟩;have c:=zh (j.out _ _ b g.out);obtain⟨⟨l,m,n,o,p⟩,_⟩:=id c.out;have P:=G.out r (Za c.out);clear b;cases W))
    all_goals go_ret
    all_goals first
     |exact⟨Zh,Za c.out⟩
     |exact⟨Zh,Za g.out⟩
 ·have tn:((a.length:Int)==1)=false:=by rw[beq_eq_false_iff_ne];omega
  go_enter Tryz.func25,Tryz.ntmps25;go_upto_region 1 with fail;generalize(w.alloc (Yg #[Yd Yf 2,.slice s i.length u,Yc M a.length z,.slice t f.length A,Yd Yf h] 37))=q at *
  go_wp2_with (first
   |(go_at_call 26;(with_reducible refine(WF.out q (Za g.out)).mono ?_);rintro B r ⟨rfl,b⟩;have c:=zh (j.out _ _ b g.out);obtain⟨⟨l,m,n,o,p⟩,_⟩:=id c.out;clear b;cases W))
  all_goals go_ret
  all_goals first
   |exact⟨Zh,Za c.out⟩
   |exact⟨Zh,Za g.out⟩
theorem Zpl (w:Yh) (v:Yi) (ns:List Nd) (Z vb vc:Yi) (d:List (List UInt8)) (a b:List Int) (f:Int) (X:Zi w v ns) (hx:ZS w ((Z,vb,vc),⟨3,d,a,b,f⟩)) (hk:Zaw b ns.length) :
  Calls Tryz.prog 25 #[v,ndV ((Z,vb,vc),⟨3,d,a,b,f⟩)] w fun e w'=>OkB (ZD ns ⟨3,d,a,b,f⟩=true) e/\Below w.heap.size w w':=by
 obtain⟨U,V,L⟩:=id hx;dsimp only at U V L;obtain⟨K,n,y,s,t⟩:=hd6 X hx hk;obtain⟨k,o,rfl,_⟩:=U;obtain⟨l,p,rfl,_,_,z⟩:=V;have KL:=zh L.len;obtain⟨m,q,rfl,_⟩:=L;have R2:=zh z;unfold ndV at K n y s t⊢;dsimp only at K n y s t⊢;have h:=zh (Zcl w (Yd Yf 3) (.slice k d.length o) (.slice l a.length p) (.slice m b.length q) (Yd Yf f));have u:=Zcg w (Yd Yf 3) (.slice k d.length o) (.slice l a.length p) (.slice m b.length q) (Yd Yf f);have j:=zh u;obtain⟨⟨g0,g1,g2,g3,g4⟩,_⟩:=u;clear z hx X hk;have WF:=zh (show ∀wr:Yh,Below w.heap.size w wr->Calls Tryz.prog 26 #[.agg #[Yd Yf 3,.slice k d.length o,.slice l a.length p,.slice m b.length q,Yd Yf f],Yd Yf 4,Yd Yf 1500] wr fun e w'=>e=.returned (.bool (Zy ⟨3,d,a,b,f⟩ 4 1500))/\Below wr.heap.size wr w' from fun wr M=>K.out wr M 4 1500);generalize B:Zy ⟨3,d,a,b,f⟩ 4 1500=W at WF;have QW:=zh B;clear B;by_cases qe:d.length % 2=0
 ·have te:(d.length:Int).tmod 2=0:=by rw[Int.tmod_eq_emod_of_nonneg (by omega)];omega
  have J:=zh (show ∀wr:Yh,Below w.heap.size w wr->Calls Tryz.prog 27 #[.agg #[Yd Yf 3,.slice k d.length o,.slice l a.length p,.slice m b.length q,Yd Yf f]] wr fun e w'=>e=.returned (.bool (Zai ⟨3,d,a,b,f⟩))/\Below wr.heap.size wr w' from fun wr M=>n.out wr M);generalize A:Zai ⟨3,d,a,b,f⟩=N at J;have QN:=zh A;clear A;by_cases Y:b.length=0
  ·have tk:((b.length:Int)==0)=true:=by rw[beq_iff_eq];omega
   have QK:=zh Y;clear Y;go_enter Tryz.func25,Tryz.ntmps25;go_upto_region 1 with fail;generalize(w.alloc (Yg #[Yd Yf 3,.slice k d.length o,.slice l a.length p,.slice m b.length q,Yd Yf f] 37))=H at *
   go_wp2_with (first
    |(go_at_call 26;(with_reducible refine(WF.out H (Za j.out)).mono ?_);rintro T I ⟨rfl,c⟩;have g:=zh (h.out _ _ c j.out);obtain⟨⟨C,D,E,F,G⟩,_⟩:=id g.out;clear c;cases W)
    |(go_at_call 27;(with_reducible refine(J.out I (Za g.out)).mono ?_);rintro e3 w3 ⟨rfl,i⟩;have r:=zh (h.out _ _ i g.out);obtain⟨⟨O,P,Q,R,S⟩,_⟩:=id r.out;clear i;cases N))
   all_goals go_ret
   all_goals first
    |exact⟨Zbc (Zsf QW.out qe QN.out QK.out),Za r.out⟩
    |exact⟨Zh,Za r.out⟩
    |exact⟨Zh,Za g.out⟩
    |exact⟨Zh,Za j.out⟩
  ·have tk:((b.length:Int)==0)=false:=by rw[beq_eq_false_iff_ne];omega
   go_enter Tryz.func25,Tryz.ntmps25;go_upto_region 1 with fail;generalize(w.alloc (Yg #[Yd Yf 3,.slice k d.length o,.slice l a.length p,.slice m b.length q,Yd Yf f] 37))=H at *
   go_wp2_with (first
    |(go_at_call 26;(with_reducible refine(WF.out H (Za j.out)).mono ?_);rintro T I ⟨rfl,c⟩;have g:=zh (h.out _ _ c j.out);obtain⟨⟨C,D,E,F,G⟩,_⟩:=id g.out;clear c;cases W)
    |(go_at_call 27;(with_reducible refine(J.out I (Za g.out)).mono ?_);rintro e3 w3 ⟨rfl,i⟩;have r:=zh (h.out _ _ i g.out);obtain⟨⟨O,P,Q,R,S⟩,_⟩:=id r.out;clear i;cases N))
   all_goals go_ret
   all_goals first
    |exact⟨Zh,Za r.out⟩
    |exact⟨Zh,Za g.out⟩
    |exact⟨Zh,Za j.out⟩
 ·have te:(d.length:Int).tmod 2=1:=by rw[Int.tmod_eq_emod_of_nonneg (by omega)];omega
  go_enter Tryz.func25,Tryz.ntmps25;go_upto_region 1 with fail;generalize(w.alloc (Yg #[Yd Yf 3,.slice k d.length o,.slice l a.length p,.slice m b.length q,Yd Yf f] 37))=H at *
  go_wp2_with (first
   |(go_at_call 26;(with_reducible refine(WF.out H (Za j.out)).mono ?_);rintro T I ⟨rfl,c⟩;have g:=zh (h.out _ _ c j.out);obtain⟨⟨C,D,E,F,G⟩,_⟩:=id g.out;clear c;cases W))
  all_goals go_ret
  all_goals first
   |exact⟨Zh,Za g.out⟩
   |exact⟨Zh,Za j.out⟩
theorem ZkY (w:Yh) (v:Yi) (ns:List Nd) (X Y Z:Yi) (i:List (List UInt8)) (a f:List Int) (h:Int) (T:Zi w v ns) (hx:ZS w ((X,Y,Z),⟨6,i,a,f,h⟩)) (hk:Zaw f ns.length) :
  Calls Tryz.prog 25 #[v,ndV ((X,Y,Z),⟨6,i,a,f,h⟩)] w fun e w'=>OkB (ZD ns ⟨6,i,a,f,h⟩=true) e/\Below w.heap.size w w':=by
 obtain⟨R,S,N⟩:=id hx;dsimp only at R S N;obtain⟨M,G,F,C,D⟩:=hd6 T hx hk;obtain⟨r,t,rfl,_⟩:=R;obtain⟨J,u,rfl,_,_,H⟩:=S;have KL:=zh N.len;obtain⟨s,z,rfl,_⟩:=N;have Q:=zh H;unfold ndV at M G F C D⊢;dsimp only at M G F C D⊢;have j:=zh (Zcl w (Yd Yf 6) (.slice r i.length t) (Yc J a.length u) (.slice s f.length z) (Yd Yf h));have E:=Zcg w (Yd Yf 6) (.slice r i.length t) (Yc J a.length u) (.slice s f.length z) (Yd Yf h);have g:=zh E;obtain⟨⟨g0,g1,g2,g3,g4⟩,_⟩:=E;clear H hx T hk;have WF:=zh (show ∀wr:Yh,Below w.heap.size w wr->Calls Tryz.prog 26 #[.agg #[Yd Yf 6,.slice r i.length t,Yc J a.length u,.slice s f.length z,Yd Yf h],Yd Yf 1,Yd Yf 1500] wr fun e w'=>e=.returned (.bool (Zy ⟨6,i,a,f,h⟩ 1 1500))/\Below wr.heap.size wr w' from fun wr O=>M.out wr O 1 1500);generalize I:Zy ⟨6,i,a,f,h⟩ 1 1500=W at WF;have QW:=zh I;clear I;by_cases V:a.length=1
 ·have tn:((a.length:Int)==1)=true:=by rw[beq_iff_eq];omega
  have ah:(0:Int)<(a.length:Int):=by omega
  obtain⟨y,L⟩:=List.length_eq_one_iff.mp V;obtain⟨d,rfl,y1⟩:=ints_at (x:=y) Q.out (Za g.out) (k:=0) (by rw[L];rfl) (by omega);rw[show d.add 0=d by unfold Addr.add;simp]at y1;have K:=zh (fun(wr:Yh) (O:Below w.heap.size w wr)=>show wr.cell? d=Ya (Yd Yf y)from by obtain⟨a2,A,q2⟩:=ints_at (x:=y) Q.out O (k:=0) (by rw[L];rfl) (by omega);injection A with A;subst A;rwa[show d.add 0=d by unfold Addr.add;simp]at q2);have HY:=zh L;clear L V;by_cases qy:0<=y
  ·by_cases qz:y<=2
   ·by_cases U:f.length=0
    ·have tk:((f.length:Int)==0)=true:=by rw[beq_iff_eq];omega
     have QK:=zh U;clear U;go_enter Tryz.func25,Tryz.ntmps25;go_upto_region 1 with fail;generalize(w.alloc (Yg #[Yd Yf 6,.slice r i.length t,Yc (Ya d) a.length u,.slice s f.length z,Yd Yf h] 37))=q at *
     go_wp2_with (first
      |(go_at_call 26;(with_reducible refine(WF.out q (Za g.out)).mono ?_);rintro A B ⟨rfl,b⟩;have c:=zh (j.out _ _ b g.out);obtain⟨⟨l,m,n,o,p⟩,_⟩:=id c.out;have P:=K.out B (Za c.out);clear b;cases W))
     all_goals go_ret
     all_goals first
      |exact⟨Zbc (ZpD QW.out HY.out qy qz QK.out),Za c.out⟩
      |exact⟨Zh,Za c.out⟩
      |exact⟨Zh,Za g.out⟩
    ·have tk:((f.length:Int)==0)=false:=by rw[beq_eq_false_iff_ne];omega
     go_enter Tryz.func25,Tryz.ntmps25;go_upto_region 1 with fail;generalize(w.alloc (Yg #[Yd Yf 6,.slice r i.length t,Yc (Ya d) a.length u,.slice s f.length z,Yd Yf h] 37))=q at *
     go_wp2_with (first
      |(go_at_call 26;(with_reducible refine(WF.out q (Za g.out)).mono ?_);rintro A B ⟨rfl,b⟩;have c:=zh (j.out _ _ b g.out);obtain⟨⟨l,m,n,o,p⟩,_⟩:=id c.out;have P:=K.out B (Za c.out);clear b;cases W))
     all_goals go_ret
     all_goals first
      |exact⟨Zh,Za c.out⟩
      |exact⟨Zh,Za g.out⟩
   ·have tz:2<y:=by omega
    go_enter Tryz.func25,Tryz.ntmps25;go_upto_region 1 with fail;generalize(w.alloc (Yg #[Yd Yf 6,.slice r i.length t,Yc (Ya d) a.length u,.slice s f.length z,Yd Yf h] 37))=q at *
    go_wp2_with (first
     |(go_at_call 26;(with_reducible refine(WF.out q (Za g.out)).mono ?_);rintro A B ⟨rfl,b⟩;have c:=zh (j.out _ _ b g.out);obtain⟨⟨l,m,n,o,p⟩,_⟩:=id c.out;have P:=K.out B (Za c.out);clear b;cases W))
    all_goals go_ret
    all_goals first
     |exact⟨Zh,Za c.out⟩
     |exact⟨Zh,Za g.out⟩
  ·have ty:y<0:=by omega
   go_enter Tryz.func25,Tryz.ntmps25;go_upto_region 1 with fail;generalize(w.alloc (Yg #[Yd Yf 6,.slice r i.length t,Yc (Ya d) a.length u,.slice s f.length z,Yd Yf h] 37))=q at *
   go_wp2_with (first
    |(go_at_call 26;(with_reducible refine(WF.out q (Za g.out)).mono ?_);rintro A B ⟨rfl,b⟩;have c:=zh (j.out _ _ b g.out);obtain⟨⟨l,m,n,o,p⟩,_⟩:=id c.out;have P:=K.out B (Za c.out);clear b;cases W))
   all_goals go_ret
   all_goals first
    |exact⟨Zh,Za c.out⟩
    |exact⟨Zh,Za g.out⟩
 ·have tn:((a.length:Int)==1)=false:=by rw[beq_eq_false_iff_ne];omega
  go_enter Tryz.func25,Tryz.ntmps25;go_upto_region 1 with fail;generalize(w.alloc (Yg #[Yd Yf 6,.slice r i.length t,Yc J a.length u,.slice s f.length z,Yd Yf h] 37))=q at *
  go_wp2_with (first
   |(go_at_call 26;(with_reducible refine(WF.out q (Za g.out)).mono ?_);rintro A B ⟨rfl,b⟩;have c:=zh (j.out _ _ b g.out);obtain⟨⟨l,m,n,o,p⟩,_⟩:=id c.out;clear b;cases W))
  all_goals go_ret
  all_goals first
   |exact⟨Zh,Za c.out⟩
   |exact⟨Zh,Za g.out⟩
end
section
open Go.RowKit
theorem Zji (w:Yh) (v:Yi) (ns:List Nd) (va vb vc:Yi) (h:List (List UInt8)) (a b:List Int) (g:Int) (hN:Zi w v ns) (hx:ZS w ((va,vb,vc),⟨0,h,a,b,g⟩)) (hk:Zaw b ns.length) :
  Calls Tryz.prog 25 #[v,ndV ((va,vb,vc),⟨0,h,a,b,g⟩)] w fun e w'=>OkB (ZD ns ⟨0,h,a,b,g⟩=true) e/\Below w.heap.size w w':=by
 obtain⟨h1,h2,h3⟩:=id hx;dsimp only at h1 h2 h3;obtain⟨X,p,o,H,I⟩:=hd6 hN hx hk;obtain⟨A,E,rfl,_⟩:=h1;obtain⟨B,F,rfl,_,_,K⟩:=h2;have KL:=zh h3.len;obtain⟨C,G,rfl,_⟩:=h3;have R2:=zh K;unfold ndV at X p o H I⊢;dsimp only at X p o H I⊢;have m:=zh (Zcl w (Yd Yf 0) (Yc A h.length E) (Yc B a.length F) (Yc C b.length G) (Yd Yf g));have J:=Zcg w (Yd Yf 0) (Yc A h.length E) (Yc B a.length F) (Yc C b.length G) (Yd Yf g);have l:=zh J;obtain⟨⟨g0,g1,g2,g3,g4⟩,_⟩:=J;clear K hx hN hk;go_enter Tryz.func25,Tryz.ntmps25;go_upto_region 1 with fail;generalize(w.alloc (Yg #[Yd Yf 0,Yc A h.length E,Yc B a.length F,Yc C b.length G,Yd Yf g] 37))=w1 at *;go_wp2_with fail;go_loopg [6] (b.length) (fun gk vi wr=>∃i:Nat,vi=Yd Yf i/\i<=b.length/\gk=b.length-i/\Zam ns (b.take i) (isB [1,4])=true/\(wr.cell? ⟨w.heap.size,0,Yb⟩=Ya (Yd Yf 0)/\wr.cell? ⟨w.heap.size,1,Yb⟩=Ya (Yc A h.length E)/\wr.cell? ⟨w.heap.size,2,Yb⟩=Ya (Yc B a.length F)/\wr.cell? ⟨w.heap.size,3,Yb⟩=Ya (Yc C b.length G)/\wr.cell? ⟨w.heap.size,4,Yb⟩=Ya (Yd Yf g))/\Below w.heap.size w wr)
 case atStart=>exact⟨0,rfl,Nat.zero_le _,rfl,rfl,l.out⟩
 case round=>
  clear l g0 g1 g2 g3 g4;obtain⟨i,rfl,hi,q,d,hS⟩:=hrel;have l:=zh hS;obtain⟨⟨g0,g1,g2,g3,g4⟩,_⟩:=hS;by_cases M:i=b.length
  ·have e:b.take i=b:=by rw[M];exact List.take_length
   rw[e]at d;have HA:=zh d;have ti:¬(i:Int)<(b.length:Int):=by omega
   clear e d q;have WF:=zh (show ∀wr:Yh,Below w.heap.size w wr->Calls Tryz.prog 26 #[.agg #[Yd Yf 0,Yc A h.length E,Yc B a.length F,Yc C b.length G,Yd Yf g],Yd Yf 0,Yd Yf 0] wr fun e w'=>e=.returned (.bool (Zy ⟨0,h,a,b,g⟩ 0 0))/\Below wr.heap.size wr w' from fun wr hb=>X.out wr hb 0 0);generalize P:Zy ⟨0,h,a,b,g⟩ 0 0=W at WF;have QW:=zh P;clear P;have NF:=zh (show ∀wr:Yh,Below w.heap.size w wr->Calls Tryz.prog 27 #[.agg #[Yd Yf 0,Yc A h.length E,Yc B a.length F,Yc C b.length G,Yd Yf g]] wr fun e w'=>e=.returned (.bool (Zai ⟨0,h,a,b,g⟩))/\Below wr.heap.size wr w' from fun wr hb=>p.out wr hb);generalize O:Zai ⟨0,h,a,b,g⟩=N at NF;have QN:=zh O;clear O
   go_wp2_with (first
    |(go_at_call 26;(with_reducible refine(WF.out wr (Za l.out)).mono ?_);rintro Y T ⟨rfl,c⟩;have j:=zh (m.out _ _ c l.out);obtain⟨⟨r,s,t,u,y⟩,_⟩:=id j.out;clear c;cases W)
    |(go_at_call 27;(with_reducible refine(NF.out T (Za j.out)).mono ?_);rintro e3 w3 ⟨rfl,L⟩;have U:=zh (m.out _ _ L j.out);obtain⟨⟨ay,az,a1,a6,a7⟩,_⟩:=id U.out;clear L;cases N))
   all_goals go_ret
   all_goals first
    |exact⟨Zbc (Zl4 HA.out QW.out QN.out),Za U.out⟩
    |exact⟨Zh,Za U.out⟩
    |exact⟨Zh,Za j.out⟩
    |exact⟨Zh,Za l.out⟩
  ·have n:i<b.length:=by omega
   obtain⟨z,Q⟩:∃z,b[i]? = Ya z:=⟨_,Ym n⟩
   have R:=Zcr (f:=fun k=>(isB [1,4]) (Zp ns k)) Q d;have kk:kdR ns ⟨0,h,a,b,g⟩ i=Zp ns z:=by unfold kdR;dsimp only;rw[Zb9 Q]
   have S:=zh (fun(wz:Yh) (Q:Below w.heap.size w wz)=>o.out wz Q i n);rw[kk]at S;have ti:(i:Int)<(b.length:Int):=by omega
   have ba:(0:Int)<=(i:Int):=by omega
   have wk:IntKind.i64.wrap ((i:Int)+1)=(i:Int)+1:=IntWalk.i64_in _ (by have:=KL.out;unfold maxLen at this;omega);have D:=zh (zi n (zi q R));clear q R Q d kk M n hi;generalize Zp ns z=Z at *;cases z1:(Z==1)
   ·have u1:(Z != 1)=true:=by rw[bne,z1];rfl
    cases z4:(Z==4)
    ·have u4:(Z != 4)=true:=by rw[bne,z4];rfl
     go_wp2_with (first
      |(go_at_call 29;(with_reducible refine(S.out wr (Za l.out)).mono ?_);rintro Y T ⟨rfl,c⟩;have j:=zh (m.out _ _ c l.out);obtain⟨⟨r,s,t,u,y⟩,_⟩:=id j.out;clear c))
     go_ret;exact⟨Zh,Za j.out⟩
    ·have u4:(Z != 4)=false:=by rw[bne,z4];rfl
     have V:=zh (show isB [1,4] Z=true from by unfold isB;rw[List.contains_cons,List.contains_cons,z1,z4];rfl)
     go_wp2_with (first
      |(go_at_call 29;(with_reducible refine(S.out wr (Za l.out)).mono ?_);rintro Y T ⟨rfl,c⟩;have j:=zh (m.out _ _ c l.out);obtain⟨⟨r,s,t,u,y⟩,_⟩:=id j.out;clear c))
     go_roundg (b.length-(i+1))
     case measure=>have:=D.out;omega
     case rel=>exact⟨i+1,by push_cast;rfl,by have:=D.out;omega,rfl,D.out.2.2.trans (V.out),j.out⟩
   ·have u1:(Z != 1)=false:=by rw[bne,z1];rfl
    have V:=zh (show isB [1,4] Z=true from by unfold isB;rw[List.contains_cons,z1];rfl)
    go_wp2_with (first
     |(go_at_call 29;(with_reducible refine(S.out wr (Za l.out)).mono ?_);rintro Y T ⟨rfl,c⟩;have j:=zh (m.out _ _ c l.out);obtain⟨⟨r,s,t,u,y⟩,_⟩:=id j.out;clear c))
    go_roundg (b.length-(i+1))
    case measure=>have:=D.out;omega
    case rel=>exact⟨i+1,by push_cast;rfl,by have:=D.out;omega,rfl,D.out.2.2.trans (V.out),j.out⟩
theorem Zk0 (w:Yh) (v:Yi) (ns:List Nd) (va vb vc:Yi) (h:List (List UInt8)) (a b:List Int) (g:Int) (hN:Zi w v ns) (hx:ZS w ((va,vb,vc),⟨1,h,a,b,g⟩)) (hk:Zaw b ns.length) :
  Calls Tryz.prog 25 #[v,ndV ((va,vb,vc),⟨1,h,a,b,g⟩)] w fun e w'=>OkB (ZD ns ⟨1,h,a,b,g⟩=true) e/\Below w.heap.size w w':=by
 obtain⟨h1,h2,h3⟩:=id hx;dsimp only at h1 h2 h3;obtain⟨X,p,o,H,I⟩:=hd6 hN hx hk;obtain⟨A,E,rfl,_⟩:=h1;obtain⟨B,F,rfl,_,_,K⟩:=h2;have KL:=zh h3.len;obtain⟨C,G,rfl,_⟩:=h3;have R2:=zh K;unfold ndV at X p o H I⊢;dsimp only at X p o H I⊢;have m:=zh (Zcl w (Yd Yf 1) (Yc A h.length E) (Yc B a.length F) (Yc C b.length G) (Yd Yf g));have J:=Zcg w (Yd Yf 1) (Yc A h.length E) (Yc B a.length F) (Yc C b.length G) (Yd Yf g);have l:=zh J;obtain⟨⟨g0,g1,g2,g3,g4⟩,_⟩:=J;clear K hx hN hk;go_enter Tryz.func25,Tryz.ntmps25;go_upto_region 1 with fail;generalize(w.alloc (Yg #[Yd Yf 1,Yc A h.length E,Yc B a.length F,Yc C b.length G,Yd Yf g] 37))=w1 at *;go_wp2_with fail;go_loopg [6] (b.length) (fun gk vi wr=>∃i:Nat,vi=Yd Yf i/\i<=b.length/\gk=b.length-i/\Zam ns (b.take i) (isB [2,3])=true/\(wr.cell? ⟨w.heap.size,0,Yb⟩=Ya (Yd Yf 1)/\wr.cell? ⟨w.heap.size,1,Yb⟩=Ya (Yc A h.length E)/\wr.cell? ⟨w.heap.size,2,Yb⟩=Ya (Yc B a.length F)/\wr.cell? ⟨w.heap.size,3,Yb⟩=Ya (Yc C b.length G)/\wr.cell? ⟨w.heap.size,4,Yb⟩=Ya (Yd Yf g))/\Below w.heap.size w wr)
 case atStart=>exact⟨0,rfl,Nat.zero_le _,rfl,rfl,l.out⟩
 case round=>
  clear l g0 g1 g2 g3 g4;obtain⟨i,rfl,hi,q,d,hS⟩:=hrel;have l:=zh hS;obtain⟨⟨g0,g1,g2,g3,g4⟩,_⟩:=hS;by_cases M:i=b.length
  ·have e:b.take i=b:=by rw[M];exact List.take_length
   rw[e]at d;have HA:=zh d;have ti:¬(i:Int)<(b.length:Int):=by omega
   clear e d q;have WF:=zh (show ∀wr:Yh,Below w.heap.size w wr->Calls Tryz.prog 26 #[.agg #[Yd Yf 1,Yc A h.length E,Yc B a.length F,Yc C b.length G,Yd Yf g],Yd Yf 1,Yd Yf 1] wr fun e w'=>e=.returned (.bool (Zy ⟨1,h,a,b,g⟩ 1 1))/\Below wr.heap.size wr w' from fun wr hb=>X.out wr hb 1 1);generalize P:Zy ⟨1,h,a,b,g⟩ 1 1=W at WF;have QW:=zh P;clear P;have NF:=zh (show ∀wr:Yh,Below w.heap.size w wr->Calls Tryz.prog 27 #[.agg #[Yd Yf 1,Yc A h.length E,Yc B a.length F,Yc C b.length G,Yd Yf g]] wr fun e w'=>e=.returned (.bool (Zai ⟨1,h,a,b,g⟩))/\Below wr.heap.size wr w' from fun wr hb=>p.out wr hb);generalize O:Zai ⟨1,h,a,b,g⟩=N at NF;have QN:=zh O;clear O
   go_wp2_with (first
    |(go_at_call 26;(with_reducible refine(WF.out wr (Za l.out)).mono ?_);rintro Y T ⟨rfl,c⟩;have j:=zh (m.out _ _ c l.out);obtain⟨⟨r,s,t,u,y⟩,_⟩:=id j.out;clear c;cases W)
    |(go_at_call 27;(with_reducible refine(NF.out T (Za j.out)).mono ?_);rintro e3 w3 ⟨rfl,L⟩;have U:=zh (m.out _ _ L j.out);obtain⟨⟨ay,az,a1,a6,a7⟩,_⟩:=id U.out;clear L;cases N))
   all_goals go_ret
   all_goals first
    |exact⟨Zbc (ZpE HA.out QW.out QN.out),Za U.out⟩
    |exact⟨Zh,Za U.out⟩
    |exact⟨Zh,Za j.out⟩
    |exact⟨Zh,Za l.out⟩
  ·have n:i<b.length:=by omega
   obtain⟨z,Q⟩:∃z,b[i]? = Ya z:=⟨_,Ym n⟩
   have R:=Zcr (f:=fun k=>(isB [2,3]) (Zp ns k)) Q d;have kk:kdR ns ⟨1,h,a,b,g⟩ i=Zp ns z:=by unfold kdR;dsimp only;rw[Zb9 Q]
   have S:=zh (fun(wz:Yh) (Q:Below w.heap.size w wz)=>o.out wz Q i n);rw[kk]at S;have ti:(i:Int)<(b.length:Int):=by omega
   have ba:(0:Int)<=(i:Int):=by omega
   have wk:IntKind.i64.wrap ((i:Int)+1)=(i:Int)+1:=IntWalk.i64_in _ (by have:=KL.out;unfold maxLen at this;omega);have D:=zh (zi n (zi q R));clear q R Q d kk M n hi;generalize Zp ns z=Z at *;cases z2:(Z==2)
   ·have u2:(Z != 2)=true:=by rw[bne,z2];rfl
    cases z3:(Z==3)
    ·have u3:(Z != 3)=true:=by rw[bne,z3];rfl
     go_wp2_with (first
      |(go_at_call 29;(with_reducible refine(S.out wr (Za l.out)).mono ?_);rintro Y T ⟨rfl,c⟩;have j:=zh (m.out _ _ c l.out);obtain⟨⟨r,s,t,u,y⟩,_⟩:=id j.out;clear c))
     go_ret;exact⟨Zh,Za j.out⟩
    ·have u3:(Z != 3)=false:=by rw[bne,z3];rfl
     have V:=zh (show isB [2,3] Z=true from by unfold isB;rw[List.contains_cons,List.contains_cons,z2,z3];rfl)
     go_wp2_with (first
      |(go_at_call 29;(with_reducible refine(S.out wr (Za l.out)).mono ?_);rintro Y T ⟨rfl,c⟩;have j:=zh (m.out _ _ c l.out);obtain⟨⟨r,s,t,u,y⟩,_⟩:=id j.out;clear c))
     go_roundg (b.length-(i+1))
     case measure=>have:=D.out;omega
     case rel=>exact⟨i+1,by push_cast;rfl,by have:=D.out;omega,rfl,D.out.2.2.trans (V.out),j.out⟩
   ·have u2:(Z != 2)=false:=by rw[bne,z2];rfl
    have V:=zh (show isB [2,3] Z=true from by unfold isB;rw[List.contains_cons,z2];rfl)
    go_wp2_with (first
     |(go_at_call 29;(with_reducible refine(S.out wr (Za l.out)).mono ?_);rintro Y T ⟨rfl,c⟩;have j:=zh (m.out _ _ c l.out);obtain⟨⟨r,s,t,u,y⟩,_⟩:=id j.out;clear c))
    go_roundg (b.length-(i+1))
    case measure=>have:=D.out;omega
    case rel=>exact⟨i+1,by push_cast;rfl,by have:=D.out;omega,rfl,D.out.2.2.trans (V.out),j.out⟩
end
section
open Go.RowKit
theorem ZkX (w:Yh) (v:Yi) (ns:List Nd) (Y Z vc:Yi) (d:List (List UInt8)) (a b:List Int) (c:Int) (V:Zi w v ns) (hx:ZS w ((Y,Z,vc),⟨15,d,a,b,c⟩)) (hk:Zaw b ns.length) :
  Calls Tryz.prog 15 #[v,ndV ((Y,Z,vc),⟨15,d,a,b,c⟩)] w fun e w'=>OkB (ZD ns ⟨15,d,a,b,c⟩=true) e/\Below w.heap.size w w':=by
 obtain⟨T,U,E⟩:=id hx;dsimp only at T U E;obtain⟨D,j,y,s,t⟩:=hd6 V hx hk;obtain⟨k,p,rfl,_⟩:=T;obtain⟨l,q,rfl,_,_,z⟩:=U;have KL:=zh E.len;obtain⟨m,r,rfl,_⟩:=E;have R2:=zh z;unfold ndV at D j y s t⊢;dsimp only at D j y s t⊢;have i:=zh (Zcl w (Yd Yf 15) (.slice k d.length p) (.slice l a.length q) (.slice m b.length r) (Yd Yf c));have u:=Zcg w (Yd Yf 15) (.slice k d.length p) (.slice l a.length q) (.slice m b.length r) (Yd Yf c);have n:=zh u;obtain⟨⟨g0,g1,g2,g3,g4⟩,_⟩:=u;clear z hx V hk;have WF:=zh (show ∀wr:Yh,Below w.heap.size w wr->Calls Tryz.prog 26 #[.agg #[Yd Yf 15,.slice k d.length p,.slice l a.length q,.slice m b.length r,Yd Yf c],Yd Yf 1,Yd Yf 1] wr fun e w'=>e=.returned (.bool (Zy ⟨15,d,a,b,c⟩ 1 1))/\Below wr.heap.size wr w' from fun wr F=>D.out wr F 1 1);generalize B:Zy ⟨15,d,a,b,c⟩ 1 1=W at WF;have QW:=zh B;clear B;have C:=zh (show ∀wr:Yh,Below w.heap.size w wr->Calls Tryz.prog 27 #[.agg #[Yd Yf 15,.slice k d.length p,.slice l a.length q,.slice m b.length r,Yd Yf c]] wr fun e w'=>e=.returned (.bool (Zai ⟨15,d,a,b,c⟩))/\Below wr.heap.size wr w' from fun wr F=>j.out wr F);generalize A:Zai ⟨15,d,a,b,c⟩=N at C;have QN:=zh A;clear A;by_cases X:b.length=0
 ·have tk:((b.length:Int)==0)=true:=by rw[beq_iff_eq];omega
  have QK:=zh X;clear X;go_enter Tryz.func15,Tryz.ntmps15;go_upto_region 1 with fail;generalize(w.alloc (Yg #[Yd Yf 15,.slice k d.length p,.slice l a.length q,.slice m b.length r,Yd Yf c] 37))=R at *
  go_wp2_with (first
   |(go_at_call 26;(with_reducible refine(WF.out R (Za n.out)).mono ?_);rintro e2 S ⟨rfl,f⟩;have h:=zh (i.out _ _ f n.out);obtain⟨⟨G,H,I,J,K⟩,_⟩:=id h.out;clear f;cases W)
   |(go_at_call 27;(with_reducible refine(C.out S (Za h.out)).mono ?_);rintro e3 w3 ⟨rfl,g⟩;have o:=zh (i.out _ _ g h.out);obtain⟨⟨L,M,O,P,Q⟩,_⟩:=id o.out;clear g;cases N))
  all_goals go_ret
  all_goals first
   |exact⟨Zbc (ZnW QW.out QN.out QK.out),Za o.out⟩
   |exact⟨Zh,Za o.out⟩
   |exact⟨Zh,Za h.out⟩
   |exact⟨Zh,Za n.out⟩
 ·have tk:((b.length:Int)==0)=false:=by rw[beq_eq_false_iff_ne];omega
  go_enter Tryz.func15,Tryz.ntmps15;go_upto_region 1 with fail;generalize(w.alloc (Yg #[Yd Yf 15,.slice k d.length p,.slice l a.length q,.slice m b.length r,Yd Yf c] 37))=R at *
  go_wp2_with (first
   |(go_at_call 26;(with_reducible refine(WF.out R (Za n.out)).mono ?_);rintro e2 S ⟨rfl,f⟩;have h:=zh (i.out _ _ f n.out);obtain⟨⟨G,H,I,J,K⟩,_⟩:=id h.out;clear f;cases W)
   |(go_at_call 27;(with_reducible refine(C.out S (Za h.out)).mono ?_);rintro e3 w3 ⟨rfl,g⟩;have o:=zh (i.out _ _ g h.out);obtain⟨⟨L,M,O,P,Q⟩,_⟩:=id o.out;clear g;cases N))
  all_goals go_ret
  all_goals first
   |exact⟨Zh,Za o.out⟩
   |exact⟨Zh,Za h.out⟩
   |exact⟨Zh,Za n.out⟩
theorem Zpi (w:Yh) (v:Yi) (ns:List Nd) (Y Z vc:Yi) (d:List (List UInt8)) (a b:List Int) (c:Int) (V:Zi w v ns) (hx:ZS w ((Y,Z,vc),⟨21,d,a,b,c⟩)) (hk:Zaw b ns.length) :
  Calls Tryz.prog 15 #[v,ndV ((Y,Z,vc),⟨21,d,a,b,c⟩)] w fun e w'=>OkB (ZD ns ⟨21,d,a,b,c⟩=true) e/\Below w.heap.size w w':=by
 obtain⟨T,U,E⟩:=id hx;dsimp only at T U E;obtain⟨D,j,y,s,t⟩:=hd6 V hx hk;obtain⟨k,p,rfl,_⟩:=T;obtain⟨l,q,rfl,_,_,z⟩:=U;have KL:=zh E.len;obtain⟨m,r,rfl,_⟩:=E;have R2:=zh z;unfold ndV at D j y s t⊢;dsimp only at D j y s t⊢;have i:=zh (Zcl w (Yd Yf 21) (.slice k d.length p) (.slice l a.length q) (.slice m b.length r) (Yd Yf c));have u:=Zcg w (Yd Yf 21) (.slice k d.length p) (.slice l a.length q) (.slice m b.length r) (Yd Yf c);have n:=zh u;obtain⟨⟨g0,g1,g2,g3,g4⟩,_⟩:=u;clear z hx V hk;have WF:=zh (show ∀wr:Yh,Below w.heap.size w wr->Calls Tryz.prog 26 #[.agg #[Yd Yf 21,.slice k d.length p,.slice l a.length q,.slice m b.length r,Yd Yf c],Yd Yf 1,Yd Yf 1] wr fun e w'=>e=.returned (.bool (Zy ⟨21,d,a,b,c⟩ 1 1))/\Below wr.heap.size wr w' from fun wr F=>D.out wr F 1 1);generalize B:Zy ⟨21,d,a,b,c⟩ 1 1=W at WF;have QW:=zh B;clear B;have C:=zh (show ∀wr:Yh,Below w.heap.size w wr->Calls Tryz.prog 27 #[.agg #[Yd Yf 21,.slice k d.length p,.slice l a.length q,.slice m b.length r,Yd Yf c]] wr fun e w'=>e=.returned (.bool (Zai ⟨21,d,a,b,c⟩))/\Below wr.heap.size wr w' from fun wr F=>j.out wr F);generalize A:Zai ⟨21,d,a,b,c⟩=N at C;have QN:=zh A;clear A;by_cases X:b.length=0
 ·have tk:((b.length:Int)==0)=true:=by rw[beq_iff_eq];omega
  have QK:=zh X;clear X;go_enter Tryz.func15,Tryz.ntmps15;go_upto_region 1 with fail;generalize(w.alloc (Yg #[Yd Yf 21,.slice k d.length p,.slice l a.length q,.slice m b.length r,Yd Yf c] 37))=R at *
  go_wp2_with (first
   |(go_at_call 26;(with_reducible refine(WF.out R (Za n.out)).mono ?_);rintro e2 S ⟨rfl,f⟩;have h:=zh (i.out _ _ f n.out);obtain⟨⟨G,H,I,J,K⟩,_⟩:=id h.out;clear f;cases W)
   |(go_at_call 27;(with_reducible refine(C.out S (Za h.out)).mono ?_);rintro e3 w3 ⟨rfl,g⟩;have o:=zh (i.out _ _ g h.out);obtain⟨⟨L,M,O,P,Q⟩,_⟩:=id o.out;clear g;cases N))
  all_goals go_ret
  all_goals first
   |exact⟨Zbc (ZrN QW.out QN.out QK.out),Za o.out⟩
   |exact⟨Zh,Za o.out⟩
   |exact⟨Zh,Za h.out⟩
   |exact⟨Zh,Za n.out⟩
 ·have tk:((b.length:Int)==0)=false:=by rw[beq_eq_false_iff_ne];omega
  go_enter Tryz.func15,Tryz.ntmps15;go_upto_region 1 with fail;generalize(w.alloc (Yg #[Yd Yf 21,.slice k d.length p,.slice l a.length q,.slice m b.length r,Yd Yf c] 37))=R at *
  go_wp2_with (first
   |(go_at_call 26;(with_reducible refine(WF.out R (Za n.out)).mono ?_);rintro e2 S ⟨rfl,f⟩;have h:=zh (i.out _ _ f n.out);obtain⟨⟨G,H,I,J,K⟩,_⟩:=id h.out;clear f;cases W)
   |(go_at_call 27;(with_reducible refine(C.out S (Za h.out)).mono ?_);rintro e3 w3 ⟨rfl,g⟩;have o:=zh (i.out _ _ g h.out);obtain⟨⟨L,M,O,P,Q⟩,_⟩:=id o.out;clear g;cases N))
  all_goals go_ret
  all_goals first
   |exact⟨Zh,Za o.out⟩
   |exact⟨Zh,Za h.out⟩
   |exact⟨Zh,Za n.out⟩
theorem Zph (w:Yh) (v:Yi) (ns:List Nd) (X Y Z:Yi) (i:List (List UInt8)) (a f:List Int) (h:Int) (T:Zi w v ns) (hx:ZS w ((X,Y,Z),⟨20,i,a,f,h⟩)) (hk:Zaw f ns.length) :
  Calls Tryz.prog 15 #[v,ndV ((X,Y,Z),⟨20,i,a,f,h⟩)] w fun e w'=>OkB (ZD ns ⟨20,i,a,f,h⟩=true) e/\Below w.heap.size w w':=by
 obtain⟨R,S,N⟩:=id hx;dsimp only at R S N;obtain⟨M,G,F,C,D⟩:=hd6 T hx hk;obtain⟨r,t,rfl,_⟩:=R;obtain⟨J,u,rfl,_,_,H⟩:=S;have KL:=zh N.len;obtain⟨s,z,rfl,_⟩:=N;have Q:=zh H;unfold ndV at M G F C D⊢;dsimp only at M G F C D⊢;have j:=zh (Zcl w (Yd Yf 20) (.slice r i.length t) (Yc J a.length u) (.slice s f.length z) (Yd Yf h));have E:=Zcg w (Yd Yf 20) (.slice r i.length t) (Yc J a.length u) (.slice s f.length z) (Yd Yf h);have g:=zh E;obtain⟨⟨g0,g1,g2,g3,g4⟩,_⟩:=E;clear H hx T hk;have WF:=zh (show ∀wr:Yh,Below w.heap.size w wr->Calls Tryz.prog 26 #[.agg #[Yd Yf 20,.slice r i.length t,Yc J a.length u,.slice s f.length z,Yd Yf h],Yd Yf 0,Yd Yf 0] wr fun e w'=>e=.returned (.bool (Zy ⟨20,i,a,f,h⟩ 0 0))/\Below wr.heap.size wr w' from fun wr O=>M.out wr O 0 0);generalize I:Zy ⟨20,i,a,f,h⟩ 0 0=W at WF;have QW:=zh I;clear I;by_cases V:a.length=1
 ·have tn:((a.length:Int)==1)=true:=by rw[beq_iff_eq];omega
  have ah:(0:Int)<(a.length:Int):=by omega
  obtain⟨y,L⟩:=List.length_eq_one_iff.mp V;obtain⟨d,rfl,y1⟩:=ints_at (x:=y) Q.out (Za g.out) (k:=0) (by rw[L];rfl) (by omega);rw[show d.add 0=d by unfold Addr.add;simp]at y1;have K:=zh (fun(wr:Yh) (O:Below w.heap.size w wr)=>show wr.cell? d=Ya (Yd Yf y)from by obtain⟨a2,A,q2⟩:=ints_at (x:=y) Q.out O (k:=0) (by rw[L];rfl) (by omega);injection A with A;subst A;rwa[show d.add 0=d by unfold Addr.add;simp]at q2);have HY:=zh L;clear L V;by_cases qy:0<=y
  ·by_cases qz:y<1000000000000000000
   ·by_cases U:f.length=0
    ·have tk:((f.length:Int)==0)=true:=by rw[beq_iff_eq];omega
     have QK:=zh U;clear U;go_enter Tryz.func15,Tryz.ntmps15;go_upto_region 1 with fail;generalize(w.alloc (Yg #[Yd Yf 20,.slice r i.length t,Yc (Ya d) a.length u,.slice s f.length z,Yd Yf h] 37))=q at *
     go_wp2_with (first
      |(go_at_call 26;(with_reducible refine(WF.out q (Za g.out)).mono ?_);rintro A B ⟨rfl,b⟩;have c:=zh (j.out _ _ b g.out);obtain⟨⟨l,m,n,o,p⟩,_⟩:=id c.out;have P:=K.out B (Za c.out);clear b;cases W))
     all_goals go_ret
     all_goals first
      |exact⟨Zbc (ZrL QW.out HY.out qy qz QK.out),Za c.out⟩
      |exact⟨Zh,Za c.out⟩
      |exact⟨Zh,Za g.out⟩
    ·have tk:((f.length:Int)==0)=false:=by rw[beq_eq_false_iff_ne];omega
     go_enter Tryz.func15,Tryz.ntmps15;go_upto_region 1 with fail;generalize(w.alloc (Yg #[Yd Yf 20,.slice r i.length t,Yc (Ya d) a.length u,.slice s f.length z,Yd Yf h] 37))=q at *
     go_wp2_with (first
      |(go_at_call 26;(with_reducible refine(WF.out q (Za g.out)).mono ?_);rintro A B ⟨rfl,b⟩;have c:=zh (j.out _ _ b g.out);obtain⟨⟨l,m,n,o,p⟩,_⟩:=id c.out;have P:=K.out B (Za c.out);clear b;cases W))
     all_goals go_ret
     all_goals first
      |exact⟨Zh,Za c.out⟩
      |exact⟨Zh,Za g.out⟩
   ·have tz:1000000000000000000<=y:=by omega
    go_enter Tryz.func15,Tryz.ntmps15;go_upto_region 1 with fail;generalize(w.alloc (Yg #[Yd Yf 20,.slice r i.length t,Yc (Ya d) a.length u,.slice s f.length z,Yd Yf h] 37))=q at *
    go_wp2_with (first
     |(go_at_call 26;(with_reducible refine(WF.out q (Za g.out)).mono ?_);rintro A B ⟨rfl,b⟩;have c:=zh (j.out _ _ b g.out);obtain⟨⟨l,m,n,o,p⟩,_⟩:=id c.out;have P:=K.out B (Za c.out);clear b;cases W))
    all_goals go_ret
    all_goals first
     |exact⟨Zh,Za c.out⟩
     |exact⟨Zh,Za g.out⟩
  ·have ty:y<0:=by omega
   go_enter Tryz.func15,Tryz.ntmps15;go_upto_region 1 with fail;generalize(w.alloc (Yg #[Yd Yf 20,.slice r i.length t,Yc (Ya d) a.length u,.slice s f.length z,Yd Yf h] 37))=q at *
   go_wp2_with (first
    |(go_at_call 26;(with_reducible refine(WF.out q (Za g.out)).mono ?_);rintro A B ⟨rfl,b⟩;have c:=zh (j.out _ _ b g.out);obtain⟨⟨l,m,n,o,p⟩,_⟩:=id c.out;have P:=K.out B (Za c.out);clear b;cases W))
   all_goals go_ret
   all_goals first
    |exact⟨Zh,Za c.out⟩
    |exact⟨Zh,Za g.out⟩
 ·have tn:((a.length:Int)==1)=false:=by rw[beq_eq_false_iff_ne];omega
  go_enter Tryz.func15,Tryz.ntmps15;go_upto_region 1 with fail;generalize(w.alloc (Yg #[Yd Yf 20,.slice r i.length t,Yc J a.length u,.slice s f.length z,Yd Yf h] 37))=q at *
  go_wp2_with (first
   |(go_at_call 26;(with_reducible refine(WF.out q (Za g.out)).mono ?_);rintro A B ⟨rfl,b⟩;have c:=zh (j.out _ _ b g.out);obtain⟨⟨l,m,n,o,p⟩,_⟩:=id c.out;clear b;cases W))
  all_goals go_ret
  all_goals first
   |exact⟨Zh,Za c.out⟩
   |exact⟨Zh,Za g.out⟩
theorem Zpe (w:Yh) (v:Yi) (ns:List Nd) (va vb vc:Yi) (g:List (List UInt8)) (a c:List Int) (f:Int) (hN:Zi w v ns) (hx:ZS w ((va,vb,vc),⟨22,g,a,c,f⟩)) (hk:Zaw c ns.length) :
  Calls Tryz.prog 15 #[v,ndV ((va,vb,vc),⟨22,g,a,c,f⟩)] w fun e w'=>OkB (ZD ns ⟨22,g,a,c,f⟩=true) e/\Below w.heap.size w w':=by
 obtain⟨h1,h2,Y⟩:=id hx;dsimp only at h1 h2 Y;obtain⟨X,L,q,H,I⟩:=hd6 hN hx hk;obtain⟨l,n,rfl,_⟩:=h1;obtain⟨S,o,rfl,_,_,M⟩:=h2;have KL:=zh Y.len;obtain⟨m,p,rfl,_⟩:=Y;have R2:=zh M;unfold ndV at X L q H I⊢;dsimp only at X L q H I⊢;have j:=zh (Zcl w (Yd Yf 22) (.slice l g.length n) (Yc S a.length o) (.slice m c.length p) (Yd Yf f));have J:=Zcg w (Yd Yf 22) (.slice l g.length n) (Yc S a.length o) (.slice m c.length p) (Yd Yf f);have i:=zh J;obtain⟨⟨g0,g1,g2,g3,g4⟩,_⟩:=J;clear M hx hN hk;have WF:=zh (show ∀wr:Yh,Below w.heap.size w wr->Calls Tryz.prog 26 #[.agg #[Yd Yf 22,.slice l g.length n,Yc S a.length o,.slice m c.length p,Yd Yf f],Yd Yf 0,Yd Yf 0] wr fun e w'=>e=.returned (.bool (Zy ⟨22,g,a,c,f⟩ 0 0))/\Below wr.heap.size wr w' from fun wr D=>X.out wr D 0 0);generalize R:Zy ⟨22,g,a,c,f⟩ 0 0=W at WF;have QW:=zh R;clear R;by_cases qn:a.length=1
 ·have tn:((a.length:Int)==1)=true:=by rw[beq_iff_eq];omega
  have bf:(0:Int)<(a.length:Int):=by omega
  obtain⟨y,U⟩:=List.length_eq_one_iff.mp qn;obtain⟨d,rfl,y1⟩:=ints_at (x:=y) R2.out (Za i.out) (k:=0) (by rw[U];rfl) (by omega);rw[show d.add 0=d by unfold Addr.add;simp]at y1;have F:=zh (fun(wr:Yh) (D:Below w.heap.size w wr)=>show wr.cell? d=Ya (Yd Yf y)from by obtain⟨a2,C,q2⟩:=ints_at (x:=y) R2.out D (k:=0) (by rw[U];rfl) (by omega);injection C with C;subst C;rwa[show d.add 0=d by unfold Addr.add;simp]at q2);have HY:=zh U;clear U qn;by_cases qy:0<=y
  ·by_cases qz:y<=5
   ·by_cases qk:c.length=2
    ·have tk:((c.length:Int)==2)=true:=by rw[beq_iff_eq];omega
     have V:=zh qk;clear qk;have EG:=zh (show ∀wr:Yh,Below w.heap.size w wr->Calls Tryz.prog 29 #[v,.agg #[Yd Yf 22,.slice l g.length n,Yc (Ya d) a.length o,.slice m c.length p,Yd Yf f],Yd Yf 0] wr fun e w'=>e=.returned (Yd Yf (kdR ns ⟨22,g,a,c,f⟩ 0))/\Below wr.heap.size wr w' from fun wr D=>q.out wr D 0 (by have:=V.out;omega));have EF:=zh (fun wr=>Zc5 wr (kdR ns ⟨22,g,a,c,f⟩ 0));generalize P:ZF (kdR ns ⟨22,g,a,c,f⟩ 0)=E at EF;have QE:=zh P;clear P;have GG:=zh (show ∀wr:Yh,Below w.heap.size w wr->Calls Tryz.prog 29 #[v,.agg #[Yd Yf 22,.slice l g.length n,Yc (Ya d) a.length o,.slice m c.length p,Yd Yf f],Yd Yf 1] wr fun e w'=>e=.returned (Yd Yf (kdR ns ⟨22,g,a,c,f⟩ 1))/\Below wr.heap.size wr w' from fun wr D=>q.out wr D 1 (by have:=V.out;omega));have GF:=zh (fun wr=>Zc5 wr (kdR ns ⟨22,g,a,c,f⟩ 1));generalize Q:ZF (kdR ns ⟨22,g,a,c,f⟩ 1)=G at GF;have QG:=zh Q;clear Q;go_enter Tryz.func15,Tryz.ntmps15;go_upto_region 1 with fail;generalize(w.alloc (Yg #[Yd Yf 22,.slice l g.length n,Yc (Ya d) a.length o,.slice m c.length p,Yd Yf f] 37))=A at *
     go_wp2_with (first
      |(go_at_call 26;(with_reducible refine(WF.out A (Za i.out)).mono ?_);rintro C B ⟨rfl,b⟩;have h:=zh (j.out _ _ b i.out);obtain⟨⟨r,s,t,u,z⟩,_⟩:=id h.out;have y2:=F.out B (Za h.out);clear b;cases W)
      |(go_at_call 29;(with_reducible refine(EG.out B (Za h.out)).mono ?_);rintro e3 Z ⟨rfl,N⟩;have K:=zh (j.out _ _ N h.out);obtain⟨⟨av,aw,ax,ay,az⟩,_⟩:=id K.out;have y3:=F.out Z (Za K.out);clear N)
      |(go_at_call 28;(with_reducible refine(EF.out Z).mono ?_);rintro _ _ ⟨rfl,rfl⟩;cases E)
      |(go_at_call 29;(with_reducible refine(GG.out Z (Za K.out)).mono ?_);rintro e4 w4 ⟨rfl,O⟩;have T:=zh (j.out _ _ O K.out);obtain⟨⟨a1,a6,a7,a8,ba⟩,_⟩:=id T.out;have y4:=F.out w4 (Za T.out);clear O)
      |(go_at_call 28;(with_reducible refine(GF.out w4).mono ?_);rintro _ _ ⟨rfl,rfl⟩;cases G))
     all_goals go_ret
     all_goals first
      |exact⟨Zbc (ZrH QW.out HY.out qy qz V.out QE.out QG.out),Za T.out⟩
      |exact⟨Zh,Za T.out⟩
      |exact⟨Zh,Za K.out⟩
      |exact⟨Zh,Za h.out⟩
      |exact⟨Zh,Za i.out⟩
    ·have tk:((c.length:Int)==2)=false:=by rw[beq_eq_false_iff_ne];omega
     go_enter Tryz.func15,Tryz.ntmps15;go_upto_region 1 with fail;generalize(w.alloc (Yg #[Yd Yf 22,.slice l g.length n,Yc (Ya d) a.length o,.slice m c.length p,Yd Yf f] 37))=A at *
     go_wp2_with (first
      |(go_at_call 26;(with_reducible refine(WF.out A (Za i.out)).mono ?_);rintro C B ⟨rfl,b⟩;have h:=zh (j.out _ _ b i.out);obtain⟨⟨r,s,t,u,z⟩,_⟩:=id h.out;have y2:=F.out B (Za h.out);clear b;cases W))
     all_goals go_ret
     all_goals first
      |exact⟨Zh,Za h.out⟩
      |exact⟨Zh,Za i.out⟩
   ·have tz:5<y:=by omega
    go_enter Tryz.func15,Tryz.ntmps15;go_upto_region 1 with fail;generalize(w.alloc (Yg #[Yd Yf 22,.slice l g.length n,Yc (Ya d) a.length o,.slice m c.length p,Yd Yf f] 37))=A at *
    go_wp2_with (first
     |(go_at_call 26;(with_reducible refine(WF.out A (Za i.out)).mono ?_);rintro C B ⟨rfl,b⟩;have h:=zh (j.out _ _ b i.out);obtain⟨⟨r,s,t,u,z⟩,_⟩:=id h.out;have y2:=F.out B (Za h.out);clear b;cases W))
    all_goals go_ret
    all_goals first
     |exact⟨Zh,Za h.out⟩
     |exact⟨Zh,Za i.out⟩
  ·have ty:y<0:=by omega
   go_enter Tryz.func15,Tryz.ntmps15;go_upto_region 1 with fail;generalize(w.alloc (Yg #[Yd Yf 22,.slice l g.length n,Yc (Ya d) a.length o,.slice m c.length p,Yd Yf f] 37))=A at *
   go_wp2_with (first
    |(go_at_call 26;(with_reducible refine(WF.out A (Za i.out)).mono ?_);rintro C B ⟨rfl,b⟩;have h:=zh (j.out _ _ b i.out);obtain⟨⟨r,s,t,u,z⟩,_⟩:=id h.out;have y2:=F.out B (Za h.out);clear b;cases W))
   all_goals go_ret
   all_goals first
    |exact⟨Zh,Za h.out⟩
    |exact⟨Zh,Za i.out⟩
 ·have tn:((a.length:Int)==1)=false:=by rw[beq_eq_false_iff_ne];omega
  go_enter Tryz.func15,Tryz.ntmps15;go_upto_region 1 with fail;generalize(w.alloc (Yg #[Yd Yf 22,.slice l g.length n,Yc S a.length o,.slice m c.length p,Yd Yf f] 37))=A at *
  go_wp2_with (first
   |(go_at_call 26;(with_reducible refine(WF.out A (Za i.out)).mono ?_);rintro C B ⟨rfl,b⟩;have h:=zh (j.out _ _ b i.out);obtain⟨⟨r,s,t,u,z⟩,_⟩:=id h.out;clear b;cases W))
  all_goals go_ret
  all_goals first
   |exact⟨Zh,Za h.out⟩
   |exact⟨Zh,Za i.out⟩
theorem Zpg (w:Yh) (v:Yi) (ns:List Nd) (va vb vc:Yi) (d:List (List UInt8)) (a b:List Int) (c:Int) (hN:Zi w v ns) (hx:ZS w ((va,vb,vc),⟨23,d,a,b,c⟩)) (hk:Zaw b ns.length) :
  Calls Tryz.prog 15 #[v,ndV ((va,vb,vc),⟨23,d,a,b,c⟩)] w fun e w'=>OkB (ZD ns ⟨23,d,a,b,c⟩=true) e/\Below w.heap.size w w':=by
 obtain⟨h1,h2,J⟩:=id hx;dsimp only at h1 h2 J;obtain⟨I,o,n,t,u⟩:=hd6 hN hx hk;obtain⟨j,p,rfl,_⟩:=h1;obtain⟨k,q,rfl,_,_,z⟩:=h2;have KL:=zh J.len;obtain⟨l,r,rfl,_⟩:=J;have R2:=zh z;unfold ndV at I o n t u⊢;dsimp only at I o n t u⊢;have f:=zh (Zcl w (Yd Yf 23) (.slice j d.length p) (.slice k a.length q) (.slice l b.length r) (Yd Yf c));have y:=Zcg w (Yd Yf 23) (.slice j d.length p) (.slice k a.length q) (.slice l b.length r) (Yd Yf c);have s:=zh y;obtain⟨⟨g0,g1,g2,g3,g4⟩,_⟩:=y;clear z hx hN hk;have WF:=zh (show ∀wr:Yh,Below w.heap.size w wr->Calls Tryz.prog 26 #[.agg #[Yd Yf 23,.slice j d.length p,.slice k a.length q,.slice l b.length r,Yd Yf c],Yd Yf 0,Yd Yf 0] wr fun e w'=>e=.returned (.bool (Zy ⟨23,d,a,b,c⟩ 0 0))/\Below wr.heap.size wr w' from fun wr A=>I.out wr A 0 0);generalize F:Zy ⟨23,d,a,b,c⟩ 0 0=W at WF;have QW:=zh F;clear F;have H:=zh (show ∀wr:Yh,Below w.heap.size w wr->Calls Tryz.prog 27 #[.agg #[Yd Yf 23,.slice j d.length p,.slice k a.length q,.slice l b.length r,Yd Yf c]] wr fun e w'=>e=.returned (.bool (Zai ⟨23,d,a,b,c⟩))/\Below wr.heap.size wr w' from fun wr A=>o.out wr A);generalize D:Zai ⟨23,d,a,b,c⟩=N at H;have QN:=zh D;clear D;by_cases qk:b.length=1
 ·have tk:((b.length:Int)==1)=true:=by rw[beq_iff_eq];omega
  have Z:=zh qk;clear qk;have EG:=zh (show ∀wr:Yh,Below w.heap.size w wr->Calls Tryz.prog 29 #[v,.agg #[Yd Yf 23,.slice j d.length p,.slice k a.length q,.slice l b.length r,Yd Yf c],Yd Yf 0] wr fun e w'=>e=.returned (Yd Yf (kdR ns ⟨23,d,a,b,c⟩ 0))/\Below wr.heap.size wr w' from fun wr A=>n.out wr A 0 (by have:=Z.out;omega));have Y:=zh (fun wr=>Zc5 wr (kdR ns ⟨23,d,a,b,c⟩ 0));generalize C:ZF (kdR ns ⟨23,d,a,b,c⟩ 0)=E at Y;have QE:=zh C;clear C;go_enter Tryz.func15,Tryz.ntmps15;go_upto_region 1 with fail;generalize(w.alloc (Yg #[Yd Yf 23,.slice j d.length p,.slice k a.length q,.slice l b.length r,Yd Yf c] 37))=V at *
  go_wp2_with (first
   |(go_at_call 26;(with_reducible refine(WF.out V (Za s.out)).mono ?_);rintro e2 X ⟨rfl,g⟩;have i:=zh (f.out _ _ g s.out);obtain⟨⟨K,L,M,O,P⟩,_⟩:=id i.out;clear g;cases W)
   |(go_at_call 27;(with_reducible refine(H.out X (Za i.out)).mono ?_);rintro e3 w3 ⟨rfl,h⟩;have m:=zh (f.out _ _ h i.out);obtain⟨⟨Q,R,S,T,U⟩,_⟩:=id m.out;clear h;cases N)
   |(go_at_call 29;(with_reducible refine(EG.out w3 (Za m.out)).mono ?_);rintro e4 w4 ⟨rfl,B⟩;have G:=zh (f.out _ _ B m.out);obtain⟨⟨ao,ap,aq,ar,au⟩,_⟩:=id G.out;clear B)
   |(go_at_call 28;(with_reducible refine(Y.out w4).mono ?_);rintro _ _ ⟨rfl,rfl⟩;cases E))
  all_goals go_ret
  all_goals first
   |exact⟨Zbc (ZrK QW.out QN.out Z.out QE.out),Za G.out⟩
   |exact⟨Zh,Za G.out⟩
   |exact⟨Zh,Za m.out⟩
   |exact⟨Zh,Za i.out⟩
   |exact⟨Zh,Za s.out⟩
 ·have tk:((b.length:Int)==1)=false:=by rw[beq_eq_false_iff_ne];omega
  go_enter Tryz.func15,Tryz.ntmps15;go_upto_region 1 with fail;generalize(w.alloc (Yg #[Yd Yf 23,.slice j d.length p,.slice k a.length q,.slice l b.length r,Yd Yf c] 37))=V at *
  go_wp2_with (first
   |(go_at_call 26;(with_reducible refine(WF.out V (Za s.out)).mono ?_);rintro e2 X ⟨rfl,g⟩;have i:=zh (f.out _ _ g s.out);obtain⟨⟨K,L,M,O,P⟩,_⟩:=id i.out;clear g;cases W)
   |(go_at_call 27;(with_reducible refine(H.out X (Za i.out)).mono ?_);rintro e3 w3 ⟨rfl,h⟩;have m:=zh (f.out _ _ h i.out);obtain⟨⟨Q,R,S,T,U⟩,_⟩:=id m.out;clear h;cases N))
  all_goals go_ret
  all_goals first
   |exact⟨Zh,Za m.out⟩
   |exact⟨Zh,Za i.out⟩
   |exact⟨Zh,Za s.out⟩
end
section
open Go.RowKit
theorem ZrI {ns:List Nd} {d:List (List UInt8)} {b a:List Int} {c:Int} (h:Zam ns (a.take (a.length-1)) (isB [5])=true) (j:Zy ⟨4,d,b,a,c⟩ 1 1=true) (g:Zai ⟨4,d,b,a,c⟩=true) (hk:0<a.length) (f:kdR ns ⟨4,d,b,a,c⟩ (a.length-1)=7):ZD ns ⟨4,d,b,a,c⟩=true:=by
 have hx:a[a.length-1]? = Ya (a[a.length-1]'(by omega)):=Ym (by omega);have e:a=a.take (a.length-1)++[a[a.length-1]'(by omega)]:=by have:=List.take_add_one (l:=a) (i:=a.length-1);rw[hx,show a.length-1+1=a.length by omega,List.take_length]at this;exact this
 refine Zsd e h j g ?_;unfold kdR at f;dsimp only at f;rwa[Zb9 hx]at f
theorem Zpk (w:Yh) (v:Yi) (ns:List Nd) (va vb vc:Yi) (m:List (List UInt8)) (a b:List Int) (l:Int) (hN:Zi w v ns) (hx:ZS w ((va,vb,vc),⟨4,m,a,b,l⟩)) (hk:Zaw b ns.length) :
  Calls Tryz.prog 25 #[v,ndV ((va,vb,vc),⟨4,m,a,b,l⟩)] w fun e w'=>OkB (ZD ns ⟨4,m,a,b,l⟩=true) e/\Below w.heap.size w w':=by
 obtain⟨h1,h2,h3⟩:=id hx;dsimp only at h1 h2 h3;obtain⟨WR,F,q,M,O⟩:=hd6 hN hx hk;obtain⟨C,G,rfl,_⟩:=h1;obtain⟨D,H,rfl,_,_,Q⟩:=h2;have KL:=zh h3.len;obtain⟨E,I,rfl,_⟩:=h3;have R2:=zh Q;unfold ndV at WR F q M O⊢;dsimp only at WR F q M O⊢;have d:=zh (Zcl w (Yd Yf 4) (Yc C m.length G) (Yc D a.length H) (Yc E b.length I) (Yd Yf l));have P:=Zcg w (Yd Yf 4) (Yc C m.length G) (Yc D a.length H) (Yc E b.length I) (Yd Yf l);have n:=zh P;obtain⟨⟨g0,g1,g2,g3,g4⟩,_⟩:=P;clear Q hx hN hk;have um:IntKind.i64.wrap ((b.length:Int)-1)=(b.length:Int)-1:=IntWalk.i64_in _ (by have:=KL.out;unfold maxLen at this;omega);go_enter Tryz.func25,Tryz.ntmps25;go_upto_region 1 with fail;generalize(w.alloc (Yg #[Yd Yf 4,Yc C m.length G,Yc D a.length H,Yc E b.length I,Yd Yf l] 37))=w1 at *;go_wp2_with fail;go_loopg [8] (b.length-1) (fun gk vi wr=>∃i:Nat,vi=Yd Yf i/\i<=b.length-1/\gk=b.length-1-i/\Zam ns (b.take i) (isB [5])=true/\(wr.cell? ⟨w.heap.size,0,Yb⟩=Ya (Yd Yf 4)/\wr.cell? ⟨w.heap.size,1,Yb⟩=Ya (Yc C m.length G)/\wr.cell? ⟨w.heap.size,2,Yb⟩=Ya (Yc D a.length H)/\wr.cell? ⟨w.heap.size,3,Yb⟩=Ya (Yc E b.length I)/\wr.cell? ⟨w.heap.size,4,Yb⟩=Ya (Yd Yf l))/\Below w.heap.size w wr)
 case atStart=>exact⟨0,rfl,Nat.zero_le _,rfl,rfl,n.out⟩
 case round=>
  clear n g0 g1 g2 g3 g4;obtain⟨i,rfl,hi,J,h,hS⟩:=hrel;have n:=zh hS;obtain⟨⟨g0,g1,g2,g3,g4⟩,_⟩:=hS;by_cases S:i=b.length-1
  ·rw[S]at h;have HA:=zh h;have ti:¬(i:Int)<(b.length:Int)-1:=by omega
   clear h J;have WF:=zh (show ∀wr:Yh,Below w.heap.size w wr->Calls Tryz.prog 26 #[.agg #[Yd Yf 4,Yc C m.length G,Yc D a.length H,Yc E b.length I,Yd Yf l],Yd Yf 1,Yd Yf 1] wr fun e w'=>e=.returned (.bool (Zy ⟨4,m,a,b,l⟩ 1 1))/\Below wr.heap.size wr w' from fun wr R=>WR.out wr R 1 1);generalize U:Zy ⟨4,m,a,b,l⟩ 1 1=W at WF;have QW:=zh U;clear U;have NF:=zh (show ∀wr:Yh,Below w.heap.size w wr->Calls Tryz.prog 27 #[.agg #[Yd Yf 4,Yc C m.length G,Yc D a.length H,Yc E b.length I,Yd Yf l]] wr fun e w'=>e=.returned (.bool (Zai ⟨4,m,a,b,l⟩))/\Below wr.heap.size wr w' from fun wr R=>F.out wr R);generalize T:Zai ⟨4,m,a,b,l⟩=N at NF;have QN:=zh T;clear T;by_cases qk:0<b.length
   ·have tk:(0:Int)<(b.length:Int):=by omega
    have QK:=zh qk;have e1:(b.length:Int)-1=((b.length-1:Nat):Int):=by have:=QK.out;omega
    have ZG:=zh (show ∀wr:Yh,Below w.heap.size w wr->Calls Tryz.prog 29 #[v,.agg #[Yd Yf 4,Yc C m.length G,Yc D a.length H,Yc E b.length I,Yd Yf l],Yd Yf ((b.length:Int)-1)] wr fun e w'=>e=.returned (Yd Yf (kdR ns ⟨4,m,a,b,l⟩ (b.length-1)))/\Below wr.heap.size wr w' from fun wr R=>by rw[e1];exact q.out wr R (b.length-1) (by have:=QK.out;omega));generalize B:kdR ns ⟨4,m,a,b,l⟩ (b.length-1)=Z at ZG;have QZ:=zh B;clear B e1;cases z7:(Z==7)
    ·go_wp2_with (first
      |(go_at_call 26;(with_reducible refine(WF.out wr (Za n.out)).mono ?_);rintro e2 K ⟨rfl,c⟩;have g:=zh (d.out _ _ c n.out);obtain⟨⟨s,t,u,y,A⟩,_⟩:=id g.out;clear c;cases W)
      |(go_at_call 27;(with_reducible refine(NF.out K (Za g.out)).mono ?_);rintro e3 w3 ⟨rfl,j⟩;have o:=zh (d.out _ _ j g.out);obtain⟨⟨V,X,Y,aa,ab⟩,_⟩:=id o.out;clear j;cases N)
      |(go_at_call 29;(with_reducible refine(ZG.out w3 (Za o.out)).mono ?_);rintro e4 w4 ⟨rfl,p⟩;have L:=zh (d.out _ _ p o.out);obtain⟨⟨am,an,ao,ap,aq⟩,_⟩:=id L.out;clear p))
     all_goals go_ret
     all_goals first
      |exact⟨Zh,Za L.out⟩
      |exact⟨Zh,Za o.out⟩
      |exact⟨Zh,Za g.out⟩
      |exact⟨Zh,Za n.out⟩
    ·have Z7:=zh (show Z=7 by simpa using z7)
     go_wp2_with (first
      |(go_at_call 26;(with_reducible refine(WF.out wr (Za n.out)).mono ?_);rintro e2 K ⟨rfl,c⟩;have g:=zh (d.out _ _ c n.out);obtain⟨⟨s,t,u,y,A⟩,_⟩:=id g.out;clear c;cases W)
      |(go_at_call 27;(with_reducible refine(NF.out K (Za g.out)).mono ?_);rintro e3 w3 ⟨rfl,j⟩;have o:=zh (d.out _ _ j g.out);obtain⟨⟨V,X,Y,aa,ab⟩,_⟩:=id o.out;clear j;cases N)
      |(go_at_call 29;(with_reducible refine(ZG.out w3 (Za o.out)).mono ?_);rintro e4 w4 ⟨rfl,p⟩;have L:=zh (d.out _ _ p o.out);obtain⟨⟨am,an,ao,ap,aq⟩,_⟩:=id L.out;clear p))
     all_goals go_ret
     all_goals first
      |exact⟨Zbc (ZrI HA.out QW.out QN.out QK.out (QZ.out.trans Z7.out)),Za L.out⟩
      |exact⟨Zh,Za L.out⟩
      |exact⟨Zh,Za o.out⟩
      |exact⟨Zh,Za g.out⟩
      |exact⟨Zh,Za n.out⟩
   ·have tk:¬(0:Int)<(b.length:Int):=by omega
    have br:(b.length:Int)<=0:=by omega
    go_wp2_with (first
     |(go_at_call 26;(with_reducible refine(WF.out wr (Za n.out)).mono ?_);rintro e2 K ⟨rfl,c⟩;have g:=zh (d.out _ _ c n.out);obtain⟨⟨s,t,u,y,A⟩,_⟩:=id g.out;clear c;cases W)
     |(go_at_call 27;(with_reducible refine(NF.out K (Za g.out)).mono ?_);rintro e3 w3 ⟨rfl,j⟩;have o:=zh (d.out _ _ j g.out);obtain⟨⟨V,X,Y,aa,ab⟩,_⟩:=id o.out;clear j;cases N))
    all_goals go_ret
    all_goals first
     |exact⟨Zh,Za o.out⟩
     |exact⟨Zh,Za g.out⟩
     |exact⟨Zh,Za n.out⟩
  ·have r:i<b.length:=by omega
   obtain⟨z,B⟩:∃z,b[i]? = Ya z:=⟨_,Ym r⟩
   have ac:=Zcr (f:=fun k=>(isB [5]) (Zp ns k)) B h;have kk:kdR ns ⟨4,m,a,b,l⟩ i=Zp ns z:=by unfold kdR;dsimp only;rw[Zb9 B]
   have KF:=zh (fun(wz:Yh) (B:Below w.heap.size w wz)=>q.out wz B i r);rw[kk]at KF;have ti:(i:Int)<(b.length:Int)-1:=by omega
   have bq:(0:Int)<=(i:Int):=by omega
   have wk:IntKind.i64.wrap ((i:Int)+1)=(i:Int)+1:=IntWalk.i64_in _ (by have:=KL.out;unfold maxLen at this;omega);have HI:=zh (zi r (zi J ac));clear J ac B h kk S r hi;generalize Zp ns z=Z at *;cases z5:(Z==5)
   ·have u5:(Z != 5)=true:=by rw[bne,z5];rfl
    go_wp2_with (first
     |(go_at_call 29;(with_reducible refine(KF.out wr (Za n.out)).mono ?_);rintro e2 K ⟨rfl,c⟩;have g:=zh (d.out _ _ c n.out);obtain⟨⟨s,t,u,y,A⟩,_⟩:=id g.out;clear c))
    go_ret;exact⟨Zh,Za g.out⟩
   ·have u5:(Z != 5)=false:=by rw[bne,z5];rfl
    have TZ:=zh (show isB [5] Z=true from by unfold isB;rw[List.contains_cons,z5];rfl)
    go_wp2_with (first
     |(go_at_call 29;(with_reducible refine(KF.out wr (Za n.out)).mono ?_);rintro e2 K ⟨rfl,c⟩;have g:=zh (d.out _ _ c n.out);obtain⟨⟨s,t,u,y,A⟩,_⟩:=id g.out;clear c))
    go_roundg (b.length-1-(i+1))
    case measure=>have:=HI.out;omega
    case rel=>exact⟨i+1,by push_cast;rfl,by have:=HI.out;omega,rfl,HI.out.2.2.trans (TZ.out),g.out⟩
theorem ZlJ (w:Yh) (v:Yi) (ns:List Nd) (va vb vc:Yi) (m:List (List UInt8)) (a b:List Int) (l:Int) (hN:Zi w v ns) (hx:ZS w ((va,vb,vc),⟨14,m,a,b,l⟩)) (hk:Zaw b ns.length) :
  Calls Tryz.prog 30 #[v,ndV ((va,vb,vc),⟨14,m,a,b,l⟩)] w fun e w'=>OkB (ZD ns ⟨14,m,a,b,l⟩=true) e/\Below w.heap.size w w':=by
 obtain⟨h1,h2,h3⟩:=id hx;dsimp only at h1 h2 h3;obtain⟨WR,s,r,L,M⟩:=hd6 hN hx hk;obtain⟨D,I,rfl,_⟩:=h1;obtain⟨E,J,rfl,_,_,P⟩:=h2;have KL:=zh h3.len;obtain⟨F,K,rfl,_⟩:=h3;have R2:=zh P;unfold ndV at WR s r L M⊢;dsimp only at WR s r L M⊢;have j:=zh (Zcl w (Yd Yf 14) (Yc D m.length I) (Yc E a.length J) (Yc F b.length K) (Yd Yf l));have O:=Zcg w (Yd Yf 14) (Yc D m.length I) (Yc E a.length J) (Yc F b.length K) (Yd Yf l);have n:=zh O;obtain⟨⟨g0,g1,g2,g3,g4⟩,_⟩:=O;clear P hx hN hk;go_enter Tryz.func30,Tryz.ntmps30;go_upto_region 1 with fail;generalize(w.alloc (Yg #[Yd Yf 14,Yc D m.length I,Yc E a.length J,Yc F b.length K,Yd Yf l] 37))=w1 at *;go_wp2_with fail;go_loopg [8] (b.length) (fun gk vi wr=>∃i:Nat,vi=Yd Yf i/\i<=b.length/\gk=b.length-i/\Zam ns (b.take i) Zdp=true/\(wr.cell? ⟨w.heap.size,0,Yb⟩=Ya (Yd Yf 14)/\wr.cell? ⟨w.heap.size,1,Yb⟩=Ya (Yc D m.length I)/\wr.cell? ⟨w.heap.size,2,Yb⟩=Ya (Yc E a.length J)/\wr.cell? ⟨w.heap.size,3,Yb⟩=Ya (Yc F b.length K)/\wr.cell? ⟨w.heap.size,4,Yb⟩=Ya (Yd Yf l))/\Below w.heap.size w wr)
 case atStart=>exact⟨0,rfl,Nat.zero_le _,rfl,rfl,n.out⟩
 case round=>
  clear n g0 g1 g2 g3 g4;obtain⟨i,rfl,hi,t,d,hS⟩:=hrel;have n:=zh hS;obtain⟨⟨g0,g1,g2,g3,g4⟩,_⟩:=hS;by_cases Q:i=b.length
  ·have e:b.take i=b:=by rw[Q];exact List.take_length
   rw[e]at d;have HA:=zh d;have ti:¬(i:Int)<(b.length:Int):=by omega
   clear e d t;have WF:=zh (show ∀wr:Yh,Below w.heap.size w wr->Calls Tryz.prog 26 #[.agg #[Yd Yf 14,Yc D m.length I,Yc E a.length J,Yc F b.length K,Yd Yf l],Yd Yf 1,Yd Yf 2] wr fun e w'=>e=.returned (.bool (Zy ⟨14,m,a,b,l⟩ 1 2))/\Below wr.heap.size wr w' from fun wr hb=>WR.out wr hb 1 2);generalize S:Zy ⟨14,m,a,b,l⟩ 1 2=W at WF;have QW:=zh S;clear S;have NF:=zh (show ∀wr:Yh,Below w.heap.size w wr->Calls Tryz.prog 27 #[.agg #[Yd Yf 14,Yc D m.length I,Yc E a.length J,Yc F b.length K,Yd Yf l]] wr fun e w'=>e=.returned (.bool (Zai ⟨14,m,a,b,l⟩))/\Below wr.heap.size wr w' from fun wr hb=>s.out wr hb);generalize R:Zai ⟨14,m,a,b,l⟩=N at NF;have QN:=zh R;clear R
   go_wp2_with (first
    |(go_at_call 26;(with_reducible refine(WF.out wr (Za n.out)).mono ?_);rintro e2 q ⟨rfl,c⟩;have h:=zh (j.out _ _ c n.out);obtain⟨⟨u,y,A,B,C⟩,_⟩:=id h.out;clear c;cases W)
    |(go_at_call 27;(with_reducible refine(NF.out q (Za h.out)).mono ?_);rintro e3 w3 ⟨rfl,g⟩;have o:=zh (j.out _ _ g h.out);obtain⟨⟨U,V,Y,aa,ab⟩,_⟩:=id o.out;clear g;cases N))
   all_goals go_ret
   all_goals first
    |exact⟨Zbc (ZqD HA.out QW.out QN.out),Za o.out⟩
    |exact⟨Zh,Za o.out⟩
    |exact⟨Zh,Za h.out⟩
    |exact⟨Zh,Za n.out⟩
  ·have p:i<b.length:=by omega
   obtain⟨z,T⟩:∃z,b[i]? = Ya z:=⟨_,Ym p⟩
   have ac:=Zcr (f:=fun k=>Zdp (Zp ns k)) T d;have kk:kdR ns ⟨14,m,a,b,l⟩ i=Zp ns z:=by unfold kdR;dsimp only;rw[Zb9 T]
   have H:=zh (fun(wz:Yh) (T:Below w.heap.size w wz)=>r.out wz T i p);rw[kk]at H;have ti:(i:Int)<(b.length:Int):=by omega
   have bg:(0:Int)<=(i:Int):=by omega
   have wk:IntKind.i64.wrap ((i:Int)+1)=(i:Int)+1:=IntWalk.i64_in _ (by have:=KL.out;unfold maxLen at this;omega);have G:=zh (zi p (zi t ac));clear t ac T d kk Q p hi;generalize Zp ns z=Z at *;have SF:=zh (fun wr=>Zc5 wr Z);generalize hq:ZF Z=X at SF;have TX:=zh hq;clear hq;cases X
   ·cases z15:(Z==15)
    ·have aj:(Z != 15)=true:=by rw[bne,z15];rfl
     go_wp2_with (first
      |(go_at_call 29;(with_reducible refine(H.out wr (Za n.out)).mono ?_);rintro e2 q ⟨rfl,c⟩;have h:=zh (j.out _ _ c n.out);obtain⟨⟨u,y,A,B,C⟩,_⟩:=id h.out;clear c)
      |(go_at_call 28;(with_reducible refine(SF.out q).mono ?_);rintro _ _ ⟨rfl,rfl⟩)
      |(go_at_call 29;(with_reducible refine(H.out q (Za h.out)).mono ?_);rintro e3 w3 ⟨rfl,g⟩;have o:=zh (j.out _ _ g h.out);obtain⟨⟨U,V,Y,aa,ab⟩,_⟩:=id o.out;clear g))
     go_ret;exact⟨Zh,Za o.out⟩
    ·have aj:(Z != 15)=false:=by rw[bne,z15];rfl
     have TZ:=zh (show Zdp Z=true from by unfold Zdp;rw[z15];rfl)
     go_wp2_with (first
      |(go_at_call 29;(with_reducible refine(H.out wr (Za n.out)).mono ?_);rintro e2 q ⟨rfl,c⟩;have h:=zh (j.out _ _ c n.out);obtain⟨⟨u,y,A,B,C⟩,_⟩:=id h.out;clear c)
      |(go_at_call 28;(with_reducible refine(SF.out q).mono ?_);rintro _ _ ⟨rfl,rfl⟩)
      |(go_at_call 29;(with_reducible refine(H.out q (Za h.out)).mono ?_);rintro e3 w3 ⟨rfl,g⟩;have o:=zh (j.out _ _ g h.out);obtain⟨⟨U,V,Y,aa,ab⟩,_⟩:=id o.out;clear g))
     go_roundg (b.length-(i+1))
     case measure=>have:=G.out;omega
     case rel=>exact⟨i+1,by push_cast;rfl,by have:=G.out;omega,rfl,G.out.2.2.trans (TZ.out),o.out⟩
   ·have TZ:=zh (show Zdp Z=true from by unfold Zdp;rw[TX.out,Bool.or_true])
    go_wp2_with (first
     |(go_at_call 29;(with_reducible refine(H.out wr (Za n.out)).mono ?_);rintro e2 q ⟨rfl,c⟩;have h:=zh (j.out _ _ c n.out);obtain⟨⟨u,y,A,B,C⟩,_⟩:=id h.out;clear c)
     |(go_at_call 28;(with_reducible refine(SF.out q).mono ?_);rintro _ _ ⟨rfl,rfl⟩))
    go_roundg (b.length-(i+1))
    case measure=>have:=G.out;omega
    case rel=>exact⟨i+1,by push_cast;rfl,by have:=G.out;omega,rfl,G.out.2.2.trans (TZ.out),h.out⟩
end
section
open Go.RowKit
theorem Znj {P:Prop} {b:Bool} (h:b=true->P):OkB P (.returned (.bool b)):=⟨b,rfl,h⟩
theorem ZkZ (w:Yh) (v:Yi) (ns:List Nd) (A B C:Yi) (f:List (List UInt8)) (a c:List Int) (d:Int) (z:Zi w v ns) (hx:ZS w ((A,B,C),⟨5,f,a,c,d⟩)) (hk:Zaw c ns.length) :
  Calls Tryz.prog 25 #[v,ndV ((A,B,C),⟨5,f,a,c,d⟩)] w fun e w'=>OkB (ZD ns ⟨5,f,a,c,d⟩=true) e/\Below w.heap.size w w':=by
 obtain⟨F,G,y⟩:=id hx;dsimp only at F G y;obtain⟨E,k,j,g,h⟩:=hd6 z hx hk;have r:=zh (fun(wr:Yh) (H:Below w.heap.size w wr)=>Zk4 wr v ns A B C f a c d (z.below H) (hx.below H) hk);obtain⟨n,s,rfl,_⟩:=F;obtain⟨o,t,rfl,_,_,l⟩:=G;have K:=zh y.len;obtain⟨p,u,rfl,_⟩:=y;have L:=zh l;unfold ndV at E k j g h r⊢;dsimp only at E k j g h r⊢;have I:=zh (Zcl w (Yd Yf 5) (.slice n f.length s) (.slice o a.length t) (.slice p c.length u) (Yd Yf d));have i:=Zcg w (Yd Yf 5) (.slice n f.length s) (.slice o a.length t) (.slice p c.length u) (Yd Yf d);have q:=zh i;obtain⟨⟨M,N,O,P,Q⟩,_⟩:=i;clear l hx z hk;go_enter Tryz.func25,Tryz.ntmps25;go_upto_region 1 with fail;generalize(w.alloc (Yg #[Yd Yf 5,.slice n f.length s,.slice o a.length t,.slice p c.length u,Yd Yf d] 37))=J at *;go_wp2_with (go_at_call 55;(with_reducible refine(r.out J (Za q.out)).mono ?_);rintro ea R ⟨⟨b,rfl,hq⟩,m⟩;have D:=zh (zi hq ((Za q.out).trans (m.mono (Za q.out).size)));clear hq m);go_ret;exact⟨Znj D.out.1,D.out.2⟩
theorem ZnJ (w:Yh) (v:Yi) (ns:List Nd) (g h i:Yi) (b:Int) (f:List (List UInt8)) (a c:List Int) (d:Int) (j:Zi w v ns) (hx:ZS w ((g,h,i),⟨b,f,a,c,d⟩)) (hk:Zaw c ns.length) (r:0<=b) (s:b<=6) :
  Calls Tryz.prog 25 #[v,ndV ((g,h,i),⟨b,f,a,c,d⟩)] w fun e w'=>OkB (ZD ns ⟨b,f,a,c,d⟩=true) e/\Below w.heap.size w w':=by
 by_cases k:b=0
 ·subst k;exact Zji w v ns g h i f a c d j hx hk
 by_cases l:b=1
 ·subst l;exact Zk0 w v ns g h i f a c d j hx hk
 by_cases m:b=2
 ·subst m;exact Zk1 w v ns g h i f a c d j hx hk
 by_cases n:b=3
 ·subst n;exact Zpl w v ns g h i f a c d j hx hk
 by_cases o:b=4
 ·subst o;exact Zpk w v ns g h i f a c d j hx hk
 by_cases p:b=5
 ·subst p;exact ZkZ w v ns g h i f a c d j hx hk
 by_cases q:b=6
 ·subst q;exact ZkY w v ns g h i f a c d j hx hk
 omega
theorem ZnD (w:Yh) (v:Yi) (ns:List Nd) (g h i:Yi) (b:Int) (f:List (List UInt8)) (a c:List Int) (d:Int) (j:Zi w v ns) (hx:ZS w ((g,h,i),⟨b,f,a,c,d⟩)) (hk:Zaw c ns.length) (A:7<=b) (B:b<=19) (t:b≠15) :
  Calls Tryz.prog 30 #[v,ndV ((g,h,i),⟨b,f,a,c,d⟩)] w fun e w'=>OkB (ZD ns ⟨b,f,a,c,d⟩=true) e/\Below w.heap.size w w':=by
 by_cases u:b=7
 ·subst u;exact ZkR w v ns g h i f a c d j hx hk
 by_cases y:b=8
 ·subst y;exact ZnE w v ns g h i f a c d j hx hk
 by_cases z:b=9
 ·subst z;exact ZnF w v ns g h i f a c d j hx hk
 by_cases k:b=10
 ·subst k;exact ZlM w v ns g h i f a c d j hx hk
 by_cases l:b=11
 ·subst l;exact Zo7 w v ns g h i f a c d j hx hk
 by_cases m:b=12
 ·subst m;exact ZlK w v ns g h i f a c d j hx hk
 by_cases n:b=13
 ·subst n;exact ZkS w v ns g h i f a c d j hx hk
 by_cases o:b=14
 ·subst o;exact ZlJ w v ns g h i f a c d j hx hk
 by_cases p:b=16
 ·subst p;exact Zo8 w v ns g h i f a c d j hx hk
 by_cases q:b=17
 ·subst q;exact ZkT w v ns g h i f a c d j hx hk
 by_cases r:b=18
 ·subst r;exact Zj8 w v ns g h i f a c d j hx hk
 by_cases s:b=19
 ·subst s;exact ZlL w v ns g h i f a c d j hx hk
 omega
theorem Zpf (w:Yh) (v:Yi) (ns:List Nd) (A B C:Yi) (b:Int) (f:List (List UInt8)) (a c:List Int) (d:Int) (z:Zi w v ns) (hx:ZS w ((A,B,C),⟨b,f,a,c,d⟩)) (hk:Zaw c ns.length) (M:b<0) :
  Calls Tryz.prog 15 #[v,ndV ((A,B,C),⟨b,f,a,c,d⟩)] w fun e w'=>OkB (ZD ns ⟨b,f,a,c,d⟩=true) e/\Below w.heap.size w w':=by
 obtain⟨u,y,s⟩:=id hx;dsimp only at u y s;obtain⟨t,k,j,g,h⟩:=hd6 z hx hk;obtain⟨m,p,rfl,_⟩:=u;obtain⟨n,q,rfl,_,_,l⟩:=y;have F:=zh s.len;obtain⟨o,r,rfl,_⟩:=s;have G:=zh l;unfold ndV at t k j g h⊢;dsimp only at t k j g h⊢;have E:=zh (Zcl w (Yd Yf b) (.slice m f.length p) (.slice n a.length q) (.slice o c.length r) (Yd Yf d));have i:=Zcg w (Yd Yf b) (.slice m f.length p) (.slice n a.length q) (.slice o c.length r) (Yd Yf d);have D:=zh i;obtain⟨⟨H,I,J,K,L⟩,_⟩:=i;clear l hx z hk;go_enter Tryz.func15,Tryz.ntmps15;go_upto_region 1 with fail;generalize(w.alloc (Yg #[Yd Yf b,.slice m f.length p,.slice n a.length q,.slice o c.length r,Yd Yf d] 37))=N at *;go_wp2_with fail;go_ret;exact⟨Zh,Za D.out⟩
theorem ZnI (w:Yh) (v:Yi) (ns:List Nd) (A B C:Yi) (b:Int) (f:List (List UInt8)) (a c:List Int) (d:Int) (z:Zi w v ns) (hx:ZS w ((A,B,C),⟨b,f,a,c,d⟩)) (hk:Zaw c ns.length) (N:23<b) :
  Calls Tryz.prog 15 #[v,ndV ((A,B,C),⟨b,f,a,c,d⟩)] w fun e w'=>OkB (ZD ns ⟨b,f,a,c,d⟩=true) e/\Below w.heap.size w w':=by
 obtain⟨u,y,s⟩:=id hx;dsimp only at u y s;obtain⟨t,k,j,g,h⟩:=hd6 z hx hk;obtain⟨m,p,rfl,_⟩:=u;obtain⟨n,q,rfl,_,_,l⟩:=y;have F:=zh s.len;obtain⟨o,r,rfl,_⟩:=s;have G:=zh l;unfold ndV at t k j g h⊢;dsimp only at t k j g h⊢;have E:=zh (Zcl w (Yd Yf b) (.slice m f.length p) (.slice n a.length q) (.slice o c.length r) (Yd Yf d));have i:=Zcg w (Yd Yf b) (.slice m f.length p) (.slice n a.length q) (.slice o c.length r) (Yd Yf d);have D:=zh i;obtain⟨⟨H,I,J,K,L⟩,_⟩:=i;clear l hx z hk;have M:0<=b:=by omega
 go_enter Tryz.func15,Tryz.ntmps15;go_upto_region 1 with fail;generalize(w.alloc (Yg #[Yd Yf b,.slice m f.length p,.slice n a.length q,.slice o c.length r,Yd Yf d] 37))=O at *;go_wp2_with fail;go_ret;exact⟨Zh,Za D.out⟩
theorem ZlP (w:Yh) (v:Yi) (ns:List Nd) (B C D:Yi) (c:Int) (g:List (List UInt8)) (a d:List Int) (f:Int) (A:Zi w v ns) (hx:ZS w ((B,C,D),⟨c,g,a,d,f⟩)) (hk:Zaw d ns.length) (K:0<=c) (L:c<=6) :
  Calls Tryz.prog 15 #[v,ndV ((B,C,D),⟨c,g,a,d,f⟩)] w fun e w'=>OkB (ZD ns ⟨c,g,a,d,f⟩=true) e/\Below w.heap.size w w':=by
 obtain⟨G,H,z⟩:=id hx;dsimp only at G H z;obtain⟨F,l,k,h,i⟩:=hd6 A hx hk;have r:=zh (fun(wr:Yh) (I:Below w.heap.size w wr)=>ZnJ wr v ns B C D c g a d f (A.below I) (hx.below I) hk K L);obtain⟨o,t,rfl,_⟩:=G;obtain⟨p,u,rfl,_,_,m⟩:=H;have N:=zh z.len;obtain⟨q,y,rfl,_⟩:=z;have O:=zh m;unfold ndV at F l k h i r⊢;dsimp only at F l k h i r⊢;have J:=zh (Zcl w (Yd Yf c) (.slice o g.length t) (.slice p a.length u) (.slice q d.length y) (Yd Yf f));have j:=Zcg w (Yd Yf c) (.slice o g.length t) (.slice p a.length u) (.slice q d.length y) (Yd Yf f);have s:=zh j;obtain⟨⟨P,Q,R,S,T⟩,_⟩:=j;clear m hx A hk;have U:c<=23:=by omega
 go_enter Tryz.func15,Tryz.ntmps15;go_upto_region 1 with fail;generalize(w.alloc (Yg #[Yd Yf c,.slice o g.length t,.slice p a.length u,.slice q d.length y,Yd Yf f] 37))=M at *;go_wp2_with (go_at_call 25;(with_reducible refine(r.out M (Za s.out)).mono ?_);rintro ea V ⟨⟨b,rfl,hq⟩,n⟩;have E:=zh (zi hq ((Za s.out).trans (n.mono (Za s.out).size)));clear hq n);go_ret;exact⟨Znj E.out.1,E.out.2⟩
theorem ZlO (w:Yh) (v:Yi) (ns:List Nd) (C D E:Yi) (c:Int) (g:List (List UInt8)) (a d:List Int) (f:Int) (B:Zi w v ns) (hx:ZS w ((C,D,E),⟨c,g,a,d,f⟩)) (hk:Zaw d ns.length) (Q:7<=c) (R:c<=19) (z:c≠15) :
  Calls Tryz.prog 15 #[v,ndV ((C,D,E),⟨c,g,a,d,f⟩)] w fun e w'=>OkB (ZD ns ⟨c,g,a,d,f⟩=true) e/\Below w.heap.size w w':=by
 obtain⟨H,I,A⟩:=id hx;dsimp only at H I A;obtain⟨G,l,k,h,i⟩:=hd6 B hx hk;have r:=zh (fun(wr:Yh) (J:Below w.heap.size w wr)=>ZnD wr v ns C D E c g a d f (B.below J) (hx.below J) hk Q R z);obtain⟨o,t,rfl,_⟩:=H;obtain⟨p,u,rfl,_,_,m⟩:=I;have T:=zh A.len;obtain⟨q,y,rfl,_⟩:=A;have U:=zh m;unfold ndV at G l k h i r⊢;dsimp only at G l k h i r⊢;have K:=zh (Zcl w (Yd Yf c) (.slice o g.length t) (.slice p a.length u) (.slice q d.length y) (Yd Yf f));have j:=Zcg w (Yd Yf c) (.slice o g.length t) (.slice p a.length u) (.slice q d.length y) (Yd Yf f);have s:=zh j;obtain⟨⟨V,W,X,Y,Z⟩,_⟩:=j;clear m hx B hk;have q1:0<=c:=by omega
 have q2:c<=23:=by omega
 have q3:6<c:=by omega
 have L:(c==15)=false:=by rw[beq_eq_false_iff_ne];omega
 have N:(c==21)=false:=by rw[beq_eq_false_iff_ne];omega
 have M:(c==20)=false:=by rw[beq_eq_false_iff_ne];omega
 have O:(c==22)=false:=by rw[beq_eq_false_iff_ne];omega
 have P:(c==23)=false:=by rw[beq_eq_false_iff_ne];omega
 go_enter Tryz.func15,Tryz.ntmps15;go_upto_region 1 with fail;generalize(w.alloc (Yg #[Yd Yf c,.slice o g.length t,.slice p a.length u,.slice q d.length y,Yd Yf f] 37))=S at *;go_wp2_with (go_at_call 30;(with_reducible refine(r.out S (Za s.out)).mono ?_);rintro ea wa ⟨⟨b,rfl,hq⟩,n⟩;have F:=zh (zi hq ((Za s.out).trans (n.mono (Za s.out).size)));clear hq n);go_ret;exact⟨Znj F.out.1,F.out.2⟩
theorem Zpd (w:Yh) (v:Yi) (ns:List Nd) (x:NdV×Nd) (c:Zi w v ns) (hx:ZS w x) (hk:Zaw x.2.kids ns.length) :
  Calls Tryz.prog 15 #[v,ndV x] w fun e w'=>OkB (ZD ns x.2=true) e/\Below w.heap.size w w':=by
 obtain⟨⟨g,h,i⟩,b,j,a,d,f⟩:=x;by_cases p:b<0
 ·exact Zpf w v ns g h i b j a d f c hx hk p
 by_cases q:23<b
 ·exact ZnI w v ns g h i b j a d f c hx hk q
 by_cases r:b<=6
 ·exact ZlP w v ns g h i b j a d f c hx hk (by omega) r
 by_cases k:b=15
 ·subst k;exact ZkX w v ns g h i j a d f c hx hk
 by_cases m:b=21
 ·subst m;exact Zpi w v ns g h i j a d f c hx hk
 by_cases l:b=20
 ·subst l;exact Zph w v ns g h i j a d f c hx hk
 by_cases n:b=22
 ·subst n;exact Zpe w v ns g h i j a d f c hx hk
 by_cases o:b=23
 ·subst o;exact Zpg w v ns g h i j a d f c hx hk
 exact ZlO w v ns g h i b j a d f c hx hk (by omega) (by omega) k
end
end Go.Proofs.YtfbepcelkijgkaaGreatDoor
