import Derived.Deep.DeepFit
import Derived.Test.YtdkegpkfjgloeaaGreatDoorRows
import Derived.ProofKit
import Derived.Below
import Derived.Lib.SmallJoins
import Derived.OpenShut
import Derived.WalkKit
import Derived.ChangeSlices
import Derived.SliceStrings
import Derived.Deep.Slices
import Derived.SizedLaws
import Derived.Test.YtdkegpkfjgloeaaGreatDoorQAI
import Derived.Test.YtdkegpkfjgloeaaGreatDoorQAK
import Derived.Test.YtdkegpkfjgloeaaGreatDoorQAL
set_option maxRecDepth 100000
set_option maxHeartbeats 8000000
open Option renaming some → Ya, none → Yb
open Go.Value renaming slice → Yc, int → Yd
open Go.IntKind renaming i64 → Yf
open Go.Obj renaming cells → Yg
open Go renaming World → Yh, Value → Yi
namespace Go.Proofs.YtdkegpkfjgloeaaGreatDoor
section
open Go.RowKit
theorem Zk4 (w:Yh) (v:Yi) (ns:List Nd) (va vb vc:Yi) (i:List (List UInt8)) (a f:List Int) (h:Int) (hN:Zi w v ns) (hx:ZU w ((va,vb,vc),⟨2,i,a,f,h⟩)) (hk:ZaB f ns.length) :
  Calls Tryz.prog 21 #[v,ndV ((va,vb,vc),⟨2,i,a,f,h⟩)] w fun e w'=>OkB (ZE ns ⟨2,i,a,f,h⟩=true) e/\Below w.heap.size w w':=by
 obtain⟨Z,h2,T⟩:=id hx;dsimp only at Z h2 T;obtain⟨S,H,F,C,D⟩:=hd6 hN hx hk;obtain⟨s,u,rfl,_⟩:=Z;obtain⟨M,z,rfl,_,_,I⟩:=h2;have KL:=zh T.len;obtain⟨t,A,rfl,_⟩:=T;have Y:=zh I;unfold ndV at S H F C D⊢;dsimp only at S H F C D⊢;have j:=zh (ZcE w (Yd Yf 2) (.slice s i.length u) (Yc M a.length z) (.slice t f.length A) (Yd Yf h));have E:=ZcA w (Yd Yf 2) (.slice s i.length u) (Yc M a.length z) (.slice t f.length A) (Yd Yf h);have g:=zh E;obtain⟨⟨g0,g1,g2,g3,g4⟩,_⟩:=E;clear I hx hN hk;have WF:=zh (show ∀wr:Yh,Below w.heap.size w wr->Calls Tryz.prog 22 #[.agg #[Yd Yf 2,.slice s i.length u,Yc M a.length z,.slice t f.length A,Yd Yf h],Yd Yf 1,Yd Yf 1] wr fun e w'=>e=.returned (.bool (ZA ⟨2,i,a,f,h⟩ 1 1))/\Below wr.heap.size wr w' from fun wr U=>S.out wr U 1 1);generalize J:ZA ⟨2,i,a,f,h⟩ 1 1=W at WF;have X:=zh J;clear J;by_cases qn:a.length=1
 ·have tn:((a.length:Int)==1)=true:=by rw[beq_iff_eq];omega
  have ai:(0:Int)<(a.length:Int):=by omega
  obtain⟨y,N⟩:=List.length_eq_one_iff.mp qn;obtain⟨d,rfl,y1⟩:=ints_at (x:=y) Y.out (Za g.out) (k:=0) (by rw[N];rfl) (by omega);rw[show d.add 0=d by unfold Addr.add;simp]at y1;have G:=zh (fun(wr:Yh) (U:Below w.heap.size w wr)=>show wr.cell? d=Ya (Yd Yf y)from by obtain⟨a2,B,q2⟩:=ints_at (x:=y) Y.out U (k:=0) (by rw[N];rfl) (by omega);injection B with B;subst B;rwa[show d.add 0=d by unfold Addr.add;simp]at q2);have V:=zh N;clear N qn;by_cases L:y=0
  ·have ty:(y==0)=true:=by rw[beq_iff_eq];exact L
   have R:=zh (Or.inl L:y=0\/y=1);clear L;by_cases K:f.length=0
   ·have tk:((f.length:Int)==0)=true:=by rw[beq_iff_eq];omega
    have Q:=zh K;clear K;go_enter Tryz.func21,Tryz.ntmps21;go_upto_region 1 with fail;generalize(w.alloc (Yg #[Yd Yf 2,.slice s i.length u,Yc (Ya d) a.length z,.slice t f.length A,Yd Yf h] 36))=q at *
    go_wp2_with (first
     |(go_at_call 22;go_fit (WF.out q (Za g.out));rintro B r ⟨rfl,b⟩;have c:=zh (j.out _ _ b g.out);obtain⟨⟨l,m,n,o,p⟩,_⟩:=id c.out;have P:=G.out r (Za c.out);clear b;cases W))
    all_goals go_ret
    all_goals first
     |exact⟨Zbm (Zj0 X.out V.out R.out Q.out),Za c.out⟩
     |exact⟨Zh,Za c.out⟩
     |exact⟨Zh,Za g.out⟩
   ·have tk:((f.length:Int)==0)=false:=by rw[beq_eq_false_iff_ne];omega
    go_enter Tryz.func21,Tryz.ntmps21;go_upto_region 1 with fail;generalize(w.alloc (Yg #[Yd Yf 2,.slice s i.length u,Yc (Ya d) a.length z,.slice t f.length A,Yd Yf h] 36))=q at *
    go_wp2_with (first
     |(go_at_call 22;go_fit (WF.out q (Za g.out));rintro B r ⟨rfl,b⟩;have c:=zh (j.out _ _ b g.out);obtain⟨⟨l,m,n,o,p⟩,_⟩:=id c.out;have P:=G.out r (Za c.out);clear b;cases W))
    all_goals go_ret
    all_goals first
     |exact⟨Zh,Za c.out⟩
     |exact⟨Zh,Za g.out⟩
  ·have ty:(y==0)=false:=by rw[beq_eq_false_iff_ne];exact L
   by_cases O:y=1
   ·have tz:(y==1)=true:=by rw[beq_iff_eq];exact O
    have R:=zh (Or.inr O:y=0\/y=1);clear L O;by_cases K:f.length=0
    ·have tk:((f.length:Int)==0)=true:=by rw[beq_iff_eq];omega
     have Q:=zh K;clear K;go_enter Tryz.func21,Tryz.ntmps21;go_upto_region 1 with fail;generalize(w.alloc (Yg #[Yd Yf 2,.slice s i.length u,Yc (Ya d) a.length z,.slice t f.length A,Yd Yf h] 36))=q at *
     go_wp2_with (first
      |(go_at_call 22;go_fit (WF.out q (Za g.out));rintro B r ⟨rfl,b⟩;have c:=zh (j.out _ _ b g.out);obtain⟨⟨l,m,n,o,p⟩,_⟩:=id c.out;have P:=G.out r (Za c.out);clear b;cases W))
     all_goals go_ret
     all_goals first
      |exact⟨Zbm (Zj0 X.out V.out R.out Q.out),Za c.out⟩
      |exact⟨Zh,Za c.out⟩
      |exact⟨Zh,Za g.out⟩
    ·have tk:((f.length:Int)==0)=false:=by rw[beq_eq_false_iff_ne];omega
     go_enter Tryz.func21,Tryz.ntmps21;go_upto_region 1 with fail;generalize(w.alloc (Yg #[Yd Yf 2,.slice s i.length u,Yc (Ya d) a.length z,.slice t f.length A,Yd Yf h] 36))=q at *
     go_wp2_with (first
      |(go_at_call 22;go_fit (WF.out q (Za g.out));rintro B r ⟨rfl,b⟩;have c:=zh (j.out _ _ b g.out);obtain⟨⟨l,m,n,o,p⟩,_⟩:=id c.out;have P:=G.out r (Za c.out);clear b;cases W))
     all_goals go_ret
     all_goals first
      |exact⟨Zh,Za c.out⟩
      |exact⟨Zh,Za g.out⟩
   ·have tz:(y==1)=false:=by rw[beq_eq_false_iff_ne];exact O
    go_enter Tryz.func21,Tryz.ntmps21;go_upto_region 1 with fail;generalize(w.alloc (Yg #[Yd Yf 2,.slice s i.length u,Yc (Ya d) a.length z,.slice t f.length A,Yd Yf h] 36))=q at *
    go_wp2_with (first
     |(go_at_call 22;go_fit (WF.out q (Za g.out));rintro B r ⟨rfl,b⟩;have c:=zh (j.out _ _ b g.out);obtain⟨⟨l,m,n,o,p⟩,_⟩:=id c.out;have P:=G.out r (Za c.out);clear b;cases W))
    all_goals go_ret
    all_goals first
     |exact⟨Zh,Za c.out⟩
     |exact⟨Zh,Za g.out⟩
 ·have tn:((a.length:Int)==1)=false:=by rw[beq_eq_false_iff_ne];omega
  go_enter Tryz.func21,Tryz.ntmps21;go_upto_region 1 with fail;generalize(w.alloc (Yg #[Yd Yf 2,.slice s i.length u,Yc M a.length z,.slice t f.length A,Yd Yf h] 36))=q at *
  go_wp2_with (first
   |(go_at_call 22;go_fit (WF.out q (Za g.out));rintro B r ⟨rfl,b⟩;have c:=zh (j.out _ _ b g.out);obtain⟨⟨l,m,n,o,p⟩,_⟩:=id c.out;clear b;cases W))
  all_goals go_ret
  all_goals first
   |exact⟨Zh,Za c.out⟩
   |exact⟨Zh,Za g.out⟩
theorem ZpB (w:Yh) (v:Yi) (ns:List Nd) (Z vb vc:Yi) (d:List (List UInt8)) (a b:List Int) (f:Int) (X:Zi w v ns) (hx:ZU w ((Z,vb,vc),⟨3,d,a,b,f⟩)) (hk:ZaB b ns.length) :
  Calls Tryz.prog 21 #[v,ndV ((Z,vb,vc),⟨3,d,a,b,f⟩)] w fun e w'=>OkB (ZE ns ⟨3,d,a,b,f⟩=true) e/\Below w.heap.size w w':=by
 obtain⟨U,V,L⟩:=id hx;dsimp only at U V L;obtain⟨K,n,y,s,t⟩:=hd6 X hx hk;obtain⟨k,o,rfl,_⟩:=U;obtain⟨l,p,rfl,_,_,z⟩:=V;have KL:=zh L.len;obtain⟨m,q,rfl,_⟩:=L;have R2:=zh z;unfold ndV at K n y s t⊢;dsimp only at K n y s t⊢;have h:=zh (ZcE w (Yd Yf 3) (.slice k d.length o) (.slice l a.length p) (.slice m b.length q) (Yd Yf f));have u:=ZcA w (Yd Yf 3) (.slice k d.length o) (.slice l a.length p) (.slice m b.length q) (Yd Yf f);have j:=zh u;obtain⟨⟨g0,g1,g2,g3,g4⟩,_⟩:=u;clear z hx X hk;have WF:=zh (show ∀wr:Yh,Below w.heap.size w wr->Calls Tryz.prog 22 #[.agg #[Yd Yf 3,.slice k d.length o,.slice l a.length p,.slice m b.length q,Yd Yf f],Yd Yf 4,Yd Yf 1500] wr fun e w'=>e=.returned (.bool (ZA ⟨3,d,a,b,f⟩ 4 1500))/\Below wr.heap.size wr w' from fun wr M=>K.out wr M 4 1500);generalize B:ZA ⟨3,d,a,b,f⟩ 4 1500=W at WF;have QW:=zh B;clear B;by_cases qe:d.length % 2=0
 ·have te:(d.length:Int).tmod 2=0:=by rw[Int.tmod_eq_emod_of_nonneg (by omega)];omega
  have J:=zh (show ∀wr:Yh,Below w.heap.size w wr->Calls Tryz.prog 23 #[.agg #[Yd Yf 3,.slice k d.length o,.slice l a.length p,.slice m b.length q,Yd Yf f]] wr fun e w'=>e=.returned (.bool (Zan ⟨3,d,a,b,f⟩))/\Below wr.heap.size wr w' from fun wr M=>n.out wr M);generalize A:Zan ⟨3,d,a,b,f⟩=N at J;have QN:=zh A;clear A;by_cases Y:b.length=0
  ·have tk:((b.length:Int)==0)=true:=by rw[beq_iff_eq];omega
   have QK:=zh Y;clear Y;go_enter Tryz.func21,Tryz.ntmps21;go_upto_region 1 with fail;generalize(w.alloc (Yg #[Yd Yf 3,.slice k d.length o,.slice l a.length p,.slice m b.length q,Yd Yf f] 36))=H at *
   go_wp2_with (first
    |(go_at_call 22;go_fit (WF.out H (Za j.out));rintro T I ⟨rfl,c⟩;have g:=zh (h.out _ _ c j.out);obtain⟨⟨C,D,E,F,G⟩,_⟩:=id g.out;clear c;cases W)
    |(go_at_call 23;go_fit (J.out I (Za g.out));rintro e3 w3 ⟨rfl,i⟩;have r:=zh (h.out _ _ i g.out);obtain⟨⟨O,P,Q,R,S⟩,_⟩:=id r.out;clear i;cases N))
   all_goals go_ret
   all_goals first
    |exact⟨Zbm (ZsD QW.out qe QN.out QK.out),Za r.out⟩
    |exact⟨Zh,Za r.out⟩
    |exact⟨Zh,Za g.out⟩
    |exact⟨Zh,Za j.out⟩
  ·have tk:((b.length:Int)==0)=false:=by rw[beq_eq_false_iff_ne];omega
   go_enter Tryz.func21,Tryz.ntmps21;go_upto_region 1 with fail;generalize(w.alloc (Yg #[Yd Yf 3,.slice k d.length o,.slice l a.length p,.slice m b.length q,Yd Yf f] 36))=H at *
   go_wp2_with (first
    |(go_at_call 22;go_fit (WF.out H (Za j.out));rintro T I ⟨rfl,c⟩;have g:=zh (h.out _ _ c j.out);obtain⟨⟨C,D,E,F,G⟩,_⟩:=id g.out;clear c;cases W)
    |(go_at_call 23;go_fit (J.out I (Za g.out));rintro e3 w3 ⟨rfl,i⟩;have r:=zh (h.out _ _ i g.out);obtain⟨⟨O,P,Q,R,S⟩,_⟩:=id r.out;clear i;cases N))
   all_goals go_ret
   all_goals first
    |exact⟨Zh,Za r.out⟩
    |exact⟨Zh,Za g.out⟩
    |exact⟨Zh,Za j.out⟩
 ·have te:(d.length:Int).tmod 2=1:=by rw[Int.tmod_eq_emod_of_nonneg (by omega)];omega
  go_enter Tryz.func21,Tryz.ntmps21;go_upto_region 1 with fail;generalize(w.alloc (Yg #[Yd Yf 3,.slice k d.length o,.slice l a.length p,.slice m b.length q,Yd Yf f] 36))=H at *
  go_wp2_with (first
   |(go_at_call 22;go_fit (WF.out H (Za j.out));rintro T I ⟨rfl,c⟩;have g:=zh (h.out _ _ c j.out);obtain⟨⟨C,D,E,F,G⟩,_⟩:=id g.out;clear c;cases W))
  all_goals go_ret
  all_goals first
   |exact⟨Zh,Za g.out⟩
   |exact⟨Zh,Za j.out⟩
theorem Zk1 (w:Yh) (v:Yi) (ns:List Nd) (X Y Z:Yi) (i:List (List UInt8)) (a f:List Int) (h:Int) (T:Zi w v ns) (hx:ZU w ((X,Y,Z),⟨6,i,a,f,h⟩)) (hk:ZaB f ns.length) :
  Calls Tryz.prog 21 #[v,ndV ((X,Y,Z),⟨6,i,a,f,h⟩)] w fun e w'=>OkB (ZE ns ⟨6,i,a,f,h⟩=true) e/\Below w.heap.size w w':=by
 obtain⟨R,S,N⟩:=id hx;dsimp only at R S N;obtain⟨M,G,F,C,D⟩:=hd6 T hx hk;obtain⟨r,t,rfl,_⟩:=R;obtain⟨J,u,rfl,_,_,H⟩:=S;have KL:=zh N.len;obtain⟨s,z,rfl,_⟩:=N;have Q:=zh H;unfold ndV at M G F C D⊢;dsimp only at M G F C D⊢;have j:=zh (ZcE w (Yd Yf 6) (.slice r i.length t) (Yc J a.length u) (.slice s f.length z) (Yd Yf h));have E:=ZcA w (Yd Yf 6) (.slice r i.length t) (Yc J a.length u) (.slice s f.length z) (Yd Yf h);have g:=zh E;obtain⟨⟨g0,g1,g2,g3,g4⟩,_⟩:=E;clear H hx T hk;have WF:=zh (show ∀wr:Yh,Below w.heap.size w wr->Calls Tryz.prog 22 #[.agg #[Yd Yf 6,.slice r i.length t,Yc J a.length u,.slice s f.length z,Yd Yf h],Yd Yf 1,Yd Yf 1500] wr fun e w'=>e=.returned (.bool (ZA ⟨6,i,a,f,h⟩ 1 1500))/\Below wr.heap.size wr w' from fun wr O=>M.out wr O 1 1500);generalize I:ZA ⟨6,i,a,f,h⟩ 1 1500=W at WF;have QW:=zh I;clear I;by_cases V:a.length=1
 ·have tn:((a.length:Int)==1)=true:=by rw[beq_iff_eq];omega
  have ah:(0:Int)<(a.length:Int):=by omega
  obtain⟨y,L⟩:=List.length_eq_one_iff.mp V;obtain⟨d,rfl,y1⟩:=ints_at (x:=y) Q.out (Za g.out) (k:=0) (by rw[L];rfl) (by omega);rw[show d.add 0=d by unfold Addr.add;simp]at y1;have K:=zh (fun(wr:Yh) (O:Below w.heap.size w wr)=>show wr.cell? d=Ya (Yd Yf y)from by obtain⟨a2,A,q2⟩:=ints_at (x:=y) Q.out O (k:=0) (by rw[L];rfl) (by omega);injection A with A;subst A;rwa[show d.add 0=d by unfold Addr.add;simp]at q2);have HY:=zh L;clear L V;by_cases qy:0<=y
  ·by_cases qz:y<=2
   ·by_cases U:f.length=0
    ·have tk:((f.length:Int)==0)=true:=by rw[beq_iff_eq];omega
     have QK:=zh U;clear U;go_enter Tryz.func21,Tryz.ntmps21;go_upto_region 1 with fail;generalize(w.alloc (Yg #[Yd Yf 6,.slice r i.length t,Yc (Ya d) a.length u,.slice s f.length z,Yd Yf h] 36))=q at *
     go_wp2_with (first
      |(go_at_call 22;go_fit (WF.out q (Za g.out));rintro A B ⟨rfl,b⟩;have c:=zh (j.out _ _ b g.out);obtain⟨⟨l,m,n,o,p⟩,_⟩:=id c.out;have P:=K.out B (Za c.out);clear b;cases W))
     all_goals go_ret
     all_goals first
      |exact⟨Zbm (ZpU QW.out HY.out qy qz QK.out),Za c.out⟩
      |exact⟨Zh,Za c.out⟩
      |exact⟨Zh,Za g.out⟩
    ·have tk:((f.length:Int)==0)=false:=by rw[beq_eq_false_iff_ne];omega
     go_enter Tryz.func21,Tryz.ntmps21;go_upto_region 1 with fail;generalize(w.alloc (Yg #[Yd Yf 6,.slice r i.length t,Yc (Ya d) a.length u,.slice s f.length z,Yd Yf h] 36))=q at *
     go_wp2_with (first
      |(go_at_call 22;go_fit (WF.out q (Za g.out));rintro A B ⟨rfl,b⟩;have c:=zh (j.out _ _ b g.out);obtain⟨⟨l,m,n,o,p⟩,_⟩:=id c.out;have P:=K.out B (Za c.out);clear b;cases W))
     all_goals go_ret
     all_goals first
      |exact⟨Zh,Za c.out⟩
      |exact⟨Zh,Za g.out⟩
   ·have tz:2<y:=by omega
    go_enter Tryz.func21,Tryz.ntmps21;go_upto_region 1 with fail;generalize(w.alloc (Yg #[Yd Yf 6,.slice r i.length t,Yc (Ya d) a.length u,.slice s f.length z,Yd Yf h] 36))=q at *
    go_wp2_with (first
     |(go_at_call 22;go_fit (WF.out q (Za g.out));rintro A B ⟨rfl,b⟩;have c:=zh (j.out _ _ b g.out);obtain⟨⟨l,m,n,o,p⟩,_⟩:=id c.out;have P:=K.out B (Za c.out);clear b;cases W))
    all_goals go_ret
    all_goals first
     |exact⟨Zh,Za c.out⟩
     |exact⟨Zh,Za g.out⟩
  ·have ty:y<0:=by omega
   go_enter Tryz.func21,Tryz.ntmps21;go_upto_region 1 with fail;generalize(w.alloc (Yg #[Yd Yf 6,.slice r i.length t,Yc (Ya d) a.length u,.slice s f.length z,Yd Yf h] 36))=q at *
   go_wp2_with (first
    |(go_at_call 22;go_fit (WF.out q (Za g.out));rintro A B ⟨rfl,b⟩;have c:=zh (j.out _ _ b g.out);obtain⟨⟨l,m,n,o,p⟩,_⟩:=id c.out;have P:=K.out B (Za c.out);clear b;cases W))
   all_goals go_ret
   all_goals first
    |exact⟨Zh,Za c.out⟩
    |exact⟨Zh,Za g.out⟩
 ·have tn:((a.length:Int)==1)=false:=by rw[beq_eq_false_iff_ne];omega
  go_enter Tryz.func21,Tryz.ntmps21;go_upto_region 1 with fail;generalize(w.alloc (Yg #[Yd Yf 6,.slice r i.length t,Yc J a.length u,.slice s f.length z,Yd Yf h] 36))=q at *
  go_wp2_with (first
   |(go_at_call 22;go_fit (WF.out q (Za g.out));rintro A B ⟨rfl,b⟩;have c:=zh (j.out _ _ b g.out);obtain⟨⟨l,m,n,o,p⟩,_⟩:=id c.out;clear b;cases W))
  all_goals go_ret
  all_goals first
   |exact⟨Zh,Za c.out⟩
   |exact⟨Zh,Za g.out⟩
end
section
open Go.RowKit
theorem Zk0 (w:Yh) (v:Yi) (ns:List Nd) (Y Z vc:Yi) (d:List (List UInt8)) (a b:List Int) (c:Int) (V:Zi w v ns) (hx:ZU w ((Y,Z,vc),⟨15,d,a,b,c⟩)) (hk:ZaB b ns.length) :
  Calls Tryz.prog 12 #[v,ndV ((Y,Z,vc),⟨15,d,a,b,c⟩)] w fun e w'=>OkB (ZE ns ⟨15,d,a,b,c⟩=true) e/\Below w.heap.size w w':=by
 obtain⟨T,U,E⟩:=id hx;dsimp only at T U E;obtain⟨D,j,y,s,t⟩:=hd6 V hx hk;obtain⟨k,p,rfl,_⟩:=T;obtain⟨l,q,rfl,_,_,z⟩:=U;have KL:=zh E.len;obtain⟨m,r,rfl,_⟩:=E;have R2:=zh z;unfold ndV at D j y s t⊢;dsimp only at D j y s t⊢;have i:=zh (ZcE w (Yd Yf 15) (.slice k d.length p) (.slice l a.length q) (.slice m b.length r) (Yd Yf c));have u:=ZcA w (Yd Yf 15) (.slice k d.length p) (.slice l a.length q) (.slice m b.length r) (Yd Yf c);have n:=zh u;obtain⟨⟨g0,g1,g2,g3,g4⟩,_⟩:=u;clear z hx V hk;have WF:=zh (show ∀wr:Yh,Below w.heap.size w wr->Calls Tryz.prog 22 #[.agg #[Yd Yf 15,.slice k d.length p,.slice l a.length q,.slice m b.length r,Yd Yf c],Yd Yf 1,Yd Yf 1] wr fun e w'=>e=.returned (.bool (ZA ⟨15,d,a,b,c⟩ 1 1))/\Below wr.heap.size wr w' from fun wr F=>D.out wr F 1 1);generalize B:ZA ⟨15,d,a,b,c⟩ 1 1=W at WF;have QW:=zh B;clear B;have C:=zh (show ∀wr:Yh,Below w.heap.size w wr->Calls Tryz.prog 23 #[.agg #[Yd Yf 15,.slice k d.length p,.slice l a.length q,.slice m b.length r,Yd Yf c]] wr fun e w'=>e=.returned (.bool (Zan ⟨15,d,a,b,c⟩))/\Below wr.heap.size wr w' from fun wr F=>j.out wr F);generalize A:Zan ⟨15,d,a,b,c⟩=N at C;have QN:=zh A;clear A;by_cases X:b.length=0
 ·have tk:((b.length:Int)==0)=true:=by rw[beq_iff_eq];omega
  have QK:=zh X;clear X;go_enter Tryz.func12,Tryz.ntmps12;go_upto_region 1 with fail;generalize(w.alloc (Yg #[Yd Yf 15,.slice k d.length p,.slice l a.length q,.slice m b.length r,Yd Yf c] 36))=R at *
  go_wp2_with (first
   |(go_at_call 22;go_fit (WF.out R (Za n.out));rintro e2 S ⟨rfl,f⟩;have h:=zh (i.out _ _ f n.out);obtain⟨⟨G,H,I,J,K⟩,_⟩:=id h.out;clear f;cases W)
   |(go_at_call 23;go_fit (C.out S (Za h.out));rintro e3 w3 ⟨rfl,g⟩;have o:=zh (i.out _ _ g h.out);obtain⟨⟨L,M,O,P,Q⟩,_⟩:=id o.out;clear g;cases N))
  all_goals go_ret
  all_goals first
   |exact⟨Zbm (Zn9 QW.out QN.out QK.out),Za o.out⟩
   |exact⟨Zh,Za o.out⟩
   |exact⟨Zh,Za h.out⟩
   |exact⟨Zh,Za n.out⟩
 ·have tk:((b.length:Int)==0)=false:=by rw[beq_eq_false_iff_ne];omega
  go_enter Tryz.func12,Tryz.ntmps12;go_upto_region 1 with fail;generalize(w.alloc (Yg #[Yd Yf 15,.slice k d.length p,.slice l a.length q,.slice m b.length r,Yd Yf c] 36))=R at *
  go_wp2_with (first
   |(go_at_call 22;go_fit (WF.out R (Za n.out));rintro e2 S ⟨rfl,f⟩;have h:=zh (i.out _ _ f n.out);obtain⟨⟨G,H,I,J,K⟩,_⟩:=id h.out;clear f;cases W)
   |(go_at_call 23;go_fit (C.out S (Za h.out));rintro e3 w3 ⟨rfl,g⟩;have o:=zh (i.out _ _ g h.out);obtain⟨⟨L,M,O,P,Q⟩,_⟩:=id o.out;clear g;cases N))
  all_goals go_ret
  all_goals first
   |exact⟨Zh,Za o.out⟩
   |exact⟨Zh,Za h.out⟩
   |exact⟨Zh,Za n.out⟩
theorem Zpy (w:Yh) (v:Yi) (ns:List Nd) (Y Z vc:Yi) (d:List (List UInt8)) (a b:List Int) (c:Int) (V:Zi w v ns) (hx:ZU w ((Y,Z,vc),⟨21,d,a,b,c⟩)) (hk:ZaB b ns.length) :
  Calls Tryz.prog 12 #[v,ndV ((Y,Z,vc),⟨21,d,a,b,c⟩)] w fun e w'=>OkB (ZE ns ⟨21,d,a,b,c⟩=true) e/\Below w.heap.size w w':=by
 obtain⟨T,U,E⟩:=id hx;dsimp only at T U E;obtain⟨D,j,y,s,t⟩:=hd6 V hx hk;obtain⟨k,p,rfl,_⟩:=T;obtain⟨l,q,rfl,_,_,z⟩:=U;have KL:=zh E.len;obtain⟨m,r,rfl,_⟩:=E;have R2:=zh z;unfold ndV at D j y s t⊢;dsimp only at D j y s t⊢;have i:=zh (ZcE w (Yd Yf 21) (.slice k d.length p) (.slice l a.length q) (.slice m b.length r) (Yd Yf c));have u:=ZcA w (Yd Yf 21) (.slice k d.length p) (.slice l a.length q) (.slice m b.length r) (Yd Yf c);have n:=zh u;obtain⟨⟨g0,g1,g2,g3,g4⟩,_⟩:=u;clear z hx V hk;have WF:=zh (show ∀wr:Yh,Below w.heap.size w wr->Calls Tryz.prog 22 #[.agg #[Yd Yf 21,.slice k d.length p,.slice l a.length q,.slice m b.length r,Yd Yf c],Yd Yf 1,Yd Yf 1] wr fun e w'=>e=.returned (.bool (ZA ⟨21,d,a,b,c⟩ 1 1))/\Below wr.heap.size wr w' from fun wr F=>D.out wr F 1 1);generalize B:ZA ⟨21,d,a,b,c⟩ 1 1=W at WF;have QW:=zh B;clear B;have C:=zh (show ∀wr:Yh,Below w.heap.size w wr->Calls Tryz.prog 23 #[.agg #[Yd Yf 21,.slice k d.length p,.slice l a.length q,.slice m b.length r,Yd Yf c]] wr fun e w'=>e=.returned (.bool (Zan ⟨21,d,a,b,c⟩))/\Below wr.heap.size wr w' from fun wr F=>j.out wr F);generalize A:Zan ⟨21,d,a,b,c⟩=N at C;have QN:=zh A;clear A;by_cases X:b.length=0
 ·have tk:((b.length:Int)==0)=true:=by rw[beq_iff_eq];omega
  have QK:=zh X;clear X;go_enter Tryz.func12,Tryz.ntmps12;go_upto_region 1 with fail;generalize(w.alloc (Yg #[Yd Yf 21,.slice k d.length p,.slice l a.length q,.slice m b.length r,Yd Yf c] 36))=R at *
  go_wp2_with (first
   |(go_at_call 22;go_fit (WF.out R (Za n.out));rintro e2 S ⟨rfl,f⟩;have h:=zh (i.out _ _ f n.out);obtain⟨⟨G,H,I,J,K⟩,_⟩:=id h.out;clear f;cases W)
   |(go_at_call 23;go_fit (C.out S (Za h.out));rintro e3 w3 ⟨rfl,g⟩;have o:=zh (i.out _ _ g h.out);obtain⟨⟨L,M,O,P,Q⟩,_⟩:=id o.out;clear g;cases N))
  all_goals go_ret
  all_goals first
   |exact⟨Zbm (Zsd QW.out QN.out QK.out),Za o.out⟩
   |exact⟨Zh,Za o.out⟩
   |exact⟨Zh,Za h.out⟩
   |exact⟨Zh,Za n.out⟩
 ·have tk:((b.length:Int)==0)=false:=by rw[beq_eq_false_iff_ne];omega
  go_enter Tryz.func12,Tryz.ntmps12;go_upto_region 1 with fail;generalize(w.alloc (Yg #[Yd Yf 21,.slice k d.length p,.slice l a.length q,.slice m b.length r,Yd Yf c] 36))=R at *
  go_wp2_with (first
   |(go_at_call 22;go_fit (WF.out R (Za n.out));rintro e2 S ⟨rfl,f⟩;have h:=zh (i.out _ _ f n.out);obtain⟨⟨G,H,I,J,K⟩,_⟩:=id h.out;clear f;cases W)
   |(go_at_call 23;go_fit (C.out S (Za h.out));rintro e3 w3 ⟨rfl,g⟩;have o:=zh (i.out _ _ g h.out);obtain⟨⟨L,M,O,P,Q⟩,_⟩:=id o.out;clear g;cases N))
  all_goals go_ret
  all_goals first
   |exact⟨Zh,Za o.out⟩
   |exact⟨Zh,Za h.out⟩
   |exact⟨Zh,Za n.out⟩
theorem Zpx (w:Yh) (v:Yi) (ns:List Nd) (X Y Z:Yi) (i:List (List UInt8)) (a f:List Int) (h:Int) (T:Zi w v ns) (hx:ZU w ((X,Y,Z),⟨20,i,a,f,h⟩)) (hk:ZaB f ns.length) :
  Calls Tryz.prog 12 #[v,ndV ((X,Y,Z),⟨20,i,a,f,h⟩)] w fun e w'=>OkB (ZE ns ⟨20,i,a,f,h⟩=true) e/\Below w.heap.size w w':=by
 obtain⟨R,S,N⟩:=id hx;dsimp only at R S N;obtain⟨M,G,F,C,D⟩:=hd6 T hx hk;obtain⟨r,t,rfl,_⟩:=R;obtain⟨J,u,rfl,_,_,H⟩:=S;have KL:=zh N.len;obtain⟨s,z,rfl,_⟩:=N;have Q:=zh H;unfold ndV at M G F C D⊢;dsimp only at M G F C D⊢;have j:=zh (ZcE w (Yd Yf 20) (.slice r i.length t) (Yc J a.length u) (.slice s f.length z) (Yd Yf h));have E:=ZcA w (Yd Yf 20) (.slice r i.length t) (Yc J a.length u) (.slice s f.length z) (Yd Yf h);have g:=zh E;obtain⟨⟨g0,g1,g2,g3,g4⟩,_⟩:=E;clear H hx T hk;have WF:=zh (show ∀wr:Yh,Below w.heap.size w wr->Calls Tryz.prog 22 #[.agg #[Yd Yf 20,.slice r i.length t,Yc J a.length u,.slice s f.length z,Yd Yf h],Yd Yf 0,Yd Yf 0] wr fun e w'=>e=.returned (.bool (ZA ⟨20,i,a,f,h⟩ 0 0))/\Below wr.heap.size wr w' from fun wr O=>M.out wr O 0 0);generalize I:ZA ⟨20,i,a,f,h⟩ 0 0=W at WF;have QW:=zh I;clear I;by_cases V:a.length=1
 ·have tn:((a.length:Int)==1)=true:=by rw[beq_iff_eq];omega
  have ah:(0:Int)<(a.length:Int):=by omega
  obtain⟨y,L⟩:=List.length_eq_one_iff.mp V;obtain⟨d,rfl,y1⟩:=ints_at (x:=y) Q.out (Za g.out) (k:=0) (by rw[L];rfl) (by omega);rw[show d.add 0=d by unfold Addr.add;simp]at y1;have K:=zh (fun(wr:Yh) (O:Below w.heap.size w wr)=>show wr.cell? d=Ya (Yd Yf y)from by obtain⟨a2,A,q2⟩:=ints_at (x:=y) Q.out O (k:=0) (by rw[L];rfl) (by omega);injection A with A;subst A;rwa[show d.add 0=d by unfold Addr.add;simp]at q2);have HY:=zh L;clear L V;by_cases qy:0<=y
  ·by_cases qz:y<1000000000000000000
   ·by_cases U:f.length=0
    ·have tk:((f.length:Int)==0)=true:=by rw[beq_iff_eq];omega
     have QK:=zh U;clear U;go_enter Tryz.func12,Tryz.ntmps12;go_upto_region 1 with fail;generalize(w.alloc (Yg #[Yd Yf 20,.slice r i.length t,Yc (Ya d) a.length u,.slice s f.length z,Yd Yf h] 36))=q at *
     go_wp2_with (first
      |(go_at_call 22;go_fit (WF.out q (Za g.out));rintro A B ⟨rfl,b⟩;have c:=zh (j.out _ _ b g.out);obtain⟨⟨l,m,n,o,p⟩,_⟩:=id c.out;have P:=K.out B (Za c.out);clear b;cases W))
     all_goals go_ret
     all_goals first
      |exact⟨Zbm (Zsb QW.out HY.out qy qz QK.out),Za c.out⟩
      |exact⟨Zh,Za c.out⟩
      |exact⟨Zh,Za g.out⟩
    ·have tk:((f.length:Int)==0)=false:=by rw[beq_eq_false_iff_ne];omega
     go_enter Tryz.func12,Tryz.ntmps12;go_upto_region 1 with fail;generalize(w.alloc (Yg #[Yd Yf 20,.slice r i.length t,Yc (Ya d) a.length u,.slice s f.length z,Yd Yf h] 36))=q at *
     go_wp2_with (first
      |(go_at_call 22;go_fit (WF.out q (Za g.out));rintro A B ⟨rfl,b⟩;have c:=zh (j.out _ _ b g.out);obtain⟨⟨l,m,n,o,p⟩,_⟩:=id c.out;have P:=K.out B (Za c.out);clear b;cases W))
     all_goals go_ret
     all_goals first
      |exact⟨Zh,Za c.out⟩
      |exact⟨Zh,Za g.out⟩
   ·have tz:1000000000000000000<=y:=by omega
    go_enter Tryz.func12,Tryz.ntmps12;go_upto_region 1 with fail;generalize(w.alloc (Yg #[Yd Yf 20,.slice r i.length t,Yc (Ya d) a.length u,.slice s f.length z,Yd Yf h] 36))=q at *
    go_wp2_with (first
     |(go_at_call 22;go_fit (WF.out q (Za g.out));rintro A B ⟨rfl,b⟩;have c:=zh (j.out _ _ b g.out);obtain⟨⟨l,m,n,o,p⟩,_⟩:=id c.out;have P:=K.out B (Za c.out);clear b;cases W))
    all_goals go_ret
    all_goals first
     |exact⟨Zh,Za c.out⟩
     |exact⟨Zh,Za g.out⟩
  ·have ty:y<0:=by omega
   go_enter Tryz.func12,Tryz.ntmps12;go_upto_region 1 with fail;generalize(w.alloc (Yg #[Yd Yf 20,.slice r i.length t,Yc (Ya d) a.length u,.slice s f.length z,Yd Yf h] 36))=q at *
   go_wp2_with (first
    |(go_at_call 22;go_fit (WF.out q (Za g.out));rintro A B ⟨rfl,b⟩;have c:=zh (j.out _ _ b g.out);obtain⟨⟨l,m,n,o,p⟩,_⟩:=id c.out;have P:=K.out B (Za c.out);clear b;cases W))
   all_goals go_ret
   all_goals first
    |exact⟨Zh,Za c.out⟩
    |exact⟨Zh,Za g.out⟩
 ·have tn:((a.length:Int)==1)=false:=by rw[beq_eq_false_iff_ne];omega
  go_enter Tryz.func12,Tryz.ntmps12;go_upto_region 1 with fail;generalize(w.alloc (Yg #[Yd Yf 20,.slice r i.length t,Yc J a.length u,.slice s f.length z,Yd Yf h] 36))=q at *
  go_wp2_with (first
   |(go_at_call 22;go_fit (WF.out q (Za g.out));rintro A B ⟨rfl,b⟩;have c:=zh (j.out _ _ b g.out);obtain⟨⟨l,m,n,o,p⟩,_⟩:=id c.out;clear b;cases W))
  all_goals go_ret
  all_goals first
   |exact⟨Zh,Za c.out⟩
   |exact⟨Zh,Za g.out⟩
theorem Zpu (w:Yh) (v:Yi) (ns:List Nd) (va vb vc:Yi) (g:List (List UInt8)) (a c:List Int) (f:Int) (hN:Zi w v ns) (hx:ZU w ((va,vb,vc),⟨22,g,a,c,f⟩)) (hk:ZaB c ns.length) :
  Calls Tryz.prog 12 #[v,ndV ((va,vb,vc),⟨22,g,a,c,f⟩)] w fun e w'=>OkB (ZE ns ⟨22,g,a,c,f⟩=true) e/\Below w.heap.size w w':=by
 obtain⟨h1,h2,Y⟩:=id hx;dsimp only at h1 h2 Y;obtain⟨X,L,q,H,I⟩:=hd6 hN hx hk;obtain⟨l,n,rfl,_⟩:=h1;obtain⟨S,o,rfl,_,_,M⟩:=h2;have KL:=zh Y.len;obtain⟨m,p,rfl,_⟩:=Y;have R2:=zh M;unfold ndV at X L q H I⊢;dsimp only at X L q H I⊢;have j:=zh (ZcE w (Yd Yf 22) (.slice l g.length n) (Yc S a.length o) (.slice m c.length p) (Yd Yf f));have J:=ZcA w (Yd Yf 22) (.slice l g.length n) (Yc S a.length o) (.slice m c.length p) (Yd Yf f);have i:=zh J;obtain⟨⟨g0,g1,g2,g3,g4⟩,_⟩:=J;clear M hx hN hk;have WF:=zh (show ∀wr:Yh,Below w.heap.size w wr->Calls Tryz.prog 22 #[.agg #[Yd Yf 22,.slice l g.length n,Yc S a.length o,.slice m c.length p,Yd Yf f],Yd Yf 0,Yd Yf 0] wr fun e w'=>e=.returned (.bool (ZA ⟨22,g,a,c,f⟩ 0 0))/\Below wr.heap.size wr w' from fun wr D=>X.out wr D 0 0);generalize R:ZA ⟨22,g,a,c,f⟩ 0 0=W at WF;have QW:=zh R;clear R;by_cases qn:a.length=1
 ·have tn:((a.length:Int)==1)=true:=by rw[beq_iff_eq];omega
  have bf:(0:Int)<(a.length:Int):=by omega
  obtain⟨y,U⟩:=List.length_eq_one_iff.mp qn;obtain⟨d,rfl,y1⟩:=ints_at (x:=y) R2.out (Za i.out) (k:=0) (by rw[U];rfl) (by omega);rw[show d.add 0=d by unfold Addr.add;simp]at y1;have F:=zh (fun(wr:Yh) (D:Below w.heap.size w wr)=>show wr.cell? d=Ya (Yd Yf y)from by obtain⟨a2,C,q2⟩:=ints_at (x:=y) R2.out D (k:=0) (by rw[U];rfl) (by omega);injection C with C;subst C;rwa[show d.add 0=d by unfold Addr.add;simp]at q2);have HY:=zh U;clear U qn;by_cases qy:0<=y
  ·by_cases qz:y<=5
   ·by_cases qk:c.length=2
    ·have tk:((c.length:Int)==2)=true:=by rw[beq_iff_eq];omega
     have V:=zh qk;clear qk;have EG:=zh (show ∀wr:Yh,Below w.heap.size w wr->Calls Tryz.prog 25 #[v,.agg #[Yd Yf 22,.slice l g.length n,Yc (Ya d) a.length o,.slice m c.length p,Yd Yf f],Yd Yf 0] wr fun e w'=>e=.returned (Yd Yf (kdR ns ⟨22,g,a,c,f⟩ 0))/\Below wr.heap.size wr w' from fun wr D=>q.out wr D 0 (by have:=V.out;omega));have EF:=zh (fun wr=>Zdm wr (kdR ns ⟨22,g,a,c,f⟩ 0));generalize P:ZR (kdR ns ⟨22,g,a,c,f⟩ 0)=E at EF;have QE:=zh P;clear P;have GG:=zh (show ∀wr:Yh,Below w.heap.size w wr->Calls Tryz.prog 25 #[v,.agg #[Yd Yf 22,.slice l g.length n,Yc (Ya d) a.length o,.slice m c.length p,Yd Yf f],Yd Yf 1] wr fun e w'=>e=.returned (Yd Yf (kdR ns ⟨22,g,a,c,f⟩ 1))/\Below wr.heap.size wr w' from fun wr D=>q.out wr D 1 (by have:=V.out;omega));have GF:=zh (fun wr=>Zdm wr (kdR ns ⟨22,g,a,c,f⟩ 1));generalize Q:ZR (kdR ns ⟨22,g,a,c,f⟩ 1)=G at GF;have QG:=zh Q;clear Q;go_enter Tryz.func12,Tryz.ntmps12;go_upto_region 1 with fail;generalize(w.alloc (Yg #[Yd Yf 22,.slice l g.length n,Yc (Ya d) a.length o,.slice m c.length p,Yd Yf f] 36))=A at *
     go_wp2_with (first
      |(go_at_call 22;go_fit (WF.out A (Za i.out));rintro C B ⟨rfl,b⟩;have h:=zh (j.out _ _ b i.out);obtain⟨⟨r,s,t,u,z⟩,_⟩:=id h.out;have y2:=F.out B (Za h.out);clear b;cases W)
      |(go_at_call 25;go_fit (EG.out B (Za h.out));rintro e3 Z ⟨rfl,N⟩;have K:=zh (j.out _ _ N h.out);obtain⟨⟨av,aw,ax,ay,az⟩,_⟩:=id K.out;have y3:=F.out Z (Za K.out);clear N)
      |(go_at_call 24;go_fit (EF.out Z);rintro _ _ ⟨rfl,rfl⟩;cases E)
      |(go_at_call 25;go_fit (GG.out Z (Za K.out));rintro e4 w4 ⟨rfl,O⟩;have T:=zh (j.out _ _ O K.out);obtain⟨⟨a1,a6,a7,a8,ba⟩,_⟩:=id T.out;have y4:=F.out w4 (Za T.out);clear O)
      |(go_at_call 24;go_fit (GF.out w4);rintro _ _ ⟨rfl,rfl⟩;cases G))
     all_goals go_ret
     all_goals first
      |exact⟨Zbm (Zr7 QW.out HY.out qy qz V.out QE.out QG.out),Za T.out⟩
      |exact⟨Zh,Za T.out⟩
      |exact⟨Zh,Za K.out⟩
      |exact⟨Zh,Za h.out⟩
      |exact⟨Zh,Za i.out⟩
    ·have tk:((c.length:Int)==2)=false:=by rw[beq_eq_false_iff_ne];omega
     go_enter Tryz.func12,Tryz.ntmps12;go_upto_region 1 with fail;generalize(w.alloc (Yg #[Yd Yf 22,.slice l g.length n,Yc (Ya d) a.length o,.slice m c.length p,Yd Yf f] 36))=A at *
     go_wp2_with (first
      |(go_at_call 22;go_fit (WF.out A (Za i.out));rintro C B ⟨rfl,b⟩;have h:=zh (j.out _ _ b i.out);obtain⟨⟨r,s,t,u,z⟩,_⟩:=id h.out;have y2:=F.out B (Za h.out);clear b;cases W))
     all_goals go_ret
     all_goals first
      |exact⟨Zh,Za h.out⟩
      |exact⟨Zh,Za i.out⟩
   ·have tz:5<y:=by omega
    go_enter Tryz.func12,Tryz.ntmps12;go_upto_region 1 with fail;generalize(w.alloc (Yg #[Yd Yf 22,.slice l g.length n,Yc (Ya d) a.length o,.slice m c.length p,Yd Yf f] 36))=A at *
    go_wp2_with (first
     |(go_at_call 22;go_fit (WF.out A (Za i.out));rintro C B ⟨rfl,b⟩;have h:=zh (j.out _ _ b i.out);obtain⟨⟨r,s,t,u,z⟩,_⟩:=id h.out;have y2:=F.out B (Za h.out);clear b;cases W))
    all_goals go_ret
    all_goals first
     |exact⟨Zh,Za h.out⟩
     |exact⟨Zh,Za i.out⟩
  ·have ty:y<0:=by omega
   go_enter Tryz.func12,Tryz.ntmps12;go_upto_region 1 with fail;generalize(w.alloc (Yg #[Yd Yf 22,.slice l g.length n,Yc (Ya d) a.length o,.slice m c.length p,Yd Yf f] 36))=A at *
   go_wp2_with (first
    |(go_at_call 22;go_fit (WF.out A (Za i.out));rintro C B ⟨rfl,b⟩;have h:=zh (j.out _ _ b i.out);obtain⟨⟨r,s,t,u,z⟩,_⟩:=id h.out;have y2:=F.out B (Za h.out);clear b;cases W))
   all_goals go_ret
   all_goals first
    |exact⟨Zh,Za h.out⟩
    |exact⟨Zh,Za i.out⟩
 ·have tn:((a.length:Int)==1)=false:=by rw[beq_eq_false_iff_ne];omega
  go_enter Tryz.func12,Tryz.ntmps12;go_upto_region 1 with fail;generalize(w.alloc (Yg #[Yd Yf 22,.slice l g.length n,Yc S a.length o,.slice m c.length p,Yd Yf f] 36))=A at *
  go_wp2_with (first
   |(go_at_call 22;go_fit (WF.out A (Za i.out));rintro C B ⟨rfl,b⟩;have h:=zh (j.out _ _ b i.out);obtain⟨⟨r,s,t,u,z⟩,_⟩:=id h.out;clear b;cases W))
  all_goals go_ret
  all_goals first
   |exact⟨Zh,Za h.out⟩
   |exact⟨Zh,Za i.out⟩
theorem Zpw (w:Yh) (v:Yi) (ns:List Nd) (va vb vc:Yi) (d:List (List UInt8)) (a b:List Int) (c:Int) (hN:Zi w v ns) (hx:ZU w ((va,vb,vc),⟨23,d,a,b,c⟩)) (hk:ZaB b ns.length) :
  Calls Tryz.prog 12 #[v,ndV ((va,vb,vc),⟨23,d,a,b,c⟩)] w fun e w'=>OkB (ZE ns ⟨23,d,a,b,c⟩=true) e/\Below w.heap.size w w':=by
 obtain⟨h1,h2,J⟩:=id hx;dsimp only at h1 h2 J;obtain⟨I,o,n,t,u⟩:=hd6 hN hx hk;obtain⟨j,p,rfl,_⟩:=h1;obtain⟨k,q,rfl,_,_,z⟩:=h2;have KL:=zh J.len;obtain⟨l,r,rfl,_⟩:=J;have R2:=zh z;unfold ndV at I o n t u⊢;dsimp only at I o n t u⊢;have f:=zh (ZcE w (Yd Yf 23) (.slice j d.length p) (.slice k a.length q) (.slice l b.length r) (Yd Yf c));have y:=ZcA w (Yd Yf 23) (.slice j d.length p) (.slice k a.length q) (.slice l b.length r) (Yd Yf c);have s:=zh y;obtain⟨⟨g0,g1,g2,g3,g4⟩,_⟩:=y;clear z hx hN hk;have WF:=zh (show ∀wr:Yh,Below w.heap.size w wr->Calls Tryz.prog 22 #[.agg #[Yd Yf 23,.slice j d.length p,.slice k a.length q,.slice l b.length r,Yd Yf c],Yd Yf 0,Yd Yf 0] wr fun e w'=>e=.returned (.bool (ZA ⟨23,d,a,b,c⟩ 0 0))/\Below wr.heap.size wr w' from fun wr A=>I.out wr A 0 0);generalize F:ZA ⟨23,d,a,b,c⟩ 0 0=W at WF;have QW:=zh F;clear F;have H:=zh (show ∀wr:Yh,Below w.heap.size w wr->Calls Tryz.prog 23 #[.agg #[Yd Yf 23,.slice j d.length p,.slice k a.length q,.slice l b.length r,Yd Yf c]] wr fun e w'=>e=.returned (.bool (Zan ⟨23,d,a,b,c⟩))/\Below wr.heap.size wr w' from fun wr A=>o.out wr A);generalize D:Zan ⟨23,d,a,b,c⟩=N at H;have QN:=zh D;clear D;by_cases qk:b.length=1
 ·have tk:((b.length:Int)==1)=true:=by rw[beq_iff_eq];omega
  have Z:=zh qk;clear qk;have EG:=zh (show ∀wr:Yh,Below w.heap.size w wr->Calls Tryz.prog 25 #[v,.agg #[Yd Yf 23,.slice j d.length p,.slice k a.length q,.slice l b.length r,Yd Yf c],Yd Yf 0] wr fun e w'=>e=.returned (Yd Yf (kdR ns ⟨23,d,a,b,c⟩ 0))/\Below wr.heap.size wr w' from fun wr A=>n.out wr A 0 (by have:=Z.out;omega));have Y:=zh (fun wr=>Zdm wr (kdR ns ⟨23,d,a,b,c⟩ 0));generalize C:ZR (kdR ns ⟨23,d,a,b,c⟩ 0)=E at Y;have QE:=zh C;clear C;go_enter Tryz.func12,Tryz.ntmps12;go_upto_region 1 with fail;generalize(w.alloc (Yg #[Yd Yf 23,.slice j d.length p,.slice k a.length q,.slice l b.length r,Yd Yf c] 36))=V at *
  go_wp2_with (first
   |(go_at_call 22;go_fit (WF.out V (Za s.out));rintro e2 X ⟨rfl,g⟩;have i:=zh (f.out _ _ g s.out);obtain⟨⟨K,L,M,O,P⟩,_⟩:=id i.out;clear g;cases W)
   |(go_at_call 23;go_fit (H.out X (Za i.out));rintro e3 w3 ⟨rfl,h⟩;have m:=zh (f.out _ _ h i.out);obtain⟨⟨Q,R,S,T,U⟩,_⟩:=id m.out;clear h;cases N)
   |(go_at_call 25;go_fit (EG.out w3 (Za m.out));rintro e4 w4 ⟨rfl,B⟩;have G:=zh (f.out _ _ B m.out);obtain⟨⟨ao,ap,aq,ar,au⟩,_⟩:=id G.out;clear B)
   |(go_at_call 24;go_fit (Y.out w4);rintro _ _ ⟨rfl,rfl⟩;cases E))
  all_goals go_ret
  all_goals first
   |exact⟨Zbm (Zsa QW.out QN.out Z.out QE.out),Za G.out⟩
   |exact⟨Zh,Za G.out⟩
   |exact⟨Zh,Za m.out⟩
   |exact⟨Zh,Za i.out⟩
   |exact⟨Zh,Za s.out⟩
 ·have tk:((b.length:Int)==1)=false:=by rw[beq_eq_false_iff_ne];omega
  go_enter Tryz.func12,Tryz.ntmps12;go_upto_region 1 with fail;generalize(w.alloc (Yg #[Yd Yf 23,.slice j d.length p,.slice k a.length q,.slice l b.length r,Yd Yf c] 36))=V at *
  go_wp2_with (first
   |(go_at_call 22;go_fit (WF.out V (Za s.out));rintro e2 X ⟨rfl,g⟩;have i:=zh (f.out _ _ g s.out);obtain⟨⟨K,L,M,O,P⟩,_⟩:=id i.out;clear g;cases W)
   |(go_at_call 23;go_fit (H.out X (Za i.out));rintro e3 w3 ⟨rfl,h⟩;have m:=zh (f.out _ _ h i.out);obtain⟨⟨Q,R,S,T,U⟩,_⟩:=id m.out;clear h;cases N))
  all_goals go_ret
  all_goals first
   |exact⟨Zh,Za m.out⟩
   |exact⟨Zh,Za i.out⟩
   |exact⟨Zh,Za s.out⟩
end
section
open Go.RowKit
theorem Zr8 {ns:List Nd} {d:List (List UInt8)} {b a:List Int} {c:Int} (h:Zat ns (a.take (a.length-1)) (isB [5])=true) (g:ZA ⟨4,d,b,a,c⟩ 1 1=true) (hn:Zan ⟨4,d,b,a,c⟩=true) (hk:0<a.length) (f:kdR ns ⟨4,d,b,a,c⟩ (a.length-1)=7):ZE ns ⟨4,d,b,a,c⟩=true:=by
 have hx:a[a.length-1]? = Ya (a[a.length-1]'(by omega)):=Ym (by omega);have e:a=a.take (a.length-1)++[a[a.length-1]'(by omega)]:=by have:=List.take_add_one (l:=a) (i:=a.length-1);rw[hx,show a.length-1+1=a.length by omega,List.take_length]at this;exact this
 refine ZsB e h g hn ?_;unfold kdR at f;dsimp only at f;rwa[Zcp hx]at f
theorem ZpA (w:Yh) (v:Yi) (ns:List Nd) (va vb vc:Yi) (m:List (List UInt8)) (a b:List Int) (l:Int) (hN:Zi w v ns) (hx:ZU w ((va,vb,vc),⟨4,m,a,b,l⟩)) (hk:ZaB b ns.length) :
  Calls Tryz.prog 21 #[v,ndV ((va,vb,vc),⟨4,m,a,b,l⟩)] w fun e w'=>OkB (ZE ns ⟨4,m,a,b,l⟩=true) e/\Below w.heap.size w w':=by
 obtain⟨h1,h2,h3⟩:=id hx;dsimp only at h1 h2 h3;obtain⟨WR,F,q,M,O⟩:=hd6 hN hx hk;obtain⟨C,G,rfl,_⟩:=h1;obtain⟨D,H,rfl,_,_,Q⟩:=h2;have KL:=zh h3.len;obtain⟨E,I,rfl,_⟩:=h3;have R2:=zh Q;unfold ndV at WR F q M O⊢;dsimp only at WR F q M O⊢;have d:=zh (ZcE w (Yd Yf 4) (Yc C m.length G) (Yc D a.length H) (Yc E b.length I) (Yd Yf l));have P:=ZcA w (Yd Yf 4) (Yc C m.length G) (Yc D a.length H) (Yc E b.length I) (Yd Yf l);have n:=zh P;obtain⟨⟨g0,g1,g2,g3,g4⟩,_⟩:=P;clear Q hx hN hk;have um:IntKind.i64.wrap ((b.length:Int)-1)=(b.length:Int)-1:=IntWalk.i64_in _ (by have:=KL.out;unfold maxLen at this;omega);go_enter Tryz.func21,Tryz.ntmps21;go_upto_region 1 with fail;generalize(w.alloc (Yg #[Yd Yf 4,Yc C m.length G,Yc D a.length H,Yc E b.length I,Yd Yf l] 36))=w1 at *;go_wp2_with fail;go_loopg [8] (b.length-1) (fun gk vi wr=>∃i:Nat,vi=Yd Yf i/\i<=b.length-1/\gk=b.length-1-i/\Zat ns (b.take i) (isB [5])=true/\(wr.cell? ⟨w.heap.size,0,Yb⟩=Ya (Yd Yf 4)/\wr.cell? ⟨w.heap.size,1,Yb⟩=Ya (Yc C m.length G)/\wr.cell? ⟨w.heap.size,2,Yb⟩=Ya (Yc D a.length H)/\wr.cell? ⟨w.heap.size,3,Yb⟩=Ya (Yc E b.length I)/\wr.cell? ⟨w.heap.size,4,Yb⟩=Ya (Yd Yf l))/\Below w.heap.size w wr)
 case atStart=>exact⟨0,rfl,Nat.zero_le _,rfl,rfl,n.out⟩
 case round=>
  clear n g0 g1 g2 g3 g4;obtain⟨i,rfl,hi,J,h,hS⟩:=hrel;have n:=zh hS;obtain⟨⟨g0,g1,g2,g3,g4⟩,_⟩:=hS;by_cases S:i=b.length-1
  ·rw[S]at h;have HA:=zh h;have ti:¬(i:Int)<(b.length:Int)-1:=by omega
   clear h J;have WF:=zh (show ∀wr:Yh,Below w.heap.size w wr->Calls Tryz.prog 22 #[.agg #[Yd Yf 4,Yc C m.length G,Yc D a.length H,Yc E b.length I,Yd Yf l],Yd Yf 1,Yd Yf 1] wr fun e w'=>e=.returned (.bool (ZA ⟨4,m,a,b,l⟩ 1 1))/\Below wr.heap.size wr w' from fun wr R=>WR.out wr R 1 1);generalize U:ZA ⟨4,m,a,b,l⟩ 1 1=W at WF;have QW:=zh U;clear U;have NF:=zh (show ∀wr:Yh,Below w.heap.size w wr->Calls Tryz.prog 23 #[.agg #[Yd Yf 4,Yc C m.length G,Yc D a.length H,Yc E b.length I,Yd Yf l]] wr fun e w'=>e=.returned (.bool (Zan ⟨4,m,a,b,l⟩))/\Below wr.heap.size wr w' from fun wr R=>F.out wr R);generalize T:Zan ⟨4,m,a,b,l⟩=N at NF;have QN:=zh T;clear T;by_cases qk:0<b.length
   ·have tk:(0:Int)<(b.length:Int):=by omega
    have QK:=zh qk;have e1:(b.length:Int)-1=((b.length-1:Nat):Int):=by have:=QK.out;omega
    have ZG:=zh (show ∀wr:Yh,Below w.heap.size w wr->Calls Tryz.prog 25 #[v,.agg #[Yd Yf 4,Yc C m.length G,Yc D a.length H,Yc E b.length I,Yd Yf l],Yd Yf ((b.length:Int)-1)] wr fun e w'=>e=.returned (Yd Yf (kdR ns ⟨4,m,a,b,l⟩ (b.length-1)))/\Below wr.heap.size wr w' from fun wr R=>by rw[e1];exact q.out wr R (b.length-1) (by have:=QK.out;omega));generalize B:kdR ns ⟨4,m,a,b,l⟩ (b.length-1)=Z at ZG;have QZ:=zh B;clear B e1;cases z7:(Z==7)
    ·go_wp2_with (first
      |(go_at_call 22;go_fit (WF.out wr (Za n.out));rintro e2 K ⟨rfl,c⟩;have g:=zh (d.out _ _ c n.out);obtain⟨⟨s,t,u,y,A⟩,_⟩:=id g.out;clear c;cases W)
      |(go_at_call 23;go_fit (NF.out K (Za g.out));rintro e3 w3 ⟨rfl,j⟩;have o:=zh (d.out _ _ j g.out);obtain⟨⟨V,X,Y,aa,ab⟩,_⟩:=id o.out;clear j;cases N)
      |(go_at_call 25;go_fit (ZG.out w3 (Za o.out));rintro e4 w4 ⟨rfl,p⟩;have L:=zh (d.out _ _ p o.out);obtain⟨⟨am,an,ao,ap,aq⟩,_⟩:=id L.out;clear p))
     all_goals go_ret
     all_goals first
      |exact⟨Zh,Za L.out⟩
      |exact⟨Zh,Za o.out⟩
      |exact⟨Zh,Za g.out⟩
      |exact⟨Zh,Za n.out⟩
    ·have Z7:=zh (show Z=7 by simpa using z7)
     go_wp2_with (first
      |(go_at_call 22;go_fit (WF.out wr (Za n.out));rintro e2 K ⟨rfl,c⟩;have g:=zh (d.out _ _ c n.out);obtain⟨⟨s,t,u,y,A⟩,_⟩:=id g.out;clear c;cases W)
      |(go_at_call 23;go_fit (NF.out K (Za g.out));rintro e3 w3 ⟨rfl,j⟩;have o:=zh (d.out _ _ j g.out);obtain⟨⟨V,X,Y,aa,ab⟩,_⟩:=id o.out;clear j;cases N)
      |(go_at_call 25;go_fit (ZG.out w3 (Za o.out));rintro e4 w4 ⟨rfl,p⟩;have L:=zh (d.out _ _ p o.out);obtain⟨⟨am,an,ao,ap,aq⟩,_⟩:=id L.out;clear p))
     all_goals go_ret
     all_goals first
      |exact⟨Zbm (Zr8 HA.out QW.out QN.out QK.out (QZ.out.trans Z7.out)),Za L.out⟩
      |exact⟨Zh,Za L.out⟩
      |exact⟨Zh,Za o.out⟩
      |exact⟨Zh,Za g.out⟩
      |exact⟨Zh,Za n.out⟩
   ·have tk:¬(0:Int)<(b.length:Int):=by omega
    have bq:(b.length:Int)<=0:=by omega
    go_wp2_with (first
     |(go_at_call 22;go_fit (WF.out wr (Za n.out));rintro e2 K ⟨rfl,c⟩;have g:=zh (d.out _ _ c n.out);obtain⟨⟨s,t,u,y,A⟩,_⟩:=id g.out;clear c;cases W)
     |(go_at_call 23;go_fit (NF.out K (Za g.out));rintro e3 w3 ⟨rfl,j⟩;have o:=zh (d.out _ _ j g.out);obtain⟨⟨V,X,Y,aa,ab⟩,_⟩:=id o.out;clear j;cases N))
    all_goals go_ret
    all_goals first
     |exact⟨Zh,Za o.out⟩
     |exact⟨Zh,Za g.out⟩
     |exact⟨Zh,Za n.out⟩
  ·have r:i<b.length:=by omega
   obtain⟨z,B⟩:∃z,b[i]? = Ya z:=⟨_,Ym r⟩
   have ac:=ZcJ (f:=fun k=>(isB [5]) (Zs ns k)) B h;have kk:kdR ns ⟨4,m,a,b,l⟩ i=Zs ns z:=by unfold kdR;dsimp only;rw[Zcp B]
   have KF:=zh (fun(wz:Yh) (B:Below w.heap.size w wz)=>q.out wz B i r);rw[kk]at KF;have ti:(i:Int)<(b.length:Int)-1:=by omega
   have bp:(0:Int)<=(i:Int):=by omega
   have wk:IntKind.i64.wrap ((i:Int)+1)=(i:Int)+1:=IntWalk.i64_in _ (by have:=KL.out;unfold maxLen at this;omega);have HI:=zh (zi r (zi J ac));clear J ac B h kk S r hi;generalize Zs ns z=Z at *;cases z5:(Z==5)
   ·have u5:(Z != 5)=true:=by rw[bne,z5];rfl
    go_wp2_with (first
     |(go_at_call 25;go_fit (KF.out wr (Za n.out));rintro e2 K ⟨rfl,c⟩;have g:=zh (d.out _ _ c n.out);obtain⟨⟨s,t,u,y,A⟩,_⟩:=id g.out;clear c))
    go_ret;exact⟨Zh,Za g.out⟩
   ·have u5:(Z != 5)=false:=by rw[bne,z5];rfl
    have TZ:=zh (show isB [5] Z=true from by unfold isB;rw[List.contains_cons,z5];rfl)
    go_wp2_with (first
     |(go_at_call 25;go_fit (KF.out wr (Za n.out));rintro e2 K ⟨rfl,c⟩;have g:=zh (d.out _ _ c n.out);obtain⟨⟨s,t,u,y,A⟩,_⟩:=id g.out;clear c))
    go_roundg (b.length-1-(i+1))
    case measure=>have:=HI.out;omega
    case rel=>exact⟨i+1,by push_cast;rfl,by have:=HI.out;omega,rfl,HI.out.2.2.trans (TZ.out),g.out⟩
theorem ZlR (w:Yh) (v:Yi) (ns:List Nd) (va vb vc:Yi) (m:List (List UInt8)) (a b:List Int) (l:Int) (hN:Zi w v ns) (hx:ZU w ((va,vb,vc),⟨14,m,a,b,l⟩)) (hk:ZaB b ns.length) :
  Calls Tryz.prog 26 #[v,ndV ((va,vb,vc),⟨14,m,a,b,l⟩)] w fun e w'=>OkB (ZE ns ⟨14,m,a,b,l⟩=true) e/\Below w.heap.size w w':=by
 obtain⟨h1,h2,h3⟩:=id hx;dsimp only at h1 h2 h3;obtain⟨WR,s,r,L,M⟩:=hd6 hN hx hk;obtain⟨D,I,rfl,_⟩:=h1;obtain⟨E,J,rfl,_,_,P⟩:=h2;have KL:=zh h3.len;obtain⟨F,K,rfl,_⟩:=h3;have R2:=zh P;unfold ndV at WR s r L M⊢;dsimp only at WR s r L M⊢;have j:=zh (ZcE w (Yd Yf 14) (Yc D m.length I) (Yc E a.length J) (Yc F b.length K) (Yd Yf l));have O:=ZcA w (Yd Yf 14) (Yc D m.length I) (Yc E a.length J) (Yc F b.length K) (Yd Yf l);have n:=zh O;obtain⟨⟨g0,g1,g2,g3,g4⟩,_⟩:=O;clear P hx hN hk;go_enter Tryz.func26,Tryz.ntmps26;go_upto_region 1 with fail;generalize(w.alloc (Yg #[Yd Yf 14,Yc D m.length I,Yc E a.length J,Yc F b.length K,Yd Yf l] 36))=w1 at *;go_wp2_with fail;go_loopg [8] (b.length) (fun gk vi wr=>∃i:Nat,vi=Yd Yf i/\i<=b.length/\gk=b.length-i/\Zat ns (b.take i) ZdE=true/\(wr.cell? ⟨w.heap.size,0,Yb⟩=Ya (Yd Yf 14)/\wr.cell? ⟨w.heap.size,1,Yb⟩=Ya (Yc D m.length I)/\wr.cell? ⟨w.heap.size,2,Yb⟩=Ya (Yc E a.length J)/\wr.cell? ⟨w.heap.size,3,Yb⟩=Ya (Yc F b.length K)/\wr.cell? ⟨w.heap.size,4,Yb⟩=Ya (Yd Yf l))/\Below w.heap.size w wr)
 case atStart=>exact⟨0,rfl,Nat.zero_le _,rfl,rfl,n.out⟩
 case round=>
  clear n g0 g1 g2 g3 g4;obtain⟨i,rfl,hi,t,d,hS⟩:=hrel;have n:=zh hS;obtain⟨⟨g0,g1,g2,g3,g4⟩,_⟩:=hS;by_cases Q:i=b.length
  ·have e:b.take i=b:=by rw[Q];exact List.take_length
   rw[e]at d;have HA:=zh d;have ti:¬(i:Int)<(b.length:Int):=by omega
   clear e d t;have WF:=zh (show ∀wr:Yh,Below w.heap.size w wr->Calls Tryz.prog 22 #[.agg #[Yd Yf 14,Yc D m.length I,Yc E a.length J,Yc F b.length K,Yd Yf l],Yd Yf 1,Yd Yf 2] wr fun e w'=>e=.returned (.bool (ZA ⟨14,m,a,b,l⟩ 1 2))/\Below wr.heap.size wr w' from fun wr hb=>WR.out wr hb 1 2);generalize S:ZA ⟨14,m,a,b,l⟩ 1 2=W at WF;have QW:=zh S;clear S;have NF:=zh (show ∀wr:Yh,Below w.heap.size w wr->Calls Tryz.prog 23 #[.agg #[Yd Yf 14,Yc D m.length I,Yc E a.length J,Yc F b.length K,Yd Yf l]] wr fun e w'=>e=.returned (.bool (Zan ⟨14,m,a,b,l⟩))/\Below wr.heap.size wr w' from fun wr hb=>s.out wr hb);generalize R:Zan ⟨14,m,a,b,l⟩=N at NF;have QN:=zh R;clear R
   go_wp2_with (first
    |(go_at_call 22;go_fit (WF.out wr (Za n.out));rintro e2 q ⟨rfl,c⟩;have h:=zh (j.out _ _ c n.out);obtain⟨⟨u,y,A,B,C⟩,_⟩:=id h.out;clear c;cases W)
    |(go_at_call 23;go_fit (NF.out q (Za h.out));rintro e3 w3 ⟨rfl,g⟩;have o:=zh (j.out _ _ g h.out);obtain⟨⟨U,V,Y,aa,ab⟩,_⟩:=id o.out;clear g;cases N))
   all_goals go_ret
   all_goals first
    |exact⟨Zbm (Zq2 HA.out QW.out QN.out),Za o.out⟩
    |exact⟨Zh,Za o.out⟩
    |exact⟨Zh,Za h.out⟩
    |exact⟨Zh,Za n.out⟩
  ·have p:i<b.length:=by omega
   obtain⟨z,T⟩:∃z,b[i]? = Ya z:=⟨_,Ym p⟩
   have ac:=ZcJ (f:=fun k=>ZdE (Zs ns k)) T d;have kk:kdR ns ⟨14,m,a,b,l⟩ i=Zs ns z:=by unfold kdR;dsimp only;rw[Zcp T]
   have H:=zh (fun(wz:Yh) (T:Below w.heap.size w wz)=>r.out wz T i p);rw[kk]at H;have ti:(i:Int)<(b.length:Int):=by omega
   have bg:(0:Int)<=(i:Int):=by omega
   have wk:IntKind.i64.wrap ((i:Int)+1)=(i:Int)+1:=IntWalk.i64_in _ (by have:=KL.out;unfold maxLen at this;omega);have G:=zh (zi p (zi t ac));clear t ac T d kk Q p hi;generalize Zs ns z=Z at *;have SF:=zh (fun wr=>Zdm wr Z);generalize hq:ZR Z=X at SF;have TX:=zh hq;clear hq;cases X
   ·cases z15:(Z==15)
    ·have aj:(Z != 15)=true:=by rw[bne,z15];rfl
     go_wp2_with (first
      |(go_at_call 25;go_fit (H.out wr (Za n.out));rintro e2 q ⟨rfl,c⟩;have h:=zh (j.out _ _ c n.out);obtain⟨⟨u,y,A,B,C⟩,_⟩:=id h.out;clear c)
      |(go_at_call 24;go_fit (SF.out q);rintro _ _ ⟨rfl,rfl⟩)
      |(go_at_call 25;go_fit (H.out q (Za h.out));rintro e3 w3 ⟨rfl,g⟩;have o:=zh (j.out _ _ g h.out);obtain⟨⟨U,V,Y,aa,ab⟩,_⟩:=id o.out;clear g))
     go_ret;exact⟨Zh,Za o.out⟩
    ·have aj:(Z != 15)=false:=by rw[bne,z15];rfl
     have TZ:=zh (show ZdE Z=true from by unfold ZdE;rw[z15];rfl)
     go_wp2_with (first
      |(go_at_call 25;go_fit (H.out wr (Za n.out));rintro e2 q ⟨rfl,c⟩;have h:=zh (j.out _ _ c n.out);obtain⟨⟨u,y,A,B,C⟩,_⟩:=id h.out;clear c)
      |(go_at_call 24;go_fit (SF.out q);rintro _ _ ⟨rfl,rfl⟩)
      |(go_at_call 25;go_fit (H.out q (Za h.out));rintro e3 w3 ⟨rfl,g⟩;have o:=zh (j.out _ _ g h.out);obtain⟨⟨U,V,Y,aa,ab⟩,_⟩:=id o.out;clear g))
     go_roundg (b.length-(i+1))
     case measure=>have:=G.out;omega
     case rel=>exact⟨i+1,by push_cast;rfl,by have:=G.out;omega,rfl,G.out.2.2.trans (TZ.out),o.out⟩
   ·have TZ:=zh (show ZdE Z=true from by unfold ZdE;rw[TX.out,Bool.or_true])
    go_wp2_with (first
     |(go_at_call 25;go_fit (H.out wr (Za n.out));rintro e2 q ⟨rfl,c⟩;have h:=zh (j.out _ _ c n.out);obtain⟨⟨u,y,A,B,C⟩,_⟩:=id h.out;clear c)
     |(go_at_call 24;go_fit (SF.out q);rintro _ _ ⟨rfl,rfl⟩))
    go_roundg (b.length-(i+1))
    case measure=>have:=G.out;omega
    case rel=>exact⟨i+1,by push_cast;rfl,by have:=G.out;omega,rfl,G.out.2.2.trans (TZ.out),h.out⟩
end
section
open Go.RowKit
theorem Znr {P:Prop} {b:Bool} (h:b=true->P):OkB P (.returned (.bool b)):=⟨b,rfl,h⟩
theorem Zk2 (w:Yh) (v:Yi) (ns:List Nd) (A B C:Yi) (f:List (List UInt8)) (a c:List Int) (d:Int) (z:Zi w v ns) (hx:ZU w ((A,B,C),⟨5,f,a,c,d⟩)) (hk:ZaB c ns.length) :
  Calls Tryz.prog 21 #[v,ndV ((A,B,C),⟨5,f,a,c,d⟩)] w fun e w'=>OkB (ZE ns ⟨5,f,a,c,d⟩=true) e/\Below w.heap.size w w':=by
 obtain⟨F,G,y⟩:=id hx;dsimp only at F G y;obtain⟨E,k,j,g,h⟩:=hd6 z hx hk;have r:=zh (fun(wr:Yh) (H:Below w.heap.size w wr)=>Zk7 wr v ns A B C f a c d (z.below H) (hx.below H) hk);obtain⟨n,s,rfl,_⟩:=F;obtain⟨o,t,rfl,_,_,l⟩:=G;have K:=zh y.len;obtain⟨p,u,rfl,_⟩:=y;have L:=zh l;unfold ndV at E k j g h r⊢;dsimp only at E k j g h r⊢;have I:=zh (ZcE w (Yd Yf 5) (.slice n f.length s) (.slice o a.length t) (.slice p c.length u) (Yd Yf d));have i:=ZcA w (Yd Yf 5) (.slice n f.length s) (.slice o a.length t) (.slice p c.length u) (Yd Yf d);have q:=zh i;obtain⟨⟨M,N,O,P,Q⟩,_⟩:=i;clear l hx z hk;go_enter Tryz.func21,Tryz.ntmps21;go_upto_region 1 with fail;generalize(w.alloc (Yg #[Yd Yf 5,.slice n f.length s,.slice o a.length t,.slice p c.length u,Yd Yf d] 36))=J at *;go_wp2_with (go_at_call 48;go_fit (r.out J (Za q.out));rintro ea R ⟨⟨b,rfl,hq⟩,m⟩;have D:=zh (zi hq ((Za q.out).trans (m.mono (Za q.out).size)));clear hq m);go_ret;exact⟨Znr D.out.1,D.out.2⟩
theorem ZnR (w:Yh) (v:Yi) (ns:List Nd) (g h i:Yi) (b:Int) (f:List (List UInt8)) (a c:List Int) (d:Int) (j:Zi w v ns) (hx:ZU w ((g,h,i),⟨b,f,a,c,d⟩)) (hk:ZaB c ns.length) (r:0<=b) (s:b<=6) :
  Calls Tryz.prog 21 #[v,ndV ((g,h,i),⟨b,f,a,c,d⟩)] w fun e w'=>OkB (ZE ns ⟨b,f,a,c,d⟩=true) e/\Below w.heap.size w w':=by
 by_cases k:b=0
 ·subst k;exact Zjl w v ns g h i f a c d j hx hk
 by_cases l:b=1
 ·subst l;exact Zk3 w v ns g h i f a c d j hx hk
 by_cases m:b=2
 ·subst m;exact Zk4 w v ns g h i f a c d j hx hk
 by_cases n:b=3
 ·subst n;exact ZpB w v ns g h i f a c d j hx hk
 by_cases o:b=4
 ·subst o;exact ZpA w v ns g h i f a c d j hx hk
 by_cases p:b=5
 ·subst p;exact Zk2 w v ns g h i f a c d j hx hk
 by_cases q:b=6
 ·subst q;exact Zk1 w v ns g h i f a c d j hx hk
 omega
theorem ZnL (w:Yh) (v:Yi) (ns:List Nd) (g h i:Yi) (b:Int) (f:List (List UInt8)) (a c:List Int) (d:Int) (j:Zi w v ns) (hx:ZU w ((g,h,i),⟨b,f,a,c,d⟩)) (hk:ZaB c ns.length) (A:7<=b) (B:b<=19) (t:b≠15) :
  Calls Tryz.prog 26 #[v,ndV ((g,h,i),⟨b,f,a,c,d⟩)] w fun e w'=>OkB (ZE ns ⟨b,f,a,c,d⟩=true) e/\Below w.heap.size w w':=by
 by_cases u:b=7
 ·subst u;exact ZkV w v ns g h i f a c d j hx hk
 by_cases y:b=8
 ·subst y;exact ZnM w v ns g h i f a c d j hx hk
 by_cases z:b=9
 ·subst z;exact ZnN w v ns g h i f a c d j hx hk
 by_cases k:b=10
 ·subst k;exact ZlU w v ns g h i f a c d j hx hk
 by_cases l:b=11
 ·subst l;exact Zpn w v ns g h i f a c d j hx hk
 by_cases m:b=12
 ·subst m;exact ZlS w v ns g h i f a c d j hx hk
 by_cases n:b=13
 ·subst n;exact ZkW w v ns g h i f a c d j hx hk
 by_cases o:b=14
 ·subst o;exact ZlR w v ns g h i f a c d j hx hk
 by_cases p:b=16
 ·subst p;exact Zpo w v ns g h i f a c d j hx hk
 by_cases q:b=17
 ·subst q;exact ZkX w v ns g h i f a c d j hx hk
 by_cases r:b=18
 ·subst r;exact Zj9 w v ns g h i f a c d j hx hk
 by_cases s:b=19
 ·subst s;exact ZlT w v ns g h i f a c d j hx hk
 omega
theorem Zpv (w:Yh) (v:Yi) (ns:List Nd) (A B C:Yi) (b:Int) (f:List (List UInt8)) (a c:List Int) (d:Int) (z:Zi w v ns) (hx:ZU w ((A,B,C),⟨b,f,a,c,d⟩)) (hk:ZaB c ns.length) (M:b<0) :
  Calls Tryz.prog 12 #[v,ndV ((A,B,C),⟨b,f,a,c,d⟩)] w fun e w'=>OkB (ZE ns ⟨b,f,a,c,d⟩=true) e/\Below w.heap.size w w':=by
 obtain⟨u,y,s⟩:=id hx;dsimp only at u y s;obtain⟨t,k,j,g,h⟩:=hd6 z hx hk;obtain⟨m,p,rfl,_⟩:=u;obtain⟨n,q,rfl,_,_,l⟩:=y;have F:=zh s.len;obtain⟨o,r,rfl,_⟩:=s;have G:=zh l;unfold ndV at t k j g h⊢;dsimp only at t k j g h⊢;have E:=zh (ZcE w (Yd Yf b) (.slice m f.length p) (.slice n a.length q) (.slice o c.length r) (Yd Yf d));have i:=ZcA w (Yd Yf b) (.slice m f.length p) (.slice n a.length q) (.slice o c.length r) (Yd Yf d);have D:=zh i;obtain⟨⟨H,I,J,K,L⟩,_⟩:=i;clear l hx z hk;go_enter Tryz.func12,Tryz.ntmps12;go_upto_region 1 with fail;generalize(w.alloc (Yg #[Yd Yf b,.slice m f.length p,.slice n a.length q,.slice o c.length r,Yd Yf d] 36))=N at *;go_wp2_with fail;go_ret;exact⟨Zh,Za D.out⟩
theorem ZnQ (w:Yh) (v:Yi) (ns:List Nd) (A B C:Yi) (b:Int) (f:List (List UInt8)) (a c:List Int) (d:Int) (z:Zi w v ns) (hx:ZU w ((A,B,C),⟨b,f,a,c,d⟩)) (hk:ZaB c ns.length) (N:23<b) :
  Calls Tryz.prog 12 #[v,ndV ((A,B,C),⟨b,f,a,c,d⟩)] w fun e w'=>OkB (ZE ns ⟨b,f,a,c,d⟩=true) e/\Below w.heap.size w w':=by
 obtain⟨u,y,s⟩:=id hx;dsimp only at u y s;obtain⟨t,k,j,g,h⟩:=hd6 z hx hk;obtain⟨m,p,rfl,_⟩:=u;obtain⟨n,q,rfl,_,_,l⟩:=y;have F:=zh s.len;obtain⟨o,r,rfl,_⟩:=s;have G:=zh l;unfold ndV at t k j g h⊢;dsimp only at t k j g h⊢;have E:=zh (ZcE w (Yd Yf b) (.slice m f.length p) (.slice n a.length q) (.slice o c.length r) (Yd Yf d));have i:=ZcA w (Yd Yf b) (.slice m f.length p) (.slice n a.length q) (.slice o c.length r) (Yd Yf d);have D:=zh i;obtain⟨⟨H,I,J,K,L⟩,_⟩:=i;clear l hx z hk;have M:0<=b:=by omega
 go_enter Tryz.func12,Tryz.ntmps12;go_upto_region 1 with fail;generalize(w.alloc (Yg #[Yd Yf b,.slice m f.length p,.slice n a.length q,.slice o c.length r,Yd Yf d] 36))=O at *;go_wp2_with fail;go_ret;exact⟨Zh,Za D.out⟩
theorem ZlX (w:Yh) (v:Yi) (ns:List Nd) (B C D:Yi) (c:Int) (g:List (List UInt8)) (a d:List Int) (f:Int) (A:Zi w v ns) (hx:ZU w ((B,C,D),⟨c,g,a,d,f⟩)) (hk:ZaB d ns.length) (K:0<=c) (L:c<=6) :
  Calls Tryz.prog 12 #[v,ndV ((B,C,D),⟨c,g,a,d,f⟩)] w fun e w'=>OkB (ZE ns ⟨c,g,a,d,f⟩=true) e/\Below w.heap.size w w':=by
 obtain⟨G,H,z⟩:=id hx;dsimp only at G H z;obtain⟨F,l,k,h,i⟩:=hd6 A hx hk;have r:=zh (fun(wr:Yh) (I:Below w.heap.size w wr)=>ZnR wr v ns B C D c g a d f (A.below I) (hx.below I) hk K L);obtain⟨o,t,rfl,_⟩:=G;obtain⟨p,u,rfl,_,_,m⟩:=H;have N:=zh z.len;obtain⟨q,y,rfl,_⟩:=z;have O:=zh m;unfold ndV at F l k h i r⊢;dsimp only at F l k h i r⊢;have J:=zh (ZcE w (Yd Yf c) (.slice o g.length t) (.slice p a.length u) (.slice q d.length y) (Yd Yf f));have j:=ZcA w (Yd Yf c) (.slice o g.length t) (.slice p a.length u) (.slice q d.length y) (Yd Yf f);have s:=zh j;obtain⟨⟨P,Q,R,S,T⟩,_⟩:=j;clear m hx A hk;have U:c<=23:=by omega
 go_enter Tryz.func12,Tryz.ntmps12;go_upto_region 1 with fail;generalize(w.alloc (Yg #[Yd Yf c,.slice o g.length t,.slice p a.length u,.slice q d.length y,Yd Yf f] 36))=M at *;go_wp2_with (go_at_call 21;go_fit (r.out M (Za s.out));rintro ea V ⟨⟨b,rfl,hq⟩,n⟩;have E:=zh (zi hq ((Za s.out).trans (n.mono (Za s.out).size)));clear hq n);go_ret;exact⟨Znr E.out.1,E.out.2⟩
theorem ZlW (w:Yh) (v:Yi) (ns:List Nd) (C D E:Yi) (c:Int) (g:List (List UInt8)) (a d:List Int) (f:Int) (B:Zi w v ns) (hx:ZU w ((C,D,E),⟨c,g,a,d,f⟩)) (hk:ZaB d ns.length) (Q:7<=c) (R:c<=19) (z:c≠15) :
  Calls Tryz.prog 12 #[v,ndV ((C,D,E),⟨c,g,a,d,f⟩)] w fun e w'=>OkB (ZE ns ⟨c,g,a,d,f⟩=true) e/\Below w.heap.size w w':=by
 obtain⟨H,I,A⟩:=id hx;dsimp only at H I A;obtain⟨G,l,k,h,i⟩:=hd6 B hx hk;have r:=zh (fun(wr:Yh) (J:Below w.heap.size w wr)=>ZnL wr v ns C D E c g a d f (B.below J) (hx.below J) hk Q R z);obtain⟨o,t,rfl,_⟩:=H;obtain⟨p,u,rfl,_,_,m⟩:=I;have T:=zh A.len;obtain⟨q,y,rfl,_⟩:=A;have U:=zh m;unfold ndV at G l k h i r⊢;dsimp only at G l k h i r⊢;have K:=zh (ZcE w (Yd Yf c) (.slice o g.length t) (.slice p a.length u) (.slice q d.length y) (Yd Yf f));have j:=ZcA w (Yd Yf c) (.slice o g.length t) (.slice p a.length u) (.slice q d.length y) (Yd Yf f);have s:=zh j;obtain⟨⟨V,W,X,Y,Z⟩,_⟩:=j;clear m hx B hk;have q1:0<=c:=by omega
 have q2:c<=23:=by omega
 have q3:6<c:=by omega
 have L:(c==15)=false:=by rw[beq_eq_false_iff_ne];omega
 have N:(c==21)=false:=by rw[beq_eq_false_iff_ne];omega
 have M:(c==20)=false:=by rw[beq_eq_false_iff_ne];omega
 have O:(c==22)=false:=by rw[beq_eq_false_iff_ne];omega
 have P:(c==23)=false:=by rw[beq_eq_false_iff_ne];omega
 go_enter Tryz.func12,Tryz.ntmps12;go_upto_region 1 with fail;generalize(w.alloc (Yg #[Yd Yf c,.slice o g.length t,.slice p a.length u,.slice q d.length y,Yd Yf f] 36))=S at *;go_wp2_with (go_at_call 26;go_fit (r.out S (Za s.out));rintro ea wa ⟨⟨b,rfl,hq⟩,n⟩;have F:=zh (zi hq ((Za s.out).trans (n.mono (Za s.out).size)));clear hq n);go_ret;exact⟨Znr F.out.1,F.out.2⟩
theorem Zpt (w:Yh) (v:Yi) (ns:List Nd) (x:NdV×Nd) (c:Zi w v ns) (hx:ZU w x) (hk:ZaB x.2.kids ns.length) :
  Calls Tryz.prog 12 #[v,ndV x] w fun e w'=>OkB (ZE ns x.2=true) e/\Below w.heap.size w w':=by
 obtain⟨⟨g,h,i⟩,b,j,a,d,f⟩:=x;by_cases p:b<0
 ·exact Zpv w v ns g h i b j a d f c hx hk p
 by_cases q:23<b
 ·exact ZnQ w v ns g h i b j a d f c hx hk q
 by_cases r:b<=6
 ·exact ZlX w v ns g h i b j a d f c hx hk (by omega) r
 by_cases k:b=15
 ·subst k;exact Zk0 w v ns g h i j a d f c hx hk
 by_cases m:b=21
 ·subst m;exact Zpy w v ns g h i j a d f c hx hk
 by_cases l:b=20
 ·subst l;exact Zpx w v ns g h i j a d f c hx hk
 by_cases n:b=22
 ·subst n;exact Zpu w v ns g h i j a d f c hx hk
 by_cases o:b=23
 ·subst o;exact Zpw w v ns g h i j a d f c hx hk
 exact ZlW w v ns g h i b j a d f c hx hk (by omega) (by omega) k
end
section
open Go.RowKit
theorem Zj5 {ns:List Nd} (h:ZeV ns):Zof ns:=fun i d hd=>(h.2 i d hd).2
theorem Zhv {w:Yh} {v:Yi} {ns:List Nd} (D:Zi w v ns) {q:Nat} (hq:q<ns.length):∃(d:Nd) (a:Addr) (r:Nat) (b f g:Option Addr) (e1 h i:Nat),ns[q]? = Ya d/\v=Yc (Ya a) ns.length r/\ZU w ((.slice b d.words.length e1,.slice f d.nums.length h,.slice g d.kids.length i),d)/\∀wr:Yh,Below w.heap.size w wr ->
  wr.cell? (a.add (q*5))=Ya (Yd Yf d.kind)/\wr.cell? ⟨(a.add (q*5)).block,(a.add (q*5)).off+1,Yb⟩=Ya (.slice b d.words.length e1)/\wr.cell? ⟨(a.add (q*5)).block,(a.add (q*5)).off+2,Yb⟩=Ya (.slice f d.nums.length h)/\wr.cell? ⟨(a.add (q*5)).block,(a.add (q*5)).off+3,Yb⟩=Ya (.slice g d.kids.length i)/\wr.cell? ⟨(a.add (q*5)).block,(a.add (q*5)).off+4,Yb⟩=Ya (Yd Yf d.pos):=by
 obtain⟨A,c,I,rfl,J,K,n,o,u⟩:=D;obtain⟨y,j⟩:∃y,I[q]? = Ya y:=⟨_,Ym (by have:=congrArg List.length n;rw[List.length_map]at this;omega)⟩
 have hd:ns[q]? = Ya y.2:=by rw[<-n,List.getElem?_map,j];rfl
 obtain⟨a,rfl,_⟩:=ZaG o (Below.refl _ _) j (by omega);have hn:=u y (List.mem_of_getElem? j);obtain⟨⟨b,e1,z,F⟩,⟨f,h,B,G⟩,g,i,C,H⟩:=id hn;refine⟨y.2,a,c,b,f,g,e1,h,i,hd,rfl,⟨⟨b,e1,rfl,F⟩,⟨f,h,rfl,G⟩,g,i,rfl,H⟩,fun wr E=>?_⟩;obtain⟨p,e,s,k,l,m,t⟩:=ZaG o E j (by omega);injection e with e;subst e;rw[z]at k;rw[B]at l;rw[C]at m;exact⟨s,k,l,m,t⟩
theorem ZnV (w:Yh) (v:Yi) (ns:List Nd) (m:Zi w v ns) (E:Zee ns) :
  Calls Tryz.prog 6 #[v] w fun e w'=>OkB (Zb9 ns=true) e/\Below w.heap.size w w':=by
 obtain⟨A,c,rfl⟩:∃A c,v=Yc A ns.length c:=by obtain⟨A,c,_,e,_⟩:=m;exact⟨A,c,e⟩
 by_cases q:1500<ns.length
 ·have tq:(1500:Int)<(ns.length:Int):=by omega
  clear m E q;go_enter Tryz.func6,Tryz.ntmps6;go_wp2_with fail;go_ret;exact⟨Zh,Below.refl _ _⟩
 ·have tq:¬(1500:Int)<(ns.length:Int):=by omega
  have ar:(ns.length:Int)<=1500:=by omega
  have W:=zh (ZlV w _ ns m (by omega) E);have K:=zh (zi m (zi E q));have D0:=zh (fun(h0:0<ns.length)=>Zhv m h0);have DE:=zh (fun(h:ZeV ns)=>ZjM w _ ns m E (Zj5 h) ns.length 0 (by omega) h.1 (by omega));clear m E q;go_enter Tryz.func6,Tryz.ntmps6;go_wp2_with (go_at_call 10;go_fit W.out;rintro e1 w1 ⟨⟨b,rfl,hq⟩,rfl⟩;have V:=zh hq;clear hq;cases b)
  ·go_ret;exact⟨Zh,Below.refl _ _⟩
  ·have G:=V.out trivial;have h1:=G.1;have tz:(0:Int)<(ns.length:Int):=by omega
   obtain⟨d,X,cp,S,T,U,e1,y,Y,hd,M,hI,hc⟩:=D0.out h1;injection M with ea _ ec;subst ea ec;obtain⟨I,N,O,P,Q⟩:=hc _ (Below.refl _ _);rw[show X.add (0*5)=X by unfold Addr.add;simp]at I;have J:=zh (zi G hd);have g:=zh (DE.out G);clear G hd hI hc N O P Q W V;cases zk:(d.kind==0)
   ·have uk:(d.kind != 0)=true:=by rw[bne,zk];rfl
    go_wp2_with fail;go_ret;exact⟨Zh,Below.refl _ _⟩
   ·have uk:(d.kind != 0)=false:=by rw[bne,zk];rfl
    have K0:=zh (show Zs ns 0=0 from(Zde (k:=0) J.out.2).trans (by simpa using zk));rw[show(((0:Nat):Int))=0 from rfl]at g;obtain⟨H,r⟩:∃H,H=htF ns ns.length 0:=⟨_,rfl⟩
    rw[<-r]at g;have HZ:=zh r;clear r;by_cases an:24<H
    ·go_wp2_with (go_at_call 11;go_fit g.out;rintro y w2 ⟨rfl,rfl⟩);go_ret;exact⟨Zh,Below.refl _ _⟩
    ·have R:H<=24:=by omega
     go_wp2_with (go_at_call 11;go_fit g.out;rintro y w2 ⟨rfl,rfl⟩);clear I uk;go_loopg [3] ns.length (fun gk v3 wr=>∃j:Nat,v3=Yd Yf j/\j<=ns.length/\gk=ns.length-j/\(ns.take j).all (ZE ns)=true/\Below w.heap.size w wr)
     case atStart=>exact⟨0,rfl,Nat.zero_le _,rfl,rfl,Below.refl _ _⟩
     case round=>
      obtain⟨j,rfl,Z,p,a,n⟩:=hrel;by_cases D:j=ns.length
      ·have tj:¬(j:Int)<(ns.length:Int):=by omega
       have e:ns.take j=ns:=by rw[D];exact List.take_length
       rw[e]at a;have u:=zh (zi (ZqK J.out.1 (by have:=K.out.2.2;omega) K0.out (by rw[<-HZ.out];exact R) (fun d hd=>List.all_eq_true.mp a d hd)) n);clear e a n p Z;go_wp2_with fail;go_ret;exact⟨Zbm u.out.1,u.out.2⟩
      ·have s:j<ns.length:=by omega
       obtain⟨t,ah,ai,S,T,U,e1,y,Y,o,M,z,C⟩:=Zhv K.out.1 s;injection M with ea _ ec;injection ea with ea;subst ea ec;obtain⟨I,N,O,P,Q⟩:=C _ n;have F:=ZcJ (f:=ZE ns) o a;have L:=zh (Zpt wr _ ns ((Yc S t.words.length e1,Yc T t.nums.length y,Yc U t.kids.length Y),t) (K.out.1.below n) (z.below n) (fun k hk=>by have:=(J.out.1.2 j t o).2 k hk;omega));have tj:(j:Int)<(ns.length:Int):=by omega
       have ap:(0:Int)<=(j:Int):=by omega
       have wj:IntKind.i64.wrap ((j:Int)+1)=(j:Int)+1:=IntWalk.i64_in _ (by omega);have i:=zh (zi p (zi s (zi F n)));clear p s F n D Z a z C o;obtain⟨dk,dw,dn,aj,dp⟩:=t;unfold ndV at L;dsimp only at I N O P Q L i;go_wp2_with (go_at_call 12;go_fit L.out;rintro y w2 ⟨⟨b,rfl,hq⟩,B⟩;have l:=zh (zi hq B);clear hq B;cases b)
       ·go_ret;exact⟨Zh,i.out.2.2.2.trans (l.out.2.mono i.out.2.2.2.size)⟩
       ·go_roundg (ns.length-(j+1))
        case measure=>have:=i.out;omega
        case rel=>exact⟨j+1,by push_cast;rfl,by have:=i.out;omega,rfl,i.out.2.2.1.trans (l.out.1 trivial),i.out.2.2.2.trans (l.out.2.mono i.out.2.2.2.size)⟩
end
section
open Go.RowKit Go.WideShapes Go.ChangeShapes Go.ChangeAt Go.Joins
section
variable {H:Type} {enc:TypeId×Yi->H} {P:Program}
theorem Zj7 {f:Func} {s:ChangeSpec} {c n d m:Bool} {W q:Yh} {args:Array Yi} {v:Yi} {u w:List (DataW H)} {a pa pv:List MemPlace}
  (B:DataW.Whole enc P f.params.toList s.vars c W args.toList u w a)
  (l:∀(b:Nat) (o:Nat->Bool) (hd:Bool),DataW.TrodAll enc P q b o hd f.resultTypes.toList (v.resultList f.resultTypes.size) (s.fn H (u++w)).results [])
  (e:∀o:Nat->Bool,(∀p∈a,o p.block=true)->DataW.TrodAll enc P q 0 o true f.params.toList args.toList (s.fn H (u++w)).args pa)
  (h:∀o:Nat->Bool,(∀p∈a,o p.block=true)->DataW.TrodVars enc P q o s.vars (s.fn H (u++w)).vars pv)
  (i:a=pa++pv) (D:Below W.heap.size W q)
  (C:∀(j:Nat) (t:TypeId) (r:Yi),f.resultTypes[j]? = Ya t->(v.resultList f.resultTypes.size)[j]? = Ya r->Value.okWide P q .any 0 t r) :
  s.post enc P f c n d m W args v q:=by
 have z:∀p∈a,p.block<W.heap.size:=fun p g=>B.lt p g;have k:∀p∈a,(fun b=>decide (b<W.heap.size)) p.block=true:=fun p g=>by simpa using z p g
 refine⟨u,w,a,[],pa,pv,B,l _ _ _,e _ k,h _ k,World.keptBut_mono (fun p g=>⟨g,?_⟩) (D.frame (·∈a)),fun _=>?_⟩
 ·rw[i,List.mem_append]at g;exact Or.inr g
 ·obtain⟨_,_,_,_,_,E,hn⟩:=B;refine⟨C,_,_,([]++pa)++pv,⟨[]++pa,pv,trodAll_append (e _ (fun _ _=>rfl)) (l _ _ _),h _ (fun _ _=>rfl),rfl,?_,?_⟩,?_⟩
  ·intro b A g;have y:MemPlace.cell b A∈a:=by rw[i];simpa using g
   rw[D.frozen (z _ y)];exact E b A y
  ·intro ha;have:=hn ha;rw[i]at this;simpa using this
  ·intro p g _;rw[i];simpa using g
end
theorem Tryz.own:ownKnob Tryz.prog.godebug=Yb:=by kernel_rfl
end
section
open Go.RowKit Go.ChangeShapes Go.WideShapes Go.ChangeAt Go.Joins Go.Deep
theorem Zh2 {H:Type} {P:Program} {e:TypeId}:∀{a:List (DataW H)} {d:DataW H},d∈a->∀n∈d.weights P e,n∈DataW.weightsAll P e a
 |d0::a,d,hd,n,hn=>by
  simp only[DataW.weightsAll,List.mem_append];rcases List.mem_cons.mp hd with rfl|hd
  ·exact .inl hn
  ·exact .inr (Zh2 hd n hn)
theorem Zg5:∀(l:List (NdV×Nd)) (j:Nat) (u:Yi),(Zax l)[j]? = Ya u->∃i x,l[i]? = Ya x/\((j=i*5/\u=Yd Yf x.2.kind)\/(j=i*5+1/\u=x.1.1)\/(j=i*5+2/\u=x.1.2.1)\/(j=i*5+3/\u=x.1.2.2)\/(j=i*5+4/\u=Yd Yf x.2.pos))
 |[],j,u,h=>by simp[Zax]at h
 |y::r,0,u,h=>⟨0,y,rfl,.inl ⟨rfl,by simpa[Zax]using h.symm⟩⟩
 |y::r,1,u,h=>⟨0,y,rfl,.inr (.inl ⟨rfl,by simpa[Zax]using h.symm⟩)⟩
 |y::r,2,u,h=>⟨0,y,rfl,.inr (.inr (.inl ⟨rfl,by simpa[Zax]using h.symm⟩))⟩
 |y::r,3,u,h=>⟨0,y,rfl,.inr (.inr (.inr (.inl ⟨rfl,by simpa[Zax]using h.symm⟩)))⟩
 |y::r,4,u,h=>⟨0,y,rfl,.inr (.inr (.inr (.inr ⟨rfl,by simpa[Zax]using h.symm⟩)))⟩
 |y::r,j+5,u,h=>by
  obtain⟨i,x,hx,hc⟩:=Zg5 r j u (by simpa[Zax]using h);refine⟨i+1,x,by simpa using hx,?_⟩;rcases hc with⟨a,b⟩|⟨a,b⟩|⟨a,b⟩|⟨a,b⟩|⟨a,b⟩
  ·exact .inl ⟨by omega,b⟩
  ·exact .inr (.inl ⟨by omega,b⟩)
  ·exact .inr (.inr (.inl ⟨by omega,b⟩))
  ·exact .inr (.inr (.inr (.inl ⟨by omega,b⟩)))
  ·exact .inr (.inr (.inr (.inr ⟨by omega,b⟩)))
section
variable {H:Type} {enc:TypeId×Yi->H} {P:Program} {w:Yh} {base:Nat} {spare:Nat->Bool} {held:Bool}
theorem ZiN {t e:TypeId} {i:Nat} {c:Yi} {x:DataW H×List MemPlace} (o:P.underlying t=Ya (.slice e)) (q:P.underlying e=Ya (.int Yf)) (hc:P.cellsOf e=1) (p:P.bytesOf e=8) (h:DataW.trod enc P w base spare held i t [c]=Ya x) :
  ∃l,Za7 w c l/\((∀n∈x.1.weights P t,n<=reachBytes)->l.length*8<=reachBytes):=by
 rcases open_ints o q hc h with⟨e1,rfl⟩|⟨a,b,g,f,e1,_,s,hm,A,rfl,k,_⟩
 ·obtain rfl:c=Yc Yb 0 0:=by simpa using e1
  exact⟨[],Za7.nil w,fun _=>by simp⟩
 ·obtain rfl:c=Yc (Ya a) b g:=by simpa using e1
  have v:b<=f.length:=by rw[A];split<;>omega
  have d:(f.take b).length=b:=by rw[List.length_take];omega
  refine⟨f.take b,⟨Ya a,g,by rw[d],by rw[d];exact s,hm,?_⟩,fun z=>?_⟩
  ·rw[d];refine⟨by rw[List.length_map,d,Nat.mul_one],fun hn=>⟨a,rfl,?_,fun j u m=>?_⟩⟩
   ·have:=World.block_lt_of_cell? _ _ (k 0 (by omega));rwa[Zbq]at this
   ·rw[List.getElem?_map]at m;cases hq:(f.take b)[j]? with
    |none=>rw[hq]at m;cases m
    |some y=>
     rw[hq]at m;obtain rfl:Value.int Yf y=u:=by simpa using m
     have r:j<b:=by have:=(List.getElem?_eq_some_iff.mp hq).1;omega
     rw[List.getElem?_take_of_lt r]at hq;rw[k j (by omega),List.getD_eq_getElem?_getD,hq];rfl
  ·have:=z ((lits (H:=H) IntKind.i64 (f.take b)).length*8+(lits (H:=H) IntKind.i64 (f.drop b)).length*8) (by
    simp only[DataW.weights,o,p,List.mem_cons]
    exact .inl (by rw[Nat.add_mul]))
   simp only[lits,List.length_map]at this;omega
theorem Znu {t e:TypeId} {i:Nat} {c:Yi} {x:DataW H×List MemPlace} (q:P.underlying t=Ya (.slice e)) (z:P.underlying e=Ya .string) (hc:P.cellsOf e=1) (v:P.bytesOf e=16) (h:DataW.trod enc P w base spare held i t [c]=Ya x) :
  ∃l,Zdt w c l/\((∀n∈x.1.weights P t,n<=reachBytes)->l.length*16<=reachBytes):=by
 rcases open_strings q z hc h with⟨e1,rfl⟩|⟨a,b,g,f,e1,_,B,hm,F,rfl,k,p⟩
 ·obtain rfl:c=Yc Yb 0 0:=by simpa using e1
  exact⟨[],Zdt.nil w,fun _=>by simp⟩
 ·obtain rfl:c=Yc (Ya a) b g:=by simpa using e1
  have C:b<=f.length:=by rw[F];split<;>omega
  have d:((f.take b).map fun s=>s.data.toList).length=b:=by rw[List.length_map,List.length_take];omega
  refine⟨(f.take b).map fun s=>s.data.toList,⟨Ya a,g,by rw[d],by rw[d];exact B,hm,?_,fun s D=>?_⟩,fun E=>?_⟩
  ·rw[d];refine⟨by rw[List.length_map,d,Nat.mul_one],fun hn=>⟨a,rfl,?_,fun j u m=>?_⟩⟩
   ·have:=World.block_lt_of_cell? _ _ (k 0 (by omega));rwa[Zbq]at this
   ·rw[List.getElem?_map,List.getElem?_map]at m;cases hq:(f.take b)[j]? with
    |none=>rw[hq]at m;cases m
    |some y=>
     rw[hq]at m;obtain rfl:txt y.data.toList=u:=by simpa using m
     have A:j<b:=by have:=(List.getElem?_eq_some_iff.mp hq).1;rw[List.length_take]at this;omega
     rw[List.getElem?_take_of_lt A]at hq;rw[k j (by omega),List.getD_eq_getElem?_getD,hq];cases y;rfl
  ·obtain⟨r,o,rfl⟩:=List.mem_map.1 D;have:=p r (List.mem_of_mem_take o);show r.data.toList.length<=maxLen;rw[Array.length_toList];exact this
  ·have:=E ((strs (H:=H) (f.take b)).length*16+(strs (H:=H) (f.drop b)).length*16) (by
    simp only[DataW.weights,q,v,List.mem_cons]
    exact .inl (by rw[Nat.add_mul]))
   simp only[strs,List.length_map,List.length_take]at this;rw[d];omega
end
section
variable {H:Type} {enc:TypeId×Yi->H} {w:Yh} {base:Nat} {spare:Nat->Bool} {held:Bool}
theorem ZlG {a:Nat} {cs:List Yi} {x:DataW H×List MemPlace} (E:cs.length=5) (h:DataW.trod enc Tryz.prog w base spare held a 36 cs=Ya x) :
  ∃q:NdV×Nd,cs=[Yd Yf q.2.kind,q.1.1,q.1.2.1,q.1.2.2,Yd Yf q.2.pos]/\ZU w q/\((∀n∈x.1.weights Tryz.prog 36,n<=reachBytes)->q.2.words.length*16<=reachBytes/\q.2.nums.length*8<=reachBytes/\q.2.kids.length*8<=reachBytes):=by
 have z:Tryz.prog.cellsOf 3=1:=by kernel_rfl
 have g:Tryz.prog.cellsOf 2=1:=by kernel_rfl
 have i:Tryz.prog.cellsOf 9=1:=by kernel_rfl
 have k:Tryz.prog.cellsOf 32=1:=by kernel_rfl
 have l:Tryz.prog.cellsOf 34=1:=by kernel_rfl
 have o:Tryz.prog.cellsOf 33=1:=by kernel_rfl
 have D:Tryz.prog.bytesOf 3=8:=by kernel_rfl
 have e:Tryz.prog.bytesOf 2=8:=by kernel_rfl
 have f:Tryz.prog.bytesOf 9=16:=by kernel_rfl
 match cs,E with
 |[c0,c1,c2,c3,c4],_=>
  obtain⟨O,n,_,rfl,_,c,b⟩:=DataW.trod_struct Tryz.underlying36 h
  match O,c with
  |[y0,y1,y2,y3,y4],_=>
   have s:=b 0 _ rfl;have t:=b 1 _ rfl;have u:=b 2 _ rfl;have v:=b 3 _ rfl;have y:=b 4 _ rfl;simp[z,k,l,o]at s t u v y;obtain⟨J,p,_,P⟩:=DataW.trod_int Tryz.underlying3 s;obtain⟨K,r,_,Q⟩:=DataW.trod_int Tryz.underlying3 y;obtain⟨F,L,A⟩:=Znu Tryz.underlying33 Tryz.underlying9 i f t;obtain⟨G,M,B⟩:=ZiN Tryz.underlying34 Tryz.underlying2 g e u;obtain⟨I,N,C⟩:=ZiN Tryz.underlying32 Tryz.underlying3 z D v;simp only[List.cons.injEq,and_true]at p r;subst p r;refine⟨((c1,c2,c3),⟨J,F,G,I,K⟩),rfl,⟨L,M,N⟩,fun d=>?_⟩;simp only[DataW.weights,Tryz.underlying36,List.map_cons,List.map_nil]at d;exact⟨A fun m hm=>d m (DataW.weights_mem_each (j:=1) rfl rfl m hm),B fun m hm=>d m (DataW.weights_mem_each (j:=2) rfl rfl m hm),C fun m hm=>d m (DataW.weights_mem_each (j:=3) rfl rfl m hm)⟩
theorem ZsI {b:Type} [Inhabited b] {n:Nat} {p:Nat->b->Prop} (h:∀i,i<n->∃a,p i a):∃f:Nat->b,∀i,i<n->p i (f i):=
 ⟨fun i=>if q:i<n then Classical.choose (h i q)else default,fun i q=>by dsimp only;rw[dif_pos q];exact Classical.choose_spec (h i q)⟩
instance:Inhabited (NdV×Nd):=⟨((undef,undef,undef),nd0)⟩
theorem Zns {N:Nat} {r:Reach} {v:Yi} {d:DataW H} {p:List MemPlace} (hv:Value.okWide Tryz.prog w r N 22 v) (h:DataW.Trod enc Tryz.prog w base spare held 22 v d p):∃ns,Zi w v ns/\((∀n∈d.weights Tryz.prog 22,n<=reachBytes)->Zee ns):=by
 obtain⟨a,b,o,rfl⟩:=okWide_slice Tryz.underlying22 hv;obtain⟨E,S⟩:=h;have R:Tryz.prog.cellsOf 36=5:=by kernel_rfl
 rcases open_slice Tryz.underlying22 (by simpa[Value.cells]using S)with⟨hc,_⟩|⟨l,z,s,m,n,D,X,hc,Y,T,hm,B,hx,L⟩
 ·obtain⟨rfl,rfl,rfl⟩:a=Yb/\b=0/\o=0:=by simpa using hc
  exact⟨[],Zi.nil w,fun _ x hx=>by cases hx⟩
 ·obtain⟨rfl,rfl,rfl⟩:a=Ya l/\b=z/\o=s:=by simpa using hc
  have U:b<=m:=by rw[B];split<;>omega
  rw[R]at L;have hd:d=.slice ((List.range b).map D) ((List.range (m-b)).map fun j=>D (b+j)):=(Prod.mk.inj hx).1;have y:∀i,i<b->∃q:NdV×Nd,(w.cell? (l.add (i*5))=Ya (Yd Yf q.2.kind)/\w.cell? (l.add (i*5+1))=Ya q.1.1/\w.cell? (l.add (i*5+2))=Ya q.1.2.1/\w.cell? (l.add (i*5+3))=Ya q.1.2.2/\w.cell? (l.add (i*5+4))=Ya (Yd Yf q.2.pos))/\ZU w q/\((∀n∈(D i).weights Tryz.prog 36,n<=reachBytes)->q.2.words.length*16<=reachBytes/\q.2.nums.length*8<=reachBytes/\q.2.kids.length*8<=reachBytes):=by intro i c;obtain⟨O,P,Q⟩:=L i (by omega);obtain⟨_,A,f⟩:=World.cells?_some P;obtain⟨q,e,M,C⟩:=ZlG A Q;subst e;have F:=f 0 (by omega);have G:=f 1 (by omega);have I:=f 2 (by omega);have J:=f 3 (by omega);have K:=f 4 (by omega);rw[Zfy]at F G I J K;exact⟨q,⟨F,G,I,J,K⟩,M,C⟩
  obtain⟨q,hq⟩:=ZsI y;have k:((List.range b).map fun i=>(q i).2).length=b:=by simp
  refine⟨(List.range b).map fun i=>(q i).2,⟨Ya l,o,(List.range b).map q,by rw[k],by rw[k];exact T,hm,by rw[List.map_map];rfl,?_,fun x hx=>?_⟩,fun C t V=>?_⟩
  ·rw[k];refine⟨by rw[Zet,List.length_map,List.length_range],fun hn=>⟨l,rfl,?_,fun j u W=>?_⟩⟩
   ·have:=World.block_lt_of_cell? _ _ (hq 0 hn).1.1;rwa[Zbq]at this
   ·obtain⟨i,x,hx,hc⟩:=Zg5 _ j u W;rw[List.getElem?_map]at hx;have c:i<b:=by
     rcases Nat.lt_or_ge i b with g|g
     ·exact g
     ·rw[List.getElem?_eq_none (by simpa using g)]at hx;cases hx
    rw[List.getElem?_range c]at hx;obtain rfl:q i=x:=by simpa using hx
    rcases hc with⟨rfl,rfl⟩|⟨rfl,rfl⟩|⟨rfl,rfl⟩|⟨rfl,rfl⟩|⟨rfl,rfl⟩
    ·exact(hq i c).1.1
    ·exact(hq i c).1.2.1
    ·exact(hq i c).1.2.2.1
    ·exact(hq i c).1.2.2.2.1
    ·exact(hq i c).1.2.2.2.2
  ·obtain⟨i,c,rfl⟩:=List.mem_map.1 hx;exact(hq i (List.mem_range.1 c)).2.1
  ·obtain⟨i,c,rfl⟩:=List.mem_map.1 V
   have:=(hq i (List.mem_range.1 c)).2.2 (fun n hn=>C n (by
    rw[hd];simp only[DataW.weights,Tryz.underlying22,List.mem_cons,List.mem_append]
    exact .inr (.inl (Zh2 (List.mem_map.mpr ⟨i,c,rfl⟩) n hn))))
   have M:reachBytes=140737488351232:=rfl;omega
end
end
end Go.Proofs.YtdkegpkfjgloeaaGreatDoor
