import Derived.Deep.DeepFit
import Derived.Test.YtbfnnolakggbfaaGreatDoorQAU
import Derived.Test.YtbfnnolakggbfaaGreatDoorQAY
import Derived.Test.YtbfnnolakggbfaaGreatDoorQBQ
set_option maxRecDepth 100000
set_option maxHeartbeats 8000000
open Option renaming some → Ya, none → Yb
open Go.Value renaming slice → Yc, int → Yd
open Go.IntKind renaming i64 → Yf
open Go.Obj renaming cells → Yg
open Go renaming World → Yh, Value → Yi
namespace Go.Proofs.YtbfnnolakggbfaaGreatDoor
section
open Go.RowKit
def Zau:List Trm->List Int->List Trm
 |t::l,k::tk=>if k<0 then t::Zau l tk else Zau l tk
 |_,_=>[]
theorem Zg8:∀{a b:List Trm} {c d:List Int},a.length=c.length->Zau (a++b) (c++d)=Zau a c++Zau b d
 |[],b,[],d,_=>rfl
 |x::a,b,k::c,d,h=>by
  rw[List.cons_append,List.cons_append,Zau,Zau,Zg8 (by simpa using h)]
  split<;>rfl
theorem Zek {t:Trm}:∀{l:List Trm} {tk:List Int},t∈Zau l tk->∃(i:Nat) (k:Int),l[i]? = Ya t/\tk[i]? = Ya k/\k<0
 |[],_,h=>by simp[Zau]at h
 |_::_,[],h=>by simp[Zau]at h
 |x::l,k::tk,h=>by
  rw[Zau]at h
  split at h
  ·rename_i d
   rcases List.mem_cons.1 h with rfl|h
   ·exact⟨0,k,rfl,rfl,d⟩
   ·obtain⟨i,z,a,b,c⟩:=Zek h;exact⟨i+1,z,a,b,c⟩
  ·obtain⟨i,z,a,b,c⟩:=Zek h;exact⟨i+1,z,a,b,c⟩
theorem Zeg {t:Trm} {k:Int} (a:k<0):∀{l:List Trm} {tk:List Int} {i:Nat},l[i]? = Ya t->tk[i]? = Ya k->t∈Zau l tk
 |[],_,_,h,_=>by simp at h
 |_::_,[],_,_,h=>by simp at h
 |x::l,z::tk,0,h,g=>by
  obtain rfl:=Option.some.inj h;obtain rfl:=Option.some.inj g;rw[Zau,Yo a];exact List.mem_cons_self
 |x::l,z::tk,i+1,h,g=>by
  have:=Zeg a (l:=l) (tk:=tk) (i:=i) h g;rw[Zau]
  split
  ·exact List.mem_cons_of_mem _ this
  ·exact this
theorem ZjW:∀(l:List Trm),Zau l (List.replicate l.length (-1))=l
 |[]=>rfl
 |x::l=>by
  rw[Yk,List.replicate_succ,Zau,Yo (by decide),ZjW l]
theorem ZoI {a:Type} {l:List a} {i:Nat} {t:a} (h:l[i]? = Ya t):l=l.take i++t::l.drop (i+1):=by have b:=Za8 h;rw[Ym b]at h;rw[<-Option.some.inj h,List.getElem_cons_drop,List.take_append_drop]
theorem ZjX {l:List Trm} {tk:List Int} {i:Nat} {t:Trm} {k:Int} (f:tk.length=l.length) (h:l[i]? = Ya t) (g:tk[i]? = Ya k) :
  Zau l tk=Zau (l.take i) (tk.take i)++(if k<0 then t::Zau (l.drop (i+1)) (tk.drop (i+1))else Zau (l.drop (i+1)) (tk.drop (i+1))):=by
 have e:=Zg8 (a:=l.take i) (c:=tk.take i) (b:=t::l.drop (i+1)) (d:=k::tk.drop (i+1)) (by rw[List.length_take,List.length_take,f]);rw[<-ZoI h,<-ZoI g]at e;rw[e,Zau]
theorem Zh2 {f:Trm->Option Trm}:∀{a b c d:List Trm},Zah f a=Ya c->Zah f b=Ya d->Zah f (a++b)=Ya (c++d)
 |[],b,c,d,h,g=>by
  obtain rfl:[]=c:=by simpa[Zah]using h
  exact g
 |x::a,b,c,d,h,g=>by
  rw[Zah,Option.bind_eq_some_iff]at h;obtain⟨u,hu,h⟩:=h;obtain⟨r,e,rfl⟩:=Option.map_eq_some_iff.1 h;rw[List.cons_append,Zah,hu,Option.bind_some,Zh2 e g];rfl
theorem Zhg {f:Trm->Option Trm}:∀{l us:List Trm} {tk:List Int},us.length=l.length->(∀(j:Nat) (t:Trm),l[j]? = Ya t->∃u,us[j]? = Ya u/\f t=Ya u)->Zah f (Zau l tk)=Ya (Zau us tk)
 |[],us,tk,h,_=>by
  obtain rfl:=List.eq_nil_of_length_eq_zero h;cases tk<;>rfl
 |x::l,[],_,h,_=>by cases h
 |x::l,u::us,[],h,g=>rfl
 |x::l,u::us,k::tk,h,g=>by
  have a:=Zhg (f:=f) (l:=l) (us:=us) (tk:=tk) (by simpa using h) fun j t c=>g (j+1) t c;obtain⟨d,hu,b⟩:=g 0 x rfl;obtain rfl:=Option.some.inj hu;rw[Zau,Zau]
  split
  ·rw[Zah,b,Option.bind_some,a];rfl
  ·exact a
structure Beside (n:Nat) (s:Zco) (l:List Trm) (tk od:List Int):Prop where
 ll:l.length=n
 tl:tk.length=n
 free:s.1=Zau l tk
 ol:od.length=s.2.1.length
 at_:∀(m:Nat) (o:Int),od[m]? = Ya o->∃(i:Nat) (t:Trm) (z:Int),o=i/\l[i]? = Ya t/\s.2.1[m]? = Ya t/\tk[i]? = Ya z/\0<=z
 cover:∀(i:Nat) (z:Int),tk[i]? = Ya z->0<=z->∃m:Nat,od[m]? = Ya (i:Int)
theorem Beside.start (ts:List Trm):Beside ts.length (ts,[],[]) ts (List.replicate ts.length (-1)) []:=by
 refine⟨rfl,List.length_replicate,(ZjW ts).symm,rfl,fun m o h=>by simp at h,fun i z h a=>?_⟩;rw[List.getElem?_replicate]at h
 split at h
 ·have:=Option.some.inj h;omega
 ·cases h
theorem Beside.none_ {n:Nat} {s:Zco} {l:List Trm} {tk g:List Int} {v:Int} (h:Beside n s l tk g) (d:ZeI v l tk (-1)):ZaJ s v=Ya s:=by
 have e:s.1.findIdx? (Zbb v)=Yb:=by
  rw[List.findIdx?_eq_none_iff];intro t f;rw[h.free]at f;obtain⟨i,k,a,b,c⟩:=Zek f;rcases d with⟨_,d⟩|⟨j,e,_⟩
  ·have:=d i t k a b;unfold Ze4 at this;rw[decide_eq_true c,Bool.true_and]at this;exact this
  ·omega
 unfold ZaJ;rw[e]
theorem Beside.found {n:Nat} {s:Zco} {l:List Trm} {tk m:List Int} {v:Int} {i:Nat} (h:Beside n s l tk m) (g:ZeI v l tk i) :
  ∃(t:Trm) (k:Int),l[i]? = Ya t/\tk[i]? = Ya k/\k<0/\Zbb v t=true/\s.1=Zau (l.take i) (tk.take i)++t::Zau (l.drop (i+1)) (tk.drop (i+1)) ∧
   s.1.findIdx? (Zbb v)=Ya (Zau (l.take i) (tk.take i)).length:=by
 rcases g with⟨e,_⟩|⟨j,e,⟨t,k,a,b,c⟩,d⟩
 ·omega
 obtain rfl:i=j:=by omega
 unfold Ze4 at c;rw[Bool.and_eq_true,decide_eq_true_eq]at c;have e:=ZjX (by rw[h.tl,h.ll]) a b;rw[Yo c.1,<-h.free]at e;refine⟨t,k,a,b,c.1,c.2,e,Zlo (t:=t) ?_ c.2 ?_⟩
 ·rw[e,List.getElem?_append_right (Nat.le_refl _),Nat.sub_self];rfl
 ·rw[e,List.take_left,List.any_eq_false];intro u hu;obtain⟨j,z,p,q,r⟩:=Zek hu;rw[List.getElem?_take]at p q
  split at p
  ·rename_i f
   rw[Yo f]at q;have:=d j u z f p q;unfold Ze4 at this;rw[decide_eq_true r,Bool.true_and]at this;rw[this];decide
  ·cases p
theorem Zg7 {c:Type}:∀(a:List c) (t:c) (b:List c),(a++t::b).eraseIdx a.length=a++b
 |[],_,_=>rfl
 |x::a,t,b=>by
  show x::(a++t::b).eraseIdx a.length=x::(a++b)
  rw[Zg7 a t b]
theorem Beside.over {n:Nat} {s:Zco} {l:List Trm} {tk F:List Int} {v:Int} {i:Nat} {t:Trm} (h:Beside n s l tk F) (C:ZeI v l tk i) (D:l[i]? = Ya t) (r:(ZL t v).2.2≠0\/ZgX ((ZL t v).1,(ZL t v).2.1) v i l):ZaJ s v=Yb:=by
 obtain⟨I,k,a,b,c,d,e,f⟩:=h.found C;rw[D]at a;obtain rfl:=Option.some.inj a;have g:s.1[(Zau (l.take i) (tk.take i)).length]? = Ya t:=by rw[e,List.getElem?_append_right (Nat.le_refl _),Nat.sub_self];rfl
 unfold ZaJ;rw[f];dsimp only;rw[g,Option.bind_some];by_cases he:(ZL t v).2.2=0
 rotate_left
 ·exact Yn he
 rw[Yo he];rcases r with r|⟨j,u,p,hu⟩
 ·exact absurd he r
 have w:j≠i:=fun q=>by
  unfold Ze5 at hu;rw[Yo q]at hu;cases hu
 have A:ZO ((ZL t v).1,(ZL t v).2.1) v u=Yb:=by unfold Ze5 at hu;rw[Yn w]at hu;exact hu
 have x:=Za8 p;obtain⟨z,y⟩:∃z,tk[j]? = Ya z:=⟨_,Ym (by rw[h.tl,<-h.ll];exact x)⟩
 by_cases o:z<0
 ·have hm:u∈s.1.eraseIdx (Zau (l.take i) (tk.take i)).length:=by
   rw[e,Zg7,List.mem_append];rcases Nat.lt_or_ge j i with q|q
   ·exact .inl (Zeg o (i:=j) (by rw[List.getElem?_take,Yo q];exact p) (by rw[List.getElem?_take,Yo q];exact y))
   ·exact .inr (Zeg o (i:=j-(i+1)) (by rw[List.getElem?_drop,show i+1+(j-(i+1))=j by omega];exact p) (by rw[List.getElem?_drop,show i+1+(j-(i+1))=j by omega];exact y))
  rw[Zgm A hm];rfl
 ·obtain⟨m,hm⟩:=h.cover j z y (by omega);obtain⟨E,J,_,H,B,G,_⟩:=h.at_ m j hm;obtain rfl:j=E:=by omega
  rw[p]at B;obtain rfl:=Option.some.inj B;rw[Zgm A (List.mem_of_getElem? G)];cases Zah (ZO ((ZL t v).1,(ZL t v).2.1) v) (s.1.eraseIdx (Zau (l.take i) (tk.take i)).length)<;>rfl
theorem Beside.next {n:Nat} {s:Zco} {l us:List Trm} {tk D:List Int} {v:Int} {i:Nat} {t:Trm} (h:Beside n s l tk D) (hv:0<=v) (Z:ZeI v l tk i) (N:l[i]? = Ya t) (he:(ZL t v).2.2=0) (hu:Znv ((ZL t v).1,(ZL t v).2.1) v i l us) :
  ∃r,ZaJ s v=Ya r/\Beside n r us (tk.set i v) (D++[(i:Int)])/\r.2.2=s.2.2++[v]:=by
 obtain⟨t',k,a,b,c,d,e,f⟩:=h.found Z;rw[N]at a;obtain rfl:=Option.some.inj a;have g:s.1[(Zau (l.take i) (tk.take i)).length]? = Ya t:=by rw[e,List.getElem?_append_right (Nat.le_refl _),Nat.sub_self];rfl
 have aa:=Za8 N;have P:=Za8 b
 have p:∀(j:Nat) (x:Trm),j≠i->l[j]? = Ya x->∃u,us[j]? = Ya u/\ZO ((ZL t v).1,(ZL t v).2.1) v x=Ya u:=fun j x hj B=>by
  obtain⟨u,C,A⟩:=hu.2 j x B;unfold Ze5 at A;rw[Yn hj]at A;exact⟨u,C,A⟩
 have I:us[i]? = Ya ((ZL t v).1,(ZL t v).2.1):=by obtain⟨u,C,A⟩:=hu.2 i t N;unfold Ze5 at A;rw[Yo rfl]at A;rw[C,A]
 have m1:Zah (ZO ((ZL t v).1,(ZL t v).2.1) v) (Zau (l.take i) (tk.take i))=Ya (Zau (us.take i) (tk.take i)):=by
  refine Zhg (by rw[List.length_take,List.length_take,hu.1]) fun j x B=>?_;rw[List.getElem?_take]at B⊢
  split at B
  ·rename_i q
   rw[Yo q];exact p j x (by omega) B
  ·cases B
 have m2:Zah (ZO ((ZL t v).1,(ZL t v).2.1) v) (Zau (l.drop (i+1)) (tk.drop (i+1)))=Ya (Zau (us.drop (i+1)) (tk.drop (i+1))):=by refine Zhg (by rw[List.length_drop,List.length_drop,hu.1]) fun j x B=>?_;rw[List.getElem?_drop]at B⊢;exact p _ x (by omega) B
 have R:∀(m j:Nat),D[m]? = Ya (j:Int)->j≠i:=fun m j hm q=>by
  obtain⟨i',_,z,C,_,_,H,J⟩:=h.at_ m j hm;obtain rfl:j=i':=by omega
  rw[q,b]at H;have:=Option.some.inj H;omega
 obtain⟨Q,T,Y⟩:∃Q,Zah (ZO ((ZL t v).1,(ZL t v).2.1) v) s.2.1=Ya Q/\∀(m j:Nat),D[m]? = Ya (j:Int)->∃x,us[j]? = Ya x/\Q[m]? = Ya x:=by
  have L:∀(m:Nat) (x:Trm),s.2.1[m]? = Ya x->∃u,ZO ((ZL t v).1,(ZL t v).2.1) v x=Ya u:=fun m x B=>by
   obtain⟨o,U⟩:∃o,D[m]? = Ya o:=⟨_,Ym (by rw[h.ol];exact Za8 B)⟩
   obtain⟨j,X,_,rfl,A,E,_⟩:=h.at_ m o U;rw[B]at E;obtain rfl:=Option.some.inj E;obtain⟨u,_,q⟩:=p j x (R m j U) A;exact⟨u,q⟩
  cases hq:Zah (ZO ((ZL t v).1,(ZL t v).2.1) v) s.2.1 with
  |none=>
   exfalso;have G:∀(f:Trm->Option Trm) (y:List Trm),Zah f y=Yb->∃x∈y,f x=Yb:=by
    intro f y
    induction y with
    |nil=>intro q;simp[Zah]at q
    |cons x r ih=>
     intro q;cases B:f x with
     |none=>exact⟨x,by simp,B⟩
     |some u=>
      rw[Zah,B,Option.bind_some,Option.map_eq_none_iff]at q;obtain⟨X,C,A⟩:=ih q;exact⟨X,by simp[C],A⟩
   obtain⟨x,C,A⟩:=G _ _ hq;obtain⟨m,hm⟩:=List.mem_iff_getElem?.1 C;obtain⟨u,E⟩:=L m x hm;rw[A]at E;cases E
  |some Q=>
   refine⟨Q,rfl,fun m j hm=>?_⟩;obtain⟨j',x,_,C,A,E,_⟩:=h.at_ m j hm;obtain rfl:j=j':=by omega
   obtain⟨u,H,J⟩:=p j x (R m j hm) A;obtain⟨u',S,K⟩:=ZjB hq m x E;rw[J]at K;exact⟨u,H,by rw[S,<-Option.some.inj K]⟩
 have F:=Zc0 T;refine⟨(Zau (us.take i) (tk.take i)++Zau (us.drop (i+1)) (tk.drop (i+1)),Q++[((ZL t v).1,(ZL t v).2.1)],s.2.2++[v]),?_,?_,rfl⟩
 ·unfold ZaJ;rw[f];dsimp only;rw[g,Option.bind_some,Yo he,e,Zg7,Zh2 m1 m2,Option.bind_some,T];rfl
 ·have W:(tk.set i v)[i]? = Ya v:=by rw[List.getElem?_set_self P]
  refine⟨by rw[hu.1,h.ll],by rw[List.length_set,h.tl],?_,?_,?_,?_⟩
  ·have q:=ZjX (l:=us) (tk:=tk.set i v) (i:=i) (by rw[List.length_set,h.tl,hu.1,h.ll]) I W;rw[Yn (by omega),List.take_set_of_le (Nat.le_refl _),List.drop_set_of_lt (by omega)]at q;exact q.symm
  ·rw[Yj,Yj,h.ol,F];rfl
  ·intro m o hm;rcases Nat.lt_or_ge m D.length with q|q
   ·rw[List.getElem?_append_left q]at hm;obtain⟨j,x,z,rfl,A,E,H,J⟩:=h.at_ m o hm;obtain⟨u,S,K⟩:=Y m j hm;exact⟨j,u,z,rfl,S,by rw[List.getElem?_append_left (by rw[F,<-h.ol];exact q)];exact K,by rw[List.getElem?_set_ne (fun w=>R m j hm w.symm)];exact H,J⟩
   ·have M:=Za8 hm;rw[Yj,List.length_singleton]at M;obtain rfl:m=D.length:=by omega
    rw[List.getElem?_append_right (Nat.le_refl _),Nat.sub_self]at hm;obtain rfl:=Option.some.inj hm;exact⟨i,_,v,rfl,I,by rw[h.ol,<-F,List.getElem?_append_right (Nat.le_refl _),Nat.sub_self];rfl,W,hv⟩
  ·intro j z V O;by_cases q:j=i
   ·exact⟨D.length,by rw[List.getElem?_append_right (Nat.le_refl _),Nat.sub_self,q];rfl⟩
   ·rw[List.getElem?_set_ne (fun w=>q w.symm)]at V;obtain⟨m,hm⟩:=h.cover j z V O;exact⟨m,by rw[List.getElem?_append_left (Za8 hm)];exact hm⟩
end
section
open Go.RowKit
abbrev Zf5:=Yi×List Int
def ZdO (a:Yi) (R:List Zf5) (b:Nat):Prop:=a.ownBlock=Ya b\/∃x∈R,x.1.ownBlock=Ya b
def Zii (x y:Zf5):Prop:=∀b,x.1.ownBlock=Ya b->y.1.ownBlock≠Ya b
theorem Zii.symm {x y:Zf5} (h:Zii x y):Zii y x:=fun b a q=>h b q a
structure RowsS (W w:Yh) (vl:Yi) (l:List Trm) (R:List Zf5):Prop where
 l:ZV w W.heap.size vl l (ZdO vl R)
 r:∀x∈R,w.ownsRow W.heap.size 3 1 x.1 x.2.length (ZbT x.2)
 lr:∀x∈R,∀b,vl.ownBlock=Ya b->x.1.ownBlock≠Ya b
 rr:R.Pairwise Zii
 below:Below W.heap.size W w
section
variable {W w w':Yh} {vl vl' v':Yi} {l:List Trm} {R A B:List Zf5} {x:Zf5} {l':List Int}
theorem Ziv {y:Zf5} {a:Option Nat} (h:w.ownsRow W.heap.size 3 1 y.1 y.2.length (ZbT y.2)) (c:w.grownBy w' a) (d:∀b,a=Ya b->y.1.ownBlock≠Ya b):w'.ownsRow W.heap.size 3 1 y.1 y.2.length (ZbT y.2):=by
 refine h.kept c ?_;cases q:a with
 |none=>cases hv:y.1.ownBlock<;>simp
 |some b=>exact .inr (d b q)
theorem RowsS.keep (h:RowsS W w vl l R) (a:Below w.heap.size w w'):RowsS W w' vl l R:=
 ⟨h.l.below a,fun y c=>Ziv (h.r y c) (ZY a Yb) fun b q=>(by cases q),h.lr,h.rr,h.below.trans (a.mono h.below.size)⟩
theorem RowsS.lt (h:RowsS W w vl l R):∀b,ZdO vl R b->W.heap.size<=b/\b<w.heap.size:=by
 intro b a;rcases a with g|⟨y,c,g⟩
 ·exact h.l.lt b g
 ·exact(h.r y c).lt b g
theorem RowsS.row (h:RowsS W w vl l (A++x::B)) (i:w'.ownsRow W.heap.size 3 1 v' l'.length (ZbT l')) (n:w.grownBy w' x.1.ownBlock) (p:v'.ownBlock=x.1.ownBlock\/v'.ownBlock=Ya w.heap.size):RowsS W w' vl l (A++(v',l')::B):=by
 obtain⟨E,t,m⟩:=List.pairwise_append.1 h.rr;obtain⟨u,t⟩:=List.pairwise_cons.1 t;have j:x∈A++x::B:=by simp
 have d:∀y,y∈A\/y∈B->y∈A++x::B/\Zii x y:=fun y c=>by
  rcases c with q|q
  ·exact⟨by simp[q],(m y q x (by simp)).symm⟩
  ·exact⟨by simp[q],u y q⟩
 have f:∀y,y∈A++(v',l')::B->y=(v',l')\/(y∈A\/y∈B):=fun y c=>by
  rcases List.mem_append.1 c with q|q
  ·exact .inr (.inl q)
  ·rcases List.mem_cons.1 q with q|q
   ·exact .inl q
   ·exact .inr (.inr q)
 have lw:=h.lt
 have v:∀y,y∈A++x::B->Zii x y->Zii (v',l') y:=fun y c s b a=>by
  rcases p with e|e
  ·exact s b (e▸a)
  ·have a:v'.ownBlock=Ya b:=a;rw[e]at a;injection a with a;intro q;have:=(lw b (.inr ⟨y,c,q⟩)).2;omega
 have o:∀b,ZdO vl (A++(v',l')::B) b->ZdO vl (A++x::B) b\/w.heap.size<=b:=by
  intro b a;rcases a with g|⟨y,c,g⟩
  ·exact .inl (.inl g)
  ·rcases f y c with q|q
   ·subst q;rcases p with e|e
    ·exact .inl (.inr ⟨x,j,e▸g⟩)
    ·have g:v'.ownBlock=Ya b:=g;rw[e]at g;injection g with g;exact .inr (by omega)
   ·exact .inl (.inr ⟨y,(d y q).1,g⟩)
 have l0:ZV w W.heap.size vl l (fun b=>ZdO vl (A++x::B) b\/ZdO vl (A++(v',l')::B) b):=h.l.mono fun b a=>a.elim .inl (o b);refine⟨(l0.other n fun b a=>⟨.inl (.inr ⟨x,j,a⟩),fun q=>h.lr x j b q a⟩).mono fun b a=>.inl (.inr a),fun y c=>?_,fun y c b a=>?_,?_,h.below.grown n h.below.size fun k C=>((h.r x j).lt k C).1⟩
 ·rcases f y c with q|q
  ·subst q;exact i
  ·exact Ziv (h.r y (d y q).1) n fun b a=>(d y q).2 b a
 ·rcases f y c with q|q
  ·subst q;rcases p with e|e
   ·show v'.ownBlock≠Ya b;rw[e];exact h.lr x j b a
   ·show v'.ownBlock≠Ya b;rw[e];intro q;injection q with q;have:=(lw b (.inl a)).2;omega
  ·exact h.lr y (d y q).1 b a
 ·refine List.pairwise_append.2 ⟨E,List.pairwise_cons.2 ⟨fun y c=>v y (d y (.inr c)).1 (d y (.inr c)).2,t⟩,fun y c z D=>?_⟩;rcases List.mem_cons.1 D with q|q
  ·subst q;exact(v y (d y (.inl c)).1 (d y (.inl c)).2).symm
  ·exact m y c z (by simp[q])
theorem RowsS.take {us:List Trm} (h:RowsS W w vl l R) (o:ZV w' w.heap.size vl' us (fun b=>vl'.ownBlock=Ya b\/ZdO vl R b)) (f:Below w.heap.size w w'):RowsS W w' vl' us R:=by
 have d:=h.keep f;refine⟨(o.base h.below.size).mono fun b q=>.inl ?_,d.r,fun x g b q e=>?_,h.rr,d.below⟩
 ·rcases q with q|q
  ·exact .inl q
  ·exact .inr (.inr q)
 ·have a:=(o.lt b q).1;have c:=(h.lt b (.inr ⟨x,g,e⟩)).2;omega
theorem RowsS.push {vt:Yi} {t:Trm} {rs:List (Yi×Trm)} (h:RowsS W w vl l R) (m:rs.map (·.2)=l) (n:∀x∈rs,Za w x.1 x.2.1/\Off (ZdO vl R) x.1 x.2.1)
  (c:w'.ownsRow W.heap.size 37 3 vl' (l.length+1) (Ze rs++[vt,Yd Yf t.2.1,Yd Yf t.2.2])) (f:w.grownBy w' vl.ownBlock) (j:vl'.ownBlock=vl.ownBlock\/vl'.ownBlock=Ya w.heap.size) (s:Za w vt t.1) (p:Off (ZdO vl R) vt t.1):RowsS W w' vl' (l++[t]) R:=by
 have lw:=h.lt;have i:∀b,ZdO vl' R b->ZdO vl R b\/w.heap.size<=b:=by
  intro b a;rcases a with g|g
  ·rcases j with e|e
   ·exact .inl (.inl (e▸g))
   ·rw[e]at g;injection g with g;exact .inr (by omega)
  ·exact .inl (.inr g)
 refine⟨ZV.appended m n c f (fun b a=>.inl a) s p i,fun y d=>Ziv (h.r y d) f fun b a=>h.lr y d b a,fun y d b a=>?_,h.rr,h.below.grown f h.below.size fun k o=>(h.l.lt k o).1⟩;rcases j with e|e
 ·exact h.lr y d b (e▸a)
 ·rw[e]at a;injection a with a;intro q;have:=(lw b (.inr ⟨y,d,q⟩)).2;omega
theorem RowsS.at_ (h:RowsS W w vl l R) (f:x∈R) {i:Nat} {z:Int} (c:x.2[i]? = Ya z):∃g a,x.1=Yc (Ya ⟨g,0,Yb⟩) x.2.length a/\W.heap.size<=g/\w.cell? ⟨g,i,Yb⟩=Ya (Yd Yf z)/\w.frozen? ⟨g,i,Yb⟩=false:=by
 obtain⟨v,k⟩:=x;have b:=h.r _ f;dsimp only at b c⊢;have j:=Za8 c;rcases b.2 with⟨_,q⟩|⟨g,a,d,rfl,e,_⟩
 ·omega
 ·refine⟨g,a,rfl,e,?_,b.frozenAt _⟩;rw[b.cellAt _ (by omega),ZbT,List.getElem?_map,c];rfl
theorem RowsS.stored {g n c i:Nat} {d:List Int} {z:Int} (h:RowsS W w vl l (A++(Yc (Ya ⟨g,0,Yb⟩) n c,d)::B)) (f:n=d.length):RowsS W (w.setCell ⟨g,i,Yb⟩ (Yd Yf z)) vl l (A++(Yc (Ya ⟨g,0,Yb⟩) n c,d.set i z)::B):=by have e:=h.r (Yc (Ya ⟨g,0,Yb⟩) n c,d) (by simp);dsimp only at e;subst f;obtain⟨a,b⟩:=e.stored i (Yd Yf z);refine h.row ?_ b (.inl rfl);rw[List.length_set,ZbT,List.map_set];exact a
theorem Zn8 (w:Yh):RowsS w w (Yc Yb 0 0) [] [(Yc Yb 0 0,[])]:=
 ⟨ZV.nil _ _ _,fun y a=>by rw[List.mem_singleton]at a;subst a;exact World.ownsRow_nil _ _ _ _,fun y _ b c=>(by cases c),List.pairwise_singleton _ _,Below.refl _ _⟩
theorem RowsS.more (h:RowsS W w vl l R):RowsS W w vl l (R++[(Yc Yb 0 0,[])]):=by
 refine⟨h.l.mono fun b c=>.inl ?_,fun y a=>?_,fun y a b c=>?_,?_,h.below⟩
 ·rcases c with q|⟨y,a,q⟩
  ·exact .inl q
  ·rcases List.mem_append.1 a with g|g
   ·exact .inr ⟨y,g,q⟩
   ·rw[List.mem_singleton]at g;subst g;cases q
 ·rcases List.mem_append.1 a with g|g
  ·exact h.r y g
  ·rw[List.mem_singleton]at g;subst g;exact World.ownsRow_nil _ _ _ _
 ·rcases List.mem_append.1 a with g|g
  ·exact h.lr y g b c
  ·rw[List.mem_singleton]at g;subst g;intro q;cases q
 ·refine List.pairwise_append.2 ⟨h.rr,List.pairwise_singleton _ _,fun y _ z d b _ q=>?_⟩;rw[List.mem_singleton]at d;subst d;cases q
end
end
section
open Go.RowKit
theorem RowsS.grow {W w w':Yh} {d v c:Yi} {l:List Trm} {A B:List Zf5} {b:List Int} {z:Int} (h:RowsS W w d l (A++(v,b)::B)) (a:w'.ownsRow W.heap.size 3 1 c (b.length+1) (ZbT b++[Yd Yf z])) (e:w.grownBy w' v.ownBlock) (f:c.ownBlock=v.ownBlock\/c.ownBlock=Ya w.heap.size):RowsS W w' d l (A++(c,b++[z])::B):=by refine h.row ?_ e f;rw[Yj,ZbT,List.map_append];exact a
theorem Beside.ok {n m k:Nat} {s:Zco} {l:List Trm} {tk f:List Int} (h:Beside n s l tk f) (e:SolOk m k s):∀u∈l,TrmOk u:=fun u hu=>by
 obtain⟨i,a⟩:=List.mem_iff_getElem?.1 hu;obtain⟨z,c⟩:∃z,tk[i]? = Ya z:=⟨_,Ym (by rw[h.tl,<-h.ll];exact Za8 a)⟩
 by_cases b:z<0
 ·exact e.l u (by rw[h.free];exact Zeg b a c)
 ·obtain⟨m,hm⟩:=h.cover i z c (by omega);obtain⟨j,t,_,o,d,g,_⟩:=h.at_ m i hm;obtain rfl:i=j:=by omega
  rw[a]at d;obtain rfl:=Option.some.inj d;exact e.q u (List.mem_of_getElem? g)
theorem Zoh {ts:List Trm} (a:ts.length<=400) (c:ts.any ZT=false) (b:∀t∈ts,TrmOk t) {s:Zco} (h:Zaz (ts.map ZN) 8=Ya s):Zy ts=if s.1.any prK=true then(([],[]),1)else((s.2.1,s.2.2),0):=by
 rw[ZfB b]at h;obtain⟨r,d,rfl⟩:=Option.map_eq_some_iff.1 h;unfold Zy;rw[Yo ⟨a,c⟩,d];have e:(ZhQ r).1.any prK=r.1.any prK:=by unfold ZhQ;rw[List.any_map];rfl
 rw[e];rfl
theorem Zoi {ts:List Trm} (b:∀t∈ts,TrmOk t) {k:Nat} (a:k<=8) (h:Zaz (ts.map ZN) k=Yb):Zy ts=(([],[]),2):=by rw[ZfB b,Option.map_eq_none_iff]at h;exact ZfC a h
def Zr3 (w:Yh) (e:Ending) (w':Yh):Prop:=e=.returned (.tuple #[Yc Yb 0 0,.bool false])/\Below w.heap.size w w'
def ZrK (w:Yh) (d:Nat->Prop) (t:Trm) (x:Int) (i:Nat) (ts:List Trm) (e:Ending) (w':Yh):Prop:=
 ∃a A c,Znv ((ZL t x).1,(ZL t x).2.1) x i ts a/\e=.returned (.tuple #[Yc A a.length c,.bool true])/\ZV w' w.heap.size (Yc A a.length c) a (fun b=>(Value.slice A a.length c).ownBlock=Ya b\/d b)/\Below w.heap.size w w'
theorem Zrv {w w':Yh} {a:Nat->Prop} {t:Trm} {x:Int} {i:Nat} {ts:List Trm} {e:Ending} (f:(ZL t x).2.2≠0\/ZgX ((ZL t x).1,(ZL t x).2.1) x i ts) (h:Zed w a t x i ts e w'):Zr3 w e w':=by
 obtain⟨b,⟨d,m,A,c,hu,_⟩|⟨_,q⟩⟩:=h
 ·rcases f with g|⟨j,u,k,l⟩
  ·exact absurd d g
  ·obtain⟨_,_,q⟩:=hu.2 j u k;rw[l]at q;cases q
 ·exact⟨q,b⟩
theorem ZqN {w w':Yh} {a:Nat->Prop} {t:Trm} {x:Int} {i:Nat} {ts:List Trm} {e:Ending} (d:¬((ZL t x).2.2≠0\/ZgX ((ZL t x).1,(ZL t x).2.1) x i ts)) (h:Zed w a t x i ts e w'):ZrK w a t x i ts e w':=by
 obtain⟨b,⟨_,g,A,c,hu,he,f⟩|⟨q,_⟩⟩:=h
 ·exact⟨g,A,c,hu,he,f,b⟩
 ·exact absurd q d
theorem Zqq (z:Int):∀u∈[(Value.int Yf z)],u.oneCell'=true:=fun u hu=>by
 simp at hu;rw[hu];rfl
theorem ZrY (A:Option Addr) (n c:Nat) (x y:Int):∀u∈[(Value.slice A n c),Yd Yf x,Yd Yf y],u.oneCell'=true:=fun u hu=>by
 simp at hu;rcases hu with rfl|rfl|rfl<;>rfl
theorem Znw {W wr g d:Yh} {f:Yi} {l:List Trm} {R:List Zf5} {t:Trm} {kn kd:Int} {A:Option Addr} {c k:Nat} (D:RowsS W wr f l R) (e:Below wr.heap.size wr g) (h:Below g.heap.size g d) (m:l.length=k) (n:Za d (Yc A t.1.length c) t.1) (j:Zp g.heap.size (Yc A t.1.length c)) (ty:TypeId) :
  ∃rs,rs.map (·.2)=l/\(d.alloc (Yg #[Yc A t.1.length c,Yd Yf kn,Yd Yf kd] ty)).ownsRow W.heap.size 37 3 f k (Ze rs)/\(∀x∈rs,Za (d.alloc (Yg #[Yc A t.1.length c,Yd Yf kn,Yd Yf kd] ty)) x.1 x.2.1/\Off (ZdO f R) x.1 x.2.1)/\RowsS W (d.alloc (Yg #[Yc A t.1.length c,Yd Yf kn,Yd Yf kd] ty)) f l R ∧
   Za (d.alloc (Yg #[Yc A t.1.length c,Yd Yf kn,Yd Yf kd] ty)) (Yc A t.1.length c) t.1/\Off (ZdO f R) (Yc A t.1.length c) t.1 ∧
   Zw (d.alloc (Yg #[Yc A t.1.length c,Yd Yf kn,Yd Yf kd] ty)) (d.heap.size+1) 3 (Ya ⟨d.heap.size,0,Yb⟩) 1 [Yc A t.1.length c,Yd Yf kn,Yd Yf kd]:=by
 have a:=below_alloc1 d (Yg #[Yc A t.1.length c,Yd Yf kn,Yd Yf kd] ty);have i:=(D.keep (e.trans (h.mono e.size))).keep a;obtain⟨rs,o,z2,z3⟩:=i.l;rw[m]at z2;exact⟨rs,o,z2,z3,i,n.below a,Off.fresh j fun b q=>Nat.lt_of_lt_of_le (D.lt b q).2 e.size,(Zas (wo:=d) (x:=#[Yc A t.1.length c,Yd Yf kn,Yd Yf kd]) (ty:=ty) (Nat.zero_le _)).reads (size:=3) rfl⟩
structure OutS (W w:Yh) (vo:Yi) (us:List Trm):Prop where
 o:ZV w W.heap.size vo us (fun b=>vo.ownBlock=Ya b)
 below:Below W.heap.size W w
theorem OutS.start (W:Yh):OutS W W (Yc Yb 0 0) []:=⟨ZV.nil _ _ _,Below.refl _ _⟩
theorem OutS.keep {W w w':Yh} {b:Yi} {us:List Trm} (h:OutS W w b us) (a:Below w.heap.size w w'):OutS W w' b us:=⟨h.o.below a,h.below.trans (a.mono h.below.size)⟩
theorem OutS.push {W w w':Yh} {f a vt:Yi} {us:List Trm} {t:Trm} {rs:List (Yi×Trm)} (h:OutS W w f us) (j:rs.map (·.2)=us) (l:∀x∈rs,Za w x.1 x.2.1/\Off (fun b=>f.ownBlock=Ya b) x.1 x.2.1)
  (d:w'.ownsRow W.heap.size 37 3 a (us.length+1) (Ze rs++[vt,Yd Yf t.2.1,Yd Yf t.2.2])) (g:w.grownBy w' f.ownBlock) (p:a.ownBlock=f.ownBlock\/a.ownBlock=Ya w.heap.size) (i:Za W vt t.1):OutS W w' a (us++[t]):=by
 refine⟨ZV.appended j l d g (fun b c=>c) (i.below h.below) (fun n b c q=>?_) fun b c=>?_,h.below.grown g h.below.size fun k m=>(h.o.lt k m).1⟩
 ·have:=i.lt n b c;have:=(h.o.lt b q).1;omega
 ·rcases p with e|e
  ·exact .inl (e▸c)
  ·rw[e]at c;injection c with c;exact .inr (by omega)
theorem ZoC {W wr:Yh} {d:Yi} {us:List Trm} {t:Trm} {kn kd:Int} {A:Option Addr} {c k:Nat} (O:OutS W wr d us) (f:us.length=k) (g:Za W (Yc A t.1.length c) t.1) (ty:TypeId) :
  ∃rs,rs.map (·.2)=us/\(wr.alloc (Yg #[Yc A t.1.length c,Yd Yf kn,Yd Yf kd] ty)).ownsRow W.heap.size 37 3 d k (Ze rs)/\(∀x∈rs,Za (wr.alloc (Yg #[Yc A t.1.length c,Yd Yf kn,Yd Yf kd] ty)) x.1 x.2.1/\Off (fun b=>d.ownBlock=Ya b) x.1 x.2.1)/\OutS W (wr.alloc (Yg #[Yc A t.1.length c,Yd Yf kn,Yd Yf kd] ty)) d us/\Za W (Yc A t.1.length c) t.1 ∧
   Zw (wr.alloc (Yg #[Yc A t.1.length c,Yd Yf kn,Yd Yf kd] ty)) (wr.heap.size+1) 3 (Ya ⟨wr.heap.size,0,Yb⟩) 1 [Yc A t.1.length c,Yd Yf kn,Yd Yf kd]:=by
 have a:=below_alloc1 wr (Yg #[Yc A t.1.length c,Yd Yf kn,Yd Yf kd] ty);have e:=O.keep a;obtain⟨rs,h,z2,z3⟩:=e.o;rw[f]at z2;exact⟨rs,h,z2,z3,e,g,(Zas (wo:=wr) (x:=#[Yc A t.1.length c,Yd Yf kn,Yd Yf kd]) (ty:=ty) (Nat.zero_le _)).reads (size:=3) rfl⟩
theorem Zoa (w:Yh) (v:Yi) (ts:List Trm) (h:Zai w v ts) (a:¬ts.length<=400) :
  Calls Tryz.prog 79 #[v] w (Zbn w (Zy ts)):=by
 rw[Zgw fun q=>a q.1];obtain⟨A,c,e,rfl,b,d,_⟩:=h;have i1:(400:Int)<(ts.length:Int):=by omega
 have i2:400<ts.length:=by omega
 clear a b d;generalize ts.length=n at *;go_enter Tryz.func79,Tryz.ntmps79;go_wp2_with fail;go_ret3;exact Zb4 (Below.refl _ _)
theorem Zpv (w:Yh) (v:Yi) (ts:List Trm) (h:Zai w v ts) (hw:∀t∈ts,Zz t.1/\Bd t.2) (hl:ts.length<=400) :
  Calls Tryz.prog 79 #[v] w (Zbn w (Zy ts)):=by
 obtain⟨iT,b4,cp,cq,cr⟩:=info_parts Zgi;obtain⟨iI,bc,bj,bk,bl⟩:=info_parts ZnJ;obtain⟨A,c,rs,rfl,h2,h3,h4,h5,h6⟩:=h;obtain⟨n,hn⟩:∃n,n=ts.length:=⟨_,rfl⟩
 have cd:rs.length=n:=by rw[hn,<-h4,List.length_map]
 rw[<-hn]at h2 h5 hl⊢;have i1:¬(400:Int)<(n:Int):=by omega
 have i2:¬400<n:=by omega
 have N:=Lib.hid (And.intro cd (And.intro h4 (And.intro h5 (And.intro h6 (And.intro hn (And.intro hw hl))))));clear hn cd h2 h3 h4 h5 h6 hw hl;go_enter Tryz.func79,Tryz.ntmps79;go_wp2_with fail;clear i1 i2;go_loopg [5,6,7] n (fun g v5 v6 v7 wr=>∃(k:Nat) (vl vt:Yi),vl=v5/\vt=v6/\v7=Yd Yf k/\k<=n/\g=n-k/\(∀t∈ts.take k,ZT t=false)/\RowsS w wr vl ((ts.take k).map ZN) [(vt,List.replicate k (-1))])
 case atStart=>exact⟨0,_,_,rfl,rfl,rfl,Nat.zero_le _,rfl,(fun t M=>by cases M),Zn8 w⟩
 case round=>
  obtain⟨k,vl,vt,rfl,rfl,rfl,hk,L,f,D⟩:=hrel;by_cases Y:k=n
  ·have he:ts.take k=ts:=by rw[Y,N.out.2.2.2.2.1];exact List.take_length
   rw[he]at f D;have aa:ts.any ZT=false:=List.any_eq_false.2 fun t M=>by rw[f t M];decide
   have bg:∀t∈ts,TrmOk t:=fun t M=>by
    have q:=f t M;unfold ZT at q;have wt:=N.out.2.2.2.2.2.1 t M;obtain⟨p,a,b⟩:=Zaj (by simpa using q) wt.1 wt.2.1.1 wt.2.1.2 wt.2.2.1 wt.2.2.2;exact⟨a,b,p⟩
   have cj:∀t∈ts.map ZN,TrmOk t:=fun t M=>by
    obtain⟨u,hu,rfl⟩:=List.mem_map.1 M;exact Zdq (bg u hu)
   have D0:=Lib.hid D.more.more;have bu:=Lib.hid (show Beside k (ts.map ZN,[],[]) (ts.map ZN) (List.replicate k (-1)) []from by have q:=Beside.start (ts.map ZN);rw[List.length_map,<-N.out.2.2.2.2.1,<-Y]at q;exact q);have HO:=Lib.hid (And.intro aa (And.intro bg cj));subst Y;clear hk L f D he aa bg cj;go_wp2_with fail;go_loopg [5,8,9,10] 8 (fun g v5 v8 v9 d6 wr=>∃(j:Nat) (s:Zco) (l:List Trm) (tk S:List Int) (vl vo vb:Yi),vl=v5/\vo=v8/\vb=v9/\d6=Yd Yf j/\j<=8/\g=8-j/\Zaz (ts.map ZN) j=Ya s/\Beside k s l tk S/\RowsS w wr vl l [(vt,tk),(vo,S),(vb,s.2.2)])
   case atStart=>exact⟨0,(ts.map ZN,[],[]),_,_,[],_,_,_,rfl,rfl,rfl,rfl,by omega,rfl,rfl,bu.out,D0.out⟩
   case round=>
    clear D0 bu;obtain⟨j,s,l,tk,S,vl,vo,vb,rfl,rfl,rfl,rfl,hj,L,hs,B,D⟩:=hrel;have ae:SolOk k j s:=by have q:=Zc5 HO.out.2.2 j s hs;rw[List.length_map,<-N.out.2.2.2.2.1]at q;exact q
    by_cases be:8<=j
    ·obtain rfl:j=8:=by omega
     have hA:=Zoh (by have:=N.out.2.2.2.2.1;have:=N.out.2.2.2.2.2.2;omega) HO.out.1 HO.out.2.1 hs;have TL:=D.l.terms;have IT:ZaR wr vt tk:=Zd1 (D.r (vt,tk) (by simp));have IO:ZaR wr vo S:=Zd1 (D.r (vo,S) (by simp));have IB:ZaR wr vb s.2.2:=Zd1 (D.r (vb,s.2.2) (by simp));have hB:=D.below;clear D;obtain⟨Al,cl,rl,rfl,_,_,l4,l5,l6⟩:=TL;obtain⟨At,ct,rfl,_,_,t4⟩:=IT;obtain⟨Ao,fb,rfl,_,_,o4⟩:=IO;obtain⟨Ab,cb,rfl⟩:∃A c,vb=Yc A s.2.2.length c:=by obtain⟨A,c,e,_⟩:=IB;exact⟨A,c,e⟩
     obtain⟨q,hq⟩:∃q,q=S.length:=⟨_,rfl⟩
     have ca:s.2.1.length=q:=by rw[hq,B.ol]
     have b9:q<=8:=by have h1:=ae.ql;have h2:=ae.k;omega
     have cc:rl.length=k:=by rw[<-B.ll,<-l4,List.length_map]
     rw[<-hq]at o4⊢;rw[B.tl]at t4⊢;rw[B.ll]at l5⊢;have i1:¬(8:Int)<8:=by omega
     have E:=Lib.hid (And.intro B (And.intro hA (And.intro ca (And.intro b9 (And.intro cc (And.intro l4 (And.intro l6 (And.intro IB (And.intro hB hq)))))))));have RD:=Lib.hid (And.intro l5 (And.intro t4 o4));clear hA IB hB l4 l5 l6 t4 o4 hq ca b9 cc B ae hs L hj be;go_wp2_with fail;clear i1;go_loopg [14] k (fun g d7 P=>∃m:Nat,d7=Yd Yf m/\m<=k/\g=k-m/\(∀(i:Nat) (t:Trm) (z:Int),i<m->l[i]? = Ya t->tk[i]? = Ya z->z<0->prK t=false)/\Below wr.heap.size wr P)
     case atStart=>exact⟨0,rfl,Nat.zero_le _,rfl,fun i _ _ hi=>absurd hi (Nat.not_lt_zero _),Below.refl _ _⟩
     case round=>
      rename Yh=>w1
      obtain⟨m,rfl,hm,L,f,J⟩:=hrel;by_cases am:m=k
      ·have aa:s.1.any prK=false:=List.any_eq_false.2 fun t M=>by
        rw[E.out.1.free]at M;obtain⟨i,z,a,b,c⟩:=Zek M;rw[f i t z (by have:=Za8 a;have:=E.out.1.ll;omega) a b c];decide
       have hA:=E.out.2.1;rw[aa,Yn (by decide)]at hA;have HA:=Lib.hid (And.intro hA J);have O0:=Lib.hid (OutS.start w1);subst am;clear hA aa f J L hm;go_wp2_with fail;go_loopg [15,16] q (fun g d8 d9 P=>∃(p:Nat) (vx:Yi),vx=d8/\d9=Yd Yf p/\p<=q/\g=q-p/\OutS w1 P vx (s.2.1.take p))
       case atStart=>exact⟨0,_,rfl,rfl,Nat.zero_le _,rfl,O0.out⟩
       case round=>
        clear O0
        rename Yh=>w2
        obtain⟨p,vx,rfl,rfl,hp,L,O⟩:=hrel;by_cases b8:p=q
        ·have et:s.2.1.take p=s.2.1:=List.take_of_length_le (by have:=E.out.2.2.1;omega);rw[et]at O;have OT:=O.o.terms;obtain⟨Ax,cx,rfl⟩:∃A c,vx=Yc A s.2.1.length c:=by obtain⟨A,c,_,e,_⟩:=OT;exact⟨A,c,e⟩
         have b2:=HA.out.2.trans (O.below.mono HA.out.2.size);have Q:=Lib.hid (show Zbn w (Zy ts) (.returned (.tuple #[Yc Ax s.2.1.length cx,Yc Ab s.2.2.length cb,Yd Yf 0])) w2 by rw[HA.out.1];exact⟨Ax,cx,Ab,cb,rfl,OT,E.out.2.2.2.2.2.2.2.1.below b2,E.out.2.2.2.2.2.2.2.2.1.trans (b2.mono E.out.2.2.2.2.2.2.2.2.1.size)⟩);have i1:¬(p:Int)<(q:Int):=by omega
         clear et O OT b2 hp L b8;generalize s.2.1.length=z1 at *;generalize s.2.2.length=z2 at *;go_wp2_with fail;go_ret3;exact Q.out
        ·have H:p<q:=by omega
         obtain⟨o,ho⟩:∃o,S[p]? = Ya o:=⟨_,Ym (by have:=E.out.2.2.2.2.2.2.2.2.2;omega)⟩
         obtain⟨i,t,z,rfl,hi,hQ,_,_⟩:=E.out.1.at_ p o ho;obtain⟨u,hu⟩:∃u,rl[i]? = Ya u:=⟨_,Ym (by have:=E.out.2.2.2.2.1;have:=Za8 hi;have:=E.out.1.ll;omega)⟩
         have dx:u.2=t:=by
          have:l[i]? = Ya u.2:=by rw[<-E.out.2.2.2.2.2.1,List.getElem?_map,hu];rfl
          rw[hi]at this;exact(Option.some.inj this).symm
         subst dx;have dt:i<m:=by have:=Za8 hi;have:=E.out.1.ll;omega
         have b2:=HA.out.2.trans (O.below.mono HA.out.2.size);obtain⟨ad,rfl,d0,d1,d2⟩:=ZaY RD.out.1 b2 hu (by omega);obtain⟨bd,rfl,e1⟩:=ZbM RD.out.2.2 b2 ho (by omega);have hr:=(E.out.2.2.2.2.2.2.1 u (List.mem_of_getElem? hu)).below HA.out.2;have i1:(p:Int)<(q:Int):=by omega
         have i2:(0:Int)<=(p:Int):=by omega
         have i3:(i:Int)<(m:Int):=by omega
         have i4:(0:Int)<=(i:Int):=by omega
         have fl:IntKind.i64.wrap ((p:Int)+1)=(p:Int)+1:=IntWalk.i64_in _ (by have:=E.out.2.2.2.1;omega);have ch:s.2.1.take (p+1)=s.2.1.take p++[u.2]:=by rw[List.take_add_one,hQ];rfl
         obtain⟨u0,ul,u1,u2⟩:=u;dsimp only at *;obtain⟨Au,cu,rfl⟩:=Zc hr;have T:=Lib.hid (And.intro H (And.intro L (And.intro ch (by rw[List.length_take];have:=E.out.2.2.1;omega:(s.2.1.take p).length=p))));have I:=Lib.hid (ZoC (t:=(ul,u1,u2)) (kn:=u1) (kd:=u2) O T.out.2.2.2 hr 37);obtain⟨bi,QV⟩:=I.out;have I:=Lib.hid QV;have LK:=Lib.hid (And.intro (by have:=E.out.2.2.2.1;unfold maxLen;omega:p+1<=maxLen) (by have:=E.out.2.2.2.1;omega:(p+1)*40<=140737488355328));clear QV O hp L H b8 ho hi hQ hu dt b2 hr ch;go_wp2_with (at_builtin;refine Zj _ rfl _ _ 102 rfl w1.heap.size 37 iT (.agg #[Yc Yb 0 0,Yd Yf 0,Yd Yf 0]) 3 40 Tryz.underlying102 b4 cp cq cr rfl (by decide) _ p (Ze bi) rfl I.out.2.1 (w2.heap.size+1) (Ya ⟨w2.heap.size,0,Yb⟩) 1 1 [Yc Au ul.length cu,Yd Yf u1,Yd Yf u2] rfl I.out.2.2.2.2.2 (ZrY _ _ _ _ _) LK.out.1 LK.out.2 I.out.2.2.2.1.below.size ?_);intro v8 w8 C d G;have O2:=Lib.hid (OutS.push (t:=(ul,u1,u2)) I.out.2.2.2.1 I.out.1 I.out.2.2.1 (by rw[T.out.2.2.2];exact C) d (by rw[World.size_alloc];exact G) I.out.2.2.2.2.1);clear C d G;go_wp2_with fail;go_roundg (q-(p+1))
         case measure=>have:=T.out.1;have:=T.out.2.1;omega
         case rel=>exact⟨p+1,v8,rfl,by push_cast;rfl,by have:=T.out.1;omega,rfl,by rw[T.out.2.2.1];exact O2.out⟩
      ·have H:m<k:=by omega
       obtain⟨u,hu⟩:∃u,rl[m]? = Ya u:=⟨_,Ym (by have:=E.out.2.2.2.2.1;omega)⟩
       obtain⟨y,W⟩:∃y,tk[m]? = Ya y:=⟨_,Ym (by have:=E.out.1.tl;omega)⟩
       have Z:l[m]? = Ya u.2:=by rw[<-E.out.2.2.2.2.2.1,List.getElem?_map,hu];rfl
       obtain⟨ad,rfl,d0,d1,d2⟩:=ZaY RD.out.1 J hu (by omega);obtain⟨bd,rfl,e1⟩:=ZbM RD.out.2.1 J W (by omega);have i1:(m:Int)<(k:Int):=by omega
       have i2:(0:Int)<=(m:Int):=by omega
       have wm:IntKind.i64.wrap ((m:Int)+1)=(m:Int)+1:=IntWalk.i64_in _ (by have:=N.out.2.2.2.2.2.2;omega)
       have ao:(y<0->prK u.2=false)->∀(i:Nat) (t:Trm) (z:Int),i<m+1->l[i]? = Ya t->tk[i]? = Ya z->z<0->prK t=false:=fun h i t z hi h1 h2 h3=>by
        rcases Nat.lt_or_ge i m with g|g
        ·exact f i t z g h1 h2 h3
        ·obtain rfl:i=m:=by omega
         rw[Z]at h1;rw[W]at h2;obtain rfl:=Option.some.inj h1;obtain rfl:=Option.some.inj h2;exact h h3
       have T:=Lib.hid (And.intro H L);have NX:=Lib.hid ao;have bw:=Lib.hid J;by_cases an:y<0
       rotate_left
       ·have f1:decide (y<0)=false:=decide_eq_false an;have R:=Lib.hid (NX.out fun q=>absurd q an);clear ao f J L hm H am hu W Z NX d0 d2;go_wp2_with fail;go_roundg (k-(m+1))
        case measure=>have:=T.out;omega
        case rel=>exact⟨m+1,by push_cast;rfl,by have:=T.out;omega,rfl,R.out,bw.out⟩
       ·have f1:decide (y<0)=true:=decide_eq_true an;by_cases al:u.2.2.1=0
        ·have f2:(u.2.2.1 != 0)=false:=by rw[al];rfl
         have R:=Lib.hid (NX.out fun _=>f2);clear ao f J L hm H am hu W Z NX d0 d2 al;go_wp2_with fail;go_roundg (k-(m+1))
         case measure=>have:=T.out;omega
         case rel=>exact⟨m+1,by push_cast;rfl,by have:=T.out;omega,rfl,R.out,bw.out⟩
        ·have f2:(u.2.2.1 != 0)=true:=by simpa using al
         have au:s.1.any prK=true:=List.any_eq_true.2 ⟨u.2,by rw[E.out.1.free];exact Zeg an Z W,f2⟩;have hA:=E.out.2.1;rw[Yo au]at hA;have Q:=Lib.hid (show Zbn w (Zy ts) (.returned (.tuple #[Yc Yb 0 0,Yc Yb 0 0,Yd Yf 1])) w1 by rw[hA];exact Zb4 (E.out.2.2.2.2.2.2.2.2.1.trans (J.mono E.out.2.2.2.2.2.2.2.2.1.size)));clear ao f J L hm H am hu W Z NX d0 d2 al au hA;go_wp2_with fail;go_ret3;exact Q.out
    ·have i1:(j:Int)<8:=by omega
     have wj:IntKind.i64.wrap ((j:Int)+1)=(j:Int)+1:=IntWalk.i64_in _ (by omega);have FS:=Lib.hid (Zn3 wr vl vt l tk j D.l.terms (Zd1 (D.r (vt,tk) (by simp))) (by rw[B.tl,B.ll]));have E:=Lib.hid B;have F:=Lib.hid (And.intro hs (And.intro ae (And.intro be L)));have DD:=Lib.hid D;clear hj L hs B D ae be;go_upto_region 17 with(go_at_call 123;go_fit FS.out;rintro e w3 ⟨z,rfl,hz,b3⟩)
     have D3:=Lib.hid (DD.out.keep b3);clear b3 DD FS;rcases id hz with⟨rfl,_⟩|⟨i,rfl,_⟩
     ·have ac:Zaz (ts.map ZN) (j+1)=Ya s:=by rw[Zaz,F.out.1];exact E.out.none_ hz
      have R:=Lib.hid (And.intro ac (And.intro E.out D3.out));clear hz ac E D3;go_wp2_with fail;go_roundg (8-(j+1))
      case measure=>have:=F.out.2.2;omega
      case rel=>exact⟨j+1,s,l,tk,S,vl,vo,vb,rfl,rfl,rfl,by push_cast;rfl,by have:=F.out.2.2;omega,rfl,R.out.1,R.out.2.1,R.out.2.2⟩
     ·obtain⟨t,kz,M,bf,b6,hp,_,_⟩:=E.out.found hz;obtain⟨g,a7,e,fg,c0,f0⟩:=D3.out.at_ (x:=(vt,tk)) (by simp) bf;dsimp only at e;subst e;have i2:¬(i:Int)<0:=by omega
      have b5:i<tk.length:=Za8 bf;have i3:(i:Int)<(tk.length:Int):=by omega
      have i4:(0:Int)<=(i:Int):=by omega
      have tc:=Zpw w3 w.heap.size (ZdO vl [(Yc (Ya ⟨g,0,Yb⟩) tk.length a7,tk),(vo,S),(vb,s.2.2)]) vl l i j t D3.out.l (fun b q=>(D3.out.lt b q).2) (E.out.ok F.out.2.1) M hp (by rw[E.out.ll];have:=N.out.2.2.2.2.2.2;omega);have HZ:=Lib.hid (And.intro hz M);clear hz M bf b6 hp;by_cases K:(ZL t j).2.2≠0\/ZgX ((ZL t j).1,(ZL t j).2.1) j i l
      ·have ac:Zy ts=(([],[]),2):=Zoi HO.out.2.1 (k:=j+1) (by have:=F.out.2.2;omega) (by rw[Zaz,F.out.1];exact E.out.over HZ.out.1 HZ.out.2 K);have TN:=Lib.hid (tc.mono fun e P h=>Zrv K h);have Q:=Lib.hid (fun(P:Yh) (J:Below w3.heap.size w3 P)=>show Zbn w (Zy ts) (.returned (.tuple #[Yc Yb 0 0,Yc Yb 0 0,Yd Yf 2])) P by rw[ac];exact Zb4 (D3.out.below.trans (J.mono D3.out.below.size)));clear tc K ac;go_wp2_with (go_at_call 124;go_fit TN.out;rintro e w4 ⟨rfl,U⟩);go_ret3;exact Q.out _ U
      ·have he:(ZL t j).2.2=0:=Decidable.byContradiction fun q=>K (.inl q);have TY:=Lib.hid (tc.mono fun e P h=>ZqN K h);have HE:=Lib.hid he;clear tc K he;have CF:=Lib.hid (And.intro c0 (And.intro f0 b5));clear c0 f0 b5;go_upto_region 19 with(go_at_call 124;go_fit TY.out;rintro e w4 ⟨us,A4,c4,cf,rfl,o4,U⟩)
       have D4:=D3.out.take o4 U;obtain⟨r,hr,B2,hP⟩:=E.out.next (by omega:(0:Int)<=(j:Int)) HZ.out.1 HZ.out.2 HE.out cf;have c0:w4.cell? ⟨g,i,Yb⟩=Ya (Yd Yf kz):=Zd U (World.block_lt_of_cell? _ _ CF.out.1) CF.out.1;have f0:w4.frozen? ⟨g,i,Yb⟩=false:=(U.frozen (p:=⟨g,i,Yb⟩) (World.block_lt_of_cell? _ _ CF.out.1)).trans CF.out.2.1;have D5:=Lib.hid (RowsS.stored (A:=[]) (i:=i) (z:=j) D4 rfl);have HB:=Lib.hid (And.intro (show Zaz (ts.map ZN) (j+1)=Ya r by rw[Zaz,F.out.1];exact hr) (And.intro B2 hP));have HL:=Lib.hid (And.intro (by rw[E.out.ol,F.out.2.1.ql];have:=F.out.2.1.k;have:=F.out.2.2;omega:S.length<=8) (by have:=F.out.2.1.k;have:=F.out.2.2;omega:s.2.2.length<=8));clear cf o4 U D4 hr B2 hP TY D3 E HZ HE CF;go_upto_region 23 with fail;clear c0 f0;generalize w4.setCell ⟨g,i,Yb⟩ (Yd Yf j)=w5 at *;have D6:=Lib.hid (D5.out.keep (below_alloc1 w5 (Yg #[Yd Yf i] 3)));have ay:=Lib.hid (And.intro (D6.out.r (vo,S) (by simp)) ((Zas (wo:=w5) (x:=#[Yd Yf (i:Int)]) (ty:=3) (Nat.zero_le _)).reads (size:=1) rfl));clear D5;go_wp2_with (at_builtin;refine Zj _ rfl _ _ 105 rfl w.heap.size 3 iI (Yd Yf 0) 1 8 Tryz.underlying105 bc bj bk bl rfl (by decide) _ S.length (ZbT S) rfl ay.out.1 (w5.heap.size+1) (Ya ⟨w5.heap.size,0,Yb⟩) 1 1 [Yd Yf i] rfl ay.out.2 (Zqq i) (by have:=HL.out.1;unfold maxLen;omega) (by have:=HL.out.1;omega) D6.out.below.size ?_);intro v7 w7 C d G;have D7:=RowsS.grow (A:=[(Yc (Ya ⟨g,0,Yb⟩) tk.length a7,tk.set i j)]) (B:=[(vb,s.2.2)]) (z:=i) D6.out C d (by rw[World.size_alloc];exact G);have D8:=Lib.hid (D7.keep (below_alloc1 w7 (Yg #[Yd Yf j] 3)));have az:=Lib.hid (And.intro (D8.out.r (vb,s.2.2) (by simp)) ((Zas (wo:=w7) (x:=#[Yd Yf (j:Int)]) (ty:=3) (Nat.zero_le _)).reads (size:=1) rfl));clear C d G D7 D6 ay;go_wp2_with (at_builtin;refine Zj _ rfl _ _ 105 rfl w.heap.size 3 iI (Yd Yf 0) 1 8 Tryz.underlying105 bc bj bk bl rfl (by decide) _ s.2.2.length (ZbT s.2.2) rfl az.out.1 (w7.heap.size+1) (Ya ⟨w7.heap.size,0,Yb⟩) 1 1 [Yd Yf j] rfl az.out.2 (Zqq j) (by have:=HL.out.2;unfold maxLen;omega) (by have:=HL.out.2;omega) D8.out.below.size ?_);intro v9 w9 C d G;have D9:=Lib.hid (RowsS.grow (A:=[(Yc (Ya ⟨g,0,Yb⟩) tk.length a7,tk.set i j),(v7,S++[(i:Int)])]) (B:=[]) (z:=j) D8.out C d (by rw[World.size_alloc];exact G));clear C d G D8 az;go_wp2_with fail;go_roundg (8-(j+1))
       case measure=>have:=F.out.2.2;omega
       case rel=>exact⟨j+1,r,us,tk.set i j,S++[(i:Int)],_,v7,v9,rfl,rfl,rfl,by push_cast;rfl,by have:=F.out.2.2;omega,rfl,HB.out.1,HB.out.2.1,by rw[HB.out.2.2];exact D9.out⟩
  ·have H:k<n:=by omega
   obtain⟨y,W⟩:∃y,rs[k]? = Ya y:=⟨_,Ym (by have:=N.out.1;omega)⟩
   have V:ts[k]? = Ya y.2:=by rw[<-N.out.2.1,List.getElem?_map,W];rfl
   obtain⟨ad,rfl,d0,d1,d2⟩:=ZaY N.out.2.2.1 D.below W (by omega);have hr:=(N.out.2.2.2.1 y (List.mem_of_getElem? W)).below D.below;have X:=N.out.2.2.2.2.2.1 y.2 (List.mem_of_getElem? V);have i1:(k:Int)<(n:Int):=by omega
   have i2:(0:Int)<=(k:Int):=by omega
   have wk:IntKind.i64.wrap ((k:Int)+1)=(k:Int)+1:=IntWalk.i64_in _ (by have:=N.out.2.2.2.2.2.2;omega);have rt:=ZaN wr y.1 y.2.1 y.2.2.1 y.2.2.2 hr X.1 X.2.1.1 X.2.1.2 X.2.2.1 X.2.2.2;have T:=Lib.hid (And.intro H L);cases hq:ZM y.2.1 y.2.2.1 y.2.2.2
   ·rw[hq]at rt
    have cg:Zy ts=(([],[]),2):=Zgw fun q=>by
     have:ZT y.2=true:=by unfold ZT;rw[hq];rfl
     have:=List.any_eq_true.2 ⟨y.2,List.mem_of_getElem? V,this⟩;rw[q.2]at this;cases this
    have Q:=Lib.hid (fun(P:Yh) (J:Below wr.heap.size wr P)=>show Zbn w (Zy ts) (.returned (.tuple #[Yc Yb 0 0,Yc Yb 0 0,Yd Yf 2])) P by rw[cg];exact Zb4 (D.below.trans (J.mono D.below.size)));have RT:=Lib.hid rt;clear rt cg hq V hr X W hk L f D Y H;obtain⟨y0,yl,y1,y2⟩:=y;dsimp only at *;go_wp2_with (go_at_call 51;go_fit RT.out;rintro e w1 ⟨rfl,J⟩);go_ret3;exact Q.out _ J
   ·rw[hq]at rt
    have aq:∀t∈ts.take (k+1),ZT t=false:=fun t M=>by
     rw[List.take_add_one,V]at M;rcases List.mem_append.1 M with g|g
     ·exact f t g
     ·have:t=y.2:=by simpa using g
      rw[this];unfold ZT;rw[hq];rfl
    have ci:(ts.take (k+1)).map ZN=(ts.take k).map ZN++[ZN y.2]:=by rw[List.take_add_one,V,List.map_append];rfl
    have ow:=fun(P:Yh) (J:Below wr.heap.size wr P)=>ZeE P y.1 y.2.1 y.2.2.1 y.2.2.2 (hr.below J) X.1 X.2.1.1 X.2.1.2 X.2.2.1 X.2.2.2 hq;have av:((ts.take k).map ZN).length=k:=by rw[List.length_map,List.length_take];have:=N.out.2.2.2.2.1;omega
    have CE:=Lib.hid (fun(P:Yh) (J:Below wr.heap.size wr P)=>(And.intro ((J.cell (p:=ad.add (k*3)) (World.block_lt_of_cell? _ _ d0)).trans d0) (And.intro ((J.cell (p:=⟨(ad.add (k*3)).block,(ad.add (k*3)).off+1,Yb⟩) (World.block_lt_of_cell? _ _ d1)).trans d1) ((J.cell (p:=⟨(ad.add (k*3)).block,(ad.add (k*3)).off+2,Yb⟩) (World.block_lt_of_cell? _ _ d2)).trans d2))));have RT:=Lib.hid rt;have dn:=Lib.hid ow;have DD:=Lib.hid D;have NX:=Lib.hid (And.intro aq (And.intro ci av));have LK:=Lib.hid (And.intro (by have:=N.out.2.2.2.2.2.2;unfold maxLen;omega:k+1<=maxLen) (by have:=N.out.2.2.2.2.2.2;omega:(k+1)*40<=140737488355328));clear rt ow V hr X W hk L f D Y H hq aq ci av;obtain⟨y0,yl,y1,y2⟩:=y;dsimp only at *;go_upto_region 10 with(go_at_call 51;go_fit RT.out;rintro e w1 ⟨rfl,ba⟩;obtain⟨c0,c1,c2⟩:=CE.out _ ba;clear d0 d1 d2)
    go_wp2_with (first
     |(go_at_call 54;go_fit (dn.out _ ba);rintro e w2 ⟨vy,rfl,bh,b1,b0⟩;obtain⟨Ay,cy,rfl⟩:=Zc bh;have I:=Lib.hid (Znw (t:=(Zs yl,y1,y2)) (kn:=y1) (kd:=y2) DD.out ba b1 NX.out.2.2 bh b0 37);clear bh b1 b0;obtain⟨bi,QV⟩:=I.out;have I:=Lib.hid QV;clear QV)
     |(at_builtin;refine Zj _ rfl _ _ 102 rfl w.heap.size 37 iT (.agg #[Yc Yb 0 0,Yd Yf 0,Yd Yf 0]) 3 40 Tryz.underlying102 b4 cp cq cr rfl (by decide) _ k (Ze bi) rfl I.out.2.1 (w2.heap.size+1) (Ya ⟨w2.heap.size,0,Yb⟩) 1 1 [Yc Ay (Zs yl).length cy,Yd Yf y1,Yd Yf y2] rfl I.out.2.2.2.2.2.2 (ZrY _ _ _ _ _) LK.out.1 LK.out.2 I.out.2.2.2.1.below.size ?_))
    intro v8 w8 C d G;have D8:=RowsS.push (t:=(Zs yl,y1,y2)) I.out.2.2.2.1 I.out.1 I.out.2.2.1 (by rw[NX.out.2.2];exact C) d (by rw[World.size_alloc];exact G) I.out.2.2.2.2.1 I.out.2.2.2.2.2.1;rw[<-show(ts.take (k+1)).map ZN=(ts.take k).map ZN++[(Zs yl,y1,y2)]from NX.out.2.1]at D8;have D9:=Lib.hid (D8.keep (below_alloc1 w8 (Yg #[Yd Yf (-1)] 3)));have ON:=Lib.hid (And.intro (show(w8.alloc (Yg #[Yd Yf (-1)] 3)).ownsRow w.heap.size 3 1 vt k (ZbT (List.replicate k (-1)))from by have q:=D9.out.r (vt,List.replicate k (-1)) (by simp);rw[List.length_replicate]at q;exact q) ((Zas (wo:=w8) (x:=#[Yd Yf (-1:Int)]) (ty:=3) (Nat.zero_le _)).reads (size:=1) rfl));clear C d G D8 I;go_wp2_with (at_builtin;refine Zj _ rfl _ _ 105 rfl w.heap.size 3 iI (Yd Yf 0) 1 8 Tryz.underlying105 bc bj bk bl rfl (by decide) _ k (ZbT (List.replicate k (-1))) rfl ON.out.1 (w8.heap.size+1) (Ya ⟨w8.heap.size,0,Yb⟩) 1 1 [Yd Yf (-1)] rfl ON.out.2 (Zqq (-1)) LK.out.1 (by have:=LK.out.2;omega) D9.out.below.size ?_);intro v9 w9 C d G;have di:=Lib.hid (RowsS.grow (A:=[]) (B:=[]) (z:=-1) D9.out (by rw[List.length_replicate];exact C) d (by rw[World.size_alloc];exact G));clear C d G ON D9;go_wp2_with fail;go_roundg (n-(k+1))
    case measure=>have:=T.out;omega
    case rel=>exact⟨k+1,v8,v9,rfl,rfl,by push_cast;rfl,by have:=T.out;omega,rfl,NX.out.1,by rw[List.replicate_succ'];exact di.out⟩
theorem Zn9 (w:Yh) (v:Yi) (ts:List Trm) (h:Zai w v ts) (b:∀t∈ts,Zz t.1/\Bd t.2):Calls Tryz.prog 79 #[v] w (Zbn w (Zy ts)):=by
 by_cases a:ts.length<=400
 ·exact Zpv w v ts h b a
 ·exact Zoa w v ts h a
end
end Go.Proofs.YtbfnnolakggbfaaGreatDoor
