import Derived.Deep.DeepFit
import Derived.Deep.RegionLaw
import Derived.Lib.SliceRun
import Derived.Test.YtbfnnolakggbfaaGreatDoorQAJ
import Derived.Test.YtbfnnolakggbfaaGreatDoorQAT
set_option maxRecDepth 100000
set_option maxHeartbeats 8000000
open Option renaming some → Ya, none → Yb
open Go.Value renaming slice → Yc, int → Yd, pointer → Ye
open Go.IntKind renaming i64 → Yf
open Go.Obj renaming cells → Yg
open Go renaming World → Yh, Value → Yi
namespace Go.Proofs.YtbfnnolakggbfaaGreatDoor
section
open Go.RowKit
structure TrmOk (t:Trm):Prop where
 ok:ZC t.1
 k:OkR t.2
 len:t.1.length<=8
def ZO (p:Trm) (i:Int) (t:Trm):Option Trm:=
 if(Zaq t.1 t.2 p.1 p.2 i).2.2=0 then Ya ((Zaq t.1 t.2 p.1 p.2 i).1,(Zaq t.1 t.2 p.1 p.2 i).2.1)else Yb
def Zah (f:Trm->Option Trm):List Trm->Option (List Trm)
 |[]=>Ya []
 |t::r=>(f t).bind fun u=>(Zah f r).map (u::·)
theorem Zj8 {f:Trm->Option Trm} {t:Trm}:∀{l us:List Trm} {u:Trm},Zah f l=Ya us->f t=Ya u->Zah f (l++[t])=Ya (us++[u])
 |[],us,u,h,hu=>by
  obtain rfl:[]=us:=by simpa[Zah]using h
  show(f t).bind _=_;rw[hu];rfl
 |x::r,us,u,h,hu=>by
  rw[Zah,Option.bind_eq_some_iff]at h;obtain⟨a,c,d⟩:=h;obtain⟨b,hc,rfl⟩:=Option.map_eq_some_iff.1 d;rw[List.cons_append,Zah,c,Option.bind_some,Zj8 hc hu];rfl
theorem Zgm {f:Trm->Option Trm} {t:Trm} (h:f t=Yb):∀{l:List Trm},t∈l->Zah f l=Yb
 |[],hm=>by cases hm
 |x::r,hm=>by
  rw[Zah];rcases List.mem_cons.1 hm with rfl|hm
  ·rw[h];rfl
  ·rw[Zgm h hm];cases f x<;>rfl
theorem Zc0 {f:Trm->Option Trm}:∀{l us:List Trm},Zah f l=Ya us->us.length=l.length
 |[],us,h=>by
  obtain rfl:[]=us:=by simpa[Zah]using h
  rfl
 |x::r,us,h=>by
  rw[Zah,Option.bind_eq_some_iff]at h;obtain⟨a,_,c⟩:=h;obtain⟨b,hc,rfl⟩:=Option.map_eq_some_iff.1 c;rw[Yk,Yk,Zc0 hc]
theorem ZjB {f:Trm->Option Trm}:∀{l us:List Trm},Zah f l=Ya us->∀(k:Nat) (t:Trm),l[k]? = Ya t->∃u,us[k]? = Ya u/\f t=Ya u
 |[],us,h,k,t,hk=>by simp at hk
 |x::r,us,h,k,t,hk=>by
  rw[Zah,Option.bind_eq_some_iff]at h;obtain⟨a,c,d⟩:=h;obtain⟨b,hc,rfl⟩:=Option.map_eq_some_iff.1 d;cases k with
  |zero=>
   obtain rfl:x=t:=by simpa using hk
   exact⟨a,rfl,c⟩
  |succ k=>exact ZjB hc k t (by simpa using hk)
theorem Zm7 {p t u:Trm} {i:Int} (c:TrmOk p) (a:TrmOk t) (h:ZO p i t=Ya u):TrmOk u:=by
 unfold ZO at h
 split at h
 ·rename_i g
  obtain rfl:=Option.some.inj h;unfold Zaq at g⊢
  split
  ·exact a
  ·rename_i f
   rw[Yn f]at g
   split at g
   ·rename_i b
    rw[Yo b];have e:OkR (Zv (atL t.1 i)):=ZbF (a.ok.at i);have d:=ZaP (l:=p.1) (kx:=p.2) (kb:=Zv (atL t.1 i)) c.ok.wide c.k.wide e.wide;obtain⟨_,_,_,_,_,_,P⟩:=Zdb a.ok.wide d.1 a.k.wide d.2 g;exact⟨P.ok,P.okk,P.len⟩
   ·rename_i b
    exact absurd g b
 ·cases h
theorem ZjC {p:Trm} {i:Int} (c:TrmOk p):∀{l us:List Trm},(∀t∈l,TrmOk t)->Zah (ZO p i) l=Ya us->∀u∈us,TrmOk u
 |[],us,_,h=>by
  obtain rfl:[]=us:=by simpa[Zah]using h
  exact fun u hu=>by cases hu
 |x::r,us,hl,h=>by
  rw[Zah,Option.bind_eq_some_iff]at h;obtain⟨a,d,e⟩:=h;obtain⟨b,hc,rfl⟩:=Option.map_eq_some_iff.1 e;intro u hu;rcases List.mem_cons.1 hu with rfl|hu
  ·exact Zm7 c (hl x (by simp)) d
  ·exact ZjC c (fun t f=>hl t (by simp[f])) hc u hu
structure ElimIn (w:Yh) (S:Nat->Prop) (b bp:Nat) (vp:Yi) (p:Trm) (i:Int):Prop where
 i:w.cell? ⟨b,0,Yb⟩=Ya (Yd Yf i)
 c0:w.cell? ⟨bp,0,Yb⟩=Ya vp
 c1:w.cell? ⟨bp,1,Yb⟩=Ya (Yd Yf p.2.1)
 c2:w.cell? ⟨bp,2,Yb⟩=Ya (Yd Yf p.2.2)
 r:Za w vp p.1
 o:Off S vp p.1
 nb:¬S b
 nbp:¬S bp
theorem ElimIn.grown {w w':Yh} {S:Nat->Prop} {b d:Nat} {k:Yi} {p:Trm} {i:Int} {a:Option Nat} (h:ElimIn w S b d k p i) (c:w.grownBy w' a) (j:∀g,a=Ya g->S g):ElimIn w' S b d k p i:=by have l:Ya b≠a:=fun e=>h.nb (j b e.symm);have f:Ya d≠a:=fun e=>h.nbp (j d e.symm);exact⟨c.cell h.i l,c.cell h.c0 f,c.cell h.c1 f,c.cell h.c2 f,h.r.off h.o c j,h.o,h.nb,h.nbp⟩
theorem ElimIn.below {w w':Yh} {S:Nat->Prop} {b a:Nat} {c:Yi} {p:Trm} {i:Int} (h:ElimIn w S b a c p i) (d:Below w.heap.size w w'):ElimIn w' S b a c p i:=
 h.grown (ZY d Yb) (fun _ e=>by cases e)
def ZqY (w:Yh) (a:Yi) (u:Trm) (e:Ending) (w':Yh):Prop:=
 ∃A c,e=.returned (.tuple #[.agg #[Yc A u.1.length c,Yd Yf u.2.1,Yd Yf u.2.2],Yd Yf 0])/\Za w' (Yc A u.1.length c) u.1/\Below w.heap.size w w'/\(Yc A u.1.length c=a\/Zp w.heap.size (Yc A u.1.length c))
def ZrD (w:Yh) (e:Ending) (w':Yh):Prop:=
 ∃z A n c b a,(z != (0:Int))=true/\e=.returned (.tuple #[.agg #[Yc A n c,Yd Yf b,Yd Yf a],Yd Yf z])/\Below w.heap.size w w'
theorem ZjR {w:Yh} {a:Yi} {t p:Trm} {i:Int} {b c:Nat} {j:Yi} {S:Nat->Prop} (g:Za w a t.1) (d:TrmOk t) (h:TrmOk p) (E:ElimIn w S b c j p i) :
  Calls Tryz.prog 146 #[.agg #[a,Yd Yf t.2.1,Yd Yf t.2.2],Ye (Ya ⟨b,0,Yb⟩),Ye (Ya ⟨c,0,Yb⟩)] w (Zil w a (Zaq t.1 t.2 p.1 p.2 i).1 (Zaq t.1 t.2 p.1 p.2 i).2.1 (Zaq t.1 t.2 p.1 p.2 i).2.2):=by
 by_cases f:(atL t.1 i).1=0
 ·have e:Zaq t.1 t.2 p.1 p.2 i=(t.1,t.2,0):=Yo f;rw[e];exact ZoO w a t.1 t.2 i b (Ye (Ya ⟨c,0,Yb⟩)) g E.i f
 ·exact ZoR w a t.1 t.2 i b c j p.1 p.2 g d.ok.wide d.k.wide E.i E.r h.ok.wide h.k.wide E.c0 E.c1 E.c2 (d.ok.at i) f
theorem Zp6 {w:Yh} {a:Yi} {t p u:Trm} {i:Int} {b d:Nat} {r:Yi} {S:Nat->Prop} (j:Za w a t.1) (o:TrmOk t) (n:TrmOk p) (E:ElimIn w S b d r p i) (h:ZO p i t=Ya u) :
  Calls Tryz.prog 146 #[.agg #[a,Yd Yf t.2.1,Yd Yf t.2.2],Ye (Ya ⟨b,0,Yb⟩),Ye (Ya ⟨d,0,Yb⟩)] w (ZqY w a u):=by
 refine(ZjR j o n E).mono fun e s l=>?_;obtain⟨v,he,f,k,m⟩:=l;unfold ZO at h
 split at h
 ·rename_i g
  obtain rfl:=Option.some.inj h;obtain⟨A,c,rfl⟩:=Zc f;rw[g]at he;exact⟨A,c,he,f,k,m⟩
 ·cases h
theorem Zrb {w:Yh} {d:Yi} {t p:Trm} {i:Int} {b a:Nat} {o:Yi} {S:Nat->Prop} (f:Za w d t.1) (n:TrmOk t) (l:TrmOk p) (E:ElimIn w S b a o p i) (h:ZO p i t=Yb) :
  Calls Tryz.prog 146 #[.agg #[d,Yd Yf t.2.1,Yd Yf t.2.2],Ye (Ya ⟨b,0,Yb⟩),Ye (Ya ⟨a,0,Yb⟩)] w (ZrD w):=by
 refine(ZjR f n l E).mono fun e r k=>?_;obtain⟨v,he,m,j,_⟩:=k;unfold ZO at h
 split at h
 ·cases h
 ·rename_i g
  obtain⟨A,c,rfl⟩:=Zc m;exact⟨_,A,_,c,_,_,by simpa using g,he,j⟩
def Zjl (w:Yh) (base:Nat) (v:Yi) (o:Option (List Trm)) (S:Nat->Prop) (e:Ending) (w':Yh):Prop:=
 w.grownBy w' v.ownBlock/\((∃a,o=Ya a/\e=.returned (Yd Yf 0)/\ZV w' base v a S)\/(o=Yb/\∃z:Int,(z != 0)=true/\e=.returned (Yd Yf z)))
theorem Zqn {S:Nat->Prop} {B:Nat} {a v:Yi} {l m:List (Int×Int)} (e:Off S a l) (d:v=a->m≠[]->l≠[]) (f:∀b,S b->b<B) (h:v=a\/Zp B v):Off S v m:=by
 rcases h with rfl|h
 ·exact fun hm b c=>e (d rfl hm) b c
 ·exact Off.fresh h f
theorem ZrX {A B:Option Addr} {l m:List (Int×Int)} {c d:Nat} (h:Value.slice A m.length c=Value.slice B l.length d) (hm:m≠[]):l≠[]:=by injection h with _ e _;intro q;subst q;exact hm (List.eq_nil_of_length_eq_zero (by simpa using e))
theorem ZkS {ts us:List Trm} {k:Nat} {u:Trm} (b:us.length=k) (a:k<ts.length):(us++ts.drop k).set k u=(us++[u])++ts.drop (k+1):=by rw[List.set_append,Yn (by omega),b,Nat.sub_self,List.drop_eq_getElem_cons a,List.set_cons_zero,List.append_assoc];rfl
theorem Zh6 (w:Yh) (base:Nat) (v:Yi) (ts:List Trm) (S:Nat->Prop) (p:Trm) (vp:Yi) (i:Int) (b bp:Nat) (h:ZV w base v ts S) (R:∀g,v.ownBlock=Ya g->S g) (hS:∀g,S g->g<w.heap.size) (Z:∀t∈ts,TrmOk t) (hp:TrmOk p) (E:ElimIn w S b bp vp p i) :
  Calls Tryz.prog 111 #[v,.func (.func 146) #[] #[Ye (Ya ⟨b,0,Yb⟩),Ye (Ya ⟨bp,0,Yb⟩)]] w (Zjl w base v (Zah (ZO p i) ts) S):=by
 obtain⟨n,hn⟩:∃n,n=ts.length:=⟨_,rfl⟩
 obtain⟨A,c,rfl,h2,h3⟩:∃A c,v=Yc A n c/\n<=c/\c<=maxLen:=by obtain⟨A,c,_,e,h2,h3,_⟩:=h.terms;exact⟨A,c,by rw[hn];exact e,by omega,h3⟩
 have W:n<=9223372036854775807:=by unfold maxLen at h3;omega
 have j:=Lib.hid (And.intro hn (And.intro R (And.intro hS (And.intro Z (And.intro hp (And.intro W E))))));have H:=Lib.hid h;clear hn R hS Z hp E h h2 h3 W;go_enter Tryz.func111,Tryz.ntmps111;go_wp2_with fail;go_loopg [11] n (fun g aw wr=>∃k:Nat,aw=Yd Yf k/\k<=n/\g=n-k/\∃m,Zah (ZO p i) (ts.take k)=Ya m/\ZV wr base (Yc A n c) (m++ts.drop k) S/\w.grownBy wr (Value.slice A n c).ownBlock)
 case atStart=>exact⟨0,rfl,Nat.zero_le _,rfl,[],rfl,by simpa using H.out,ZY (Below.refl _ _) _⟩
 case round=>
  obtain⟨k,rfl,hk,D,m,hm,J,d⟩:=hrel;by_cases s:k=n
  ·have e:ts.take k=ts:=by rw[s,j.out.1];exact List.take_length
   have e2:ts.drop k=[]:=by rw[s,j.out.1];exact List.drop_length
   rw[e]at hm;rw[e2,List.append_nil]at J;have M:=Lib.hid (show Zjl w base (Yc A n c) (Zah (ZO p i) ts) S (.returned (Yd Yf 0)) wr from⟨d,.inl ⟨m,hm,rfl,J⟩⟩);subst s;clear hk D hm J d e e2;go_wp2_with fail;go_ret;exact M.out
  ·have Q:k<n:=by omega
   have C:m.length=k:=by rw[Zc0 hm,List.length_take];have:=j.out.1;omega
   obtain⟨t,ht⟩:∃t,ts[k]? = Ya t:=⟨_,Ym (by have:=j.out.1;omega)⟩
   have x:(m++ts.drop k).length=n:=by rw[Yj,List.length_drop,C];have:=j.out.1;omega
   obtain⟨f,bk,e,r,a,X,U⟩:=J.form (by omega);rw[x]at e;injection e with e1 e2 e3;subst e1;subst e3;have O:S f:=j.out.2.1 f rfl;obtain⟨va,T,y,d0,d1,d2,f0,f1,f2⟩:=J.cells (k:=k) (t:=t) (by rw[List.getElem?_append_right (by omega),C,Nat.sub_self,List.getElem?_drop];simpa using ht);have B:=List.mem_of_getElem? ht;have I:=d;have EI:=j.out.2.2.2.2.2.2.grown d (fun g D=>j.out.2.1 g D);have i1:(k:Int)<(n:Int):=by omega
   have i2:(0:Int)<=(k:Int):=by omega
   have wk:IntKind.i64.wrap ((k:Int)+1)=(k:Int)+1:=IntWalk.i64_in _ (by have:=j.out.2.2.2.2.2.1;omega);have a0:=below_alloc1 wr (Yg #[va,Yd Yf t.2.1,Yd Yf t.2.2] 37);have F:=FracBox.start wr va (Yd Yf t.2.1) (Yd Yf t.2.2) 37;have k0:=F.k0;have k1:=F.k1;have k2:=F.k2;have st:=fun(l:Yh) (P:Below wr.heap.size wr l) (v:Yi) (u:Trm) (hu:Za l v u.1) (R:Off S v u.1)=>(J.below P).stored (k:=k) O hu R;have N:∀g,S g->g<wr.heap.size:=fun g D=>Nat.lt_of_lt_of_le (j.out.2.2.1 g D) d.size;cases hf:ZO p i t with
   |none=>
    have EN:=Lib.hid (Zrb (T.below a0) (j.out.2.2.2.1 t B) j.out.2.2.2.2.1 (EI.below a0) hf);have M:=Lib.hid (fun(l:Yh) (z:Int) (P:Below wr.heap.size wr l) (hz:(z != 0)=true)=>show Zjl w base (Yc (Ya ⟨f,0,Yb⟩) n c) (Zah (ZO p i) ts) S (.returned (Yd Yf z)) l from⟨ZX d (ZY P _),.inr ⟨Zgm hf B,z,hz,rfl⟩⟩);have K:=Lib.hid a0;obtain⟨A1,c1,rfl⟩:=Zc T;obtain⟨t0,t1,t2⟩:=t;dsimp only at *;generalize t0.length=tl at *;clear hm J d C ht x r X U O T y B I EI st N hf s Q hk D a0 F;go_wp2_with (go_at_call 146;go_fit EN.out;rintro e5 w1 ⟨z,L,n2,c2,kn,kd,hz,rfl,o⟩);go_ret;exact M.out _ z ((K.out.trans (o.mono K.out.size)).alloc (by have:=o.size;have:=K.out.size;omega) _) hz
   |some u=>
    have EY:=Lib.hid (Zp6 (T.below a0) (j.out.2.2.2.1 t B) j.out.2.2.2.2.1 (EI.below a0) hf);have V:Zah (ZO p i) (ts.take (k+1))=Ya (m++[u]):=by rw[List.take_add_one,ht];exact Zj8 hm hf
    have ac:(m++ts.drop k).set k u=(m++[u])++ts.drop (k+1):=ZkS C (by have:=j.out.1;omega)
    have ak:=Lib.hid (fun(l:Yh) (P:Below wr.heap.size wr l) (v:Yi) (hu:Za l v u.1) (R:Off S v u.1)=>show ∃m,Zah (ZO p i) (ts.take (k+1))=Ya m/\ZV (((l.setCell ⟨f,k*3,Yb⟩ v).setCell ⟨f,k*3+1,Yb⟩ (Yd Yf u.2.1)).setCell ⟨f,k*3+2,Yb⟩ (Yd Yf u.2.2)) base (Yc (Ya ⟨f,0,Yb⟩) n c) (m++ts.drop (k+1)) S/\w.grownBy (((l.setCell ⟨f,k*3,Yb⟩ v).setCell ⟨f,k*3+1,Yb⟩ (Yd Yf u.2.1)).setCell ⟨f,k*3+2,Yb⟩ (Yd Yf u.2.2)) (Value.slice (Ya ⟨f,0,Yb⟩) n c).ownBlock from
     ⟨m++[u],V,by rw[<-ac];exact(st l P v u hu R).1,ZX (ZX d (ZY P _)) (st l P v u hu R).2⟩)
    have OB:=Lib.hid (fun(v:Yi) (h1:v=va->u.1≠[]->t.1≠[]) (h:v=va\/Zp wr.heap.size v)=>Zqn (S:=S) y h1 N h);have aj:=Lib.hid (fun(l:Yh) (h:Below wr.heap.size wr l)=>And.intro (ZH ((h.cell (p:=⟨f,k*3,Yb⟩) a).trans d0)) (And.intro (ZH ((h.cell (p:=⟨f,k*3+1,Yb⟩) a).trans d1)) (And.intro (ZH ((h.cell (p:=⟨f,k*3+2,Yb⟩) a).trans d2)) (And.intro ((h.frozen (p:=⟨f,k*3,Yb⟩) a).trans f0) (And.intro ((h.frozen (p:=⟨f,k*3+1,Yb⟩) a).trans f1) ((h.frozen (p:=⟨f,k*3+2,Yb⟩) a).trans f2))))));have K:=Lib.hid a0;obtain⟨A1,c1,rfl⟩:=Zc T;have LN:=Lib.hid (fun(L:Option Addr) (c2:Nat) (h:Value.slice L u.1.length c2=Yc A1 t.1.length c1) (hm:u.1≠[])=>ZrX h hm);obtain⟨t0,t1,t2⟩:=t;obtain⟨u0,u1,u2⟩:=u;dsimp only at *;generalize t0.length=tl at *;clear hm J d C ht x r X U O T y B I EI st N hf a0 F V ac;go_upto_region 5 with(go_at_call 146;go_fit EY.out;rintro e5 w1 ⟨L,c2,rfl,aa,o,Y⟩)
    have a1:=below_alloc1 w1 (Yg #[Yc L u0.length c2,Yd Yf u1,Yd Yf u2] 37);have G:=FracBox.start w1 (Yc L u0.length c2) (Yd Yf u1) (Yd Yf u2) 37;have j0:=G.k0;have j1:=G.k1;have j2:=G.k2;have b1:=K.out.trans (o.mono K.out.size);have b2:=b1.trans (a1.mono b1.size);obtain⟨d0,d1,d2,f0,f1,f2⟩:=aj.out _ b2;have R2:=ak.out _ b2 _ (aa.below a1) (OB.out _ (fun e=>LN.out L c2 e) (Y.imp id (fun h=>h.mono K.out.size)));clear k0 k1 k2 a1 G b1 aa o Y;generalize w1.alloc (Yg #[Yc L u0.length c2,Yd Yf u1,Yd Yf u2] 37)=l at *;generalize u0.length=ul at *;have R3:=Lib.hid R2;have HK:=Lib.hid (And.intro Q D);clear R2 b2 Q D s hk;go_wp2_with fail;go_roundg (n-(k+1))
    case measure=>have:=HK.out;omega
    case rel=>exact⟨k+1,by push_cast;rfl,by have:=HK.out;omega,rfl,R3.out⟩
end
section
open Go.RowKit
def ZhF (pr:Trm->Bool) (ts:List Trm) (z:Int):Prop:=
 (z=-1/\ts.any pr=false)\/∃k:Nat,z=k/\(∃t,ts[k]? = Ya t/\pr t=true)/\(ts.take k).any pr=false
def ZfG (w:Yh) (pr:Trm->Bool) (ts:List Trm) (e:Ending) (w':Yh):Prop:=∃z:Int,e=.returned (Yd Yf z)/\ZhF pr ts z/\Below w.heap.size w w'
theorem ZhF.has {pr:Trm->Bool} {ts:List Trm} {z:Int} (h:ZhF pr ts z):decide (0<=z)=ts.any pr:=by
 rcases h with⟨rfl,h⟩|⟨k,rfl,⟨t,b,a⟩,_⟩
 ·rw[h];rfl
 ·rw[List.any_eq_true.2 ⟨t,List.mem_of_getElem? b,a⟩];exact decide_eq_true (by omega)
theorem Zim {pr:Trm->Bool} {l:List Trm} {k:Nat} {t:Trm} (a:l[k]? = Ya t) (h:(l.take k).any pr=false):(l.take (k+1)).any pr=pr t:=by rw[List.take_add_one,a,List.any_append,h,Bool.false_or];simp
def ZT (t:Trm):Bool:=!ZM t.1 t.2.1 t.2.2
def Zbb (i:Int) (t:Trm):Bool:=(atL t.1 i).1 != 0
def prK (t:Trm):Bool:=t.2.1 != 0
theorem ZnG (w:Yh) (U:Yi) (ts:List Trm) (H:∀t∈ts,Zz t.1/\Bd t.2) (h:Zai w U ts) :
  Calls Tryz.prog 105 #[U,.func (.func 103) #[] #[]] w (ZfG w ZT ts):=by
 obtain⟨A,c,S,rfl,M,N,E,F,O⟩:=h;obtain⟨n,z⟩:∃n,n=ts.length:=⟨_,rfl⟩
 have s:S.length=n:=by rw[z,<-E,List.length_map]
 have p:n<=9223372036854775807:=by unfold maxLen at N;omega
 rw[<-z]at M F⊢;have L:∀(j:Yh) (v:Yi) (t:Trm),Below w.heap.size w j->t∈ts->Za j v t.1->Calls Tryz.prog 103 #[.agg #[v,Yd Yf t.2.1,Yd Yf t.2.2]] j fun r Y=>r=.returned (.bool (ZT t))/\Below j.heap.size j Y:=
  fun j v t _ Q B=>Zoe j v t.1 t.2.1 t.2.2 B (H t Q).1 (H t Q).2
 have l:=Lib.hid (And.intro s (And.intro E (And.intro p (And.intro O (And.intro z L)))));have V:=Lib.hid F;clear z s M N E F O p L H;go_enter Tryz.func105,Tryz.ntmps105;go_wp2_with fail;go_loopg [8] n (fun g X wr=>∃k:Nat,X=Yd Yf k/\k<=n/\g=n-k/\(ts.take k).any ZT=false/\Below w.heap.size w wr)
 case atStart=>exact⟨0,rfl,Nat.zero_le _,rfl,rfl,Below.refl _ _⟩
 case round=>
  obtain⟨k,rfl,P,G,a,d⟩:=hrel;by_cases i:k=n
  ·have e:ts.take k=ts:=by rw[i,l.out.2.2.2.2.1];exact List.take_length
   rw[e]at a;have D:=Lib.hid (show ZfG w ZT ts (.returned (Yd Yf (-1))) wr from⟨-1,rfl,.inl ⟨rfl,a⟩,d⟩);subst i;clear P G a d e;go_wp2_with fail;go_ret;exact D.out
  ·have o:k<n:=by omega
   obtain⟨x,C⟩:∃x,S[k]? = Ya x:=⟨_,Ym (by have:=l.out.1;omega)⟩
   obtain⟨ad,rfl,d0,d1,d2⟩:=ZaY V.out d C (by omega);have B:=(l.out.2.2.2.1 x (List.mem_of_getElem? C)).below d;have b:ts[k]? = Ya x.2:=by rw[<-l.out.2.1,List.getElem?_map,C];rfl
   have T:=l.out.2.2.2.2.2 wr x.1 x.2 d (List.mem_of_getElem? b) B;have u:=Zim (pr:=ZT) b a;have m:ZT x.2=true->ZhF ZT ts k:=fun W=>.inr ⟨k,rfl,⟨_,b,W⟩,a⟩;have i1:(k:Int)<(n:Int):=by omega
   have i2:(0:Int)<=(k:Int):=by omega
   have wk:IntKind.i64.wrap ((k:Int)+1)=(k:Int)+1:=IntWalk.i64_in _ (by have:=l.out.2.2.1;omega);generalize ZT x.2=R at *;obtain⟨x1,x2,x3,x4⟩:=x;dsimp only at *;have y:=Lib.hid d;have I:=Lib.hid (And.intro o G);have K:=Lib.hid T;have J:=Lib.hid (And.intro u m);clear B b u m C i o P G a d T;cases R
   ·go_wp2_with (go_at_call 103;go_fit K.out;rintro e Z ⟨rfl,f⟩);go_roundg (n-(k+1))
    case measure=>have:=I.out;omega
    case rel=>exact⟨k+1,by push_cast;rfl,by have:=I.out;omega,rfl,J.out.1,y.out.trans (f.mono y.out.size)⟩
   ·go_wp2_with (go_at_call 103;go_fit K.out;rintro e Z ⟨rfl,f⟩);go_ret;exact⟨k,rfl,J.out.2 trivial,y.out.trans (f.mono y.out.size)⟩
theorem ZnH (w:Yh) (V:Yi) (ts:List Trm) (b:Nat) (i:Int) (J:w.cell? ⟨b,0,Yb⟩=Ya (Yd Yf i)) (h:Zai w V ts) :
  Calls Tryz.prog 105 #[V,.func (.func 106) #[] #[Ye (Ya ⟨b,0,Yb⟩)]] w (ZfG w (Zbb i) ts):=by
 obtain⟨A,c,T,rfl,O,P,G,H,Q⟩:=h;obtain⟨n,C⟩:∃n,n=ts.length:=⟨_,rfl⟩
 have y:T.length=n:=by rw[C,<-G,List.length_map]
 have u:n<=9223372036854775807:=by unfold maxLen at P;omega
 rw[<-C]at O H⊢;have N:∀(m:Yh) (v:Yi) (t:Trm),Below w.heap.size w m->t∈ts->Za m v t.1->Calls Tryz.prog 106 #[.agg #[v,Yd Yf t.2.1,Yd Yf t.2.2],Ye (Ya ⟨b,0,Yb⟩)] m fun r Z=>r=.returned (.bool ((Zbb i) t))/\Below m.heap.size m Z:=
  fun m v t d _ D=>Zof m v t.1 t.2.1 t.2.2 i b D ((d.cell (World.block_lt_of_cell? _ _ J)).trans J)
 have o:=Lib.hid (And.intro y (And.intro G (And.intro u (And.intro Q (And.intro C N)))));have W:=Lib.hid H;clear C y O P G H Q u N J;go_enter Tryz.func105,Tryz.ntmps105;go_wp2_with fail;go_loopg [8] n (fun g Y wr=>∃k:Nat,Y=Yd Yf k/\k<=n/\g=n-k/\(ts.take k).any (Zbb i)=false/\Below w.heap.size w wr)
 case atStart=>exact⟨0,rfl,Nat.zero_le _,rfl,rfl,Below.refl _ _⟩
 case round=>
  obtain⟨k,rfl,S,I,a,d⟩:=hrel;by_cases l:k=n
  ·have e:ts.take k=ts:=by rw[l,o.out.2.2.2.2.1];exact List.take_length
   rw[e]at a;have F:=Lib.hid (show ZfG w (Zbb i) ts (.returned (Yd Yf (-1))) wr from⟨-1,rfl,.inl ⟨rfl,a⟩,d⟩);subst l;clear S I a d e;go_wp2_with fail;go_ret;exact F.out
  ·have s:k<n:=by omega
   obtain⟨x,E⟩:∃x,T[k]? = Ya x:=⟨_,Ym (by have:=o.out.1;omega)⟩
   obtain⟨ad,rfl,d0,d1,d2⟩:=ZaY W.out d E (by omega);have D:=(o.out.2.2.2.1 x (List.mem_of_getElem? E)).below d;have f:ts[k]? = Ya x.2:=by rw[<-o.out.2.1,List.getElem?_map,E];rfl
   have U:=o.out.2.2.2.2.2 wr x.1 x.2 d (List.mem_of_getElem? f) D;have z:=Zim (pr:=(Zbb i)) f a;have p:(Zbb i) x.2=true->ZhF (Zbb i) ts k:=fun X=>.inr ⟨k,rfl,⟨_,f,X⟩,a⟩;have i1:(k:Int)<(n:Int):=by omega
   have i2:(0:Int)<=(k:Int):=by omega
   have wk:IntKind.i64.wrap ((k:Int)+1)=(k:Int)+1:=IntWalk.i64_in _ (by have:=o.out.2.2.1;omega);generalize(Zbb i) x.2=R at *;obtain⟨x1,x2,x3,x4⟩:=x;dsimp only at *;have B:=Lib.hid d;have K:=Lib.hid (And.intro s I);have M:=Lib.hid U;have L:=Lib.hid (And.intro z p);clear D f z p E l s S I a d U;cases R
   ·go_wp2_with (go_at_call 106;go_fit M.out;rintro e w1 ⟨rfl,j⟩);go_roundg (n-(k+1))
    case measure=>have:=K.out;omega
    case rel=>exact⟨k+1,by push_cast;rfl,by have:=K.out;omega,rfl,L.out.1,B.out.trans (j.mono B.out.size)⟩
   ·go_wp2_with (go_at_call 106;go_fit M.out;rintro e w1 ⟨rfl,j⟩);go_ret;exact⟨k,rfl,L.out.2 trivial,B.out.trans (j.mono B.out.size)⟩
theorem ZnI (w:Yh) (S:Yi) (ts:List Trm) (h:Zai w S ts) :
  Calls Tryz.prog 105 #[S,.func (.func 112) #[] #[]] w (ZfG w prK ts):=by
 obtain⟨A,c,P,rfl,L,M,E,F,N⟩:=h;obtain⟨n,z⟩:∃n,n=ts.length:=⟨_,rfl⟩
 have s:P.length=n:=by rw[z,<-E,List.length_map]
 have p:n<=9223372036854775807:=by unfold maxLen at M;omega
 rw[<-z]at L F⊢;have K:∀(j:Yh) (v:Yi) (t:Trm),Below w.heap.size w j->t∈ts->Za j v t.1->Calls Tryz.prog 112 #[.agg #[v,Yd Yf t.2.1,Yd Yf t.2.2]] j fun r W=>r=.returned (.bool (prK t))/\Below j.heap.size j W:=
  fun j v t _ _ B=>Zog j v t.1 t.2.1 t.2.2 B
 have l:=Lib.hid (And.intro s (And.intro E (And.intro p (And.intro N (And.intro z K)))));have T:=Lib.hid F;clear z s L M E F N p K;go_enter Tryz.func105,Tryz.ntmps105;go_wp2_with fail;go_loopg [8] n (fun g V wr=>∃k:Nat,V=Yd Yf k/\k<=n/\g=n-k/\(ts.take k).any prK=false/\Below w.heap.size w wr)
 case atStart=>exact⟨0,rfl,Nat.zero_le _,rfl,rfl,Below.refl _ _⟩
 case round=>
  obtain⟨k,rfl,O,G,a,d⟩:=hrel;by_cases i:k=n
  ·have e:ts.take k=ts:=by rw[i,l.out.2.2.2.2.1];exact List.take_length
   rw[e]at a;have D:=Lib.hid (show ZfG w prK ts (.returned (Yd Yf (-1))) wr from⟨-1,rfl,.inl ⟨rfl,a⟩,d⟩);subst i;clear O G a d e;go_wp2_with fail;go_ret;exact D.out
  ·have o:k<n:=by omega
   obtain⟨x,C⟩:∃x,P[k]? = Ya x:=⟨_,Ym (by have:=l.out.1;omega)⟩
   obtain⟨Y,rfl,Z,d1,d2⟩:=ZaY T.out d C (by omega);have B:=(l.out.2.2.2.1 x (List.mem_of_getElem? C)).below d;have b:ts[k]? = Ya x.2:=by rw[<-l.out.2.1,List.getElem?_map,C];rfl
   have Q:=l.out.2.2.2.2.2 wr x.1 x.2 d (List.mem_of_getElem? b) B;have u:=Zim (pr:=prK) b a;have m:prK x.2=true->ZhF prK ts k:=fun U=>.inr ⟨k,rfl,⟨_,b,U⟩,a⟩;have i1:(k:Int)<(n:Int):=by omega
   have i2:(0:Int)<=(k:Int):=by omega
   have wk:IntKind.i64.wrap ((k:Int)+1)=(k:Int)+1:=IntWalk.i64_in _ (by have:=l.out.2.2.1;omega);generalize prK x.2=R at *;obtain⟨x1,x2,x3,x4⟩:=x;dsimp only at *;have y:=Lib.hid d;have H:=Lib.hid (And.intro o G);have J:=Lib.hid Q;have I:=Lib.hid (And.intro u m);clear B b u m C i o O G a d Q;cases R
   ·go_wp2_with (go_at_call 112;go_fit J.out;rintro e X ⟨rfl,f⟩);go_roundg (n-(k+1))
    case measure=>have:=H.out;omega
    case rel=>exact⟨k+1,by push_cast;rfl,by have:=H.out;omega,rfl,I.out.1,y.out.trans (f.mono y.out.size)⟩
   ·go_wp2_with (go_at_call 112;go_fit J.out;rintro e X ⟨rfl,f⟩);go_ret;exact⟨k,rfl,I.out.2 trivial,y.out.trans (f.mono y.out.size)⟩
theorem ZgK (w:Yh) (a:Yi) (ts:List Trm) (b:∀t∈ts,Zz t.1/\Bd t.2) (h:Zai w a ts) :
  Calls Tryz.prog 102 #[a,.func (.func 103) #[] #[]] w fun r w'=>r=.returned (.bool (ts.any ZT))/\Below w.heap.size w w':=by
 have f:=ZnG w a ts b h;clear h b;go_enter Tryz.func102,Tryz.ntmps102;go_wp2_with (go_at_call 105;go_fit f;rintro e g ⟨z,rfl,d,c⟩);go_ret;exact⟨by rw[<-d.has];rfl,c⟩
theorem ZkK (w:Yh) (a:Yi) (ts:List Trm) (h:Zai w a ts) :
  Calls Tryz.prog 102 #[a,.func (.func 112) #[] #[]] w fun r w'=>r=.returned (.bool (ts.any prK))/\Below w.heap.size w w':=by
 have d:=ZnI w a ts h;clear h;go_enter Tryz.func102,Tryz.ntmps102;go_wp2_with (go_at_call 105;go_fit d;rintro e f ⟨z,rfl,c,b⟩);go_ret;exact⟨by rw[<-c.has];rfl,b⟩
theorem Zgi:(Tryz.prog.info? 37).map (fun i=>(i.zero,i.size,i.bytes))=Ya (Ya (.agg #[Yc Yb 0 0,Yd Yf 0,Yd Yf 0]),3,40):=by kernel_rfl
theorem Zrw (w:Yh) (a:Addr) (n c:Nat):(binOp .eql 102 (Yc (Ya a) n c) (Yc Yb 0 0)).run Tryz.prog w=.ok (.bool false) w:=by kernel_rfl
theorem ZqO (w:Yh) (n c:Nat):(binOp .eql 102 (Yc Yb n c) (Yc Yb 0 0)).run Tryz.prog w=.ok (.bool true) w:=by kernel_rfl
theorem ZnR (w:Yh):(w.alloc (Yg #[] 37)).ownsRow w.heap.size 37 3 (Yc (Ya ⟨w.heap.size,0,Yb⟩) 0 0) 0 []:=
 ⟨rfl,.inr ⟨w.heap.size,0,#[],rfl,Nat.le_refl _,heap_alloc_new w _,Nat.le_refl _,by decide,rfl,rfl⟩⟩
def ZpU (w:Yh) (ts:List Trm) (e:Ending) (w':Yh):Prop:=∃A c,e=.returned (Yc A ts.length c)/\ZV w' w.heap.size (Yc A ts.length c) ts (fun b=>w.heap.size<=b)/\Below w.heap.size w w'
theorem Zop (w:Yh) (v:Yi) (ts:List Trm) (h:Zai w v ts) (n:ts.length<=1000) :
  Calls Tryz.prog 104 #[v] w (ZpU w ts):=by
 obtain⟨i0,N,F,G,H⟩:=info_parts Zgi;obtain⟨A,c,t,rfl,L,M,B,p,r⟩:=h;rcases A with _|J
 ·have P:ts=[]:=by
   rcases Nat.eq_zero_or_pos ts.length with z|z
   ·exact List.eq_nil_of_length_eq_zero z
   ·obtain⟨_,e,_⟩:=p.2 z;cases e
  subst P;have hq:=ZqO w 0 c;clear L M B p r n;go_enter Tryz.func104,Tryz.ntmps104;go_wp2_with fail;go_ret;exact⟨_,_,rfl,ZV.nil w _ _,Below.refl _ _⟩
 ·have hq:=Zrw w J ts.length c
  have o:∀u∈Ze t,u.oneCell'=true:=Zev t fun x s=>by
   obtain⟨g,j,e⟩:=Zc (r x s);exact⟨_,_,_,e⟩
  have i:=Lib.hid (And.intro o (And.intro B (And.intro r n)));clear o B r n;go_enter Tryz.func104,Tryz.ntmps104;go_wp2_with (at_builtin;refine Zj _ rfl _ _ 102 rfl w.heap.size 37 i0 (.agg #[Yc Yb 0 0,Yd Yf 0,Yd Yf 0]) 3 40 Tryz.underlying102 N F G H rfl (by decide) _ 0 [] rfl (ZnR w) w.heap.size (Ya J) _ c _ rfl (p.alloc (Nat.le_refl _) _) ?c2 ?c3 ?c4 ?c5 ?_)
  case c2=>exact i.out.1
  case c3=>have:=i.out.2.2.2;unfold maxLen;omega
  case c4=>have:=i.out.2.2.2;omega
  case c5=>simp
  intro I y d a _;have f:y.ownsRow w.heap.size 37 3 I ts.length (Ze t):=by simpa using d
  have D:Below w.heap.size w y:=by
   refine(below_alloc1 w _).grown a (by simp) (fun k O=>?_);have e:w.heap.size=k:=by simpa[Value.ownBlock]using O
   omega
  have C:ZV y w.heap.size I ts (fun b=>w.heap.size<=b):=by refine⟨t,i.out.2.1,f,fun x s=>⟨(i.out.2.2.1 x s).below D,fun n b E q=>?_⟩⟩;have:=(i.out.2.2.1 x s).lt n b E;omega
  obtain⟨g,j,K,m⟩:∃g j,I=.slice g ts.length j/\ZV y w.heap.size (.slice g ts.length j) ts (fun b=>w.heap.size<=b):=by obtain⟨g,j,_,e,_⟩:=C.terms;exact⟨g,j,e,e▸C⟩
  subst K;have l:=Lib.hid (And.intro m D);clear d f a D p hq C m;go_wp2_with fail;go_ret;exact⟨_,_,rfl,l.out.1,l.out.2⟩
end
section
open Go.RowKit
theorem ZdJ {base size g n j:Nat} {e:TypeId}:∀(f:List Yi) (o:Nat) (w:Yh) (i:List Yi),w.ownsRow base e size (Yc (Ya ⟨g,0,Yb⟩) n j) n i->o+f.length<=i.length ->
  (w.setCells g o f).ownsRow base e size (Yc (Ya ⟨g,0,Yb⟩) n j) n (i.take o++f++i.drop (o+f.length))/\w.grownBy (w.setCells g o f) (Ya g)
 |[],o,w,i,h,_=>by
  rw[List.append_nil,Yl,Nat.add_zero,List.take_append_drop];exact⟨h,World.grownBy.refl w _⟩
 |v::f,o,w,i,h,hl=>by
  rw[Yk]at hl;obtain⟨a,b⟩:=h.stored o v;obtain⟨c,d⟩:=ZdJ f (o+1) (w.setCell ⟨g,o,Yb⟩ v) (i.set o v) a (by rw[List.length_set];omega);refine⟨?_,ZX b d⟩;have e:(i.set o v).take (o+1)++f++(i.set o v).drop (o+1+f.length)=i.take o++v::f++i.drop (o+(v::f).length):=by rw[List.take_add_one,List.getElem?_set_self (by omega),List.take_set_of_le (Nat.le_refl _),List.drop_set_of_lt (by omega),Yk,show o+(f.length+1)=o+1+f.length by omega];simp
  rw[<-e];exact c
theorem Zqu {base size g n a m:Nat} {e:TypeId} {w:Yh} {d:List Yi} (h:w.ownsRow base e size (Yc (Ya ⟨g,0,Yb⟩) n a) n d) (hm:m<=n):w.ownsRow base e size (Yc (Ya ⟨g,0,Yb⟩) m a) m (d.take (m*size)):=by
 have r:=h.1;have j:m*size<=n*size:=Nat.mul_le_mul_right _ hm;rcases h.2 with⟨q,_⟩|⟨p,c,b,q,f,i,hc,o,k,l⟩
 ·cases q
 ·simp only[Value.slice.injEq,Option.some.injEq,Addr.mk.injEq,and_true,true_and]at q;obtain⟨rfl,rfl⟩:=q;refine⟨by rw[List.length_take];omega,.inr ⟨g,a,b,rfl,f,i,by omega,o,k,?_⟩⟩;rw[<-l,List.take_take,Nat.min_eq_left j]
theorem Zf2:∀(l:List (Yi×Trm)) (k:Nat),Ze (l.take k)=(Ze l).take (k*3)
 |[],k=>by simp[Ze]
 |x::r,0=>by simp[Ze]
 |x::r,k+1=>by
  rw[List.take_succ_cons,Ze,Ze,Zf2 r k,show(k+1)*3=k*3+1+1+1 by omega,List.take_succ_cons,List.take_succ_cons,List.take_succ_cons]
theorem Zf1:∀(l:List (Yi×Trm)) (k:Nat),Ze (l.drop k)=(Ze l).drop (k*3)
 |[],k=>by simp[Ze]
 |x::r,0=>by simp
 |x::r,k+1=>by
  rw[List.drop_succ_cons,Ze,Zf1 r k,show(k+1)*3=k*3+1+1+1 by omega,List.drop_succ_cons,List.drop_succ_cons,List.drop_succ_cons]
theorem Zmz {w:Yh} {base g n h i:Nat} {ts:List Trm} {S:Nat->Prop} (u:S g) (z:i<n) (zs:List Yi) (y:zs.length=3) (rs:List (Yi×Trm)) (s:rs.map (·.2)=ts) (p:w.ownsRow base 37 3 (Yc (Ya ⟨g,0,Yb⟩) n h) n (Ze rs)) (t:∀x∈rs,Za w x.1 x.2.1/\Off S x.1 x.2.1) :
  ZV ((w.setCells g (i*3) (Ze (rs.drop (i+1)))).setCells g ((n-1)*3) zs) base (Yc (Ya ⟨g,0,Yb⟩) (n-1) h) (ts.eraseIdx i) S/\w.grownBy ((w.setCells g (i*3) (Ze (rs.drop (i+1)))).setCells g ((n-1)*3) zs) (Ya g):=by
 have l:rs.length=n:=by have:=p.1;rw[Zcb]at this;omega
 have k:(Ze (rs.drop (i+1))).length=(n-(i+1))*3:=by rw[Zcb,List.length_drop,l]
 have f:(Ze rs).length=n*3:=by rw[Zcb,l]
 obtain⟨a,b⟩:=ZdJ (Ze (rs.drop (i+1))) (i*3) w _ p (by rw[k,f];omega);obtain⟨c,d⟩:=ZdJ zs ((n-1)*3) _ _ a (by simp only[Yj,List.length_take,List.length_drop,k,f,y];omega);have r:=ZX b d;have e:=Zqu c (m:=n-1) (by omega);have he:ts.eraseIdx i=(rs.eraseIdx i).map (·.2):=by rw[<-s,List.eraseIdx_eq_take_drop_succ,List.eraseIdx_eq_take_drop_succ,List.map_append,List.map_take,List.map_drop]
 have j:(rs.eraseIdx i).length=n-1:=by rw[List.length_eraseIdx,Yo (by omega),l]
 refine⟨⟨rs.eraseIdx i,he.symm,?_,fun x v=>?_⟩,r⟩
 ·rw[he,List.length_map,j];have o:Ze (rs.eraseIdx i)=(((Ze rs).take (i*3)++Ze (rs.drop (i+1))++(Ze rs).drop (i*3+(Ze (rs.drop (i+1))).length)).take ((n-1)*3)++zs++((Ze rs).take (i*3)++Ze (rs.drop (i+1))++(Ze rs).drop (i*3+(Ze (rs.drop (i+1))).length)).drop ((n-1)*3+zs.length)).take ((n-1)*3):=by
   have l1:((Ze rs).take (i*3)++Ze (rs.drop (i+1))).length=(n-1)*3:=by simp only[Yj,List.length_take,k,f];omega
   rw[List.append_assoc,List.take_append_of_le_length (by simp only[List.length_take,Yj,List.length_drop,k,f];omega),List.take_take,Nat.min_self,List.take_append_of_le_length (by rw[l1];exact Nat.le_refl _),List.take_of_length_le (by rw[l1];exact Nat.le_refl _),List.eraseIdx_eq_take_drop_succ,Zdp,Zf2]
  rw[o];exact e
 ·have:=t x (List.mem_of_mem_eraseIdx v);exact⟨this.1.off this.2 r (fun b e=>by injection e with e;exact e▸u),this.2⟩
theorem ZkO (w:Yh) (ty:TypeId) (b o c:Nat) (hc:∀j,j<3->(w.cell? ⟨b,o+j,Yb⟩).isSome=true) (f:∀j,j<3->w.frozen? ⟨b,o+j,Yb⟩=false) :
  (Builtin.clear_ #[102] ty #[Yc (Ya ⟨b,o,Yb⟩) 1 c]).run Tryz.prog w=.ok (.tuple #[]) (w.setCells b o [Yc Yb 0 0,Yd Yf 0,Yd Yf 0]):=by
 have d:(Builtin.zeroCells (Value.agg #[Yc Yb 0 0,Yd Yf 0,Yd Yf 0]).cells 1).toList=[Yc Yb 0 0,Yd Yf 0,Yd Yf 0]:=by kernel_rfl
 have a:=run_storeCells_cells (P:=Tryz.prog) b o [Yc Yb 0 0,Yd Yf 0,Yd Yf 0] 0 w (by simpa using hc) (by simpa using f) (by intro v e;simp at e;rcases e with rfl|rfl|rfl<;>rfl);simp only[Nat.add_zero]at a;simp[Builtin.clear_,run_underlying Tryz.underlying102,d,a]
def Zox (w:Yh) (base g n a:Nat) (ts:List Trm) (S:Nat->Prop) (e:Ending) (w':Yh):Prop:=
 e=.returned (Yc (Ya ⟨g,0,Yb⟩) (n-1) a)/\ZV w' base (Yc (Ya ⟨g,0,Yb⟩) (n-1) a) ts S/\w.grownBy w' (Ya g)
theorem ZmS (w:Yh) (base g n a i:Nat) (ts:List Trm) (S:Nat->Prop) (h:ZV w base (Yc (Ya ⟨g,0,Yb⟩) n a) ts S) (J:S g) (P:i<n) :
  Calls Tryz.prog 109 #[Yc (Ya ⟨g,0,Yb⟩) n a,Yd Yf i,Yd Yf ((i:Int)+1)] w (Zox w base g n a (ts.eraseIdx i) S):=by
 obtain⟨i0,G,ab,H,ac⟩:=info_parts Zgi;have O:ZV w.drew base (Yc (Ya ⟨g,0,Yb⟩) n a) ts S:=h.below (Zn _);obtain⟨c,D,f,E⟩:=O;have e:ts.length=n:=by
  rcases f.2 with⟨q,_⟩|⟨L,r,C,q,_⟩
  ·cases q
  ·injection q with _ q _;exact q.symm
 rw[e]at f;obtain⟨R,F⟩:n<=a/\a<=maxLen:=by
  rcases f.2 with⟨q,_⟩|⟨L,r,C,q,_,_,q1,q2,_⟩
  ·cases q
  ·injection q with _ _ q;exact⟨q▸q1,q▸q2⟩
 have v:c.length=n:=by rw[<-e,<-D,List.length_map]
 have y:∀u∈Ze (c.drop (i+1)),u.oneCell'=true:=Zev _ fun x hx=>by
  obtain⟨A',c',e⟩:=Zc (E x (List.mem_of_mem_drop hx)).1;exact⟨_,_,_,e⟩
 have b:(Ze (c.drop (i+1))).length=(n-(i+1))*3:=by rw[Zcb,List.length_drop,v]
 have k:∀j u,(Ze c)[j]? = Ya u->w.drew.cell? ⟨g,j,Yb⟩=Ya u:=fun j u hu=>by
  have z:j<n*3:=by
   rcases Nat.lt_or_ge j (Ze c).length with q|q
   ·rw[f.1]at q;exact q
   ·rw[List.getElem?_eq_none q]at hu;cases hu
  rw[f.cellAt j z,hu]
 obtain⟨A,hA,o⟩:∃A:Addr,(if a=i+1 then Ya (⟨g,0,Yb⟩:Addr)else Ya ⟨g,(i+1)*3,Yb⟩)=Ya A/\Hid (∀j u,(Ze (c.drop (i+1)))[j]? = Ya u->w.drew.cell? (A.add j)=Ya u):=by
  by_cases q:a=i+1
  ·refine⟨⟨g,0,Yb⟩,by simp[q],fun j u hu=>?_⟩;have M:(Ze (c.drop (i+1))).length=0:=by rw[b];omega
   rw[List.length_eq_zero_iff.1 M]at hu;simp at hu
  ·refine⟨⟨g,(i+1)*3,Yb⟩,by simp[q],fun j u hu=>?_⟩;rw[Addr.add_lit];rw[Zf1,List.getElem?_drop]at hu;exact k _ _ hu
 have s1:Hid ((Ze (c.drop (i+1))).length=(n-(i+1))*3):=b;have s2:Hid (∀u∈Ze (c.drop (i+1)),u.oneCell'=true):=y;have s3:Hid (∀j,j<(Ze (c.drop (i+1))).length->(w.drew.cell? ⟨g,0+i*3+j,Yb⟩).isSome=true/\w.drew.frozen? ⟨g,0+i*3+j,Yb⟩=false):=by intro j z;rw[b]at z;exact⟨by rw[f.cellAt _ (by omega),Ym (by rw[f.1];omega)];rfl,f.frozenAt _⟩
 obtain⟨m,l⟩:∃m,m=w.drew.setCells g (0+i*3) (Ze (c.drop (i+1))):=⟨_,rfl⟩
 have d:m.ownsRow base 37 3 (Yc (Ya ⟨g,0,Yb⟩) n a) n ((Ze c).take (0+i*3)++Ze (c.drop (i+1))++(Ze c).drop (0+i*3+(Ze (c.drop (i+1))).length)):=by rw[l];exact(ZdJ _ _ _ _ f (by rw[b,f.1];omega)).1
 have t:=d.1;have N:∀I,(Builtin.clear_ #[102] I #[Yc (Ya ⟨g,(i+(n-(i+1)))*3,Yb⟩) (n-(i+(n-(i+1)))) (a-(i+(n-(i+1))))]).run Tryz.prog m=.ok (.tuple #[]) (m.setCells g ((i+(n-(i+1)))*3) [Yc Yb 0 0,Yd Yf 0,Yd Yf 0]):=by intro I;rw[show n-(i+(n-(i+1)))=1 by omega];exact ZkO m I g _ _ (fun j z=>by rw[d.cellAt _ (by omega),Ym (by rw[t];omega)];rfl) (fun j _=>d.frozenAt _)
 have s:Zox w base g n a (ts.eraseIdx i) S (.returned (Yc (Ya ⟨g,0,Yb⟩) (i+(n-(i+1))) a)) (m.setCells g ((i+(n-(i+1)))*3) [Yc Yb 0 0,Yd Yf 0,Yd Yf 0]):=by rw[l,show i+(n-(i+1))=n-1 by omega,Nat.zero_add];obtain⟨p,q⟩:=Zmz (i:=i) J P [Yc Yb 0 0,Yd Yf 0,Yd Yf 0] rfl c D f E;exact⟨rfl,p,ZX (ZY (Zn _) _) q⟩
 have B:=Lib.hid s;have K:=Lib.hid l;have Q:i<=a:=by omega
 have Z:IntKind.i64.wrap ((i:Int)+1)=(i:Int)+1:=IntWalk.i64_in _ (by unfold maxLen at F;omega);have T:(0:Int)<=(i:Int)+1:=by omega
 have U:(i:Int)+1<=(n:Int):=by omega
 have V:((i:Int)+1).toNat=i+1:=by omega
 have W:(i:Int)<=(i:Int)+1:=by omega
 have X:(n:Int)<=(a:Int):=by omega
 have Y:((i:Int)==(i:Int)+1)=false:=by rw[beq_eq_false_iff_ne];omega
 clear d t s l h D f E J v y b k e;go_enter Tryz.func109,Tryz.ntmps109;go_wp2_with fail;go_region_law (refine step_append_room rfl (.tmp 22) (.tmp 25) 102 rfl 37 i0 3 Tryz.underlying102 G H g 0 i a (by simp[Act.eval,Act.put]) A (n-(i+1)) (a-(i+1)) (Ze (c.drop (i+1))) (by simp[Act.eval,Act.put]) s1.out o.out s2.out (by omega) s3.out ?_;rw[<-K.out]);go_wp2_with fail;go_ret;exact B.out
end
section
open Go.RowKit
abbrev Zco:=List Trm×List Trm×List Int
def ZL (t:Trm) (v:Int):List (Int×Int)×(Int×Int)×Int:=Zh t.1 t.2 (Zb9 (atL t.1 v))
def ZaJ (s:Zco) (v:Int):Option Zco:=
 match s.1.findIdx? (Zbb v)with
 |none=>Ya s
 |some i=>(s.1[i]?).bind fun t=>
  if(ZL t v).2.2=0 then
   (Zah (ZO ((ZL t v).1,(ZL t v).2.1) v) (s.1.eraseIdx i)).bind fun l=>
   (Zah (ZO ((ZL t v).1,(ZL t v).2.1) v) s.2.1).map fun q=>(l,q++[((ZL t v).1,(ZL t v).2.1)],s.2.2++[v])
  else Yb
def Zaz (ts:List Trm):Nat->Option Zco
 |0=>Ya (ts,[],[])
 |k+1=>(Zaz ts k).bind fun s=>ZaJ s k
def Zy (ts:List Trm):(List Trm×List Int)×Int:=
 if ts.length<=400/\ts.any ZT=false then
  match Zaz ts 8 with
  |none=>(([],[]),2)
  |some s=>if s.1.any prK=true then(([],[]),1)else((s.2.1,s.2.2),0)
 else(([],[]),2)
theorem Zg3 {t:Trm} {v:Int} (h:TrmOk t) (a:Zbb v t=true) (e:(ZL t v).2.2=0):TrmOk ((ZL t v).1,(ZL t v).2.1):=by
 have b:(atL t.1 v).1≠0:=by unfold Zbb at a;simpa using a
 obtain⟨_,_,_,_,P⟩:=Zcm h.ok.wide h.k.wide (ZeN (h.ok.at v) b).wide e;exact⟨P.ok,P.okk,P.len⟩
structure SolOk (n k:Nat) (s:Zco):Prop where
 l:∀t∈s.1,TrmOk t
 q:∀t∈s.2.1,TrmOk t
 len:s.1.length+s.2.1.length=n
 ql:s.2.1.length=s.2.2.length
 k:s.2.2.length<=k
theorem ZeU {pr:Trm->Bool} {l:List Trm} {i:Nat} (h:l.findIdx? pr=Ya i):∃t,l[i]? = Ya t/\pr t=true:=by obtain⟨a,b,_⟩:=List.findIdx?_eq_some_iff_getElem.1 h;exact⟨l[i],Ym a,b⟩
theorem ZlX {n k:Nat} {s r:Zco} {v:Int} (h:SolOk n k s) (e:ZaJ s v=Ya r):SolOk n (k+1) r:=by
 unfold ZaJ at e
 split at e
 ·obtain rfl:=Option.some.inj e;exact⟨h.l,h.q,h.len,h.ql,by have:=h.k;omega⟩
 ·rename_i i m
  obtain⟨t,c,o⟩:=ZeU m;rw[c,Option.bind_some]at e
  split at e
  ·rename_i he
   rw[Option.bind_eq_some_iff]at e;obtain⟨l,j,e⟩:=e;obtain⟨q,hq,rfl⟩:=Option.map_eq_some_iff.1 e;have d:=Zg3 (h.l t (List.mem_of_getElem? c)) o he;have f:i<s.1.length:=by
    rcases Nat.lt_or_ge i s.1.length with g|g
    ·exact g
    ·rw[List.getElem?_eq_none g]at c;cases c
   have a:=Zc0 j;have b:=Zc0 hq;rw[List.length_eraseIdx,Yo f]at a;refine⟨ZjC d (fun u hu=>h.l u (List.mem_of_mem_eraseIdx hu)) j,fun u hu=>?_,?_,?_,?_⟩
   ·rcases List.mem_append.1 hu with g|g
    ·exact ZjC d h.q hq u g
    ·rw[List.mem_singleton]at g;rw[g];exact d
   ·have:=h.len;simp only[Yj,List.length_singleton];omega
   ·have:=h.ql;simp only[Yj,List.length_singleton];omega
   ·have:=h.k;simp only[Yj,List.length_singleton];omega
  ·cases e
theorem Zc5 {ts:List Trm} (h:∀t∈ts,TrmOk t):∀(k:Nat) (s:Zco),Zaz ts k=Ya s->SolOk ts.length k s
 |0,s,e=>by
  obtain rfl:=Option.some.inj e;exact⟨h,(fun _ b=>by cases b),rfl,rfl,Nat.le_refl _⟩
 |k+1,s,e=>by
  rw[Zaz,Option.bind_eq_some_iff]at e;obtain⟨r,a,e⟩:=e;exact ZlX (Zc5 h k r a) e
theorem Zqa {pr:Trm->Bool} {l:List Trm} (h:l.any pr=false):l.findIdx? pr=Yb:=by
 rw[List.findIdx?_eq_none_iff];intro x a;exact Bool.eq_false_iff.2 fun q=>by rw[List.any_eq_true.2 ⟨x,a,q⟩]at h;cases h
theorem Zlo {pr:Trm->Bool} {l:List Trm} {i:Nat} {t:Trm} (a:l[i]? = Ya t) (e:pr t=true) (h:(l.take i).any pr=false):l.findIdx? pr=Ya i:=by
 have b:i<l.length:=by
  rcases Nat.lt_or_ge i l.length with g|g
  ·exact g
  ·rw[List.getElem?_eq_none g]at a;cases a
 have c:l[i]=t:=by rw[Ym b]at a;exact Option.some.inj a
 refine List.findIdx?_eq_some_iff_getElem.2 ⟨b,by rw[c];exact e,fun j d=>?_⟩;intro q;have:(l.take i).any pr=true:=List.any_eq_true.2 ⟨l[j],by rw[List.mem_iff_getElem?];exact⟨j,by rw[List.getElem?_take,Yo d];exact Ym (by omega)⟩,q⟩;rw[h]at this;cases this
theorem Zia {ts:List Trm} {k:Nat}:∀d,Zaz ts k=Yb->Zaz ts (k+d)=Yb
 |0,h=>h
 |d+1,h=>by rw[<-Nat.add_assoc,Zaz,Zia d h];rfl
theorem ZfC {ts:List Trm} {k:Nat} (a:k<=8) (h:Zaz ts k=Yb):Zy ts=(([],[]),2):=by
 have:=Zia (8-k) h;rw[show k+(8-k)=8 by omega]at this;unfold Zy;rw[this]
 split<;>rfl
theorem Zgw {ts:List Trm} (h:¬(ts.length<=400/\ts.any ZT=false)):Zy ts=(([],[]),2):=Yn h
def ZbT (l:List Int):List Yi:=l.map (Value.int Yf)
def ZaR (w:Yh) (v:Yi) (l:List Int):Prop:=∃A c,v=Yc A l.length c/\l.length<=c/\c<=maxLen/\Zw w w.heap.size 1 A l.length (ZbT l)
theorem ZaR.below {w w':Yh} {v:Yi} {l:List Int} (h:ZaR w v l) (a:Below w.heap.size w w'):ZaR w' v l:=by obtain⟨A,c,b,d,e,f⟩:=h;exact⟨A,c,b,d,e,(f.below a).more a.size⟩
theorem ZaR.nil (w:Yh):ZaR w (Yc Yb 0 0) []:=⟨Yb,0,rfl,Nat.le_refl _,by decide,Zw.none_⟩
theorem Zd1 {w:Yh} {base:Nat} {l:List Int} {v:Yi} (h:w.ownsRow base 3 1 v l.length (ZbT l)):ZaR w v l:=by
 have e:=h;rcases h.2 with⟨rfl,f⟩|⟨g,b,d,rfl,_,i,c,a⟩
 ·have:l=[]:=List.eq_nil_of_length_eq_zero (by simpa using f);subst this;exact ZaR.nil w
 ·exact⟨Ya _,b,rfl,c,a.1,Zw.of_own e⟩
theorem ZbM {w wr:Yh} {A:Option Addr} {n k:Nat} {l:List Int} {x:Int} (c:Zw w w.heap.size 1 A n (ZbT l)) (d:Below w.heap.size w wr) (g:l[k]? = Ya x) (f:0<n) :
  ∃a,A=Ya a/\wr.cell? (a.add k)=Ya (Yd Yf x):=by
 obtain⟨a,e,b,hc⟩:=c.2 f;exact⟨a,e,(d.cell (p:=a.add k) (by rw[ZJ];exact b)).trans (hc _ _ (by rw[ZbT,List.getElem?_map,g];rfl))⟩
def three (a d c:Yi) (b:Nat):Prop:=a.ownBlock=Ya b\/d.ownBlock=Ya b\/c.ownBlock=Ya b
structure SolS (W w:Yh) (vl vs vp:Yi) (L Q:List Trm) (P:List Int):Prop where
 l:ZV w W.heap.size vl L (three vl vs vp)
 s:ZV w W.heap.size vs Q (three vl vs vp)
 p:w.ownsRow W.heap.size 3 1 vp P.length (ZbT P)
 ls:∀b,vl.ownBlock=Ya b->vs.ownBlock≠Ya b
 lp:∀b,vl.ownBlock=Ya b->vp.ownBlock≠Ya b
 sp:∀b,vs.ownBlock=Ya b->vp.ownBlock≠Ya b
 below:Below W.heap.size W w
section
variable {W w w':Yh} {vl vs vp vl' vs' vp':Yi} {L Q L' Q':List Trm} {P P':List Int}
theorem SolS.keep (h:SolS W w vl vs vp L Q P) (a:Below w.heap.size w w'):SolS W w' vl vs vp L Q P:=
 ⟨h.l.below a,h.s.below a,h.p.kept (ZY a Yb) (by cases hv:vp.ownBlock<;>simp),h.ls,h.lp,h.sp,h.below.trans (a.mono h.below.size)⟩
theorem SolS.lt (h:SolS W w vl vs vp L Q P):∀b,three vl vs vp b->W.heap.size<=b/\b<w.heap.size:=by
 intro b a;rcases a with g|g|g
 ·exact h.l.lt b g
 ·exact h.s.lt b g
 ·exact h.p.lt b g
theorem SolS.left (h:SolS W w vl vs vp L Q P) (g:ZV w' W.heap.size vl' L' (three vl vs vp)) (a:w.grownBy w' vl.ownBlock) (e:vl'.ownBlock=vl.ownBlock):SolS W w' vl' vs vp L' Q P:=by
 have c:three vl' vs vp=three vl vs vp:=by unfold three;rw[e]
 refine⟨by rw[c];exact g,by rw[c];exact h.s.other a fun b d=>⟨.inl d,h.ls b d⟩,h.p.kept a ?_,by rw[e];exact h.ls,by rw[e];exact h.lp,h.sp,h.below.grown a h.below.size fun k f=>(h.l.lt k f).1⟩;cases q:vl.ownBlock with
 |none=>cases hv:vp.ownBlock<;>simp
 |some b=>exact .inr (h.lp b q)
theorem SolS.sel (h:SolS W w vl vs vp L Q P) (g:ZV w' W.heap.size vs' Q' (three vl vs vp)) (a:w.grownBy w' vs.ownBlock) (e:vs'.ownBlock=vs.ownBlock):SolS W w' vl vs' vp L Q' P:=by
 have c:three vl vs' vp=three vl vs vp:=by unfold three;rw[e]
 refine⟨by rw[c];exact h.l.other a fun b d=>⟨.inr (.inl d),fun q=>h.ls b q d⟩,by rw[c];exact g,h.p.kept a ?_,by rw[e];exact h.ls,h.lp,by rw[e];exact h.sp,h.below.grown a h.below.size fun k f=>(h.s.lt k f).1⟩;cases q:vs.ownBlock with
 |none=>cases hv:vp.ownBlock<;>simp
 |some b=>exact .inr (h.sp b q)
theorem SolS.push {vt:Yi} {t:Trm} {rs:List (Yi×Trm)} (h:SolS W w vl vs vp L Q P) (m:rs.map (·.2)=Q) (n:∀x∈rs,Za w x.1 x.2.1/\Off (three vl vs vp) x.1 x.2.1) (d:w'.ownsRow W.heap.size 37 3 vs' (Q.length+1) (Ze rs++[vt,Yd Yf t.2.1,Yd Yf t.2.2]))
  (i:w.grownBy w' vs.ownBlock) (j:vs'.ownBlock=vs.ownBlock\/vs'.ownBlock=Ya w.heap.size) (u:Za w vt t.1) (r:Off (three vl vs vp) vt t.1):SolS W w' vl vs' vp L (Q++[t]) P:=by
 have f:∀b,three vl vs' vp b->three vl vs vp b\/w.heap.size<=b:=by
  intro b c;rcases c with g|g|g
  ·exact .inl (.inl g)
  ·rcases j with e|e
   ·exact .inl (.inr (.inl (e▸g)))
   ·rw[e]at g;injection g with g;exact .inr (by omega)
  ·exact .inl (.inr (.inr g))
 have a:=ZV.appended (S:=three vl vs vp) (S':=three vl vs' vp) m n d i (fun b c=>.inr (.inl c)) u r f;have lw:=h.lt;have l0:ZV w W.heap.size vl L (fun b=>three vl vs vp b\/three vl vs' vp b):=h.l.mono fun b c=>c.elim .inl (f b);refine⟨(l0.other i fun b c=>⟨.inl (.inr (.inl c)),fun q=>h.ls b q c⟩).mono fun b c=>.inl (.inr c),a,h.p.kept i ?_,fun b c=>?_,h.lp,fun b c=>?_,h.below.grown i h.below.size fun k o=>(h.s.lt k o).1⟩
 ·cases q:vs.ownBlock with
  |none=>cases j:vp.ownBlock<;>simp
  |some b=>exact .inr (h.sp b q)
 ·rcases j with e|e
  ·rw[e];exact h.ls b c
  ·rw[e];intro q;injection q with q;have:=lw b (.inl c);omega
 ·rcases j with e|e
  ·rw[e]at c;exact h.sp b c
  ·rw[e]at c;injection c with c;intro q;have:=lw b (.inr (.inr q));omega
theorem SolS.pushp {x:Int} (h:SolS W w vl vs vp L Q P) (c:w'.ownsRow W.heap.size 3 1 vp' (P.length+1) (ZbT P++[Yd Yf x])) (f:w.grownBy w' vp.ownBlock) (i:vp'.ownBlock=vp.ownBlock\/vp'.ownBlock=Ya w.heap.size):SolS W w' vl vs vp' L Q (P++[x]):=by
 have lw:=h.lt;have d:∀b,three vl vs vp' b->three vl vs vp b\/w.heap.size<=b:=by
  intro b a;rcases a with g|g|g
  ·exact .inl (.inl g)
  ·exact .inl (.inr (.inl g))
  ·rcases i with e|e
   ·exact .inl (.inr (.inr (e▸g)))
   ·rw[e]at g;injection g with g;exact .inr (by omega)
 have l0:ZV w W.heap.size vl L (fun b=>three vl vs vp b\/three vl vs vp' b):=h.l.mono fun b a=>a.elim .inl (d b);have m:ZV w W.heap.size vs Q (fun b=>three vl vs vp b\/three vl vs vp' b):=h.s.mono fun b a=>a.elim .inl (d b);refine⟨(l0.other f fun b a=>⟨.inl (.inr (.inr a)),fun q=>h.lp b q a⟩).mono fun b a=>.inl (.inr a),(m.other f fun b a=>⟨.inl (.inr (.inr a)),fun q=>h.sp b q a⟩).mono fun b a=>.inl (.inr a),?_,h.ls,fun b a=>?_,fun b a=>?_,h.below.grown f h.below.size fun k j=>(h.p.lt k j).1⟩
 ·rw[Yj,ZbT,List.map_append];exact c
 ·rcases i with e|e
  ·rw[e];exact h.lp b a
  ·rw[e];intro q;injection q with q;have:=lw b (.inl a);omega
 ·rcases i with e|e
  ·rw[e];exact h.sp b a
  ·rw[e];intro q;injection q with q;have:=lw b (.inr (.inl a));omega
end
theorem ZnJ:(Tryz.prog.info? 3).map (fun i=>(i.zero,i.size,i.bytes))=Ya (Ya (Yd Yf 0),1,8):=by kernel_rfl
def ZpQ (w:Yh) (S:Nat->Prop) (c:Yi) (p:Trm) (i:Int) (e:Ending) (w':Yh):Prop:=
 ∃b a,e=.returned (.func (.func 146) #[] #[Ye (Ya ⟨b,0,Yb⟩),Ye (Ya ⟨a,0,Yb⟩)])/\ElimIn w' S b a c p i/\Below w.heap.size w w'
theorem Zjx (w:Yh) (S:Nat->Prop) (a:Yi) (p:Trm) (i:Int) (h:Za w a p.1) (l:Off S a p.1) (f:∀b,S b->b<w.heap.size) :
  Calls Tryz.prog 110 #[.agg #[a,Yd Yf p.2.1,Yd Yf p.2.2],Yd Yf i] w (ZpQ w S a p i):=by
 have m:∀(j:Fn) (first e:Array Yi) (w:Yh),(Instr.makeFunc j first e).run Tryz.prog w=.ok (.func j first e) w:=fun _ _ _ _=>rfl;have g:=below_alloc2 w (Yg #[a,Yd Yf p.2.1,Yd Yf p.2.2] 37) (Yg #[Yd Yf i] 3);have F:=(FracBox.start w a (Yd Yf p.2.1) (Yd Yf p.2.2) 37).keep (below_alloc1 _ (Yg #[Yd Yf i] 3));have k:((w.alloc (Yg #[a,Yd Yf p.2.1,Yd Yf p.2.2] 37)).alloc (Yg #[Yd Yf i] 3)).cell? ⟨w.heap.size+1,0,Yb⟩=Ya (Yd Yf i):=by go_simp
 have E:ElimIn ((w.alloc (Yg #[a,Yd Yf p.2.1,Yd Yf p.2.2] 37)).alloc (Yg #[Yd Yf i] 3)) S (w.heap.size+1) w.heap.size a p i:=
  ⟨k,F.k0,F.k1,F.k2,h.below g,l,fun q=>by have:=f _ q;omega,fun q=>by have:=f _ q;omega⟩
 obtain⟨A,c,rfl⟩:=Zc h;have d:=Lib.hid (And.intro E g);clear E g F k h l f;go_enter Tryz.func110,Tryz.ntmps110;go_wp2_with fail;go_ret;exact⟨_,_,rfl,d.out.1,d.out.2⟩
end
section
open Go.RowKit
def co (t:Trm) (x:Int):Rat:=q (atL t.1 x)
theorem Zpl:q (0,1)=0:=by unfold q;grind
theorem Zsg:q (1,1)=1:=by unfold q;grind
theorem ZlJ {x:Int×Int} (h:OkR x):q x=0↔x.1=0:=by
 have:=h.ne;unfold q;constructor
 ·intro e;have:(x.1:Rat)=0:=by grind
  exact_mod_cast this
 ·intro e;rw[e]
  grind
theorem ZqU (x:Int×Int):q (Zv x)=- q x:=by
 unfold q Zv
 push_cast
 grind
theorem Zsa {x:Int×Int} (h:OkR x) (c:x.1≠0):q (Zb9 x)*q x=1:=by
 have a:=h.ne;have b:(x.1:Rat)≠0:=by exact_mod_cast c
 unfold q Zb9;by_cases g:x.1<0
 ·rw[Yo g];have e:((x.1.natAbs:Int):Rat)=-(x.1:Rat):=by
   have:(x.1.natAbs:Int)=-x.1:=by omega
   rw[this]
   push_cast
   rfl
  show((-x.2:Int):Rat) / ((x.1.natAbs:Int):Rat)*((x.1:Rat) / (x.2:Rat))=1;rw[e]
  push_cast
  grind
 ·rw[Yn g];have e:((x.1.natAbs:Int):Rat)=(x.1:Rat):=by
   have:(x.1.natAbs:Int)=x.1:=by omega
   rw[this]
  show(x.2:Rat) / ((x.1.natAbs:Int):Rat)*((x.1:Rat) / (x.2:Rat))=1;rw[e]
  grind
theorem int_lt (a b:Int):a<b\/b<=a:=by omega
theorem ZcX {t:Trm} {x:Int} (h:x<0):co t x=0:=by unfold co;rw[Zbr (.inl h),Zpl]
theorem ZiU {p t u:Trm} {v:Int} (b:TrmOk p) (c:TrmOk t) (h:ZO p v t=Ya u):(∀i:Int,co u i=co t i-co t v*co p i)/\q u.2=q t.2-co t v*q p.2:=by
 unfold ZO at h
 split at h
 ·rename_i g
  obtain rfl:=Option.some.inj h;by_cases r:(atL t.1 v).1=0
  ·have e:Zaq t.1 t.2 p.1 p.2 v=(t.1,t.2,0):=Yo r;have z:co t v=0:=(ZlJ (c.ok.at v)).2 r;rw[e,z];exact⟨fun i=>by unfold co;grind,by grind⟩
  ·have w:OkR (Zv (atL t.1 v)):=ZbF (c.ok.at v);have A:=ZaP (l:=p.1) (kx:=p.2) (kb:=Zv (atL t.1 v)) b.ok.wide b.k.wide w.wide;by_cases j:(Zh p.1 p.2 (Zv (atL t.1 v))).2.2=0
   ·have e:Zaq t.1 t.2 p.1 p.2 v=ZaO t.1 (Zh p.1 p.2 (Zv (atL t.1 v))).1 t.2 (Zh p.1 p.2 (Zv (atL t.1 v))).2.1:=by unfold Zaq;rw[Yn r,Yo j]
    rw[e]at g⊢;obtain⟨_,_,_,_,d⟩:=Zcm b.ok.wide b.k.wide w.wide j;obtain⟨_,_,_,_,_,_,f⟩:=Zdb c.ok.wide A.1 c.k.wide A.2 g;have a:∀(x y m s:Int×Int),OkR x->OkR y->(ZP y (Zv (atL t.1 v))).2=0->m=(ZP y (Zv (atL t.1 v))).1->(Zl x m).2=0->s=(Zl x m).1->q s=q x-co t v*q y:=by
     intro x y m s H I D E F G;obtain⟨B,C⟩:=Zlz I w D;rw[<-E]at B C;obtain⟨_,J⟩:=Zoz H B F;rw[G,J,C,ZqU];unfold co
     grind
    refine⟨fun i=>?_,a _ _ _ _ c.k b.k d.k.1 d.k.2 f.k.1 f.k.2⟩;rcases int_lt i 0 with o|o
    ·rw[ZcX o,ZcX o,ZcX o]
     grind
    ·obtain⟨n,rfl⟩:∃n:Nat,i=n:=⟨i.toNat,by omega⟩
     exact a _ _ _ _ (c.ok.at n) (b.ok.at n) (d.at_ n).1 (d.at_ n).2 (f.at_ n).1 (f.at_ n).2
   ·unfold Zaq at g;rw[Yn r,Yn j]at g;exact absurd g j
 ·cases h
theorem Zr8 {t:Trm} {v:Int} (b:TrmOk t) (f:Zbb v t=true) (e:(ZL t v).2.2=0):(∀i:Int,co ((ZL t v).1,(ZL t v).2.1) i*co t v=co t i)/\q (ZL t v).2.1*co t v=q t.2/\Zs (ZL t v).1=(ZL t v).1:=by
 have d:(atL t.1 v).1≠0:=by unfold Zbb at f;simpa using f
 have g:=ZeN (b.ok.at v) d;obtain⟨_,_,_,_,P⟩:=Zcm b.ok.wide b.k.wide g.wide e;have p:=Zsa (b.ok.at v) d;have a:∀(x m:Int×Int),OkR x->(ZP x (Zb9 (atL t.1 v))).2=0->m=(ZP x (Zb9 (atL t.1 v))).1->q m*co t v=q x:=by
  intro x m l h j;obtain⟨_,o⟩:=Zlz l g h;rw[j,o];unfold co
  grind
 refine⟨fun i=>?_,a _ _ b.k P.k.1 P.k.2,P.own⟩;rcases int_lt i 0 with c|c
 ·rw[ZcX c,ZcX c]
  grind
 ·obtain⟨n,rfl⟩:∃n:Nat,i=n:=⟨i.toNat,by omega⟩
  exact a _ _ (b.ok.at n) (P.at_ n).1 (P.at_ n).2
theorem Zp5 {p t u:Trm} {v:Int} (d:TrmOk p) (b:TrmOk t) (j:Zs t.1=t.1) (h:ZO p v t=Ya u):Zs u.1=u.1:=by
 unfold ZO at h
 split at h
 ·rename_i g
  obtain rfl:=Option.some.inj h;by_cases c:(atL t.1 v).1=0
  ·have e:Zaq t.1 t.2 p.1 p.2 v=(t.1,t.2,0):=Yo c;rw[e];exact j
  ·have i:OkR (Zv (atL t.1 v)):=ZbF (b.ok.at v);have f:=ZaP (l:=p.1) (kx:=p.2) (kb:=Zv (atL t.1 v)) d.ok.wide d.k.wide i.wide;by_cases a:(Zh p.1 p.2 (Zv (atL t.1 v))).2.2=0
   ·have e:Zaq t.1 t.2 p.1 p.2 v=ZaO t.1 (Zh p.1 p.2 (Zv (atL t.1 v))).1 t.2 (Zh p.1 p.2 (Zv (atL t.1 v))).2.1:=by unfold Zaq;rw[Yn c,Yo a]
    rw[e]at g⊢;exact(Zdb b.ok.wide f.1 b.k.wide f.2 g).2.2.2.2.2.2.own
   ·unfold Zaq at g;rw[Yn c,Yn a]at g;exact absurd g a
 ·cases h
theorem ZoX {t:Trm} {v:Int} (a:TrmOk t):Zbb v t=true↔co t v≠0:=by unfold Zbb co;rw[Ne,ZlJ (a.ok.at v)];simp
structure Ech (k:Nat) (s:Zco):Prop where
 left:∀t∈s.1,∀v:Int,v<k->co t v=0
 rng:∀(i:Nat) (x:Int),s.2.2[i]? = Ya x->0<=x/\x<k
 inc:∀(i j:Nat) (x y:Int),i<j->s.2.2[i]? = Ya x->s.2.2[j]? = Ya y->x<y
 unit:∀(i j:Nat) (x:Int) (u:Trm),s.2.2[i]? = Ya x->s.2.1[j]? = Ya u->co u x=if i=j then 1 else 0
 lead:∀(j:Nat) (x:Int) (u:Trm),s.2.2[j]? = Ya x->s.2.1[j]? = Ya u->∀v:Int,v<x->co u v=0
 own:∀t∈s.2.1,Zs t.1=t.1
theorem ZcB {b:Type} {l:List b} {a x:b} {i:Nat} (h:(l++[a])[i]? = Ya x):l[i]? = Ya x\/(i=l.length/\x=a):=by
 rcases Nat.lt_or_ge i l.length with g|g
 ·rw[List.getElem?_append_left g]at h;exact .inl h
 ·rw[List.getElem?_append_right g]at h;have e:i-l.length=0:=by
   rcases Nat.eq_zero_or_pos (i-l.length)with q|q
   ·exact q
   ·rw[List.getElem?_eq_none (by simp;omega)]at h;cases h
  rw[e]at h;exact .inr ⟨by omega,by simpa using h.symm⟩
theorem Za8 {a:Type} {l:List a} {x:a} {i:Nat} (h:l[i]? = Ya x):i<l.length:=by
 rcases Nat.lt_or_ge i l.length with g|g
 ·exact g
 ·rw[List.getElem?_eq_none g]at h;cases h
theorem Ziy {f:Trm->Option Trm}:∀{l us:List Trm},Zah f l=Ya us->∀u∈us,∃t∈l,f t=Ya u
 |[],us,h,u,hu=>by
  obtain rfl:[]=us:=by simpa[Zah]using h
  cases hu
 |x::r,us,h,u,hu=>by
  rw[Zah,Option.bind_eq_some_iff]at h;obtain⟨a,c,d⟩:=h;obtain⟨b,hc,rfl⟩:=Option.map_eq_some_iff.1 d;rcases List.mem_cons.1 hu with rfl|hu
  ·exact⟨x,by simp,c⟩
  ·obtain⟨t,g,e⟩:=Ziy hc u hu;exact⟨t,by simp[g],e⟩
theorem Zhh {f:Trm->Option Trm} {l us:List Trm} (h:Zah f l=Ya us) {k:Nat} {u:Trm} (b:us[k]? = Ya u):∃t,l[k]? = Ya t/\f t=Ya u:=by
 have c:k<l.length:=by have:=Za8 b;rw[Zc0 h]at this;exact this
 obtain⟨e,a,d⟩:=ZjB h k l[k] (Ym c);rw[b]at a;obtain rfl:=Option.some.inj a;exact⟨_,Ym c,d⟩
theorem Zp4 {n k:Nat} {s r:Zco} (A:SolOk n k s) (h:Ech k s) (e:ZaJ s k=Ya r):Ech (k+1) r:=by
 obtain⟨L,Q,P⟩:=s;unfold ZaJ at e;dsimp only at e
 split at e
 ·rename_i I
  obtain rfl:=Option.some.inj e;rw[List.findIdx?_eq_none_iff]at I;refine⟨fun t D v E=>?_,fun i x w=>?_,h.inc,h.unit,h.lead,h.own⟩
  ·rcases int_lt v k with g|g
   ·exact h.left t D v g
   ·obtain rfl:v=k:=by omega
    have:=I t D;rcases Classical.em (co t k=0)with z|z
    ·exact z
    ·rw[(ZoX (A.l t D)).2 z]at this;cases this
  ·have:=h.rng i x w;omega
 ·rename_i i Z
  obtain⟨t,D,N⟩:=ZeU Z;rw[D,Option.bind_some]at e
  split at e
  ·rename_i he
   rw[Option.bind_eq_some_iff]at e;obtain⟨l,hl,e⟩:=e;obtain⟨q',hq,rfl⟩:=Option.map_eq_some_iff.1 e;have W:=List.mem_of_getElem? D;have C:=A.l t W;have f:=Zg3 C N he;obtain⟨T,_,G⟩:=Zr8 C N he;have tk:=(ZoX C).1 N;have X:=fun u (hu:u∈l)=>Ziy hl u hu;generalize O:((ZL t k).1,(ZL t k).2.1)=p at *;have p1:co p k=1:=by have:=T k;grind
   have F:∀v:Int,v<k->co p v=0:=fun v E=>by
    have:=T v;have z:=h.left t W v E
    grind
   have J:Zs p.1=p.1:=by rw[<-O];exact G
   have m:=Zc0 hq;have ql:Q.length=P.length:=A.ql;refine⟨fun u hu v E=>?_,fun j x w=>?_,fun a b x y M w U=>?_,fun a b x u w hu=>?_,fun j x u w hu v E=>?_,fun u hu=>?_⟩
   ·obtain⟨V,R,Y⟩:=X u hu;have K:=List.mem_of_mem_eraseIdx R;have:=(ZiU f (A.l V K) Y).1 v;rcases int_lt v k with g|g
    ·have z:=h.left V K v g;have z2:=F v g
     grind
    ·obtain rfl:v=k:=by omega
     grind
   ·rcases ZcB w with g|⟨_,rfl⟩
    ·have:=h.rng j x g;omega
    ·omega
   ·rcases ZcB w with g|⟨g,rfl⟩
    ·rcases ZcB U with d|⟨_,rfl⟩
     ·exact h.inc a b x y M g d
     ·exact(h.rng a x g).2
    ·have H:=Za8 U;simp at H;omega
   ·rcases ZcB w with g|⟨g,rfl⟩
    ·have S:=h.rng a x g;rcases ZcB hu with d|⟨d,rfl⟩
     ·obtain⟨o,c,B⟩:=Zhh hq d;have:=(ZiU f (A.q o (List.mem_of_getElem? c)) B).1 x;have z:=F x S.2;have:=h.unit a b x o g c
      grind
     ·have z:=F x S.2;rw[z,Yn (by have:=Za8 g;rw[m]at d;omega)]
    ·rcases ZcB hu with d|⟨d,rfl⟩
     ·obtain⟨o,c,B⟩:=Zhh hq d;have:=(ZiU f (A.q o (List.mem_of_getElem? c)) B).1 k;rw[Yn (by have:=Za8 c;omega)]
      grind
     ·rw[p1,Yo (by rw[m]at d;omega)]
   ·rcases ZcB w with g|⟨g,rfl⟩
    ·have S:=h.rng j x g;rcases ZcB hu with d|⟨d,rfl⟩
     ·obtain⟨o,c,B⟩:=Zhh hq d;have:=(ZiU f (A.q o (List.mem_of_getElem? c)) B).1 v;have z:=F v (by omega);have:=h.lead j x o g c v E
      grind
     ·exact F v (by omega)
    ·rcases ZcB hu with d|⟨d,rfl⟩
     ·have:=Za8 d;rw[m]at this;omega
     ·exact F v E
   ·rcases List.mem_append.1 hu with g|g
    ·obtain⟨o,c,B⟩:=Ziy hq u g;exact Zp5 f (A.q o c) (h.own o c) B
    ·rw[List.mem_singleton]at g;rw[g];exact J
  ·cases e
theorem Zjv {ts:List Trm} (h:∀t∈ts,TrmOk t):∀(k:Nat) (s:Zco),Zaz ts k=Ya s->SolOk ts.length k s/\Ech k s
 |0,s,e=>by
  refine⟨Zc5 h 0 s e,?_⟩;obtain rfl:=Option.some.inj e;exact⟨fun t _ v g=>ZcX (by omega),fun i x c=>by simp at c,fun i j x y _ c=>by simp at c,fun i j x u c=>by simp at c,fun j x u c=>by simp at c,fun t f=>by cases f⟩
 |k+1,s,e=>by
  refine⟨Zc5 h (k+1) s e,?_⟩;rw[Zaz,Option.bind_eq_some_iff]at e;obtain⟨r,d,e⟩:=e;obtain⟨a,b⟩:=Zjv h k r d;exact Zp4 a b e
end
section
open Go.RowKit
def ZN (t:Trm):Trm:=(Zs t.1,t.2)
theorem Zdq {t:Trm} (h:TrmOk t):TrmOk (ZN t):=⟨h.ok.trim,h.k,Nat.le_trans (Zhy _) h.len⟩
theorem ZiQ {h:How} (a:h (0,1) (0,1)=((0,1),0)) {l m:List (Int×Int)}:ZZ h l m (max l.length m.length)↔∀i:Nat,(h (atL l i) (atL m i)).2=0:=by
 constructor
 ·intro g i;by_cases b:i<max l.length m.length
  ·exact g i b
  ·rw[Zbr (l:=l) (.inr (by omega)),Zbr (l:=m) (.inr (by omega)),a]
 ·exact fun g i _=>g i
theorem ZlI {h:How} (o:HowOk h) (f:h (0,1) (0,1)=((0,1),0)) {l b m:List (Int×Int)} {kx n:Int×Int} (s:ZC l) (j:ZC b) (hm:ZC m) (e:∀k:Nat,atL l k=atL b k):Za1 h l m kx n=Za1 h b m kx n:=by
 unfold Za1;have c:ZZ h l m (max l.length m.length)↔ZZ h b m (max b.length m.length):=by rw[ZiQ f,ZiQ f];exact⟨fun g i=>by rw[<-e];exact g i,fun g i=>by rw[e];exact g i⟩
 by_cases g:(h kx n).2=0/\ZZ h l m (max l.length m.length)
 ·have d:=g;rw[c]at d;rw[Yo g,Yo d,ZgF (ZcY o s hm g.2) (ZcY o j hm d.2) fun k=>?_];rw[ZeS,ZeS]
  have z:∀a:List (Int×Int),¬k<max a.length m.length->(h (atL a k) (atL m k)).1=(0,1):=fun a q=>by
   rw[Zbr (l:=a) (.inr (by omega)),Zbr (l:=m) (.inr (by omega)),f]
  have p:(if k<max l.length m.length then(h (atL l k) (atL m k)).1 else(0,1))=(h (atL l k) (atL m k)).1:=by
   split
   ·rfl
   ·rename_i q;exact(z l q).symm
  have r:(if k<max b.length m.length then(h (atL b k) (atL m k)).1 else(0,1))=(h (atL b k) (atL m k)).1:=by
   split
   ·rfl
   ·rename_i q;exact(z b q).symm
  rw[p,r,e k]
 ·rw[Yn g,Yn (fun q=>g ⟨q.1,c.2 q.2⟩)]
theorem Zjg {t:Trm} (h:TrmOk t) {kb:Int×Int} (a:OkR kb):Zh (Zs t.1) t.2 kb=Zh t.1 t.2 kb:=by unfold Zh;rw[show ZM (Zs t.1) t.2.1 t.2.2=true from Zav (Zdq h).len (Zdq h).ok h.k,Zav h.len h.ok h.k,ZlI (Zck a) (Zly a) h.ok.trim h.ok Zf8 fun k=>Zbo h.ok k]
theorem Zl3 {t:Trm} (h:TrmOk t) {m:List (Int×Int)} {b:Int×Int} (hm:Zz m) (c:Bd b):ZaO (Zs t.1) m t.2 b=ZaO t.1 m t.2 b:=by
 unfold ZaO;rw[show ZM (Zs t.1) t.2.1 t.2.2=true from Zav (Zdq h).len (Zdq h).ok h.k,Zav h.len h.ok h.k];by_cases g:ZM m b.1 b.2=true
 ·obtain⟨_,a,_⟩:=Zaj g hm c.1.1 c.1.2 c.2.1 c.2.2;rw[ZlI Zbi Zm1 h.ok.trim h.ok a fun k=>Zbo h.ok k]
 ·rw[Yn (fun q=>g q.2),Yn (fun q=>g q.2)]
theorem Zp9 {t:Trm} (h:TrmOk t) (v:Int):Zbb v (ZN t)=Zbb v t:=by unfold Zbb ZN;rw[Zbo h.ok]
theorem Zp2 {t:Trm} (h:TrmOk t) {v:Int} (a:Zbb v t=true):ZL (ZN t) v=ZL t v:=by
 have b:(atL t.1 v).1≠0:=by unfold Zbb at a;simpa using a
 unfold ZL ZN;dsimp only;rw[Zbo h.ok];exact Zjg h (ZeN (h.ok.at v) b)
theorem ZjS {p t:Trm} {v:Int} (d:TrmOk p) (h:TrmOk t):ZO p v (ZN t)=(ZO p v t).map ZN:=by
 unfold ZO;by_cases a:(atL t.1 v).1=0
 ·have i:Zaq t.1 t.2 p.1 p.2 v=(t.1,t.2,0):=Yo a;have j:Zaq (ZN t).1 (ZN t).2 p.1 p.2 v=((ZN t).1,(ZN t).2,0):=Yo (by unfold ZN;rw[Zbo h.ok];exact a);rw[i,j];rfl
 ·have n:OkR (Zv (atL t.1 v)):=ZbF (h.ok.at v);have b:=ZaP (l:=p.1) (kx:=p.2) (kb:=Zv (atL t.1 v)) d.ok.wide d.k.wide n.wide;have e:Zaq (ZN t).1 (ZN t).2 p.1 p.2 v=Zaq t.1 t.2 p.1 p.2 v:=by
   unfold Zaq ZN;dsimp only;rw[Zbo h.ok,Yn a,Yn a];by_cases g:(Zh p.1 p.2 (Zv (atL t.1 v))).2.2=0
   ·rw[Yo g,Yo g,Zl3 h b.1 b.2]
   ·rw[Yn g,Yn g]
  rw[e];by_cases g:(Zaq t.1 t.2 p.1 p.2 v).2.2=0
  ·rw[Yo g,Option.map_some];have o:Zs (Zaq t.1 t.2 p.1 p.2 v).1=(Zaq t.1 t.2 p.1 p.2 v).1:=by
    by_cases c:(Zh p.1 p.2 (Zv (atL t.1 v))).2.2=0
    ·have m:Zaq t.1 t.2 p.1 p.2 v=ZaO t.1 (Zh p.1 p.2 (Zv (atL t.1 v))).1 t.2 (Zh p.1 p.2 (Zv (atL t.1 v))).2.1:=by unfold Zaq;rw[Yn a,Yo c]
     rw[m]at g⊢;obtain⟨_,_,_,_,_,_,f⟩:=Zdb h.ok.wide b.1 h.k.wide b.2 g;exact f.own
    ·unfold Zaq at g;rw[Yn a,Yn c]at g;exact absurd g c
   unfold ZN;dsimp only;rw[o]
  ·rw[Yn g];rfl
theorem Zj9 {p:Trm} {v:Int} (a:TrmOk p):∀{l:List Trm},(∀t∈l,TrmOk t)->Zah (ZO p v) (l.map ZN)=(Zah (ZO p v) l).map (·.map ZN)
 |[],_=>rfl
 |x::r,h=>by
  rw[List.map_cons,Zah,Zah,ZjS a (h x (by simp)),Zj9 a fun t b=>h t (by simp[b])];cases ZO p v x with
  |none=>rfl
  |some u=>cases Zah (ZO p v) r<;>rfl
def ZhQ (s:Zco):Zco:=(s.1.map ZN,s.2)
theorem Zh0 {f:Trm->Trm} {pr:Trm->Bool}:∀{l:List Trm},(∀t∈l,pr (f t)=pr t)->(l.map f).findIdx? pr=l.findIdx? pr
 |[],_=>rfl
 |x::r,h=>by
  rw[List.map_cons,List.findIdx?_cons,List.findIdx?_cons,h x (by simp),Zh0 fun t a=>h t (by simp[a])]
theorem ZjV {a b:Type} (f:a->b):∀(l:List a) (i:Nat),(l.eraseIdx i).map f=(l.map f).eraseIdx i
 |[],_=>rfl
 |_::_,0=>rfl
 |x::l,i+1=>by
  show f x::(l.eraseIdx i).map f=f x::(l.map f).eraseIdx i;rw[ZjV f l i]
theorem Zpz {n k:Nat} {s:Zco} (h:SolOk n k s) (v:Int):ZaJ (ZhQ s) v=(ZaJ s v).map ZhQ:=by
 unfold ZaJ ZhQ;dsimp only;rw[Zh0 fun t b=>Zp9 (h.l t b) v]
 split
 ·rfl
 ·rename_i i e
  obtain⟨t,b,c⟩:=ZeU e;have a:=h.l t (List.mem_of_getElem? b);rw[List.getElem?_map,b,Option.map_some,Option.bind_some,Option.bind_some,Zp2 a c]
  split
  ·rename_i he
   have d:=Zg3 a c he;rw[<-ZjV,Zj9 d fun u hu=>h.l u (List.mem_of_mem_eraseIdx hu)];cases Zah (ZO ((ZL t v).1,(ZL t v).2.1) v) (s.1.eraseIdx i)with
   |none=>rfl
   |some l=>cases Zah (ZO ((ZL t v).1,(ZL t v).2.1) v) s.2.1<;>rfl
  ·rfl
theorem ZfB {ts:List Trm} (h:∀t∈ts,TrmOk t):∀k:Nat,Zaz (ts.map ZN) k=(Zaz ts k).map ZhQ
 |0=>rfl
 |k+1=>by
  rw[Zaz,Zaz,ZfB h k];cases hs:Zaz ts k with
  |none=>rfl
  |some s=>exact Zpz (Zc5 h k s hs) k
end
end Go.Proofs.YtbfnnolakggbfaaGreatDoor
