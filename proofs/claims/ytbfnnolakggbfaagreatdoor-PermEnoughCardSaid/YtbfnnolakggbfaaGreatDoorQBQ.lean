import Derived.Deep.DeepFit
import Derived.Test.YtbfnnolakggbfaaGreatDoorQAY
import Derived.Test.YtbfnnolakggbfaaGreatDoorQBP
set_option maxRecDepth 100000
set_option maxHeartbeats 8000000
open Option renaming some → Ya, none → Yb
open Go.Value renaming slice → Yc, int → Yd
open Go.IntKind renaming i64 → Yf
open Go.Obj renaming cells → Yg
open Go renaming World → Yh, Value → Yi
namespace Go.Proofs.YtbfnnolakggbfaaGreatDoor
section
open Go.RowKit
theorem ZqB (w:Yh) (x:Int×Int) (h:OkR x) (f:x.1≠0) :
  Calls Tryz.prog 52 #[Yd Yf 3,Zb 1 1,Zb x.1 x.2] w fun r w'=>r=.returned (.tuple #[Zb (Zb9 x).1 (Zb9 x).2,Yd Yf 0])/\Below w.heap.size w w':=by
 obtain⟨d,e,v⟩:=h;have i:=ZhB v f;have:=ZrT (n:=1) (d:=1) ⟨by decide,by decide,by decide,by decide⟩ v f w;have g:0<1*x.1.natAbs:=Nat.mul_pos (by decide) (by omega);obtain⟨a,b,c⟩:=Zhm (P:=1*(if x.1<0 then -(d:Int)else d)) (Q:=1*x.1.natAbs) g i (by push_cast;rw[Int.one_mul,Int.one_mul]);rw[Zp1 1 x.1 1 d v.pos]at this;unfold Zcx at this;rw[a,b,c]at this;unfold Zb9;rw[e];exact this
def Ze5 (p:Trm) (x:Int) (i j:Nat) (t:Trm):Option Trm:=if j=i then Ya p else ZO p x t
def Znv (p:Trm) (x:Int) (i:Nat) (ts us:List Trm):Prop:=us.length=ts.length/\∀(j:Nat) (t:Trm),ts[j]? = Ya t->∃u,us[j]? = Ya u/\Ze5 p x i j t=Ya u
def ZgX (p:Trm) (x:Int) (i:Nat) (ts:List Trm):Prop:=∃j t,ts[j]? = Ya t/\Ze5 p x i j t=Yb
def Zed (w:Yh) (d:Nat->Prop) (t:Trm) (x:Int) (i:Nat) (ts:List Trm) (e:Ending) (w':Yh):Prop:=
 Below w.heap.size w w' ∧
 (((ZL t x).2.2=0/\∃a A c,Znv ((ZL t x).1,(ZL t x).2.1) x i ts a/\e=.returned (.tuple #[Yc A a.length c,.bool true])/\ZV w' w.heap.size (Yc A a.length c) a (fun b=>(Value.slice A a.length c).ownBlock=Ya b\/d b)) ∨
  (((ZL t x).2.2≠0\/ZgX ((ZL t x).1,(ZL t x).2.1) x i ts)/\e=.returned (.tuple #[Yc Yb 0 0,.bool false])))
structure TakS (w wr:Yh) (b8:Nat) (q1 q2:Int):Prop where
 b:Below w.heap.size w wr
 r:RatAt wr b8 q1 q2
theorem TakS.keep {w wr f:Yh} {a:Nat} {d e:Int} (h:TakS w wr a d e) (c:Below wr.heap.size wr f):TakS w f a d e:=⟨h.b.trans (c.mono h.b.size),h.r.keep c⟩
abbrev ZpT (w':Yh) (a:Addr) (i:Nat) (b:Yi) (c d:Int):Prop:=w'.cell? (a.add (i*3))=Ya b/\w'.cell? ⟨(a.add (i*3)).block,(a.add (i*3)).off+1,Yb⟩=Ya (Yd Yf c)/\w'.cell? ⟨(a.add (i*3)).block,(a.add (i*3)).off+2,Yb⟩=Ya (Yd Yf d)
abbrev ZrJ (w':Yh) (a:Addr) (i b:Nat) (e:Yi) (f g c d:Int):Prop:=(w'.cell? (a.add (i*3))=Ya e/\w'.cell? ⟨(a.add (i*3)).block,(a.add (i*3)).off+1,Yb⟩=Ya (Yd Yf f)/\w'.cell? ⟨(a.add (i*3)).block,(a.add (i*3)).off+2,Yb⟩=Ya (Yd Yf g))/\w'.cell? ⟨b,0,Yb⟩=Ya (Yd Yf c)/\w'.cell? ⟨b,1,Yb⟩=Ya (Yd Yf d)
section
variable {w wr w2 wA:Yh} {ad:Addr} {i b8 c d:Nat} {x0:Yi} {x1 x2 q1 q2 m1 m2 e:Int} {C:Prop} {M:List (Int×Int)} {A:Option Addr} {S0:Nat->Prop}
theorem Zdm (a:∀w',Below w.heap.size w w'->ZpT w' ad i x0 x1 x2) (c:Below wr.heap.size wr w2) (h:C/\TakS w wr b8 q1 q2):ZrJ w2 ad i b8 x0 x1 x2 q1 q2/\TakS w w2 b8 q1 q2:=
 have s:=h.2.keep c
 ⟨⟨a w2 s.b,s.r.k0,s.r.k1⟩,s⟩
theorem ZjZ {wo:Yh} {o:Obj} (a:∀w',Below w.heap.size w w'->ZpT w' ad i x0 x1 x2) (h:C/\TakS w wo.drew b8 q1 q2):ZrJ (wo.alloc o).drew ad i b8 x0 x1 x2 q1 q2/\TakS w (wo.alloc o).drew b8 q1 q2:=Zdm a (below_alloc1 wo.drew o) h
theorem Zjf (h:C/\TakS w wr b8 q1 q2):TakS w wr b8 q1 q2:=h.2
theorem Zll {a:Yh} {ty:TypeId} (_:C/\TakS w (a.alloc (Yg #[Yc Yb 0 0,Yd Yf 0,Yd Yf 0] ty)) b8 q1 q2):HoleT a (a.alloc (Yg #[Yc Yb 0 0,Yd Yf 0,Yd Yf 0] ty)) a.heap.size:=HoleT.start a ty
theorem Zj0 {a:Yh} {ty:TypeId} (_:C/\TakS w (a.alloc (Yg #[Yc Yb 0 0,Yd Yf 0,Yd Yf 0] ty)).drew b8 q1 q2):HoleT a.drew (a.alloc (Yg #[Yc Yb 0 0,Yd Yf 0,Yd Yf 0] ty)).drew a.heap.size:=HoleT.start a.drew ty
def Zk6 (w:Yh) (f:Nat->Prop) (M:List (Int×Int)) (m1 m2 e:Int) (a v9:Yi) (b:Yh):Prop:=
 ∃c A d,a=.pointer (Ya ⟨c,0,Yb⟩)/\v9=Yd Yf e/\FracBox b c (Yc A M.length d) (Yd Yf m1) (Yd Yf m2)/\Za b (Yc A M.length d) M/\Off f (Yc A M.length d) M/\Below w.heap.size w b
theorem ZpF (D:TakS w wr b8 q1 q2) (ty:TypeId) (c:Za wr (Yc A M.length d) M) (a:Off S0 (Yc A M.length d) M) :
  Zk6 w S0 M m1 m2 e (.pointer (Ya ⟨wr.heap.size,0,Yb⟩)) (Yd Yf e) (wr.alloc (Yg #[Yc A M.length d,Yd Yf m1,Yd Yf m2] ty)):=
 ⟨_,A,d,rfl,rfl,FracBox.start _ _ _ _ _,c.below (below_alloc1 _ _),a,(D.keep (below_alloc1 _ _)).b⟩
theorem ZqM (D:TakS w wA b8 q1 q2) (hc:HoleT wA wr c) (i:Za wr (Yc A M.length d) M) (g:Off S0 (Yc A M.length d) M) (h:Off (fun b=>b=c) (Yc A M.length d) M) :
  Zk6 w S0 M m1 m2 e (.pointer (Ya ⟨c,0,Yb⟩)) (Yd Yf e) (((wr.setCell ⟨c,0,Yb⟩ (Yc A M.length d)).setCell ⟨c,1,Yb⟩ (Yd Yf m1)).setCell ⟨c,2,Yb⟩ (Yd Yf m2)):=by
 obtain⟨a,F⟩:=hc.fill (Yc A M.length d) (Yd Yf m1) (Yd Yf m2);refine⟨_,A,d,rfl,rfl,F,?_,g,(D.keep a).b⟩;exact i.off h (ZX (ZX ZaH ZaH) ZaH) (fun b f=>by injection f with f;exact f.symm)
end
structure TakL (w wr:Yh) (S0:Nat->Prop) (b10:Nat) (vp:Yi) (p:Trm) (vo:Yi) (us:List Trm):Prop where
 F:FracBox wr b10 vp (Yd Yf p.2.1) (Yd Yf p.2.2)
 r:Za wr vp p.1
 o:ZV wr w.heap.size vo us (fun b=>vo.ownBlock=Ya b\/S0 b)
 op:Off (fun b=>vo.ownBlock=Ya b\/S0 b) vp p.1
 nb:vo.ownBlock≠Ya b10
 below:Below w.heap.size w wr
theorem TakL.keep {w wr f:Yh} {a:Nat} {e d:Yi} {p:Trm} {us:List Trm} {c:Nat->Prop} (h:TakL w wr c a e p d us) (b:Below wr.heap.size wr f):TakL w f c a e p d us:=
 ⟨h.F.keep b,h.r.below b,h.o.below b,h.op,h.nb,h.below.trans (b.mono h.below.size)⟩
theorem TakL.push {w wr l:Yh} {g:Nat} {s f a vt:Yi} {p t:Trm} {us:List Trm} {rs:List (Yi×Trm)} {d:Nat->Prop} (h:TakL w wr d g s p f us) (u:rs.map (·.2)=us) (v:∀x∈rs,Za wr x.1 x.2.1/\Off (fun b=>f.ownBlock=Ya b\/d b) x.1 x.2.1)
  (i:l.ownsRow w.heap.size 37 3 a (us.length+1) (Ze rs++[vt,Yd Yf t.2.1,Yd Yf t.2.2])) (j:wr.grownBy l f.ownBlock) (n:a.ownBlock=f.ownBlock\/a.ownBlock=Ya wr.heap.size) (A:Za wr vt t.1) (z:Off (fun b=>f.ownBlock=Ya b\/d b) vt t.1) :
  TakL w l d g s p a (us++[t]):=by
 have m:∀b,a.ownBlock=Ya b\/d b->(f.ownBlock=Ya b\/d b)\/wr.heap.size<=b:=fun b c=>by
  rcases c with c|c
  ·rcases n with e|e
   ·exact .inl (.inl (e▸c))
   ·rw[e]at c;injection c with c;exact .inr (by omega)
  ·exact .inl (.inr c)
 refine⟨h.F.grown j h.nb,h.r.off h.op j (fun _ q=>.inl q),ZV.appended u v i j (fun _ q=>.inl q) A z m,h.op.more h.r m,?_,h.below.grown j h.below.size fun k y=>(h.o.lt k y).1⟩;rcases n with e|e
 ·rw[e];exact h.nb
 ·rw[e];intro q;injection q with q;have:=h.F.lt;omega
def Znu (p:Trm) (x:Int) (i:Nat) (ts us:List Trm) (k:Nat):Prop:=us.length=k/\∀(j:Nat) (t:Trm),j<k->ts[j]? = Ya t->∃u,us[j]? = Ya u/\Ze5 p x i j t=Ya u
theorem Znu.next {p t u:Trm} {x:Int} {i k:Nat} {ts us:List Trm} (h:Znu p x i ts us k) (d:ts[k]? = Ya t) (hu:Ze5 p x i k t=Ya u):Znu p x i ts (us++[u]) (k+1):=by
 refine⟨by rw[Yj,h.1];rfl,fun j s f b=>?_⟩;rcases Nat.lt_or_ge j k with g|g
 ·obtain⟨a,c,e⟩:=h.2 j s g b;exact⟨a,by rw[List.getElem?_append_left (Za8 c)];exact c,e⟩
 ·obtain rfl:j=k:=by omega
  rw[d]at b;obtain rfl:=Option.some.inj b;exact⟨u,by rw[List.getElem?_append_right (by rw[h.1];exact Nat.le_refl _),h.1,Nat.sub_self];rfl,hu⟩
theorem Zr9 {b B:Nat} {v:Yi} (h:Zp B v) (a:b<B):Zp (b+1) v:=h.mono a
theorem Zj5 {p t:Trm} {x:Int} (h:(atL t.1 x).1≠0):Zaq t.1 t.2 p.1 p.2 x=ZdF t.1 t.2 p.1 p.2 (atL t.1 x):=Yn h
theorem Zpe {w:Yh} {base:Nat} {v:Yi} {ts:List Trm} {S:Nat->Prop} (h:ZV w base v ts S):∃A c rs,v=Yc A ts.length c/\ts.length<=c/\c<=maxLen/\rs.map (·.2)=ts/\Zw w w.heap.size 3 A ts.length (Ze rs)/\∀x∈rs,Za w x.1 x.2.1/\Off S x.1 x.2.1:=by
 obtain⟨rs,i,j,m⟩:=h;have l:=j;rcases j.2 with⟨rfl,n⟩|⟨g,b,k,rfl,_,p,d,a⟩
 ·have f:ts=[]:=List.eq_nil_of_length_eq_zero n;subst f;have e:rs=[]:=by simpa using i
  subst e;exact⟨Yb,0,[],rfl,Nat.le_refl _,by decide,rfl,Zw.none_,fun x o=>by cases o⟩
 ·exact⟨Ya _,b,rs,rfl,d,a.1,i,Zw.of_own l,m⟩
theorem Zpw (w:Yh) (bd:Nat) (T:Nat->Prop) (v:Yi) (ts:List Trm) (i:Nat) (x:Int) (t:Trm) (h:ZV w bd v ts T) (cu:∀b,T b->b<w.heap.size) (bl:∀u∈ts,TrmOk u) (ht:ts[i]? = Ya t) (hp:Zbb x t=true) (hl:ts.length<=1000) :
  Calls Tryz.prog 124 #[v,Yd Yf i,Yd Yf x] w (Zed w T t x i ts):=by
 obtain⟨iT,bi,br,bs,bt⟩:=info_parts Zgi;obtain⟨A,c,rs,rfl,h2,h3,h4,h5,bg⟩:=Zpe h;have h6:=fun x hx=>(bg x hx).1;have cg:=Lib.hid cu;have ds:=Lib.hid (fun x hx=>(bg x hx).2);have c5:=List.mem_of_getElem? ht;have G:=bl t c5;have bk:(atL t.1 x).1≠0:=by unfold Zbb at hp;simpa using hp
 have cw:=Za8 ht;obtain⟨n,hn⟩:∃n,n=ts.length:=⟨_,rfl⟩
 have c4:rs.length=n:=by rw[hn,<-h4,List.length_map]
 rw[<-hn]at h2 h5 hl cw⊢;obtain⟨u,hu⟩:∃u,rs[i]? = Ya u:=⟨_,Ym (by omega)⟩
 have ea:u.2=t:=by
  have:ts[i]? = Ya u.2:=by rw[<-h4,List.getElem?_map,hu];rfl
  rw[ht]at this;exact(Option.some.inj this).symm
 subst ea;obtain⟨ad,rfl,d0,d1,d2⟩:=ZaY h5 (Below.refl _ _) hu (by omega);have bn:=h6 u (List.mem_of_getElem? hu);have cn:=fun(J:Yh) (C:Below w.heap.size w J)=>ZaV J u.1 u.2.1 u.2.2.1 u.2.2.2 x (bn.below C);have iv:=fun(J:Yh)=>ZqB J (atL u.2.1 x) (G.ok.at x) bk;have tm:=fun(J:Yh) (C:Below w.heap.size w J)=>Zja J u.1 u.2.1 u.2.2 (Zb9 (atL u.2.1 x)) (bn.below C) G.ok.wide G.k.wide (ZeN (G.ok.at x) bk).wide
 have CE:∀J,Below w.heap.size w J->ZpT J ad i u.1 u.2.2.1 u.2.2.2:=fun J C=>by
  obtain⟨_,e,q⟩:=ZaY h5 C hu (by omega);injection e with e;subst e;exact q
 have CE:=Lib.hid CE;have cz:=fun e=>Zg3 G hp e;have cv:ZL u.2 x=Zh u.2.1 u.2.2 (Zb9 (atL u.2.1 x)):=rfl;rw[<-cv]at tm;have dv:Zed w T u.2 x i ts=Zed w T u.2 x i ts:=rfl;clear dv cv;have HN:=Lib.hid (And.intro c4 (And.intro h4 (And.intro h5 (And.intro h6 (And.intro hn (And.intro bl hl))))));have i1:(i:Int)<(n:Int):=by omega
 have i2:(0:Int)<=(i:Int):=by omega
 have HP:=Lib.hid cz;obtain⟨Z,hZ⟩:∃Z,Z=ZL u.2 x:=⟨_,rfl⟩
 have QZ:=Lib.hid hZ;rw[<-hZ]at tm;clear hZ c4 h2 h3 h4 h5 h6 bg cu hn bl hl hu bn G bk c5 ht hp cz cw;generalize Zb9 (atL u.2.1 x)=y at *;generalize atL u.2.1 x=r at *;obtain⟨r1,r2⟩:=r;obtain⟨q1,q2⟩:=y;obtain⟨M,⟨s,z⟩,er⟩:=Z;obtain⟨x0,xl,x1,x2⟩:=u;dsimp only at *;have AT:=Lib.hid cn;have IV:=Lib.hid iv;have TM:=Lib.hid tm;clear cn iv tm;go_enter Tryz.func124,Tryz.ntmps124
 go_upto_region 3 with(first
  |(go_at_call 53;go_fit (AT.out _ (Below.refl _ _));rintro e w1 ⟨rfl,C⟩;have b1:=C)
  |(go_at_call 52;go_fit (IV.out _);rintro e w2 ⟨rfl,C⟩;have b2:=Lib.hid (b1.trans (C.mono b1.size));clear C b1))
 have D8:TakS w (w2.alloc (Yg #[Yd Yf q1,Yd Yf q2] 23)) w2.heap.size q1 q2:=⟨b2.out.trans ((below_alloc1 w2 _).mono b2.out.size),RatAt.start w2 q1 q2 23⟩
 generalize w2.heap.size=b8 at *;generalize w2.alloc (Yg #[Yd Yf q1,Yd Yf q2] 23)=w3 at *;clear d0 d1 d2;go_upto_region 4 with fail;go_cut [10,9]from 15 to 72 (fun ej v9 wx=>Zk6 w T M s z er ej v9 wx)
 case first=>
  have HS:=Zdm CE.out (Zn w3) (And.intro True.intro D8);clear D8;refine wp_region_noPanic ?_;refine wp_region_held_drew (S:=(fun J=>((J.cell? (ad.add (i*3))=Ya x0/\J.cell? ⟨(ad.add (i*3)).block,(ad.add (i*3)).off+1,Yb⟩=Ya (Yd Yf x1)/\J.cell? ⟨(ad.add (i*3)).block,(ad.add (i*3)).off+2,Yb⟩=Ya (Yd Yf x2))/\J.cell? ⟨b8,0,Yb⟩=Ya (Yd Yf q1)/\J.cell? ⟨b8,1,Yb⟩=Ya (Yd Yf q2))/\TakS w J b8 q1 q2)) (by kernel_rfl) HS (fun a=>?_);clear HS;refine tk 0 rfl ?_;refine tk 1 rfl ?_;refine tk 2 rfl ?_;refine tk 3 rfl ?_;refine tk 4 rfl ?_;(try simp only[cl,Act.put]);refine wpAnyH_ready (rs:=[5,9]) (by kernel_rfl) (by simp) (AllReadyH.cons (o:=_) rfl (fun K E=>?_) (AllReadyH.cons (o:=_) rfl (fun K E=>?_) AllReadyH.nil))
  rotate_left
  go_simp
  (first|refine E.out _ _ (ZjZ CE.out (by with_reducible assumption)) (fun d=>?_)|refine E.out _ _ (Zdm CE.out (below_alloc1 _ _) (by with_reducible assumption)) (fun d=>?_))
  clear E K
  (first|have HC:=Lib.hid (Zll d)|have HC:=Lib.hid (Zj0 d))
  have m:=Lib.hid a;clear a;have a:=d;clear d;(try simp only[cl,Act.put]);refine rd 5 rfl fun K E=>?_
  rotate_right
  all_goals
   go_simp;(go_at_call 152;go_fit (TM.out _ (Zjf (by with_reducible assumption)).b);rintro e6 w6 ⟨v6,rfl,bo,C,be⟩;obtain⟨A6,c6,rfl⟩:=Zc bo;(try (have HF:=Lib.hid (Off.fresh (l:=M) (S:=fun b=>b=_) be (fun b q=>by rw[q];exact HC.out.F.lt));have HC:=Lib.hid (HC.out.keep C)));have HV:=Lib.hid (And.intro bo (Off.fresh (l:=M) (S:=T) be (fun b q=>Nat.lt_of_lt_of_le (cg.out b q) (Zjf a).b.size)));clear bo be);go_wp2_with fail;refine E.out _ _ (Zdm CE.out (by with_reducible assumption) (by with_reducible assumption)) (fun d=>?_);clear E K a C;have a:=d;clear d;(try simp only[cl,Act.put])
  all_goals
   refine tk 6 rfl ?_;refine tk 7 rfl ?_;refine tk 8 rfl ?_;(try simp only[cl,Act.put])
  refine rd 9 rfl fun K E=>?_;go_simp
  (first|refine E.out _ _ (ZjZ CE.out (by with_reducible assumption)) (fun d=>?_)|refine E.out _ _ (Zdm CE.out (below_alloc1 _ _) (by with_reducible assumption)) (fun d=>?_))
  clear E K
  (first|have HC:=Lib.hid (Zll d)|have HC:=Lib.hid (Zj0 d))
  have m:=Lib.hid a;clear a;have a:=d;clear d;(try simp only[cl,Act.put])
  all_goals
   refine rd 10 rfl fun K E=>?_;obtain⟨⟨h0,h1,h2,h3,h4,h5,h6⟩,h7,h8⟩:=HC.out;clear h7 h8;go_simp;clear h0 h1 h2 h3 h4 h5 h6
   (first
    |refine E.out _ _ (Zdm CE.out (below_alloc1 _ _) m.out) (fun d=>?_)
    |refine E.out _ _ (Zdm CE.out (HC.out.fill _ _ _).1 m.out) (fun d=>?_))
   clear E K a;have a:=d;clear d;(try simp only[cl,Act.put]);refine tk 11 rfl ?_;(try simp only[cl,Act.put]);refine wpAnyH_done (by kernel_rfl) ?_ _;refine NoPanic.normal ?_;go_wp2_with fail;go_meet
   case rel=>first|exact ZpF (Zjf m.out) 37 HV.out.1 HV.out.2|exact ZqM (Zjf m.out) HC.out HV.out.1 HV.out.2 HF.out
 case rest=>
  obtain⟨cq,V,dp,rfl,rfl,F,hr,bm,C⟩:=hcut;clear D8;by_cases he:er=0
  rotate_left
  ·have ne:(er != 0)=true:=by simpa using he
   have W:=Lib.hid (show Zed w T (xl,x1,x2) x i ts (.returned (.tuple #[Yc Yb 0 0,.bool false])) wc from⟨C,.inr ⟨.inl (by rw[<-QZ.out];exact he),rfl⟩⟩);clear F hr C bm he;go_wp2_with fail;go_ret2;exact W.out
  subst he;have PK:=Lib.hid (show TrmOk (M,s,z)from by have:=HP.out (by rw[<-QZ.out]);rw[<-QZ.out]at this;exact this);have L0:=Lib.hid (show TakL w wc T cq (Yc V M.length dp) (M,s,z) (Yc Yb 0 0) []from⟨F,hr,ZV.nil _ _ _,(fun hl b C q=>q.elim (fun e=>by cases e) (bm hl b C)),(fun q=>by cases q),C⟩);clear F hr C bm;go_wp2_with fail;go_loopg [11,12] n (fun g ek el wr=>∃(k:Nat) (vo:Yi) (us:List Trm),vo=ek/\el=Yd Yf k/\k<=n/\g=n-k/\Znu (M,s,z) x i ts us k/\TakL w wr T cq (Yc V M.length dp) (M,s,z) vo us)
  case atStart=>exact⟨0,_,[],rfl,rfl,Nat.zero_le _,rfl,⟨rfl,fun j _ hj=>absurd hj (Nat.not_lt_zero _)⟩,L0.out⟩
  case round=>
   clear L0;obtain⟨k,vo,us,rfl,rfl,hk,hg,E,L⟩:=hrel;by_cases bj:k=n
   ·obtain⟨Ao,cr,e⟩:∃A c,vo=Yc A us.length c:=by obtain⟨A,c,_,e,_⟩:=L.o.terms;exact⟨A,c,e⟩
    subst e;have W:=Lib.hid (show Zed w T (xl,x1,x2) x i ts (.returned (.tuple #[Yc Ao us.length cr,.bool true])) wr from⟨L.below,.inl ⟨by rw[<-QZ.out],us,Ao,cr,⟨by rw[E.1,bj];exact HN.out.2.2.2.2.1,fun j t hj=>by rw[<-QZ.out];exact E.2 j t (by have:=Za8 hj;have:=HN.out.2.2.2.2.1;omega) hj⟩,rfl,L.o⟩⟩);subst bj;clear hk hg E L;go_wp2_with fail;go_ret2;exact W.out
   ·have cx:k<n:=by omega
    obtain⟨y,hy⟩:∃y,rs[k]? = Ya y:=⟨_,Ym (by have:=HN.out.1;omega)⟩
    have bq:ts[k]? = Ya y.2:=by rw[<-HN.out.2.1,List.getElem?_map,hy];rfl
    obtain⟨_,e,d0,d1,d2⟩:=ZaY HN.out.2.2.1 L.below hy (by omega);injection e with e;subst e;have ar:=HN.out.2.2.2.1 y (List.mem_of_getElem? hy);have G:=HN.out.2.2.2.2.2.1 y.2 (List.mem_of_getElem? bq)
    have oy:Off (fun b=>vo.ownBlock=Ya b\/T b) y.1 y.2.1:=fun hl b C q=>by
     rcases q with q|q
     ·have:=ar.lt hl b C;have:=(L.o.lt b q).1;omega
     ·exact ds.out y (List.mem_of_getElem? hy) hl b C q
    have i5:(k:Int)<(n:Int):=by omega
    have i6:(0:Int)<=(k:Int):=by omega
    have wk:IntKind.i64.wrap ((k:Int)+1)=(k:Int)+1:=IntWalk.i64_in _ (by have:=HN.out.2.2.2.2.2.2;omega);have a0:=below_alloc1 wr (Yg #[y.1,Yd Yf y.2.2.1,Yd Yf y.2.2.2] 37);have F3:=FracBox.start wr y.1 (Yd Yf y.2.2.1) (Yd Yf y.2.2.2) 37;have k0:=F3.k0;have k1:=F3.k1;have k2:=F3.k2;have a6:=Lib.hid (ZaV (wr.alloc (Yg #[y.1,Yd Yf y.2.2.1,Yd Yf y.2.2.2] 37)) y.1 y.2.1 y.2.2.1 y.2.2.2 x ((ar.below L.below).below a0));have LL:=Lib.hid L;have HK:=Lib.hid (And.intro cx hg);have HX:=Lib.hid bq;have KU:=Lib.hid E;have YY:=Lib.hid (And.intro ar (And.intro G oy));have A0:=Lib.hid (And.intro a0 F3);have LK:=Lib.hid (And.intro (by have:=HN.out.2.2.2.2.2.2;unfold maxLen;omega:k+1<=maxLen) (by have:=HN.out.2.2.2.2.2.2;omega:(k+1)*40<=140737488355328));clear bq hy ar G oy bj cx hk hg E L a0 F3;obtain⟨y0,D,H,I⟩:=y;dsimp only at *;obtain⟨Ay,cy,rfl⟩:=Zc YY.out.1;obtain⟨S,hS⟩:∃S,S=atL D x:=⟨_,rfl⟩
    rw[<-hS]at a6;have HS:=Lib.hid hS;clear hS;obtain⟨s1,s2⟩:=S;go_upto_region 13 with(go_at_call 53;go_fit a6.out;rintro e w4 ⟨rfl,ao⟩)
    have a4:=below_alloc1 w4 (Yg #[Yd Yf s1,Yd Yf s2] 23);have R4:=RatAt.start w4 s1 s2 23;have F4:=(A0.out.2.keep ao).keep a4;have b4:=(A0.out.1.trans (ao.mono A0.out.1.size)).trans (a4.mono (by have:=ao.size;have:=A0.out.1.size;omega));have j0:=F4.k0;have j1:=F4.k1;have j2:=F4.k2;have l0:=F4.l0;have l1:=F4.l1;have l2:=F4.l2;have s0:=R4.k0;have s9:=R4.k1;have M4:=Lib.hid (And.intro b4 F4);have L4:=Lib.hid (LL.out.keep b4);have p0:=L4.out.F.k0;have p1:=L4.out.F.k1;have p2:=L4.out.F.k2;clear ao a4 R4 F4 b4 k0 k1 k2 d0 d1 d2 A0 a6;generalize w4.heap.size=e9 at *;generalize w4.alloc (Yg #[Yd Yf s1,Yd Yf s2] 23)=w5 at *;by_cases aq:k=i
    ·have i7:((k:Int)==(i:Int))=true:=by rw[aq];simp
     have TF:=Lib.hid (show Ze5 (M,s,z) x i k (D,H,I)=Ya (M,s,z)from Yo aq);clear aq;go_upto_region 19 with fail;have bz:=((M4.out.1.setCell (p:=⟨wr.heap.size,0,Yb⟩) (Nat.le_refl _) (Yc V M.length dp)).setCell (p:=⟨wr.heap.size,1,Yb⟩) (Nat.le_refl _) (Yd Yf s)).setCell (p:=⟨wr.heap.size,2,Yb⟩) (Nat.le_refl _) (Yd Yf z);have FZ:=M4.out.2.write (Yc V M.length dp) (Yd Yf s) (Yd Yf z);have LZ:=Lib.hid (LL.out.keep bz);have o0:=FZ.k0;have o1:=FZ.k1;have o2:=FZ.k2;clear j0 j1 j2 l0 l1 l2 s0 s9 p0 p1 p2;clear FZ bz;generalize((w5.setCell ⟨wr.heap.size,0,Yb⟩ (Yc V M.length dp)).setCell ⟨wr.heap.size,1,Yb⟩ (Yd Yf s)).setCell ⟨wr.heap.size,2,Yb⟩ (Yd Yf z)=O at *;have X:=LZ.out.keep (below_alloc1 O (Yg #[Yc V M.length dp,Yd Yf s,Yd Yf z] 37));obtain⟨ab,z1,z2,z3⟩:=X.o;rw[KU.out.1]at z2;have Q:=Lib.hid (And.intro z1 (And.intro z2 (And.intro z3 X)));have RR:=Lib.hid (And.intro (LZ.out.r.below (below_alloc1 O (Yg #[Yc V M.length dp,Yd Yf s,Yd Yf z] 37))) (LZ.out.op));have NW:=Lib.hid ((Zas (wo:=O) (x:=#[Yc V M.length dp,Yd Yf s,Yd Yf z]) (ty:=37) (Nat.zero_le _)).reads (size:=3) rfl);have Y:=Lib.hid (fun(u:Yi) (hu:u∈[(Yc V M.length dp:Yi),Yd Yf s,Yd Yf z])=>(by simp at hu;rcases hu with rfl|rfl|rfl<;>rfl:u.oneCell'=true));have NK:=Lib.hid (KU.out.next HX.out (TF.out));clear z1 z2 z3 X;go_wp2_with (at_builtin;refine Zj _ rfl _ _ 102 rfl w.heap.size 37 iT (.agg #[Yc Yb 0 0,Yd Yf 0,Yd Yf 0]) 3 40 Tryz.underlying102 bi br bs bt rfl (by decide) _ k (Ze ab) rfl Q.out.2.1 (O.heap.size+1) (Ya ⟨O.heap.size,0,Yb⟩) 1 1 [Yc V M.length dp,Yd Yf s,Yd Yf z] rfl NW.out Y.out LK.out.1 LK.out.2 Q.out.2.2.2.below.size ?_);intro v8 w8 B f R;have LP:=Lib.hid (TakL.push (t:=(M,s,z)) Q.out.2.2.2 Q.out.1 Q.out.2.2.1 (by rw[KU.out.1];exact B) f (by rw[World.size_alloc];exact R) RR.out.1 RR.out.2);clear B f R;go_wp2_with fail;go_roundg (n-(k+1))
     case measure=>have:=HK.out;omega
     case rel=>exact⟨k+1,v8,_,rfl,by push_cast;rfl,by have:=HK.out;omega,rfl,NK.out,LP.out⟩
    ·have i7:((k:Int)==(i:Int))=false:=by rw[beq_eq_false_iff_ne];omega
     have TE:Ze5 (M,s,z) x i k (D,H,I)=ZO (M,s,z) x (D,H,I):=Yn aq;by_cases U:s1=0
     ·have i8:(s1 != 0)=false:=by rw[U];rfl
      have TF:=Lib.hid (show Ze5 (M,s,z) x i k (D,H,I)=Ya (D,H,I)from TE.trans (ZoQ (by show(atL D x).1=0;rw[<-HS.out];exact U)));clear TE U;go_upto_region 19 with fail;clear i8 l0 l1 l2 s0 s9 p0 p1 p2;have LZ:=Lib.hid L4.out;have dt:=Lib.hid ((YY.out.1.below LL.out.below).below (show Below wr.heap.size wr w5 from M4.out.1));clear L4 M4;generalize w5=O at *;have X:=LZ.out.keep (below_alloc1 O (Yg #[Yc Ay D.length cy,Yd Yf H,Yd Yf I] 37));obtain⟨ab,z1,z2,z3⟩:=X.o;rw[KU.out.1]at z2;have Q:=Lib.hid (And.intro z1 (And.intro z2 (And.intro z3 X)));have RR:=Lib.hid (And.intro (dt.out.below (below_alloc1 O (Yg #[Yc Ay D.length cy,Yd Yf H,Yd Yf I] 37))) (YY.out.2.2));have NW:=Lib.hid ((Zas (wo:=O) (x:=#[Yc Ay D.length cy,Yd Yf H,Yd Yf I]) (ty:=37) (Nat.zero_le _)).reads (size:=3) rfl);have Y:=Lib.hid (fun(u:Yi) (hu:u∈[(Yc Ay D.length cy:Yi),Yd Yf H,Yd Yf I])=>(by simp at hu;rcases hu with rfl|rfl|rfl<;>rfl:u.oneCell'=true));have NK:=Lib.hid (KU.out.next HX.out (TF.out));clear z1 z2 z3 X;go_wp2_with (at_builtin;refine Zj _ rfl _ _ 102 rfl w.heap.size 37 iT (.agg #[Yc Yb 0 0,Yd Yf 0,Yd Yf 0]) 3 40 Tryz.underlying102 bi br bs bt rfl (by decide) _ k (Ze ab) rfl Q.out.2.1 (O.heap.size+1) (Ya ⟨O.heap.size,0,Yb⟩) 1 1 [Yc Ay D.length cy,Yd Yf H,Yd Yf I] rfl NW.out Y.out LK.out.1 LK.out.2 Q.out.2.2.2.below.size ?_);intro v8 w8 B f R;have LP:=Lib.hid (TakL.push (t:=(D,H,I)) Q.out.2.2.2 Q.out.1 Q.out.2.2.1 (by rw[KU.out.1];exact B) f (by rw[World.size_alloc];exact R) RR.out.1 RR.out.2);clear B f R;go_wp2_with fail;go_roundg (n-(k+1))
      case measure=>have:=HK.out;omega
      case rel=>exact⟨k+1,v8,_,rfl,by push_cast;rfl,by have:=HK.out;omega,rfl,NK.out,LP.out⟩
     ·have i8:(s1 != 0)=true:=by simpa using U
      have LS:=Lib.hid (Zkj w5 (Yc Ay D.length cy) (Yc V M.length dp) D M (H,I) (s,z) (s1,s2) ((YY.out.1.below LL.out.below).below (show Below wr.heap.size wr w5 from M4.out.1)) L4.out.r YY.out.2.1.ok.wide PK.out.ok.wide YY.out.2.1.k.wide PK.out.k.wide (by rw[HS.out];exact YY.out.2.1.ok.at x));obtain⟨P,hP⟩:∃P,P=ZdF D (H,I) M (s,z) (s1,s2):=⟨_,rfl⟩
      rw[<-hP]at LS;have eT:Zaq D (H,I) M (s,z) x=P:=by rw[hP,HS.out];exact Zj5 (p:=(M,s,z)) (t:=(D,H,I)) (by show(atL D x).1≠0;rw[<-HS.out];exact U)
      have eO:ZO (M,s,z) x (D,H,I)=if P.2.2=0 then Ya (P.1,P.2.1)else Yb:=by unfold ZO;show(if(Zaq D (H,I) M (s,z) x).2.2=0 then Ya ((Zaq D (H,I) M (s,z) x).1,(Zaq D (H,I) M (s,z) x).2.1)else Yb)=_;rw[eT]
      rw[eO]at TE;have bb:=Lib.hid TE;clear eO eT TE hP U;obtain⟨N,⟨n1,n2⟩,er⟩:=P;dsimp only at *;go_upto_region 17 with(go_at_call 125;go_fit LS.out;rintro e7 w7 ⟨v7,rfl,bp,bh,cs⟩;obtain⟨A7,c7,rfl⟩:=Zc bp;have F7:=M4.out.2.keep bh;have b7:=M4.out.1.trans (bh.mono M4.out.1.size);clear j0 j1 j2 l0 l1 l2;have j0:=F7.k0;have j1:=F7.k1;have j2:=F7.k2;have l0:=F7.l0;have l1:=F7.l1;have l2:=F7.l2;have M7:=Lib.hid (And.intro b7 (And.intro F7 (And.intro bp cs)));clear bp cs bh b7 F7)
      have ai:=Lib.hid (Zr9 (M7.out.2.2.2) M4.out.2.lt);have bz:=((M7.out.1.setCell (p:=⟨wr.heap.size,0,Yb⟩) (Nat.le_refl _) (Yc A7 N.length c7)).setCell (p:=⟨wr.heap.size,1,Yb⟩) (Nat.le_refl _) (Yd Yf n1)).setCell (p:=⟨wr.heap.size,2,Yb⟩) (Nat.le_refl _) (Yd Yf n2);have FZ:=M7.out.2.1.write (Yc A7 N.length c7) (Yd Yf n1) (Yd Yf n2);have LZ:=Lib.hid (LL.out.keep bz);have o0:=FZ.k0;have o1:=FZ.k1;have o2:=FZ.k2;have HZ:=Lib.hid (((M7.out.2.2.1.setCell ai.out (p:=⟨wr.heap.size,0,Yb⟩) (Nat.lt_succ_self _) (Yc A7 N.length c7)).setCell ai.out (p:=⟨wr.heap.size,1,Yb⟩) (Nat.lt_succ_self _) (Yd Yf n1)).setCell ai.out (p:=⟨wr.heap.size,2,Yb⟩) (Nat.lt_succ_self _) (Yd Yf n2));have du:=Lib.hid (Off.fresh (l:=N) (S:=fun b=>vo.ownBlock=Ya b\/T b) ai.out (fun b q=>q.elim (fun q=>Nat.lt_succ_of_lt (LL.out.o.lt b q).2) (fun q=>Nat.lt_succ_of_lt (Nat.lt_of_lt_of_le (cg.out b q) LL.out.below.size))));clear i8 j0 j1 j2 l0 l1 l2 s0 s9 p0 p1 p2 L4;clear FZ bz;generalize((w7.setCell ⟨wr.heap.size,0,Yb⟩ (Yc A7 N.length c7)).setCell ⟨wr.heap.size,1,Yb⟩ (Yd Yf n1)).setCell ⟨wr.heap.size,2,Yb⟩ (Yd Yf n2)=O at *;by_cases ap:er=0
      rotate_left
      ·have ff:(er != 0)=true:=by simpa using ap
       have W:=Lib.hid (show Zed w T (xl,x1,x2) x i ts (.returned (.tuple #[Yc Yb 0 0,.bool false])) O from⟨LZ.out.below,.inr ⟨.inr ⟨k,_,HX.out,by rw[<-QZ.out];exact bb.out.trans (Yn ap)⟩,rfl⟩⟩);clear ap;go_wp2_with fail;go_ret2;exact W.out
      ·subst ap;have TF:=Lib.hid (bb.out.trans (Yo rfl));clear bb;go_upto_region 19 with fail;have X:=LZ.out.keep (below_alloc1 O (Yg #[Yc A7 N.length c7,Yd Yf n1,Yd Yf n2] 37));obtain⟨ab,z1,z2,z3⟩:=X.o;rw[KU.out.1]at z2;have Q:=Lib.hid (And.intro z1 (And.intro z2 (And.intro z3 X)));have RR:=Lib.hid (And.intro (HZ.out.below (below_alloc1 O (Yg #[Yc A7 N.length c7,Yd Yf n1,Yd Yf n2] 37))) (du.out));have NW:=Lib.hid ((Zas (wo:=O) (x:=#[Yc A7 N.length c7,Yd Yf n1,Yd Yf n2]) (ty:=37) (Nat.zero_le _)).reads (size:=3) rfl);have Y:=Lib.hid (fun(u:Yi) (hu:u∈[(Yc A7 N.length c7:Yi),Yd Yf n1,Yd Yf n2])=>(by simp at hu;rcases hu with rfl|rfl|rfl<;>rfl:u.oneCell'=true));have NK:=Lib.hid (KU.out.next HX.out (TF.out));clear z1 z2 z3 X;go_wp2_with (at_builtin;refine Zj _ rfl _ _ 102 rfl w.heap.size 37 iT (.agg #[Yc Yb 0 0,Yd Yf 0,Yd Yf 0]) 3 40 Tryz.underlying102 bi br bs bt rfl (by decide) _ k (Ze ab) rfl Q.out.2.1 (O.heap.size+1) (Ya ⟨O.heap.size,0,Yb⟩) 1 1 [Yc A7 N.length c7,Yd Yf n1,Yd Yf n2] rfl NW.out Y.out LK.out.1 LK.out.2 Q.out.2.2.2.below.size ?_);intro v8 w8 B f R;have LP:=Lib.hid (TakL.push (t:=(N,n1,n2)) Q.out.2.2.2 Q.out.1 Q.out.2.2.1 (by rw[KU.out.1];exact B) f (by rw[World.size_alloc];exact R) RR.out.1 RR.out.2);clear B f R;go_wp2_with fail;go_roundg (n-(k+1))
       case measure=>have:=HK.out;omega
       case rel=>exact⟨k+1,v8,_,rfl,by push_cast;rfl,by have:=HK.out;omega,rfl,NK.out,LP.out⟩
end
end Go.Proofs.YtbfnnolakggbfaaGreatDoor
