import Derived.Test.YtfbepcelkijgkaaGreatDoorQAV
import Derived.Test.YtfbepcelkijgkaaGreatDoorQAY
set_option maxRecDepth 100000
set_option maxHeartbeats 8000000
open Option renaming some → Ya, none → Yb
open Go.Value renaming slice → Yc
open Go renaming World → Yh, Value → Yi
namespace Go.Proofs.YtfbepcelkijgkaaGreatDoor
section
open Go.RowKit
def ZfE (a:List Nd) (b:Nat) (n:Int):List Nd:=match a[b]? with
 |some x=>a.set b ⟨x.kind,x.words,x.nums,x.kids++[n],x.pos⟩
 |none=>a
mutual
def Zcz:Tr->List Nd->List Nd
 |.mk k ws us p ks,out=>Zdf ks out.length (out++[⟨k,ws,us,[],p⟩])
def Zdf:List Tr->Nat->List Nd->List Nd
 |[],_,out=>out
 |t::r,at_,out=>Zdf r at_ (Zcz t (ZfE out at_ (out.length:Int)))
end
mutual
def szT:Tr->Nat
 |.mk _ _ _ _ a=>ZaD a+1
def ZaD:List Tr->Nat
 |[]=>0
 |t::r=>szT t+ZaD r
end
theorem ZfF (b:List Nd) (a:Nat) (n:Int):(ZfE b a n).length=b.length:=by
 unfold ZfE
 split<;>simp
mutual
theorem ZfM:∀(t:Tr) (a:List Nd),(Zcz t a).length=a.length+szT t
 |.mk k ws us p ks,a=>by rw[Zcz,Zjy ks,szT,Yj];simp;omega
theorem Zjy:∀(ts:List Tr) (a:Nat) (b:List Nd),(Zdf ts a b).length=b.length+ZaD ts
 |[],a,b=>by rw[Zdf,ZaD];rfl
 |t::r,a,b=>by rw[Zdf,Zjy r,ZfM t,ZfF,ZaD];omega
end
theorem Zgk:∀(c:List (NdV×Nd)) (i:Nat) (x:NdV×Nd) (a:Yi) (b:List Int),c[i]? = Ya x->Zas (c.set i ((x.1.1,x.1.2.1,a),⟨x.2.kind,x.2.words,x.2.nums,b,x.2.pos⟩))=(Zas c).set (i*5+3) a
 |[],i,x,a,b,h=>by simp at h
 |y::r,0,x,a,b,h=>by
  obtain rfl:y=x:=by simpa using h
  rfl
 |y::r,i+1,x,a,b,h=>by
  rw[List.getElem?_cons_succ]at h;rw[List.set_cons_succ,Zas,Zas,Zgk r i x a b h,show(i+1)*5+3=(i*5+3)+1+1+1+1+1 by omega];rfl
structure LayS (w:Yh) (B:Nat) (v:Yi) (rs:List (NdV×Nd)):Prop where
 own:w.ownsRow B 37 5 v rs.length (Zas rs)
 each:∀(i:Nat) (x:NdV×Nd),rs[i]? = Ya x->w.ownsRow 0 9 1 x.1.1 x.2.words.length (x.2.words.map txt)/\w.ownsRow 0 2 1 x.1.2.1 x.2.nums.length (x.2.nums.map (Value.int .i64))/\w.ownsRow B 3 1 x.1.2.2 x.2.kids.length (x.2.kids.map (Value.int .i64))/\∀y∈x.2.words,y.length<=maxLen
 apart:∀(i j:Nat) (x y:NdV×Nd) (c:Nat),i≠j->rs[i]? = Ya x->rs[j]? = Ya y->x.1.2.2.ownBlock=Ya c->y.1.2.2.ownBlock≠Ya c
def Zcv (w w2:Yh):Prop:=w.heap.size<=w2.heap.size/\∀b a c,Zk w b a c->a≠37->a≠3->Zk w2 b a c
theorem Zcv.refl (w:Yh):Zcv w w:=⟨Nat.le_refl _,fun _ _ _ h _ _=>h⟩
theorem Zcv.trans {w w1 w2:Yh} (h:Zcv w w1) (k:Zcv w1 w2):Zcv w w2:=⟨Nat.le_trans h.1 k.1,fun b f e a c d=>k.2 b f e (h.2 b f e a c d) c d⟩
theorem Zcv.of_below {w w2:Yh} (h:Below w.heap.size w w2):Zcv w w2:=⟨h.size,fun _ _ _ a _ _=>a.keep h⟩
theorem Zcv.row {w w3:Yh} {B n f:Nat} {e:TypeId} {v:Yi} {j:List Yi} (i:w.ownsRow B e f v n j) (h:e=37\/e=3) (g:w.grownBy w3 v.ownBlock):Zcv w w3:=
 ⟨g.size,fun b l k a c d=>a.grown g (a.off i (by rcases h with rfl|rfl;exact c;exact d))⟩
theorem Zcv.set {w:Yh} {g j:Nat} {cs:Array Yi} {u:Yi} (h:Zk w g 37 cs):Zcv w (w.setCell ⟨g,j,Yb⟩ u):=
 ⟨by simp[World.setCell],fun b f d a c _=>a.other (p:=⟨g,j,Yb⟩) (fun e=>by dsimp only at e;subst e;exact Zd2 a h c rfl) u⟩
section
variable {w w3:Yh} {B:Nat} {v v3:Yi} {rs:List (NdV×Nd)}
theorem LayS.nil (w:Yh) (B:Nat):LayS w B (Yc Yb 0 0) []:=⟨World.ownsRow_nil _ _ _ _,fun i x h=>(by simp at h),fun i j x y c _ h=>(by simp at h)⟩
theorem LayS.below (h:LayS w B v rs) (a:Below w.heap.size w w3):LayS w3 B v rs:=
 ⟨Zcj h.own a,fun i x hx=>⟨Zcj (h.each i x hx).1 a,Zcj (h.each i x hx).2.1 a,Zcj (h.each i x hx).2.2.1 a,(h.each i x hx).2.2.2⟩,h.apart⟩
theorem LayS.push {x:NdV×Nd} (h:LayS w B v rs) (hx:w.ownsRow 0 9 1 x.1.1 x.2.words.length (x.2.words.map txt)/\w.ownsRow 0 2 1 x.1.2.1 x.2.nums.length (x.2.nums.map (Value.int .i64))/\∀y∈x.2.words,y.length<=maxLen) (hk:x.1.2.2=Yc Yb 0 0/\x.2.kids=[])
  (g:w3.ownsRow B 37 5 v3 (rs.length+1) (Zas rs++Zas [x])) (f:w.grownBy w3 v.ownBlock):LayS w3 B v3 (rs++[x]):=by
 refine⟨by rw[Yj,ZfQ];exact g,fun i y a=>?_,fun i j y z c l a k hc=>?_⟩
 ·rcases Nat.lt_or_ge i rs.length with b|b
  ·rw[List.getElem?_append_left b]at a;obtain⟨o,p,r,s⟩:=h.each i y a;exact⟨Zcq o h.own (by decide) f,Zcq p h.own (by decide) f,Zcq r h.own (by decide) f,s⟩
  ·rw[List.getElem?_append_right b]at a;obtain rfl:x=y:=by
    cases q:i-rs.length with
    |zero=>rw[q]at a;simpa using a
    |succ n=>rw[q]at a;simp at a
   rw[hk.1,hk.2];exact⟨Zcq hx.1 h.own (by decide) f,Zcq hx.2.1 h.own (by decide) f,World.ownsRow_nil _ _ _ _,hx.2.2⟩
 ·have e:∀(m:Nat) (u:NdV×Nd),(rs++[x])[m]? = Ya u->(rs[m]? = Ya u)\/u.1.2.2=Yc Yb 0 0:=fun m u d=>by
   rcases Nat.lt_or_ge m rs.length with b|b
   ·rw[List.getElem?_append_left b]at d;exact .inl d
   ·rw[List.getElem?_append_right b]at d;refine .inr ?_;cases q:m-rs.length with
    |zero=>rw[q]at d;obtain rfl:x=u:=by simpa using d
           exact hk.1
    |succ n=>rw[q]at d;simp at d
  rcases e i y a with a|a
  ·rcases e j z k with k|k
   ·exact h.apart i j y z c l a k hc
   ·rw[k];simp[Value.ownBlock]
  ·rw[a]at hc;simp[Value.ownBlock]at hc
theorem Zic {n a:Nat} {e:TypeId} {j:List Yi} (h:w.ownsRow B e a v n j) (l:0<n):∃g c cs,v=Yc (Ya ⟨g,0,Yb⟩) n c/\Zk w g e cs/\B<=g:=by
 rcases h.2 with⟨_,k⟩|⟨g,b,d,rfl,f,i,_⟩
 ·omega
 ·exact⟨g,b,d,rfl,i,f⟩
theorem LayS.kid {g c a:Nat} {x:NdV×Nd} {kv:Yi} {n:Int} (h:LayS w B (Yc (Ya ⟨g,0,Yb⟩) rs.length c) rs) (hx:rs[a]? = Ya x) (D:w3.ownsRow B 3 1 kv (x.2.kids.length+1) (x.2.kids.map (Value.int .i64)++[.int .i64 n])) (t:w.grownBy w3 x.1.2.2.ownBlock) (C:kv.ownBlock=x.1.2.2.ownBlock\/kv.ownBlock=Ya w.heap.size) :
  w3.cell? ⟨g,a*5+3,Yb⟩=Ya x.1.2.2/\w3.frozen? ⟨g,a*5+3,Yb⟩=false/\LayS (w3.setCell ⟨g,a*5+3,Yb⟩ kv) B (Yc (Ya ⟨g,0,Yb⟩) rs.length c) (rs.set a ((x.1.1,x.1.2.1,kv),⟨x.2.kind,x.2.words,x.2.nums,x.2.kids++[n],x.2.pos⟩))/\Zcv w (w3.setCell ⟨g,a*5+3,Yb⟩ kv):=by
 have r:=(List.getElem?_eq_some_iff.1 hx).1;obtain⟨L,M,v,N⟩:=h.each a x hx;have f:=Zcq h.own v (by decide) t;obtain⟨Q,O,P,F,p,R⟩:=Zic f (by omega);simp only[Value.slice.injEq,Option.some.injEq,Addr.mk.injEq,and_true,true_and]at F;obtain⟨rfl,rfl⟩:=F;have o:=f.cells (g:=g) rfl (a*5+3) x.1.2.2 (ZeF rs a x hx).2.2.2.1;rw[Addr.add_lit,Nat.zero_add]at o;have K:=(Zcv.row v (.inr rfl) t).trans (Zcv.set (j:=a*5+3) (u:=kv) p);refine⟨o,p.blk.free _,⟨?_,?_,?_⟩,K⟩
 ·have s:=(World.ownsRow.stored f (a*5+3) kv).1;rw[<-Zgk rs a x kv (x.2.kids++[n]) hx]at s;rw[List.length_set];exact s
 ·intro i y b;by_cases d:a=i
  ·subst d;rw[List.getElem?_set_self r]at b;injection b with b;subst b;refine⟨ZbL (Zcq L v (by decide) t) p (by decide),ZbL (Zcq M v (by decide) t) p (by decide),?_,N⟩;have:=ZbL (j:=a*5+3) (u:=kv) D p (by decide);simpa using this
  ·rw[List.getElem?_set_ne d]at b;obtain⟨G,H,I,J⟩:=h.each i y b;refine⟨ZbL (Zcq G v (by decide) t) p (by decide),ZbL (Zcq H v (by decide) t) p (by decide),ZbL (I.kept t ?_) p (by decide),J⟩;cases q:x.1.2.2.ownBlock with
   |none=>cases q2:y.1.2.2.ownBlock with
    |none=>exact .inl rfl
    |some m=>exact .inr (by simp)
   |some m=>exact .inr (h.apart a i x y m d hx b q)
 ·
  have E:∀(i:Nat) (y:NdV×Nd) (m:Nat),rs[i]? = Ya y->y.1.2.2.ownBlock=Ya m->m<w.heap.size:=fun i y m b hm=>((h.each i y b).2.2.1.lt m hm).2;intro i j y z m k b l hm;by_cases d:a=i
  ·subst d;rw[List.getElem?_set_self r]at b;injection b with b;subst b;rw[List.getElem?_set_ne k]at l;dsimp only at hm;rcases C with q|q
   ·rw[q]at hm;exact h.apart a j x z m k hx l hm
   ·rw[q]at hm;injection hm with hm;subst hm;exact fun e=>Nat.lt_irrefl _ (E j z _ l e)
  ·rw[List.getElem?_set_ne d]at b;by_cases A:a=j
   ·subst A;rw[List.getElem?_set_self r]at l;injection l with l;subst l;dsimp only;rcases C with q|q
    ·rw[q];exact h.apart i a y x m k b hx hm
    ·rw[q];exact fun e=>by injection e with e;have:=E i y m b hm;omega
   ·rw[List.getElem?_set_ne A]at l;exact h.apart i j y z m k b l hm
theorem ZpM {a:Nat} {x:NdV×Nd} {kv:Yi} {n:Int} (hx:rs[a]? = Ya x):(rs.set a ((x.1.1,x.1.2.1,kv),⟨x.2.kind,x.2.words,x.2.nums,x.2.kids++[n],x.2.pos⟩)).map (·.2)=ZfE (rs.map (·.2)) a n:=by unfold ZfE;rw[List.getElem?_map,hx,List.map_set];rfl
end
theorem ZrU:(Tryz.prog.info? 37).map (fun i=>(i.zero,i.size,i.bytes))=Ya (Ya (.agg #[.int .i64 0,Yc Yb 0 0,Yc Yb 0 0,Yc Yb 0 0,.int .i64 0]),5,88):=by kernel_rfl
theorem ZrV:(Tryz.prog.info? 3).map (fun i=>(i.zero,i.size,i.bytes))=Ya (Ya (.int .i64 0),1,8):=by kernel_rfl
theorem Zny (w:Yh) (a b c d e:Yi) (ty:TypeId):ZM (w.alloc (.cells #[a,b,c,d,e] ty)) (w.heap.size+1) 5 (Ya ⟨w.heap.size,0,Yb⟩) 1 [a,b,c,d,e]:=
 ⟨rfl,fun _=>⟨_,rfl,Nat.lt_succ_self _,fun j v f=>ZfY w #[a,b,c,d,e] ty j v (by simpa using f)⟩⟩
theorem Zqe (k p:Int) (A B C:Option Addr) (n c m d q e:Nat):∀u∈[Value.int .i64 k,Yc A n c,Yc B m d,Yc C q e,.int .i64 p],u.oneCell'=true:=fun u a=>by
 simp at a;rcases a with rfl|rfl|rfl|rfl|rfl<;>rfl
end
section
theorem Zdw:∀(a b:List Tr),ZaD (a++b)=ZaD a+ZaD b
 |[],b=>by rw[List.nil_append,ZaD];omega
 |t::r,b=>by rw[List.cons_append,ZaD,ZaD,Zdw r b];omega
theorem Zb7 (t:Tr):ZaD [t]=szT t:=by rw[ZaD,ZaD];rfl
theorem Zbz (k:Int) (b:List Txt) (us:List Int) (p:Int) (a:List Tr):szT (.mk k b us p a)=ZaD a+1:=by rw[szT]
theorem ZhN (c:Int) (a b:Tr):szT (Za2 c a b)=szT a+szT b+1:=by rw[Zi4,Zbz,ZaD,ZaD,ZaD];omega
section
variable {L:List Tok}
abbrev SzM (D:PS->Prop) (M:PS->Tr×PS):Prop:=∀s,D s->(M s).2.err=0->szT (M s).1+s.at_<=(M s).2.at_
theorem Zgx (k:ZaE L) {D:PS->Prop} (hD:Dom L D) {d:PS->Tr×PS} (l:Onw L D d) (o:SzM D d) (x y:Txt) (i j:Int):∀(f:Nat) (a:Tr) (s:PS),D s->(ZaK L d x y i j f a s).2.err=0->szT (ZaK L d x y i j f a s).1+s.at_<=(ZaK L d x y i j f a s).2.at_+szT a
 |0,a,s,_,_=>by rw[ZaK];dsimp only;omega
 |f+1,a,s,hs,e=>by
  unfold ZaK at e⊢;by_cases r:s.err=0
  ·rw[Yo r]at e⊢;by_cases h:isM L x s=true
   ·rw[Yo h]at e⊢;have g:=ZR k (hD.lt _ hs) h;have hd:=hD.next _ _ hs g.toAdv;have n:=l _ hd;have b:=hD.next _ _ hd n.toAdv;have c:=Zdj k hD l x y i j f (Za2 i a (d (Zd s)).1) _ b;have p:=c.err e;have m:=Zgx k hD l o x y i j f _ _ b e;have t:=o _ hd p;rw[ZhN]at m;have:(Zd s).at_=s.at_+1:=rfl;dsimp only at m⊢;omega
   ·rw[Yn h]at e⊢;by_cases q:isM L y s=true
    ·rw[Yo q]at e⊢;have g:=ZR k (hD.lt _ hs) q;have hd:=hD.next _ _ hs g.toAdv;have n:=l _ hd;have b:=hD.next _ _ hd n.toAdv;have c:=Zdj k hD l x y i j f (Za2 j a (d (Zd s)).1) _ b;have p:=c.err e;have m:=Zgx k hD l o x y i j f _ _ b e;have t:=o _ hd p;rw[ZhN]at m;have:(Zd s).at_=s.at_+1:=rfl;dsimp only at m⊢;omega
    ·rw[Yn q];dsimp only;omega
  ·rw[Yn r];dsimp only;omega
theorem Znt (d:ZaE L) {D:PS->Prop} (hD:Dom L D) {a:PS->Tr×PS} (b:Onw L D a) (f:SzM D a):SzM D (Zat L a):=fun s c e=>by
 have hd:=hD.next _ _ c (b s c).toAdv;have g:=Zgx d hD b f [42] [47] 4 5 (L.length+1) (a s).1 _ hd e;have h:=f s c ((Zdj d hD b [42] [47] 4 5 (L.length+1) (a s).1 _ hd).err e);unfold Zat;dsimp only;omega
theorem Zr7 (b:ZaE L) {D:PS->Prop} (hD:Dom L D) {a:PS->Tr×PS} (d:Onw L D a) (g:SzM D a):SzM D (ZL L a):=fun s c e=>by
 have hq:=ZeK b hD d;have f:=Znt b hD d g;have hd:=hD.next _ _ c (hq s c).toAdv;have h:=Zgx b hD hq f [43] [45] 2 3 (L.length+1) (Zat L a s).1 _ hd e;have i:=f s c ((Zdj b hD hq [43] [45] 2 3 (L.length+1) (Zat L a s).1 _ hd).err e);unfold ZL;dsimp only;omega
theorem Zmg (d:ZaE L) {D:PS->Prop} (hD:Dom L D) {a:PS->Tr×PS} (i:Onw L D a) (l:SzM D a):SzM D (ZaU L a):=fun s b e=>by
 have hq:=Zhv d hD i;have c:=Zr7 d hD i l;have ha:=hD.next _ _ b (hq s b).toAdv;unfold ZaU at e⊢;dsimp only at e⊢;by_cases h:isM L [60] (ZL L a s).2=true
 ·rw[Yo h]at e⊢;have g:=ZR d (hD.lt _ ha) h;have hd:=hD.next _ _ ha g.toAdv;have j:=c _ hd e;have k:=c s b (g.toAdv.err ((hq _ hd).toAdv.err e));have:(Zd (ZL L a s).2).at_=(ZL L a s).2.at_+1:=rfl;dsimp only;rw[ZhN];omega
 ·rw[Yn h]at e⊢;by_cases f:isM L [61,61] (ZL L a s).2=true
  ·rw[Yo f]at e⊢;have g:=ZR d (hD.lt _ ha) f;have hd:=hD.next _ _ ha g.toAdv;have j:=c _ hd e;have k:=c s b (g.toAdv.err ((hq _ hd).toAdv.err e));have:(Zd (ZL L a s).2).at_=(ZL L a s).2.at_+1:=rfl;dsimp only;rw[ZhN];omega
  ·rw[Yn f]at e⊢;exact c s b e
theorem Zm5 (s:PS):(inM L s).at_=s.at_:=(Zh6 s).1
theorem ZrT {s:PS} (e:(inM L s).err=0):s.err=0:=by
 by_cases h:s.err=0
 ·exact h
 ·exact absurd e ((Zh6 s).2.2 h)
theorem Zie (a:ZaE L):∀(f:Nat),SzM (Dp L f) (ZJ L f)
 |0,s,hs,e=>by have:=hs.fuel e;omega
 |f+1,s,hs,e=>by
  unfold ZJ at e⊢;by_cases c:s.err≠0
  ·rw[Yo c]at e;exact absurd e c
  rw[Yn c]at e⊢;have k:s.err=0:=Classical.not_not.1 c;by_cases l:(ZaT L s).1=1
  ·rw[Yo l]at e⊢;have:=(ZdA a 0 hs.lt).on e;dsimp only;rw[Zbz,ZaD];omega
  rw[Yn l]at e⊢;by_cases b:Zbb L s=true
  ·rw[Yo b]at e⊢;have:=(ZA a hs.lt).on e;dsimp only;rw[Zbz,ZaD];omega
  rw[Yn b]at e⊢;by_cases j:isM L [45] s=true
  ·rw[Yo j]at e⊢;have g:=ZR a hs.lt j;have d:=(Zav (f+1)).next _ _ hs g.toAdv;have i:=Zfo d (.inl k);have h:=Zie a f _ i e;rw[Zm5]at h;have:(Zd s).at_=s.at_+1:=rfl;dsimp only;rw[Zbz,Zb7];show szT _+1+s.at_<=(ZJ L f (inM L (Zd s))).2.at_;omega
  rw[Yn j]at e⊢;have g:=ZE a [40] hs.lt;have d:=(Zav (f+1)).next _ _ hs g.toAdv;have i:=Zfo d (.inr (by rw[g.deep];exact(hs.fuel k).1));have x:=ZhE a (Zav f) (Zck a f) _ i;have n:(ZdQ (ZaU L (ZJ L f) (inM L (Zg L [40] s))).2).at_<L.length:=x.lt i.lt;have w:=ZE a [41] n;have m:(ZaU L (ZJ L f) (inM L (Zg L [40] s))).2.err=0:=w.toAdv.err e;have h:=Zmg a (Zav f) (Zck a f) (Zie a f) _ i m;rw[Zm5]at h;have:=g.le;have b:=w.le;dsimp only at b⊢;have:(ZdQ (ZaU L (ZJ L f) (inM L (Zg L [40] s))).2).at_=(ZaU L (ZJ L f) (inM L (Zg L [40] s))).2.at_:=rfl;omega
theorem ZgR (d:ZaE L) {D:PS->Prop} (hD:Dom L D) {ea:PS->Tr×PS} (b:∀s,D s->s.err=0->Adv L s (ea s).2) (g:∀s,D s->s.err=0->(ea s).2.err=0->szT (ea s).1+s.at_<=(ea s).2.at_) (x:Txt):∀(f:Nat) (l:List Tr) (s:PS),D s->(Za1 L ea x f l s).2.err=0->ZaD (Za1 L ea x f l s).1+s.at_<=(Za1 L ea x f l s).2.at_+ZaD l
 |0,l,s,_,_=>by rw[Za1];dsimp only;omega
 |f+1,l,s,hs,e=>by
  unfold Za1 at e⊢;by_cases a:s.err=0
  ·rw[Yo a]at e⊢;by_cases h:isM L x s=true
   ·rw[Yo h];have:(Zd s).at_=s.at_+1:=rfl;dsimp only;omega
   ·rw[Yn h]at e⊢;have n:=b s hs a;have hd:=hD.next _ _ hs n;have c:=ZgR d hD b g x f (l++[(ea s).1]) _ hd e;have i:=g s hs a ((Zdo d hD b x f (l++[(ea s).1]) _ hd).err e);rw[Zdw,Zb7]at c;dsimp only at c⊢;omega
  ·rw[Yn a];dsimp only;omega
theorem Zg6 (b:ZaE L) {D:PS->Prop} (hD:Dom L D) {ea:PS->Tr×PS} (c:∀s,D s->Adv L s (ea s).2) (i:SzM D ea):∀(f:Nat) (first:Bool) (l:List Tr) (s:PS),D s->(Zag L ea f first l s).2.err=0->ZaD (Zag L ea f first l s).1+s.at_<=(Zag L ea f first l s).2.at_+ZaD l
 |0,_,l,s,_,_=>by rw[Zag];dsimp only;omega
 |f+1,first,l,s,hs,e=>by
  unfold Zag at e⊢;by_cases g:s.err=0
  ·rw[Yo g]at e⊢;by_cases h:isM L [41] s=true
   ·rw[Yo h];have:(Zd s).at_=s.at_+1:=rfl;dsimp only;omega
   ·rw[Yn h]at e⊢;have w:Adv L s (if first then s else Zg L [44] s):=by
     cases first
     ·exact(ZE b [44] (hD.lt _ hs)).toAdv
     ·exact Adv.refl s
    have a:=hD.next _ _ hs w;have n:=c _ a;have hd:=hD.next _ _ a n;have d:=Zg6 b hD c i f false (l++[(ea (if first then s else Zg L [44] s)).1]) _ hd e;have j:=i _ a ((ZdX b hD c f false (l++[(ea (if first then s else Zg L [44] s)).1]) _ hd).err e);have k:=w.le;rw[Zdw,Zb7]at d;dsimp only at d⊢;omega
  ·rw[Yn g];dsimp only;omega
theorem Zdq (b:ZaE L) {f:Nat} {st:PS->Tr×PS} (j:∀s,Dp L f s->s.err=0->Adv L s (st s).2) (m:∀s,Dp L f s->s.err=0->(st s).2.err=0->szT (st s).1+s.at_<=(st s).2.at_) {s:PS} (k:Dp L (f+1) s) (a:s.deep<=200) (e:(Zau L st s).2.err=0):szT (Zau L st s).1+s.at_<=(Zau L st s).2.at_:=by have g:=ZE b [123] k.lt;have d:=(Zav (f+1)).next _ _ k g.toAdv;have i:=Zfo d (.inr (by rw[g.deep];exact a));have c:(Za1 L st [125] (L.length+1) [] (inM L (Zg L [123] s))).2.err=0:=e;have h:=ZgR b (Zav f) j m [125] _ [] _ i c;have l:=ZrT ((Zdo b (Zav f) j [125] (L.length+1) [] _ i).err c);have:=g.on l;rw[Zm5,ZaD]at h;unfold Zau;dsimp only;rw[Zbz];show ZaD _+1+s.at_<=(Za1 L st [125] (L.length+1) [] (inM L (Zg L [123] s))).2.at_;omega
end
end
section
section
variable {L:List Tok}
theorem ZrP (b:ZaE L) {D:PS->Prop} (hD:Dom L D) {ex:PS->Tr×PS} (c:SzM D ex):SzM D (Za4 L ex):=fun s a e=>by
 unfold Za4 at e⊢;by_cases h:isM L [38] s=true
 ·rw[Yo h]at e⊢;have g:=ZR b (hD.lt _ a) h;have n:=(ZA b (g.lt (hD.lt _ a))).on e;have:(Zd s).at_=s.at_+1:=rfl;dsimp only;rw[Zbz,ZaD];omega
 ·rw[Yn h]at e⊢;exact c s a e
theorem ZqY (b:ZaE L) {D:PS->Prop} (hD:Dom L D) {ex:PS->Tr×PS} (hx:Onw L D ex) (m:SzM D ex) (p:Int):SzM D (ZcI L ex p):=fun s i e=>by
 have a:=ZA b (hD.lt _ i);have f:=a.lt (hD.lt _ i)
 have d:∀q:PS,Adv L (Zb L s).2 q->(Zg L [59] (Zag L (Za4 L ex) (L.length+1) true [] (Zg L [40] q)).2).err=0->ZaD (Zag L (Za4 L ex) (L.length+1) true [] (Zg L [40] q)).1+1+s.at_<=(Zg L [59] (Zag L (Za4 L ex) (L.length+1) true [] (Zg L [40] q)).2).at_:=fun q hq e=>by
  have w:=ZE b [40] (hq.lt f);have j:=hD.next _ _ (hD.next _ _ (hD.next _ _ i a.toAdv) hq) w.toAdv;have c:=ZdX b hD (fun s h=>(Zki b hD hx s h).toAdv) (L.length+1) true [] _ j;have v:=ZE b [59] (c.lt (w.lt (hq.lt f)));have k:=v.toAdv.err e;have l:=Zg6 b hD (fun s h=>(Zki b hD hx s h).toAdv) (ZrP b hD m) (L.length+1) true [] _ j k;have n:=a.on (hq.err (w.toAdv.err (c.err k)));have o:=hq.le;have r:=w.le;have t:=v.le;rw[ZaD]at l;omega
 unfold ZcI at e⊢;dsimp only at e⊢;rw[Zbz];by_cases h:isM L [61] (Zb L s).2=true
 ·rw[Yo h]at e⊢;have g:=ZR b f h;exact d _ (g.toAdv.trans (ZA b (g.lt f)).toAdv) e
 ·rw[Yn h]at e⊢;exact d _ (Adv.refl _) e
abbrev ZhX (L:List Tok) (f:Nat) (st:PS->Tr×PS):Prop:=∀s,Dp L f s->s.err=0->(st s).2.err=0->szT (st s).1+s.at_<=(st s).2.at_
theorem ZqZ (g:ZaE L) {f:Nat} {st:PS->Tr×PS} (i:Stm L f st) (k:ZhX L f st) {s:PS} (j:Dp L (f+1) s) (c:s.deep<=200) (e:(ZcU L st s).2.err=0):szT (ZcU L st s).1+s.at_<=(ZcU L st s).2.at_:=by
 have a:=ZA g j.lt;have d:=(Zav (f+1)).next _ _ j a.toAdv;have h:(Zb L s).2.deep<=200:=by rw[a.deep];exact c
 have b:=Zdq g i.adv k d h e;have:=a.on ((Zb5 g i.adv d h).toAdv.err e);unfold ZcU;dsimp only;rw[Zbz,Zb7];omega
theorem Zsj (d:ZaE L) {f:Nat} {st:PS->Tr×PS} (k:Stm L f st) (r:ZhX L f st) (p:Int) {s:PS} (o:Dp L (f+1) s) (i:s.deep<=200) (e:(doM L st p s).2.err=0):szT (doM L st p s).1+s.at_<=(doM L st p s).2.at_:=by
 have D:=Zab (L:=L) (f+1);have a:=ZA d o.lt;have l:=D.next _ _ ⟨o,i⟩ a.toAdv;have w:=ZE d [46] l.1.lt;have m:=D.next _ _ l w.toAdv;have b:=ZA d m.1.lt;have j:=D.next _ _ m b.toAdv;unfold doM at e⊢;dsimp only at e⊢;by_cases h:isM L [59] (Zb L (Zg L [46] (Zb L s).2)).2=true
 ·rw[Yo h]at e⊢;have g:=ZR d j.1.lt h;have:=a.on (w.toAdv.err (b.toAdv.err (g.toAdv.err e)));have:=w.le;have:=b.le;have:=g.le;dsimp only;rw[Zbz,ZaD];omega
 ·rw[Yn h]at e⊢;have v:=ZE d [123] j.1.lt;have n:=D.next _ _ j v.toAdv;have c:=Zdo d D (fun s h _=>(ZhD d k h.1 h.2).toAdv) [125] (L.length+1) [] _ n;have q:=ZgR d D (fun s h _=>(ZhD d k h.1 h.2).toAdv) (fun s h _ e=>ZqZ d k r h.1 h.2 e) [125] (L.length+1) [] _ n e;have:=a.on (w.toAdv.err (b.toAdv.err (v.toAdv.err (c.err e))));have:=w.le;have:=b.le;have:=v.le;rw[ZaD]at q;dsimp only;rw[Zbz];omega
theorem Zq8 (c:ZaE L) {f:Nat} {ex st:PS->Tr×PS} (hx:Onw L (Dp L (f+1)) ex) (i:SzM (Dp L (f+1)) ex) (m:Stm L f st) (n:ZhX L f st) (p:Int) {s:PS} (j:Dp L (f+1) s) (d:s.deep<=200) (e:(Zbl L ex st p s).2.err=0):szT (Zbl L ex st p s).1+s.at_<=(Zbl L ex st p s).2.at_:=by
 have D:=Zab (L:=L) (f+1);have X:∀q,Dp L (f+1) q/\q.deep<=200->Adv L q (ex q).2:=fun q h=>(hx q h.1).toAdv;have B:∀q,Dp L (f+1) q/\q.deep<=200->Adv L q (Zau L st q).2:=fun q h=>(Zb5 c m.adv h.1 h.2).toAdv;unfold Zbl at e⊢;by_cases r:isM L [105,102] s=true
 ·rw[Yo r]at e⊢;have g:=ZR c j.lt r;have b:=D.next _ _ ⟨j,d⟩ g.toAdv;have a:=D.next _ _ b (X _ b);have y:=D.next _ _ a (B _ a);have u:(Zd s).at_=s.at_+1:=rfl;dsimp only at e⊢;by_cases l:isM L [101,108,115,101] (Zau L st (ex (Zd s)).2).2=true
  ·rw[Yo l]at e⊢;have k:=ZR c y.1.lt l;have o:=D.next _ _ y k.toAdv;have A:=(B _ o).err e;have z:=k.toAdv.err A;have z4:=Zdq c m.adv n o.1 o.2 e;have z3:=Zdq c m.adv n a.1 a.2 z;have z2:=i _ b.1 ((B _ a).err z);have:=k.le;dsimp only;rw[Zbz,ZaD,ZaD,Zb7];omega
  ·rw[Yn l]at e⊢;have z3:=Zdq c m.adv n a.1 a.2 e;have z2:=i _ b.1 ((B _ a).err e);dsimp only;rw[Zbz,ZaD,Zb7];omega
 rw[Yn r]at e⊢;by_cases l:isM L [119,104,105,108,101] s=true
 ·rw[Yo l]at e⊢;have g:=ZR c j.lt l;have b:=D.next _ _ ⟨j,d⟩ g.toAdv;have a:=D.next _ _ b (X _ b);have u:(Zd s).at_=s.at_+1:=rfl;have z3:=Zdq c m.adv n a.1 a.2 e;have z2:=i _ b.1 ((B _ a).err e);dsimp only;rw[Zbz,ZaD,Zb7];omega
 rw[Yn l]at e⊢;by_cases t:isM L [114,101,116,117,114,110] s=true
 ·rw[Yo t]at e⊢;have g:=ZR c j.lt t;have b:=D.next _ _ ⟨j,d⟩ g.toAdv;have a:=D.next _ _ b (X _ b);have u:(Zd s).at_=s.at_+1:=rfl;have w:=ZE c [59] a.1.lt;have z2:=i _ b.1 (w.toAdv.err e);have:=w.le;dsimp only;rw[Zbz,Zb7];omega
 rw[Yn t]at e⊢;have w:=ZE c [101,120,105,116] j.lt;have v:=ZE c [59] (w.lt j.lt);have:=v.on e;have:=w.le;dsimp only;rw[Zbz,ZaD];omega
theorem ZgJ (a:ZaE L) (x:Txt) (i:Int) {s:PS} (c:s.at_<L.length):ZaD (ZK L x i s).1+s.at_<=(ZK L x i s).2.at_:=by
 unfold ZK;by_cases h:isM L x s=true
 ·rw[Yo h];have g:=ZR a c h;have n:=ZA a (g.lt c);have b:=Zh0 a L.length [(Zb L (Zd s)).1] (n.lt (g.lt c));have:=n.le;have:=b.le;have:(Zd s).at_=s.at_+1:=rfl;dsimp only;rw[Zb7,Zbz,ZaD];omega
 ·rw[Yn h,ZaD];dsimp only;omega
theorem Zqs (a:ZaE L) {f:Nat} {st:PS->Tr×PS} (w:Stm L f st) (A:ZhX L f st) (p:Int) {s:PS} (y:Dp L (f+1) s) (b:s.deep<=200) (e:(Ze9 L st p s).2.err=0):szT (Ze9 L st p s).1+s.at_<=(Ze9 L st p s).2.at_:=by have D:=Zab (L:=L) (f+1);unfold Ze9 at e⊢;dsimp only at e⊢;have g:=ZA a y.lt;have n:=D.next _ _ ⟨y,b⟩ g.toAdv;have h:=ZE a [61] n.1.lt;have o:=D.next _ _ n h.toAdv;have i:=ZA a o.1.lt;have q:=D.next _ _ o i.toAdv;have j:=ZfA a (Zx 1) q.1.lt;have r:=D.next _ _ q j.toAdv;have k:=ZdA a 1 r.1.lt;have t:=D.next _ _ r k.toAdv;have l:=ZE a [47] t.1.lt;have u:=D.next _ _ t l.toAdv;have m:=ZdA a 1 u.1.lt;have d:=D.next _ _ u m.toAdv;have v:=Zc0 a [105,110] 2 d.1.lt;have c:=D.next _ _ d v;have B:=ZgJ a [105,110] 2 d.1.lt;have z9:=Zdq a w.adv A c.1 c.2 e;have z:=(Zb5 a w.adv c.1 c.2).toAdv.err e;have:=g.on (h.toAdv.err (i.toAdv.err (j.toAdv.err (k.toAdv.err (l.toAdv.err (m.toAdv.err (v.err z)))))));have:=h.le;have:=i.le;have:=j.le;have:=k.le;have:=l.le;have:=m.le;rw[Zbz,Zdw,Zb7];omega
theorem ZmA (b:ZaE L) {ex:PS->Tr×PS} (hx:∀f,Onw L (Dp L (f+1)) ex) (h:∀f,SzM (Dp L (f+1)) ex):∀f,ZhX L f (Zu L ex f)
 |0,s,hs,e,_=>by have:=hs.fuel e;omega
 |f+1,s,hs,e0,e=>by
  have D:=Zab (L:=L) (f+1);have a:=(hs.fuel e0).1;have j:=ZhM b hx f;have o:=ZmA b hx h f;have G:(Zd s).at_=s.at_+1:=rfl
  have m:∀q:PS,Dp L (f+1) q/\q.deep<=200->∀(k:Int) (w:Txt),(Zg L [59] (ex (Zg L [61] q)).2).err=0->szT (.mk k [w] [] (Ze L s) [(ex (Zg L [61] q)).1])+q.at_<=(Zg L [59] (ex (Zg L [61] q)).2).at_:=fun q hq k w e=>by
   have n:=ZE b [61] hq.1.lt;have d:=D.next _ _ hq n.toAdv;have t:=hx f _ d.1;have p:=D.next _ _ d t.toAdv;have l:=ZE b [59] p.1.lt;have E:=l.toAdv.err e;have z:=h f _ d.1 E;have:=n.on (t.toAdv.err E);have:=l.le;rw[Zbz,Zb7];omega
  unfold Zu at e⊢;dsimp only at e⊢;by_cases u:isM L [108,101,116] s=true
  ·rw[Yo u]at e⊢;have g:=ZR b hs.lt u;have c:=D.next _ _ ⟨hs,a⟩ g.toAdv;have i:=ZA b c.1.lt;have:=m _ (D.next _ _ c i.toAdv) 8 (Zb L (Zd s)).1 e;have:=i.le;dsimp only;omega
  rw[Yn u]at e⊢;by_cases F:Zbb L s=true
  ·rw[Yo F]at e⊢;have i:=ZA b hs.lt;have:=m _ (D.next _ _ ⟨hs,a⟩ i.toAdv) 9 (Zb L s).1 e;have:=i.le;dsimp only;omega
  rw[Yn F]at e⊢;by_cases v:isM L [111,112,101,110] s=true
  ·rw[Yo v]at e⊢;have g:=ZR b hs.lt v;have c:=D.next _ _ ⟨hs,a⟩ g.toAdv;have i:=ZA b c.1.lt;have C:=D.next _ _ c i.toAdv;have n:=ZA b C.1.lt;have d:=D.next _ _ C n.toAdv;have t:=Zb5 b j.adv d.1 d.2;have p:=D.next _ _ d t.toAdv;have l:=ZE b [101,108,115,101] p.1.lt;have r:=D.next _ _ p l.toAdv;have z5:=Zdq b j.adv o r.1 r.2 e;have z3:=Zdq b j.adv o d.1 d.2 (l.toAdv.err ((Zb5 b j.adv r.1 r.2).toAdv.err e));have:=i.le;have:=n.le;have:=l.le;dsimp only;rw[Zbz,ZaD,Zb7];omega
  rw[Yn v]at e⊢;by_cases y:isM L [100,111] s=true
  ·rw[Yo y]at e⊢;have c:=D.next _ _ ⟨hs,a⟩ (ZR b hs.lt y).toAdv;have:=Zsj b j o (Ze L s) c.1 c.2 e;omega
  rw[Yn y]at e⊢;by_cases A:isM L [115,112,108,105,116] s=true
  ·rw[Yo A]at e⊢;have c:=D.next _ _ ⟨hs,a⟩ (ZR b hs.lt A).toAdv;have:=Zqs b j o (Ze L s) c.1 c.2 e;omega
  rw[Yn A]at e⊢;by_cases B:isM L [99,97,108,108] s=true
  ·rw[Yo B]at e⊢;have c:=D.next _ _ ⟨hs,a⟩ (ZR b hs.lt B).toAdv;have:=ZqY b (Zav _) (hx f) (h f) (Ze L s) _ c.1 e;omega
  rw[Yn B]at e⊢;exact Zq8 b (hx f) (h f) j o _ hs a e
theorem Zrn (c:ZaE L) {s:PS} (d:s.at_<L.length) (e:(Zbs L s).2.err=0):szT (Zbs L s).1+s.at_<=(Zbs L s).2.at_:=by
 have:=(part_go c d).on e;have a:szT (Zbs L s).1=1:=by
  unfold Zbs;dsimp only;by_cases a:isM L [115,116,97,116,101] s=true
  ·rw[Yo a,Zbz,ZaD]
  rw[Yn a];by_cases b:isM L [102,105,110,97,108] s=true
  ·rw[Yo b,Zbz,ZaD]
  rw[Yn b,Zbz,ZaD]
 omega
theorem Zqi (c:ZaE L) {s:PS} (d:s.at_<L.length) (e:(ZbX L s).2.err=0):szT (ZbX L s).1+s.at_<=(ZbX L s).2.at_:=by
 have D:Dom L (fun s=>s.at_<L.length):=⟨fun a b h k=>k.lt h,fun a h=>h⟩
 have g:=ZE c [112,114,111,116,111] d;have a:=ZA c (g.lt d);have w:=ZE c [123] (a.lt (g.lt d));have f:=w.lt (a.lt (g.lt d));have u:=Zdo c D (fun s h _=>(part_go c h).toAdv) [125] (L.length+1) [] _ f;have z:=ZgR c D (fun s h _=>(part_go c h).toAdv) (fun s h _ e=>Zrn c h e) [125] (L.length+1) [] _ f e;have:=g.on (a.toAdv.err (w.toAdv.err (u.err e)));have:=a.le;have:=w.le;rw[ZaD]at z;unfold ZbX;dsimp only;rw[Zbz];omega
theorem Zqf (c:ZaE L) {s:PS} (o:s.at_<L.length) (e:(ZaO L s).2.err=0):szT (ZaO L s).1+s.at_<=(ZaO L s).2.at_:=by
 unfold ZaO at e⊢;dsimp only at e⊢;have a:=ZA c o;have m:=a.lt o;by_cases h:isM L [58] (Zb L s).2=true
 ·rw[Yo h]at e⊢;have g:=ZR c m h;have b:=ZA c (g.lt m);have p:=b.lt (g.lt m);have k:=ZfA c (Zx 0) p;have f:=k.lt p
  have i:∀(q:PS) (r:List Int),Adv L (ZN L (Zx 0) (Zb L (Zd (Zb L s).2)).2).2 q->(ZK L [105,110] 2 (ZK L [116,111] 1 (ZK L [97,116] 0 q).2).2).2.err=0->szT (.mk 5 [(Zb L s).1,(Zb L (Zd (Zb L s).2)).1] r (Ze L s) ((ZK L [97,116] 0 q).1++(ZK L [116,111] 1 (ZK L [97,116] 0 q).2).1++(ZK L [105,110] 2 (ZK L [116,111] 1 (ZK L [97,116] 0 q).2).2).1))+s.at_<=(ZK L [105,110] 2 (ZK L [116,111] 1 (ZK L [97,116] 0 q).2).2).2.at_:=fun q r hq e=>by
   have x:=Zc0 c [97,116] 0 (hq.lt f);have y:=Zc0 c [116,111] 1 (x.lt (hq.lt f));have t:=ZgJ c [97,116] 0 (hq.lt f);have u:=ZgJ c [116,111] 1 (x.lt (hq.lt f));have v:=ZgJ c [105,110] 2 (y.lt (x.lt (hq.lt f)));have z:=Zc0 c [105,110] 2 (y.lt (x.lt (hq.lt f)));have:=a.on (g.toAdv.err (b.toAdv.err (k.toAdv.err (hq.err (x.err (y.err (z.err e)))))));have:=g.le;have:=b.le;have:=k.le;have:=hq.le;rw[Zbz,Zdw,Zdw];omega
  by_cases l:isM L [108,101,97,115,116] (ZN L (Zx 0) (Zb L (Zd (Zb L s).2)).2).2=true
  ·rw[Yo l]at e⊢;have j:=ZR c f l;have n:=ZdA c 1 (j.lt f);have w:=ZE c [47] (n.lt (j.lt f));have d:=ZdA c 1 (w.lt (n.lt (j.lt f)));exact i _ _ (j.toAdv.trans (n.toAdv.trans (w.toAdv.trans d.toAdv))) e
  ·rw[Yn l]at e⊢;exact i _ _ (Adv.refl _) e
 ·rw[Yn h]at e⊢;have:=a.on e;dsimp only;rw[Zbz,ZaD];omega
theorem Zsl (a:ZaE L) {f:Nat} {ex st:PS->Tr×PS} (o:Stm L f st) (q:ZhX L f st) {s:PS} (p:Dp L (f+1) s) (b:s.deep<=200) (e:(fnM L ex st s).2.err=0):szT (fnM L ex st s).1+s.at_<=(fnM L ex st s).2.at_:=by have D:=Zab (L:=L) (f+1);have g:=ZE a [102,110] p.lt;have k:=D.next _ _ ⟨p,b⟩ g.toAdv;have i:=ZA a k.1.lt;have l:=D.next _ _ k i.toAdv;have j:=ZE a [40] l.1.lt;have d:=D.next _ _ l j.toAdv;have n:=ZdX a D (fun s h=>(Zej a h.1.lt).toAdv) (L.length+1) true [] _ d;have c:=D.next _ _ d n;have z5:=Zdq a o.adv q c.1 c.2 e;have m:=(Zb5 a o.adv c.1 c.2).toAdv.err e;have z4:=Zg6 a D (fun s h=>(Zej a h.1.lt).toAdv) (fun s h e=>Zqf a h.1.lt e) (L.length+1) true [] _ d m;have:=g.on (i.toAdv.err (j.toAdv.err (n.err m)));have:=i.le;have:=j.le;rw[ZaD]at z4;unfold fnM;dsimp only;rw[Zbz,Zdw,Zb7];omega
theorem Zd8 (a:ZaE L) {f:Nat} {ex st:PS->Tr×PS} (b:Stm L f st):∀(g:Nat) (l:List Tr) (s:PS),Dp L (f+1) s/\s.deep<=200->Adv L s (ZaM L ex st g l s).2
 |0,_,s,_=>Adv.refl s
 |g+1,l,s,hs=>by
  have D:=Zab (L:=L) (f+1);unfold ZaM;by_cases h:s.err=0/\(ZaT L s).1≠3
  ·rw[Yo h];by_cases c:isM L [112,114,111,116,111] s=true
   ·rw[Yo c];have n:=(Zif a hs.1.lt).toAdv;exact n.trans (Zd8 a b g _ _ (D.next _ _ hs n))
   rw[Yn c];by_cases d:isM L [102,110] s=true
   ·rw[Yo d];have n:=(Zm3 a (ex:=ex) b hs.1 hs.2).toAdv;exact n.trans (Zd8 a b g _ _ (D.next _ _ hs n))
   rw[Yn d];have n:=(ZeR (L:=L) (e:=11) (by decide) s).toAdv;exact n.trans (Zd8 a b g _ _ (D.next _ _ hs n))
  ·rw[Yn h];exact Adv.refl s
theorem Zfr (a:ZaE L) {f:Nat} {ex st:PS->Tr×PS} (b:Stm L f st) (c:ZhX L f st):∀(g:Nat) (l:List Tr) (s:PS),Dp L (f+1) s/\s.deep<=200->(ZaM L ex st g l s).2.err=0->ZaD (ZaM L ex st g l s).1+s.at_<=(ZaM L ex st g l s).2.at_+ZaD l
 |0,l,s,_,_=>by rw[ZaM];dsimp only;omega
 |g+1,l,s,hs,e=>by
  have D:=Zab (L:=L) (f+1);unfold ZaM at e⊢;by_cases i:s.err=0/\(ZaT L s).1≠3
  ·rw[Yo i]at e⊢;by_cases d:isM L [112,114,111,116,111] s=true
   ·rw[Yo d]at e⊢;have n:=(Zif a hs.1.lt).toAdv;have hd:=D.next _ _ hs n;have z:=Zfr a b c g (l++[(ZbX L s).1]) _ hd e;have z2:=Zqi a hs.1.lt ((Zd8 a b g (l++[(ZbX L s).1]) _ hd).err e);rw[Zdw,Zb7]at z;dsimp only at z⊢;omega
   rw[Yn d]at e⊢;by_cases h:isM L [102,110] s=true
   ·rw[Yo h]at e⊢;have n:=(Zm3 a (ex:=ex) b hs.1 hs.2).toAdv;have hd:=D.next _ _ hs n;have z:=Zfr a b c g (l++[(fnM L ex st s).1]) _ hd e;have z2:=Zsl a b c hs.1 hs.2 ((Zd8 a b g (l++[(fnM L ex st s).1]) _ hd).err e);rw[Zdw,Zb7]at z;dsimp only at z⊢;omega
   rw[Yn h]at e⊢;have n:=(ZeR (L:=L) (e:=11) (by decide) s).toAdv;have z:=Zfr a b c g l _ (D.next _ _ hs n) e;have:=n.le;omega
  ·rw[Yn i];dsimp only;omega
end
end
end Go.Proofs.YtfbepcelkijgkaaGreatDoor
