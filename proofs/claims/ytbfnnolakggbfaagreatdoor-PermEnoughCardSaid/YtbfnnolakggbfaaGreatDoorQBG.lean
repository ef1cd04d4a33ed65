import Derived.Deep.DeepFit
import Derived.Test.YtbfnnolakggbfaaGreatDoorQBF
set_option maxRecDepth 100000
set_option maxHeartbeats 8000000
open Option renaming some → Ya, none → Yb
open Go.Value renaming slice → Yc, int → Yd, pointer → Ye
open Go.IntKind renaming i64 → Yf
open Go.Obj renaming cells → Yg
open Go renaming World → Yh, Value → Yi
namespace Go.Proofs.YtbfnnolakggbfaaGreatDoor
section
open Go.RowKit
abbrev Ch:=Int×Sum (List Rw×List Rw) Trm
def Zat:List (Yi×Ch)->List Yi
 |[]=>[]
 |x::r=>Yd Yf x.2.1::x.1::Zat r
theorem Zgd:∀(l:List (Yi×Ch)) (k:Nat) (x:Yi×Ch),l[k]? = Ya x->(Zat l)[k*2]? = Ya (Yd Yf x.2.1)/\(Zat l)[k*2+1]? = Ya x.1
 |[],k,x,h=>by simp at h
 |y::r,0,x,h=>by
  obtain rfl:y=x:=by simpa using h
  exact⟨rfl,rfl⟩
 |y::r,k+1,x,h=>by
  rw[List.getElem?_cons_succ]at h;obtain⟨a,b⟩:=Zgd r k x h;exact⟨by rw[show(k+1)*2=k*2+1+1 by omega];exact a,by rw[show(k+1)*2+1=k*2+1+1+1 by omega];exact b⟩
theorem ZfP:∀(l m:List (Yi×Ch)),Zat (l++m)=Zat l++Zat m
 |[],m=>rfl
 |x::r,m=>by rw[List.cons_append,Zat,Zat,ZfP r m];rfl
theorem ZhX:∀(l:List (Yi×Ch)) (k:Nat) (x:Yi×Ch),Zat (l.set k x)=((Zat l).set (k*2) (Yd Yf x.2.1)).set (k*2+1) x.1
 |[],k,x=>by simp[Zat]
 |y::r,0,x=>by simp[Zat]
 |y::r,k+1,x=>by
  rw[List.set_cons_succ,Zat,Zat,ZhX r k x,show(k+1)*2=k*2+1+1 by omega,show k*2+1+1+1=(k*2+1)+1+1 by omega];simp only[List.set_cons_succ]
def Za9 (w:Yh) (f:Yi) (x:Sum (List Rw×List Rw) Trm) (S:Nat->Prop):Prop:=
 match x with
 |.inl y=>∃a c e v2,f=.func (.func 148) #[] #[Ye (Ya ⟨a,0,Yb⟩),Ye (Ya ⟨c,0,Yb⟩)]/\Blk w a #[e]/\Blk w c #[v2]/\¬S a/\¬S c/\RowsIn w e y.1 S/\RowsIn w v2 y.2 S
 |.inr s=>∃b d,f=.func (.func 121) #[] #[Ye (Ya ⟨b,0,Yb⟩)]/\Blk w b #[d,Yd Yf s.2.1,Yd Yf s.2.2]/\¬S b/\Za w d s.1/\Off S d s.1
section
variable {w w':Yh} {f:Yi} {x:Sum (List Rw×List Rw) Trm} {S S':Nat->Prop}
theorem Za9.below (h:Za9 w f x S) (a:Below w.heap.size w w'):Za9 w' f x S:=by
 cases x with
 |inl y=>
  obtain⟨j,k,n,v2,e,c,d,g,i,l,m⟩:=h;exact⟨j,k,n,v2,e,c.keep a,d.keep a,g,i,l.below a,m.below a⟩
 |inr s=>
  obtain⟨b,o,e,c,d,g,i⟩:=h;exact⟨b,o,e,c.keep a,d,g.below a,i⟩
theorem Za9.grown {g:Option Nat} (h:Za9 w f x S) (a:w.grownBy w' g) (c:∀b,g=Ya b->S b):Za9 w' f x S:=by
 cases x with
 |inl y=>
  obtain⟨l,m,p,v2,e,k,i,j,d,n,o⟩:=h;exact⟨l,m,p,v2,e,k.grown a (fun q=>j (c _ q)),i.grown a (fun q=>d (c _ q)),j,d,n.grown a c,o.grown a c⟩
 |inr s=>
  obtain⟨b,r,e,k,i,j,d⟩:=h;exact⟨b,r,e,k.grown a (fun q=>i (c _ q)),i,j.off d a c,d⟩
theorem Za9.mono (h:Za9 w f x S) (a:∀b,S' b->S b\/w.heap.size<=b):Za9 w f x S':=by
 cases x with
 |inl y=>
  obtain⟨j,k,n,v2,e,c,d,g,i,l,m⟩:=h;exact⟨j,k,n,v2,e,c,d,fun q=>(a _ q).elim g (fun q=>by have:=c.lt;omega),fun q=>(a _ q).elim i (fun q=>by have:=d.lt;omega),l.mono a,m.mono a⟩
 |inr s=>
  obtain⟨b,o,e,c,d,g,i⟩:=h;exact⟨b,o,e,c,fun q=>(a _ q).elim d (fun q=>by have:=c.lt;omega),g,i.more g a⟩
theorem Za9.one (h:Za9 w f x S):f.oneCell'=true:=by
 cases x with
 |inl y=>obtain⟨_,_,_,_,rfl,_⟩:=h;rfl
 |inr s=>obtain⟨_,_,rfl,_⟩:=h;rfl
end
def Znt (w:Yh) (v:Yi) (a:List Ch) (S:Nat->Prop):Prop:=
 ∃A c b,v=Yc A a.length c/\a.length<=c/\c<=maxLen/\b.map (·.2)=a/\Zw w w.heap.size 2 A a.length (Zat b)/\∀x∈b,Za9 w x.1 x.2.2 S
def ZaZ (w:Yh) (base:Nat) (v:Yi) (b:List Ch) (S:Nat->Prop):Prop:=
 ∃a,a.map (·.2)=b/\w.ownsRow base 163 2 v b.length (Zat a)/\∀x∈a,Za9 w x.1 x.2.2 S
section
variable {w w':Yh} {base bas2:Nat} {v v':Yi} {cs ds:List Ch} {S S':Nat->Prop}
theorem ZaZ.nil (w:Yh) (base:Nat) (S:Nat->Prop):ZaZ w base (Yc Yb 0 0) [] S:=⟨[],rfl,World.ownsRow_nil w base _ _,fun x a=>by cases a⟩
theorem ZaZ.chs (h:ZaZ w base v cs S):Znt w v cs S:=by
 obtain⟨n,j,e,k⟩:=h;have i:=e;rcases e.2 with⟨rfl,l⟩|⟨g,b,f,rfl,_,o,c,a⟩
 ·have d:cs=[]:=List.eq_nil_of_length_eq_zero l;subst d;exact⟨Yb,0,[],rfl,Nat.le_refl _,by decide,rfl,Zw.none_,fun x m=>by cases m⟩
 ·exact⟨Ya _,b,n,rfl,c,a.1,j,Zw.of_own i,k⟩
theorem ZaZ.lt (h:ZaZ w base v cs S):∀k,v.ownBlock=Ya k->base<=k/\k<w.heap.size:=by obtain⟨b,_,a,_⟩:=h;exact a.lt
theorem ZaZ.below (h:ZaZ w base v cs S) (a:Below w.heap.size w w'):ZaZ w' base v cs S:=by obtain⟨f,b,c,d⟩:=h;exact⟨f,b,c.kept (ZY a Yb) (by cases hv:v.ownBlock<;>simp),fun x e=>(d x e).below a⟩
theorem ZaZ.mono (h:ZaZ w base v cs S) (e:∀b,S' b->S b\/w.heap.size<=b):ZaZ w base v cs S':=by obtain⟨g,a,c,d⟩:=h;exact⟨g,a,c,fun x f=>(d x f).mono e⟩
theorem ZaZ.appended {rs ns:List (Yi×Ch)} {m:Nat} (d:rs.map (·.2)=cs) (e:∀x∈rs,Za9 w x.1 x.2.2 S) (j:ns.map (·.2)=ds) (k:∀x∈ns,Za9 w x.1 x.2.2 S) (hm:ds.length=m)
  (a:w'.ownsRow base 163 2 v' (cs.length+m) (Zat rs++Zat ns)) (f:w.grownBy w' v.ownBlock) (h:∀b,v.ownBlock=Ya b->S b) (g:∀b,S' b->S b\/w.heap.size<=b) :
  ZaZ w' base v' (cs++ds) S':=by
 refine⟨rs++ns,by rw[List.map_append,d,j],by rw[Yj,hm,ZfP];exact a,fun x i=>?_⟩;have c:Za9 w x.1 x.2.2 S:=(List.mem_append.1 i).elim (e x) (k x);exact((c.mono (S':=fun b=>S b\/S' b) (fun b q=>q.elim .inl (g b))).grown f (fun b q=>.inl (h b q))).mono fun b q=>.inl (.inr q)
theorem ZaZ.one {rs:List (Yi×Ch)} (a:∀x∈rs,Za9 w x.1 x.2.2 S):∀u∈Zat rs,u.oneCell'=true:=by
 induction rs with
 |nil=>intro u hu;cases hu
 |cons x r c=>
  intro u hu;rw[Zat,List.mem_cons,List.mem_cons]at hu;rcases hu with rfl|rfl|hu
  ·rfl
  ·exact(a x (by simp)).one
  ·exact c (fun y b=>a y (by simp[b])) u hu
end
theorem Zlp:(Tryz.prog.info? 163).map (fun i=>(i.zero,i.size,i.bytes))=Ya (Ya (.agg #[Yd Yf 0,Value.nilFunc]),2,16):=by kernel_rfl
theorem Zmh (w:Yh) (b c:Option Addr) (f c1 g c2:Nat) :
  Calls Tryz.prog 117 #[.slice b f c1,.slice c g c2] w fun e w'=>e=.returned (.func (.func 148) #[] #[Ye (Ya ⟨w.heap.size,0,Yb⟩),Ye (Ya ⟨w.heap.size+1,0,Yb⟩)]) ∧
   Blk w' w.heap.size #[.slice b f c1]/\Blk w' (w.heap.size+1) #[.slice c g c2]/\Below w.heap.size w w':=by
 have k:∀(j:Fn) (first d:Array Yi) (w:Yh),(Instr.makeFunc j first d).run Tryz.prog w=.ok (.func j first d) w:=fun _ _ _ _=>rfl;have i:=(Blk.start w #[.slice b f c1] 43).keep (below_alloc1 _ (Yg #[.slice c g c2] 43));have h:=Blk.start (w.alloc (Yg #[.slice b f c1] 43)) #[.slice c g c2] 43;rw[World.size_alloc]at h;have a:=zh (zi i (zi h (below_alloc2 w (Yg #[.slice b f c1] 43) (Yg #[.slice c g c2] 43))));clear i h;go_enter Tryz.func117,Tryz.ntmps117;go_wp2_with fail;go_ret;exact⟨rfl,a.out.1,a.out.2.1,a.out.2.2⟩
def ZaI (Z:List (Trm×Int)):List Ch:=Z.map fun s=>(s.2,.inr s.1)
theorem ZkP (w0 w:Yh) (j:Below w0.heap.size w0 w) (vs vp:Yi) (d:List Trm) (f:List Int) (hs:Zai w0 vs d) (hp:ZaR w vp f) (l:d.length=f.length) (hl:d.length<=1000) :
  Calls Tryz.prog 77 #[vs,vp] w fun e w'=>∃v,e=.returned v/\ZaZ w' w.heap.size v (ZaI (d.zip f)) (fun b=>v.ownBlock=Ya b\/(w0.heap.size<=b/\b<w.heap.size))/\Below w.heap.size w w':=by
 have bj:∀(fn:Fn) (first O:Array Yi) (w:Yh),(Instr.makeFunc fn first O).run Tryz.prog w=.ok (.func fn first O) w:=fun _ _ _ _=>rfl;obtain⟨iC,ag,ak,al,am⟩:=info_parts Zlp;obtain⟨A,c,ss,rfl,g2,g3,g4,g5,g6⟩:=hs;obtain⟨Ap,cp,rfl,f2,f3,V⟩:=hp;obtain⟨m,hm⟩:∃m,m=d.length:=⟨_,rfl⟩
 have Q:ss.length=m:=by rw[hm,<-g4,List.length_map]
 rw[<-l]at f2 V⊢;rw[<-hm]at g2 g5 f2 V hl⊢;have F:f.length=m:=by rw[hm,l]
 have n:=zh (zi Q (zi g4 (zi g5 (zi g6 (zi hm (zi hl (zi F V)))))));obtain⟨Z,X⟩:∃Z,Z=d.zip f:=⟨_,rfl⟩
 rw[<-X];have HZ:=zh (zi X (show Z.length=m by rw[X,List.length_zip,F,<-hm];omega));clear hm Q g2 g3 g4 g5 g6 f2 f3 V F l hl X;go_enter Tryz.func77,Tryz.ntmps77;go_wp2_with fail;go_loopg [5,10] m (fun g v5 ai wr=>∃(k:Nat) (B:Yi),B=v5/\ai=Yd Yf k/\k<=m/\g=m-k/\ZaZ wr w.heap.size B (ZaI (Z.take k)) (fun b=>B.ownBlock=Ya b\/(w0.heap.size<=b/\b<w.heap.size))/\Below w.heap.size w wr)
 case atStart=>exact⟨0,_,rfl,rfl,Nat.zero_le _,rfl,ZaZ.nil _ _ _,Below.refl _ _⟩
 case round=>
  obtain⟨k,B,rfl,rfl,hk,hg,D,t⟩:=hrel;by_cases C:k=m
  ·have he:Z.take k=Z:=by rw[C,<-HZ.out.2];exact List.take_length
   rw[he]at D;have h:=zh (zi D t);obtain⟨Av,cv,rfl⟩:∃A c,B=Yc A (ZaI Z).length c:=by obtain⟨A,c,_,e,_⟩:=D.chs;exact⟨A,c,e⟩
   subst C;clear hk hg D t he;generalize(ZaI Z).length=z at *;go_wp2_with fail;go_ret;exact⟨_,rfl,h.out.1,h.out.2⟩
  ·have P:k<m:=by omega
   obtain⟨x,G⟩:∃x,ss[k]? = Ya x:=⟨_,Ym (by have:=n.out.1;omega)⟩
   have R:d[k]? = Ya x.2:=by rw[<-n.out.2.1,List.getElem?_map,G];rfl
   obtain⟨p,E⟩:∃p,f[k]? = Ya p:=⟨_,Ym (by have:=n.out.2.2.2.2.2.2.1;omega)⟩
   obtain⟨bf,rfl,d0,d1,d2⟩:=ZaY n.out.2.2.1 (j.trans (t.mono j.size)) G (by omega);obtain⟨be,rfl,pj⟩:=ZbM n.out.2.2.2.2.2.2.2 t E (by omega);have r:=n.out.2.2.2.1 x (List.mem_of_getElem? G);have S:Z[k]? = Ya (x.2,p):=by rw[HZ.out.1,List.getElem?_zip_eq_some];exact⟨R,E⟩
   have tk:ZaI (Z.take (k+1))=ZaI (Z.take k)++[(p,.inr x.2)]:=by unfold ZaI;rw[List.take_add_one,S];simp
   have le:(ZaI (Z.take k)).length<=k:=by unfold ZaI;rw[List.length_map,List.length_take];omega
   have i1:(k:Int)<(m:Int):=by omega
   have i2:(0:Int)<=(k:Int):=by omega
   have wk:IntKind.i64.wrap ((k:Int)+1)=(k:Int)+1:=IntWalk.i64_in _ (by have:=n.out.2.2.2.2.2.1;omega);have U:=zh (zi (show k+1<=maxLen by have:=n.out.2.2.2.2.2.1;unfold maxLen;omega) (zi le (zi P hg)));obtain⟨xv,s,H,I⟩:=x;dsimp only at *;obtain⟨J,L,rfl⟩:=Zc r;have a1:=below_alloc1 wr (Yg #[Yc J s.length L,Yd Yf H,Yd Yf I] 37);have SB:=Blk.start wr #[Yc J s.length L,Yd Yf H,Yd Yf I] 37;have b1:=t.trans (a1.mono t.size);have N:=j.trans (b1.mono j.size);have fo:Off (fun b=>B.ownBlock=Ya b\/(w0.heap.size<=b/\b<w.heap.size)) (Yc J s.length L) s:=(ZfW (W:=w0) r).mono fun b q=>q.elim (fun q=>Nat.le_trans j.size (D.lt b q).1) (fun q=>q.1);have FA:Za9 (wr.alloc (Yg #[Yc J s.length L,Yd Yf H,Yd Yf I] 37)) (.func (.func 121) #[] #[Ye (Ya ⟨wr.heap.size,0,Yb⟩)]) (.inr (s,H,I)) (fun b=>B.ownBlock=Ya b\/(w0.heap.size<=b/\b<w.heap.size)):=
    ⟨_,_,rfl,SB,fun q=>q.elim (fun q=>by have:=(D.lt _ q).2;omega) (fun q=>by have:=q.2;have:=t.size;omega),r.below N,fo⟩
   have M:=zh (zi (D.below a1) (zi FA b1));have TK:=zh tk;clear hk C E r R G S tk le P hg a1 SB b1 N fo FA D t;go_upto_region 5 with fail;clear d0 d1 d2;have pj:=ZS (below_alloc1 wr (Yg #[Yc J s.length L,Yd Yf H,Yd Yf I] 37)) pj;generalize wr.heap.size=K at *;generalize wr.alloc (Yg #[Yc J s.length L,Yd Yf H,Yd Yf I] 37)=T at *;have a2:=below_alloc1 T (Yg #[Yd Yf p,.func (.func 121) #[] #[Ye (Ya ⟨K,0,Yb⟩)]] 163);have D2:=M.out.1.below a2;obtain⟨rs,z1,z2,z3⟩:=D2;have RD:=(Zas (wo:=T) (x:=#[Yd Yf p,.func (.func 121) #[] #[Ye (Ya ⟨K,0,Yb⟩)]]) (ty:=163) (Nat.zero_le _)).reads (size:=2) rfl;have o:=zh (zi z1 (zi z2 (zi z3 (zi RD (zi (M.out.2.1.below a2) (M.out.2.2.trans (a2.mono M.out.2.2.size)))))));have Y:=zh (show ∀u∈[Value.int Yf p,.func (.func 121) #[] #[Ye (Ya ⟨K,0,Yb⟩)]],u.oneCell'=true from fun u hu=>by simp at hu;rcases hu with rfl|rfl<;>rfl);clear z1 z2 z3 RD a2 M;go_wp2_with (at_builtin;refine Zj _ rfl _ _ 110 rfl w.heap.size 163 iC (.agg #[Yd Yf 0,Value.nilFunc]) 2 16 Tryz.underlying110 ag ak al am rfl (by decide) _ (ZaI (Z.take k)).length (Zat rs) rfl o.out.2.1 (T.heap.size+1) (Ya ⟨T.heap.size,0,Yb⟩) 1 1 [Yd Yf p,.func (.func 121) #[] #[Ye (Ya ⟨K,0,Yb⟩)]] rfl o.out.2.2.2.1 Y.out (by have:=U.out;omega) (by have:=U.out;have:=n.out.2.2.2.2.2.1;omega) o.out.2.2.2.2.2.size ?_);intro v8 w8 y a i;have i:v8.ownBlock=B.ownBlock\/v8.ownBlock=Ya (T.alloc (Yg #[Yd Yf p,.func (.func 121) #[] #[Ye (Ya ⟨K,0,Yb⟩)]] 163)).heap.size:=by first|exact i|simpa using i
   have D8:=ZaZ.appended (S':=fun b=>v8.ownBlock=Ya b\/(w0.heap.size<=b/\b<w.heap.size)) (ns:=[(.func (.func 121) #[] #[Ye (Ya ⟨K,0,Yb⟩)],(p,.inr (s,H,I)))]) o.out.1 o.out.2.2.1 rfl (fun x G=>by rw[List.mem_singleton]at G;subst G;exact o.out.2.2.2.2.1) rfl y a (fun b q=>.inl q) (fun b q=>by
    rcases q with q|q
    ·rcases i with e|e
     ·rw[e]at q;exact .inl (.inl q)
     ·rw[e]at q;injection q with q;exact .inr (by omega)
    ·exact .inl (.inr q))
   have h:=zh (zi D8 (o.out.2.2.2.2.2.grown a o.out.2.2.2.2.2.size (fun b q=>(World.ownsRow.lt o.out.2.1 b q).1)));clear y a i D8;go_wp2_with fail;go_roundg (m-(k+1))
   case measure=>have:=U.out;omega
   case rel=>exact⟨k+1,_,rfl,by push_cast;rfl,by have:=U.out;omega,rfl,by rw[TK.out];exact h.out.1,h.out.2⟩
end
section
open Go.RowKit
theorem ZaZ.cells {w:Yh} {base g n j k:Nat} {d:List Ch} {S:Nat->Prop} (h:ZaZ w base (Yc (Ya ⟨g,0,Yb⟩) n j) d S) {c:Ch} (hc:d[k]? = Ya c) :
  ∃f,Za9 w f c.2 S/\w.cell? ⟨g,k*2,Yb⟩=Ya (Yd Yf c.1)/\w.cell? ⟨g,k*2+1,Yb⟩=Ya f/\w.frozen? ⟨g,k*2,Yb⟩=false/\w.frozen? ⟨g,k*2+1,Yb⟩=false:=by
 obtain⟨r,o,i,t⟩:=h;have u:n=d.length:=by
  rcases i.2 with⟨e,_⟩|⟨v,m,s,e,_⟩
  ·cases e
  ·injection e
 subst u;have p:k<d.length:=by
  rcases Nat.lt_or_ge k d.length with q|q
  ·exact q
  ·rw[List.getElem?_eq_none q]at hc;cases hc
 obtain⟨x,l⟩:∃x,r[k]? = Ya x:=⟨_,Ym (by rw[<-o,List.length_map]at p;exact p)⟩
 have e:x.2=c:=by rw[<-o,List.getElem?_map,l]at hc;exact Option.some.inj hc
 subst e;obtain⟨a,b⟩:=Zgd r k x l;refine⟨x.1,t x (List.mem_of_getElem? l),?_,?_,i.frozenAt _,i.frozenAt _⟩
 ·rw[i.cellAt _ (by omega)];exact a
 ·rw[i.cellAt _ (by omega)];exact b
theorem ZaZ.stored {w:Yh} {base g n a k:Nat} {d:List Ch} {S:Nat->Prop} (h:ZaZ w base (Yc (Ya ⟨g,0,Yb⟩) n a) d S) (v:S g) {f:Yi} {c:Ch} (y:Za9 w f c.2 S) :
  ZaZ ((w.setCell ⟨g,k*2,Yb⟩ (Yd Yf c.1)).setCell ⟨g,k*2+1,Yb⟩ f) base (Yc (Ya ⟨g,0,Yb⟩) n a) (d.set k c) S ∧
  w.grownBy ((w.setCell ⟨g,k*2,Yb⟩ (Yd Yf c.1)).setCell ⟨g,k*2+1,Yb⟩ f) (Ya g):=by
 obtain⟨B,t,l,u⟩:=h;have z:n=d.length:=by
  rcases l.2 with⟨e,_⟩|⟨C,j,s,e,_⟩
  ·cases e
  ·injection e
 subst z;obtain⟨o,p⟩:=l.stored (k*2) (Yd Yf c.1);obtain⟨a2,r⟩:=o.stored (k*2+1) f;have m:=ZX p r;refine⟨⟨B.set k (f,c),by rw[List.map_set,t],?_,fun x A=>?_⟩,m⟩
 ·rw[List.length_set,ZhX];exact a2
 ·have i:Za9 w x.1 x.2.2 S:=by
   rcases List.mem_or_eq_of_mem_set A with q|rfl
   ·exact u x q
   ·exact y
  exact i.grown m (fun b e=>by injection e with e;exact e▸v)
theorem ZaZ.form {w:Yh} {base:Nat} {v:Yi} {b:List Ch} {S:Nat->Prop} (h:ZaZ w base v b S) (i:0<b.length):∃g a,v=Yc (Ya ⟨g,0,Yb⟩) b.length a/\base<=g/\g<w.heap.size/\b.length<=a/\a<=maxLen:=by
 obtain⟨k,_,d,_⟩:=h;rcases d.2 with⟨_,j⟩|⟨g,a,c,rfl,e,f,hc,hm,_⟩
 ·omega
 ·exact⟨g,a,rfl,e,(Array.getElem?_eq_some_iff.1 f).1,hc,hm⟩
theorem Za9.shape {w:Yh} {f:Yi} {x:Sum (List Rw×List Rw) Trm} {S:Nat->Prop} (h:Za9 w f x S):∃b a,f=.func b #[] a:=by
 cases x with
 |inl y=>obtain⟨_,_,_,_,rfl,_⟩:=h;exact⟨_,_,rfl⟩
 |inr s=>obtain⟨_,_,rfl,_⟩:=h;exact⟨_,_,rfl⟩
theorem ZaZ.drew {w:Yh} {base:Nat} {v:Yi} {a:List Ch} {S:Nat->Prop} (h:ZaZ w base v a S):ZaZ w.drew base v a S:=h.below (Zn _)
def ZfL (a l:List Ch) (i:Nat):Prop:=l.length=a.length/\∀q,q<a.length->l[q]? = if q<i\/a.length<=q+i then a[a.length-1-q]? else a[q]?
theorem ZkR (a:List Ch):ZfL a a 0:=⟨rfl,fun q hq=>by rw[Yn (by omega)]⟩
theorem ZmR {a l:List Ch} {i:Nat} (h:ZfL a l i) (b:a.length<=2*i+1):l=a.reverse:=by
 apply List.ext_getElem?;intro q;rcases Nat.lt_or_ge q a.length with hq|hq
 ·rw[h.2 q hq,List.getElem?_reverse hq]
  split
  ·rfl
  ·rename_i g
   rw[show a.length-1-q=q by omega]
 ·rw[List.getElem?_eq_none (by rw[h.1];exact hq),List.getElem?_eq_none (by rw[List.length_reverse];exact hq)]
theorem Zl6 {a l:List Ch} {i:Nat} (h:ZfL a l i) (k:i<a.length-1-i) {x y:Ch} (g:l[i]? = Ya x) (j:l[a.length-1-i]? = Ya y):ZfL a ((l.set i y).set (a.length-1-i) x) (i+1):=by
 have c:=h.2 i (by omega);have d:=h.2 (a.length-1-i) (by omega);rw[Yn (by omega),g]at c;rw[Yn (by omega),j]at d;refine⟨by simp only[List.length_set];exact h.1,fun q hq=>?_⟩;have m:=h.1;rw[List.getElem?_set,List.getElem?_set];by_cases e:a.length-1-i=q
 ·rw[Yo e,Yo (by simp only[List.length_set];omega),Yo (by omega),show a.length-1-q=i by omega];exact c
 ·rw[Yn e];by_cases b:i=q
  ·rw[Yo b,Yo (by omega),Yo (by omega),<-b];exact d
  ·rw[Yn b,h.2 q hq];by_cases f:q<i\/a.length<=q+i
   ·rw[Yo f,Yo (by omega)]
   ·rw[Yn f,Yn (by omega)]
def Zk2 (w:Yh) (base:Nat) (v:Yi) (a:List Ch) (S:Nat->Prop) (e:Ending) (w':Yh):Prop:=e=.returned (.tuple #[])/\ZaZ w' base v a.reverse S/\w.grownBy w' v.ownBlock
theorem ZmI (w:Yh) (base:Nat) (v:Yi) (r:List Ch) (S:Nat->Prop) (h:ZaZ w base v r S) (X:∀b,v.ownBlock=Ya b->S b) (J:r.length<=1000) :
  Calls Tryz.prog 118 #[v] w (Zk2 w base v r S):=by
 by_cases I:r=[]
 ·subst I;obtain⟨A,c,rfl⟩:∃A c,v=Yc A 0 c:=by obtain⟨A,c,_,e,_⟩:=h.chs;exact⟨A,c,e⟩
  have d:=zh (show Zk2 w base (Yc A 0 c) [] S (.returned (.tuple #[])) w from⟨rfl,h,ZY (Below.refl _ _) _⟩);clear h X J;go_enter Tryz.func118,Tryz.ntmps118;go_wp2_with fail;go_loopg [2,3] 0 (fun _ s2 s3 wr=>s2=Yd Yf 0/\s3=Yd Yf (-1)/\wr=w)
  case atStart=>exact⟨rfl,rfl,rfl⟩
  case round=>
   obtain⟨rfl,rfl,rfl⟩:=hrel;go_wp2_with fail;go_end0;exact d.out
 ·obtain⟨g,E,rfl,z,F,W,Q⟩:=h.form (List.length_pos_iff.2 I);obtain⟨n,K⟩:∃n,n=r.length:=⟨_,rfl⟩
  have t:0<n:=by rw[K];exact List.length_pos_iff.2 I
  have hS:S g:=X g rfl;rw[<-K]at h J⊢;have o:=zh (zi K (zi t (zi hS J)));have H0:=zh h;have am:∀(a:Addr) (m:Mode) (O:Fn) (f c:Array Yi) (w:Yh),(store a (.func O f c) m).run Tryz.prog w=stored Tryz.prog w a (.func O f c) m:=fun a m O f c w=>run_store Tryz.prog w a _ m rfl;have w0:IntKind.i64.wrap ((n:Int)-1)=(n:Int)-1:=IntWalk.i64_in _ (by omega);clear h I z F W Q K t hS X J;go_enter Tryz.func118,Tryz.ntmps118;go_wp2_with fail;go_loopg [2,3] n (fun k s2 s3 wr=>∃(i:Nat) (l:List Ch),s2=Yd Yf i/\s3=Yd Yf ((n:Int)-1-i)/\i<=n/\k=n-i/\ZfL r l i/\ZaZ wr base (Yc (Ya ⟨g,0,Yb⟩) n E) l S/\w.grownBy wr (Ya g))
  case atStart=>exact⟨0,r,rfl,by simp,by omega,rfl,ZkR r,H0.out,ZY (Below.refl _ _) _⟩
  case round=>
   clear H0;obtain⟨i,l,rfl,rfl,G,T,p,D,s⟩:=hrel;by_cases V:(i:Int)<(n:Int)-1-i
   ·obtain⟨j,R⟩:∃j:Nat,j=n-1-i:=⟨_,rfl⟩
    have N:(n:Int)-1-(i:Int)=(j:Int):=by omega
    rw[N]at V⊢;have U:l.length=n:=by rw[p.1,o.out.1]
    obtain⟨x,Y⟩:∃x,l[i]? = Ya x:=⟨_,Ym (by omega)⟩
    obtain⟨y,Z⟩:∃y,l[j]? = Ya y:=⟨_,Ym (by omega)⟩
    have B:=Zl6 (x:=x) (y:=y) p (by rw[<-o.out.1];omega) Y (by rw[<-o.out.1,<-R];exact Z);rw[<-o.out.1,<-R]at B;obtain⟨fx,L,x0,x1,z0,z1⟩:=D.cells Y;obtain⟨fy,M,y0,y1,u0,u1⟩:=D.cells Z;obtain⟨ak,ai,rfl⟩:=L.shape;obtain⟨al,aj,rfl⟩:=M.shape;obtain⟨D1,P⟩:=ZaZ.stored (k:=i) (c:=y) D o.out.2.2.1 M;have C:=L.grown P (fun b e=>by injection e with e;exact e▸o.out.2.2.1);obtain⟨D2,g2⟩:=ZaZ.stored (k:=j) (c:=x) D1 o.out.2.2.1 C;have gg:=ZX (ZX s P) g2;have d:=zh (zi B (zi D2 gg));have i2:(0:Int)<=(i:Int):=by omega
    have i3:(i:Int)<(n:Int):=by omega
    have i4:(0:Int)<=(j:Int):=by omega
    have i5:(j:Int)<(n:Int):=by omega
    have wi:IntKind.i64.wrap ((i:Int)+1)=(i:Int)+1:=IntWalk.i64_in _ (by have:=o.out.2.2.2;omega);have wj:IntKind.i64.wrap ((j:Int)-1)=(j:Int)-1:=IntWalk.i64_in _ (by have:=o.out.2.2.2;omega);have H:=zh (zi T (zi N (show i+1<=n by omega)));clear G T p D s B D1 D2 P g2 gg L M C U Y Z N R;obtain⟨xi,xc⟩:=x;obtain⟨yi,yc⟩:=y;dsimp only at *;go_wp2_with fail;go_region;go_wp2_with fail;go_roundg (n-(i+1))
    case measure=>have:=H.out;have:=o.out.2.1;omega
    case rel=>exact⟨i+1,_,by push_cast;rfl,by first|(congr 1;have:=H.out;omega)|(have:=H.out;simp;omega),H.out.2.2,rfl,d.out.1,d.out.2.1.drew,ZX d.out.2.2 (ZY (Zn _) _)⟩
   ·have u:=ZmR p (by rw[<-o.out.1];omega);have d:=zh (show Zk2 w base (Yc (Ya ⟨g,0,Yb⟩) n E) r S (.returned (.tuple #[])) wr from⟨rfl,by rw[<-u];exact D,s⟩);clear G T p D s u;go_wp2_with fail;go_end0;exact d.out
end
section
open Go.RowKit
theorem Zky (a:Rw):∀(up c l:List Rw),Zap a c up=Ya l->l.length=c.length+up.length
 |[],c,l,h=>by
  obtain rfl:=Option.some.inj h;rfl
 |b::r,c,l,h=>by
  rw[Zap,Option.bind_eq_some_iff]at h;obtain⟨t,_,h⟩:=h;rw[Zky a r _ l h];simp only[Yj,Yk,Yl];omega
theorem Zkz (up:List Rw):∀(c b l:List Rw),ZaL b c up=Ya l->l.length=b.length+c.length*up.length
 |[],b,l,h=>by
  obtain rfl:=Option.some.inj h;simp
 |a::r,b,l,h=>by
  rw[ZaL,Option.bind_eq_some_iff]at h;obtain⟨t,d,h⟩:=h;rw[Zkz up r t l h,Zky a up b t d,Yk,Nat.add_mul,Nat.one_mul];omega
theorem ZpK {s:Za5} {l:List Rw} (h:Za2 s=Ya l):l.length<=400:=by
 unfold Za2 at h
 split at h
 ·cases h
 ·have:=Zkz _ _ _ _ h;omega
theorem Zg4 (b:List Int):∀(a:List Int) (c:List Rw) (d:List Zby),ZaG (a++b) c d=(ZaG a c d).bind fun x=>ZaG b x.1 x.2
 |[],c,d=>rfl
 |v::a,c,d=>by
  rw[List.cons_append,ZaG,ZaG];cases ZW v ([],[],[]) c with
  |none=>rfl
  |some s=>
   simp only[Option.bind_some];cases Za2 s with
   |none=>rfl
   |some r=>exact Zg4 b a r _
theorem Zfd:∀(a:List Int) (b:List Rw) (c:List Zby) (x:List Rw×List Zby),ZaG a b c=Ya x->x.2.length=c.length+a.length
 |[],b,c,x,h=>by
  obtain rfl:=Option.some.inj h;rfl
 |v::a,b,c,x,h=>by
  rw[ZaG,Option.bind_eq_some_iff]at h;obtain⟨s,_,h⟩:=h;rw[Option.bind_eq_some_iff]at h;obtain⟨r,_,h⟩:=h;rw[Zfd a r _ x h,Yj,List.length_singleton,Yk];omega
def Zcd (c:Zby):Ch:=(c.1,.inl (c.2.1,c.2.2))
def ZmX (w:Yh) (o:Option (List Rw×List Zby)) (e:Ending) (w':Yh):Prop:=
 (∃x c a,o=Ya x/\e=.returned (.tuple #[c,a,Yd Yf 0])/\ZA w' c x.1/\ZaZ w' w.heap.size a (x.2.map Zcd).reverse (fun b=>a.ownBlock=Ya b)/\Below w.heap.size w w') ∨
 (o=Yb/\∃z:Int,(z != 0)=true/\e=.returned (.tuple #[Yc Yb 0 0,Yc Yb 0 0,Yd Yf z])/\Below w.heap.size w w')
structure ElmS (w wr:Yh) (vr:Yi) (rows:List Rw) (vch:Yi) (ch:List Zby):Prop where
 c:ZaZ wr w.heap.size vch (ch.map Zcd) (fun b=>vch.ownBlock=Ya b)
 r:RowsIn wr vr rows (fun b=>vch.ownBlock=Ya b)
 g:Good rows
 len:rows.length<=400
 below:Below w.heap.size w wr
def ZdS (b:Nat):Yi:=.func (.func 148) #[] #[Ye (Ya ⟨b,0,Yb⟩),Ye (Ya ⟨b+1,0,Yb⟩)]
section
variable {w wr w2 w3 w5:Yh} {vr vch va vb vc v8:Yi} {rows l xb xc:List Rw} {ch:List Zby} {p:Int} {rs:List (Yi×Ch)}
theorem ZnC (D:ElmS w wr vr rows vch ch) (T:Tri (fun b=>vch.ownBlock=Ya b) wr w2 va l vb xb vc xc) (j:Blk w3 w2.heap.size #[vb]) (k:Blk w3 (w2.heap.size+1) #[vc]) (e:Below w2.heap.size w2 w3) :
  ∃rs,rs.map (·.2)=ch.map Zcd/\(w3.alloc (Yg #[Yd Yf p,ZdS w2.heap.size] 163)).ownsRow w.heap.size 163 2 vch (ch.map Zcd).length (Zat rs) ∧
   (∀x∈rs,Za9 (w3.alloc (Yg #[Yd Yf p,ZdS w2.heap.size] 163)) x.1 x.2.2 (fun b=>vch.ownBlock=Ya b)) ∧
   Zw (w3.alloc (Yg #[Yd Yf p,ZdS w2.heap.size] 163)) (w3.heap.size+1) 2 (Ya ⟨w3.heap.size,0,Yb⟩) 1 [Yd Yf p,ZdS w2.heap.size] ∧
   Za9 (w3.alloc (Yg #[Yd Yf p,ZdS w2.heap.size] 163)) (ZdS w2.heap.size) (.inl (xb,xc)) (fun b=>vch.ownBlock=Ya b) ∧
   Below w.heap.size w (w3.alloc (Yg #[Yd Yf p,ZdS w2.heap.size] 163))/\RowsIn (w3.alloc (Yg #[Yd Yf p,ZdS w2.heap.size] 163)) va l (fun b=>vch.ownBlock=Ya b):=by
 have a4:=below_alloc1 w3 (Yg #[Yd Yf p,ZdS w2.heap.size] 163);have h:=T.below.trans (e.mono T.below.size);have i:=h.trans (a4.mono h.size);have g:=e.trans (a4.mono e.size);have f:=T.keep g;have d:∀b,vch.ownBlock=Ya b->b<wr.heap.size:=fun b q=>(D.c.lt b q).2;have m:=T.below.size;obtain⟨rs,n,z2,z3⟩:=D.c.below i;refine⟨rs,n,z2,z3,(Zas (wo:=w3) (x:=#[Yd Yf p,ZdS w2.heap.size]) (ty:=163) (Nat.zero_le _)).reads (size:=2) rfl,⟨_,_,vb,vc,rfl,j.keep a4,k.keep a4,fun q=>?_,fun q=>?_,?_,?_⟩,D.below.trans (i.mono D.below.size),?_⟩
 ·have:=d _ q;omega
 ·have:=d _ q;omega
 ·exact f.b.isin (fun b q r=>by have:=(f.b.lt b q).1;have:=d b r;omega) (fun b q=>.inl (.inr (.inr (.inr q))))
 ·exact f.c.isin (fun b q r=>by have:=(f.c.lt b q).1;have:=d b r;omega) (fun b q=>.inl (.inr (.inr (.inr q))))
 ·exact f.a.isin (fun b q r=>by have:=(f.a.lt b q).1;have:=d b r;omega) (fun b q=>.inl (.inr (.inr (.inr q))))
theorem ZoP {c:Yh} {f:Yi} (r:rs.map (·.2)=ch.map Zcd) (z2:c.ownsRow w.heap.size 163 2 vch (ch.map Zcd).length (Zat rs)) (z3:∀x∈rs,Za9 c x.1 x.2.2 (fun b=>vch.ownBlock=Ya b)) (k:Za9 c f (.inl (xb,xc)) (fun b=>vch.ownBlock=Ya b)) (h:Below w.heap.size w c) (o:RowsIn c va l (fun b=>vch.ownBlock=Ya b)) (m:Good l) (n:l.length<=400)
  (d:w5.ownsRow w.heap.size 163 2 v8 ((ch.map Zcd).length+1) (Zat rs++[Yd Yf p,f])) (a:c.grownBy w5 vch.ownBlock) (g:v8.ownBlock=vch.ownBlock\/v8.ownBlock=Ya c.heap.size) :
  ElmS w w5 va l v8 (ch++[(p,xb,xc)]):=by
 have i:∀b,v8.ownBlock=Ya b->vch.ownBlock=Ya b\/c.heap.size<=b:=fun b q=>by
  rcases g with e|e
  ·rw[e]at q;exact .inl q
  ·rw[e]at q;injection q with q;exact .inr (by omega)
 refine⟨?_,?_,m,n,h.grown a h.size (fun b q=>(World.ownsRow.lt z2 b q).1)⟩
 ·rw[List.map_append];exact ZaZ.appended (S':=fun b=>v8.ownBlock=Ya b) (ns:=[(f,(p,.inl (xb,xc)))]) r z3 rfl (fun x j=>by rw[List.mem_singleton]at j;subst j;exact k) rfl d a (fun b q=>q) i
 ·exact((o.mono (S':=fun b=>vch.ownBlock=Ya b\/v8.ownBlock=Ya b) (fun b q=>q.elim .inl (i b))).grown a (fun b q=>.inl q)).mono fun b q=>.inl (.inr q)
end
theorem Zjw (w:Yh) (v vs:Yi) (a:List Rw) (d:List Int) (h:ZA w v a) (hs:ZaR w vs d) (R:Good a) (hv:∀v∈d,∃n:Nat,v=n/\n<8) (hl:a.length<=400) (N:d.length<=8) :
  Calls Tryz.prog 72 #[v,vs] w (ZmX w (ZaG d a [])):=by
 obtain⟨iC,au,a1,a6,a7⟩:=info_parts Zlp;obtain⟨Av,cv,rfl,f2,f3,f4⟩:=hs;obtain⟨n,hn⟩:∃n,n=d.length:=⟨_,rfl⟩
 rw[<-hn]at f2 f4 N⊢;have G:=zh (zi hn (zi f4 (zi N hv)));have S0:=zh (show ElmS w w v a (Yc Yb 0 0) []from⟨ZaZ.nil _ _ _,RowsIn.of h (fun b q=>by cases q),R,hl,Below.refl _ _⟩);clear hn f2 f3 f4 N hv h R hl;go_enter Tryz.func72,Tryz.ntmps72;go_wp2_with fail;go_loopg [0,7,16] n (fun g v0 v7 ay wr=>∃(k:Nat) (x:List Rw×List Zby) (vr f:Yi),vr=v0/\f=v7/\ay=Yd Yf k/\k<=n/\g=n-k/\ZaG (d.take k) a []=Ya x/\ElmS w wr vr x.1 f x.2)
 case atStart=>exact⟨0,(a,[]),_,_,rfl,rfl,rfl,Nat.zero_le _,rfl,rfl,S0.out⟩
 case round=>
  clear S0;obtain⟨k,⟨j,Q⟩,vr,f,rfl,rfl,rfl,hk,R,i,D⟩:=hrel;dsimp only at D;by_cases M:k=n
  ·have he:d.take k=d:=by rw[M,G.out.1];exact List.take_length
   rw[he]at i;have m:=Zfd _ _ _ _ i;have RV:=zh (ZmI wr w.heap.size f (Q.map Zcd) _ D.c (fun _ q=>q) (by have:=G.out.1;have:=G.out.2.2.1;rw[List.length_map];simp at m;omega));have C:=zh (zi i D);subst M;clear hk R D he i m;go_wp2_with (go_at_call 118;go_fit RV.out;rintro e9 w9 ⟨rfl,c9,g9⟩);go_ret3;exact .inl ⟨_,_,_,C.out.1,rfl,(C.out.2.r.grown g9 (fun b q=>q)).rows,c9,C.out.2.below.grown g9 C.out.2.below.size (fun b q=>(C.out.2.c.lt b q).1)⟩
  ·have aa:k<n:=by omega
   obtain⟨p,F⟩:∃p,d[k]? = Ya p:=⟨_,Ym (by have:=G.out.1;omega)⟩
   obtain⟨bx,rfl,pj⟩:=ZbM G.out.2.1 D.below F (by omega);obtain⟨p8,ad,ae⟩:=G.out.2.2.2 p (List.mem_of_getElem? F);have nx:ZaG (d.take (k+1)) a []=(ZW p ([],[],[]) j).bind fun s=>(Za2 s).bind fun P=>Ya (P,Q++[(p,s.2.1,s.2.2)]):=by rw[List.take_add_one,F];show ZaG (d.take k++[p]) a []=_;rw[Zg4,i,Option.bind_some];rfl
   have nn:ZaG (d.take (k+1)) a []=Yb->ZaG d a []=Yb:=fun q=>by
    rw[<-List.take_append_drop (k+1) d,Zg4,q];rfl
   have i1:(k:Int)<(n:Int):=by omega
   have i2:(0:Int)<=(k:Int):=by omega
   have wk:IntKind.i64.wrap ((k:Int)+1)=(k:Int)+1:=IntWalk.i64_in _ (by have:=G.out.2.2.1;omega);have O:∀b,f.ownBlock=Ya b->b<wr.heap.size:=fun b q=>(D.c.lt b q).2;have so:=Zoj (fun b=>f.ownBlock=Ya b) wr vr j p D.r O (fun r hr=>(D.g r hr).1) (by have:=D.len;omega);have m:=Zfd _ _ _ _ i;have Z:(Q.map Zcd).length<=8:=by have:=G.out.2.2.1;rw[List.length_take]at m;rw[List.length_map];simp at m;omega
   have X:=zh so;have o:=zh (fun(q:ZaG (d.take (k+1)) a []=Yb) (z:Int) (hz:(z != 0)=true) (w':Yh) (hb:Below wr.heap.size wr w')=>show ZmX w (ZaG d a []) (.returned (.tuple #[Yc Yb 0 0,Yc Yb 0 0,Yd Yf z])) w' from .inr ⟨nn q,z,hz,rfl,D.below.trans (hb.mono D.below.size)⟩);have I:=zh (zi aa (zi R (zi nx (zi O Z))));have C:=zh D;have HP:=zh (zi ad ae);clear M hk R F i nx nn O so m Z D aa ad ae;cases hst:ZW p ([],[],[]) j with
   |none=>
    have W:=zh (o.out (by rw[I.out.2.2.1,hst];rfl));rw[hst]at X;clear hst;go_wp2_with (go_at_call 115;go_fit X.out;rintro e1 w1 (⟨s,va,S,U,q,_⟩|⟨_,z,hz,rfl,aq⟩);(next=>cases q));go_ret3;exact W.out z hz _ aq
   |some s=>
    have SI:=Zdx p j ([],[],[]) s (fun r hr=>(C.out.g r hr).1) hst;have H:=Zdw p _ _ _ hst;have J:=I.out.2.2.1;rw[hst,Option.bind_some]at J
    have V:∀l,Za2 s=Ya l->Good l:=fun l hw=>by
     have h1:=HP.out.1;subst h1;exact(Zg5 HP.out.2 C.out.g hst hw).1
    rw[hst]at X;have SH:=zh (zi J (zi V (show s.1.length<=1000/\s.2.1.length<=1000/\s.2.2.length<=1000 from by have:=C.out.len;simp at H;omega)));have K:=zh SI;clear hst SI H J V
    have ab:∀t∈s.2.1,TrmOk t.2:=fun t ht=>by
     rcases K.out.lo t ht with q|⟨r,_,q,_⟩
     ·cases q
     ·exact q.2.1
    have ac:∀t∈s.2.2,TrmOk t.2:=fun t ht=>by
     rcases K.out.up t ht with q|⟨r,_,q,_⟩
     ·cases q
     ·exact q.2.1
    have WS:=zh (fun(w1:Yh) (va S U:Yi) (T:Tri (fun b=>f.ownBlock=Ya b) wr w1 va s.1 S s.2.1 U s.2.2)=>Zmd (fun b=>f.ownBlock=Ya b) wr w1 va s.1 S s.2.1 U s.2.2 T ab ac SH.out.2.2);clear ab ac K;cases hwo:Za2 s with
    |none=>
     have W:=zh (o.out (by rw[SH.out.1,hwo];rfl));have e:Za2 (s.1,s.2.1,s.2.2)=Yb:=hwo;rw[e]at WS;clear hwo e
     go_wp2_with (first
      |(go_at_call 115;go_fit X.out;rintro e1 w1 (⟨s2,va,S,U,q,rfl,T⟩|⟨q,_⟩);rotate_left;(next=>cases q);injection q with q;subst q;have T1:=zh T;clear T)
      |(go_at_call 116;go_fit (WS.out _ _ _ _ T1.out);rintro e2 w2 (⟨l,az,q,_⟩|⟨_,z,hz,rfl,ar⟩);(next=>cases q)))
     go_ret3;exact W.out z hz _ ar
    |some l=>
     have W:=zh (show ZaG (d.take (k+1)) a []=Ya (l,Q++[(p,s.2.1,s.2.2)])from by rw[SH.out.1,hwo];rfl);have e:Za2 (s.1,s.2.1,s.2.2)=Ya l:=hwo;have GL:=zh (zi (SH.out.2.1 l hwo) (ZpK hwo));rw[e]at WS;clear hwo e o
     go_upto_region 11 with(first
      |(go_at_call 115;go_fit X.out;rintro e1 w1 (⟨s2,va,S,U,q,rfl,T⟩|⟨q,_⟩);rotate_left;(next=>cases q);injection q with q;subst q;have T1:=zh T;clear T)
      |(go_at_call 116;go_fit (WS.out _ _ _ _ T1.out);rintro e2 w2 (⟨l2,az,q,rfl,T⟩|⟨q,_⟩);rotate_left;(next=>cases q);injection q with q;subst q;have T2:=zh T;clear T))
     obtain⟨Ab,cb,rfl⟩:∃A c,S=Yc A s.2.1.length c:=by obtain⟨A,c,_,e,_⟩:=T2.out.b.rows;exact⟨A,c,e⟩
     obtain⟨Ac,cc,rfl⟩:∃A c,U=Yc A s.2.2.length c:=by obtain⟨A,c,_,e,_⟩:=T2.out.c.rows;exact⟨A,c,e⟩
     have BW:=zh (Zmh w2 Ab Ac s.2.1.length cb s.2.2.length cc);have am:=zh (show ∀u∈[Value.int Yf p,ZdS w2.heap.size],u.oneCell'=true from fun u hu=>by simp[ZdS]at hu;rcases hu with rfl|rfl<;>rfl)
     go_wp2_with (first
      |(go_at_call 117;go_fit BW.out;rintro e3 w3 ⟨rfl,B1,B2,Y⟩;obtain⟨rs,QV⟩:=ZnC (p:=p) C.out T2.out B1 B2 Y;have E:=zh QV;clear B1 B2 Y QV)
      |(at_builtin;refine Zj _ rfl _ _ 110 rfl w.heap.size 163 iC (.agg #[Yd Yf 0,Value.nilFunc]) 2 16 Tryz.underlying110 au a1 a6 a7 rfl (by decide) _ (Q.map Zcd).length (Zat rs) rfl E.out.2.1 (w3.heap.size+1) (Ya ⟨w3.heap.size,0,Yb⟩) 1 1 [Yd Yf p,ZdS w2.heap.size] rfl E.out.2.2.2.1 am.out (by have:=I.out.2.2.2.2;unfold maxLen;omega) (by have:=I.out.2.2.2.2;omega) E.out.2.2.2.2.2.1.size ?_))
     intro v8 w8 B y L;have D8:=zh (ZoP E.out.1 E.out.2.1 E.out.2.2.1 E.out.2.2.2.2.1 E.out.2.2.2.2.2.1 E.out.2.2.2.2.2.2 GL.out.1 GL.out.2 (by first|exact B|(rw[List.length_map];exact B)) y (by first|exact L|simpa using L));clear B y L;go_wp2_with fail;go_roundg (n-(k+1))
     case measure=>have:=I.out.1;have:=I.out.2.1;omega
     case rel=>exact⟨k+1,(l,Q++[(p,s.2.1,s.2.2)]),_,_,rfl,rfl,by push_cast;rfl,by have:=I.out.1;omega,rfl,W.out,D8.out⟩
end
end Go.Proofs.YtbfnnolakggbfaaGreatDoor
