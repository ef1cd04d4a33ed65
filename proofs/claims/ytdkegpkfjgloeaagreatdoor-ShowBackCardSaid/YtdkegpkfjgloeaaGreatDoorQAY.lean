import Derived.Test.YtdkegpkfjgloeaaGreatDoorQAX
set_option maxRecDepth 100000
set_option maxHeartbeats 8000000
open Option renaming some → Ya, none → Yb
open Go.Value renaming slice → Yc, int → Yd
open Go.IntKind renaming i64 → Yf
open Go.Obj renaming cells → Yg
open Go renaming World → Yh, Value → Yi
namespace Go.Proofs.YtdkegpkfjgloeaaGreatDoor
section
open Go.RowKit
abbrev ZeN:NV:=(Yc Yb 0 0,Yc Yb 0 0,Yc Yb 0 0)
theorem Zgb (w:Yh) (cs:Array Yi) (ty:TypeId) (j:Nat) (u:Yi) (h:cs[j]? = Ya u):(w.alloc (.cells cs ty)).cell? (Addr.add ⟨w.heap.size,0,Yb⟩ j)=Ya u:=by rw[Addr.add_lit,Nat.zero_add,(Blk.start w cs ty).cell j];exact h
theorem Zdl (w:Yh) (u:Yi) (ty:TypeId):ZO (w.alloc (Yg #[u] ty)) (w.heap.size+1) 1 (Ya ⟨w.heap.size,0,Yb⟩) 1 [u]:=
 ⟨rfl,fun _=>⟨_,rfl,Nat.lt_succ_self _,fun j v a=>Zgb w #[u] ty j v (by simpa using a)⟩⟩
theorem ZhP (y:Txt):∀u∈[txt y],u.oneCell'=true:=fun u a=>by rw[List.mem_singleton.1 a];rfl
theorem Zrb (y:Int):∀u∈[Value.int Yf y],u.oneCell'=true:=fun u a=>by rw[List.mem_singleton.1 a];rfl
theorem Zbh {w:Yh} {a n b:Nat} {e:TypeId} {v:Yi} {d:List Yi} (h:w.ownsRow a e b v n d):∃A k c,v=Yc A k c:=by obtain⟨A,c,rfl⟩:=ZbB h;exact⟨_,_,_,rfl⟩
section
variable {w0 w wi w1 w3:Yh} {bp b r:Nat} {vL:Yi} {L:List Tok} {s s2:PS} {x:NV} {k p:Int} {ws:List Txt} {us:List Int} {vs:List (NV×Tr)}
theorem Zac {y:Txt} (h:ParS w0 w bp vL L s) (a:isM L y s=true):Calls Tryz.prog 66 #[.pointer (Ya ⟨bp,0,Yb⟩),txt y] w (Got w0 bp vL L w (.bool true) (Ze s)):=by have q:=Zgi w0 w bp vL L s y h;rw[a,show(Zdo L y s).2=Ze s by unfold Zdo;rw[Yo a]]at q;exact q
theorem ZS {y:Txt} (h:ParS w0 w bp vL L s) (a:isM L y s=false):Calls Tryz.prog 66 #[.pointer (Ya ⟨bp,0,Yb⟩),txt y] w (Got w0 bp vL L w (.bool false) s):=by have q:=Zgi w0 w bp vL L s y h;rw[a,show(Zdo L y s).2=s by unfold Zdo;rw[a];rfl]at q;exact q
theorem ParS.name_len (h:ParS w0 w bp vL L s):(Zc L s).1.length<=maxLen:=by
 have a:∀j,(Zl L j).2.1.length<=maxLen:=fun j=>by
  unfold Zl;cases e:L[j]? with
  |none=>exact Nat.zero_le _
  |some t=>have:=h.few.2.2 t (List.mem_of_getElem? e);show t.2.1.length<=maxLen;unfold maxLen;omega
 unfold Zc;by_cases q:Zbk L s=true
 ·rw[Yo q];unfold Za0
  split<;>exact a _
 ·rw[Yn q];exact Nat.zero_le _
theorem Gn.start (h:ParS w0 w bp vL L s) {d:Yh} (ha:w.alloc (.cells Zbo 55)=d) (b:Below d.heap.size d w1) :
  Gn w0 w (w1.alloc (Yg #[Yd Yf k,Yc Yb 0 0,Yc Yb 0 0,Yc Yb 0 0,Yd Yf p,Yc Yb 0 0] 55)) bp w1.heap.size w.heap.size vL L s ZeN k p [] [] []:=by
 subst ha;have a0:=below_alloc1 w (.cells Zbo 55);have a2:=below_alloc1 w1 (Yg #[Yd Yf k,Yc Yb 0 0,Yc Yb 0 0,Yc Yb 0 0,Yd Yf p,Yc Yb 0 0] 55);have c:w.heap.size<w1.heap.size:=Nat.lt_of_lt_of_le (by simp) b.size;have a:Below w.heap.size w (w1.alloc (Yg #[Yd Yf k,Yc Yb 0 0,Yc Yb 0 0,Yc Yb 0 0,Yd Yf p,Yc Yb 0 0] 55)):=(a0.trans (b.mono a0.size)).trans (a2.mono (Nat.le_of_lt c));exact⟨h.keep a,Fp.of_below bp a,Zk.start w1 _ _,World.ownsRow_nil _ _ _ _,fun _ hq=>(nomatch hq),World.ownsRow_nil _ _ _ _,World.ownsRow_nil _ _ _ _,⟨by simp[Value.ownBlock],by simp[Value.ownBlock]⟩,fun _ hq=>(nomatch hq),fun _=>((Zk.start w Zbo _).keep b).keep a2,⟨Nat.le_of_lt c,fun _=>Nat.le_refl _,Nat.ne_of_gt c,h.below.size⟩⟩
theorem Gn.side (h:ParS w0 w bp vL L s) (b:Below w.heap.size w w1) :
  Gn w0 w (w1.alloc (Yg #[Yd Yf k,Yc Yb 0 0,Yc Yb 0 0,Yc Yb 0 0,Yd Yf p,Yc Yb 0 0] 55)) bp w1.heap.size 0 vL L s ZeN k p [] [] []:=by
 have a2:=below_alloc1 w1 (Yg #[Yd Yf k,Yc Yb 0 0,Yc Yb 0 0,Yc Yb 0 0,Yd Yf p,Yc Yb 0 0] 55);have a:=b.trans (a2.mono b.size);have:=h.box.lt;have:=b.size;exact⟨h.keep a,Fp.of_below bp a,Zk.start w1 _ _,World.ownsRow_nil _ _ _ _,fun _ hq=>(nomatch hq),World.ownsRow_nil _ _ _ _,World.ownsRow_nil _ _ _ _,⟨by simp[Value.ownBlock],by simp[Value.ownBlock]⟩,fun _ hq=>(nomatch hq),fun q=>absurd rfl q,⟨b.size,fun q=>absurd rfl q,by omega,h.below.size⟩⟩
theorem ParS.size0 (h:ParS w0 w bp vL L s):w.heap.size≠0:=by have:=h.box.lt;omega
theorem Gn.cells (h:Gn w0 w wi bp b r vL L s x k p ws us vs):wi.cell? ⟨b,0,Yb⟩=Ya (Yd Yf k)/\wi.cell? ⟨b,1,Yb⟩=Ya x.1/\wi.cell? ⟨b,2,Yb⟩=Ya x.2.1/\wi.cell? ⟨b,3,Yb⟩=Ya (Yc Yb 0 0)/\wi.cell? ⟨b,4,Yb⟩=Ya (Yd Yf p)/\wi.cell? ⟨b,5,Yb⟩=Ya x.2.2:=by have c:=fun i=>h.K.blk.cell i;exact⟨c 0,c 1,c 2,c 3,c 4,c 5⟩
theorem Gn.free (h:Gn w0 w wi bp b r vL L s x k p ws us vs) (i:Nat):wi.frozen? ⟨b,i,Yb⟩=false:=h.K.blk.free i
theorem Gn.zeros (h:Gn w0 w wi bp b r vL L s x k p ws us vs) (a:r≠0):wi.cell? ⟨r,0,Yb⟩=Ya (Yd Yf 0)/\wi.cell? ⟨r,1,Yb⟩=Ya (Yc Yb 0 0)/\wi.cell? ⟨r,2,Yb⟩=Ya (Yc Yb 0 0)/\wi.cell? ⟨r,3,Yb⟩=Ya (Yc Yb 0 0)/\wi.cell? ⟨r,4,Yb⟩=Ya (Yd Yf 0)/\wi.cell? ⟨r,5,Yb⟩=Ya (Yc Yb 0 0):=by have c:=fun i=>(h.R a).blk.cell i;exact⟨c 0,c 1,c 2,c 3,c 4,c 5⟩
theorem Gn.rfree (h:Gn w0 w wi bp b r vL L s x k p ws us vs) (a:r≠0) (i:Nat):wi.frozen? ⟨r,i,Yb⟩=false:=(h.R a).blk.free i
theorem Gn.shape (h:Gn w0 w wi bp b r vL L s x k p ws us vs):∃A n c B m d C q e,x=(Yc A n c,Yc B m d,Yc C q e):=by obtain⟨l,j,i⟩:=x;obtain⟨A,n,c,a⟩:=Zbh h.W;obtain⟨B,m,d,f⟩:=Zbh h.U;obtain⟨C,q,e,g⟩:=Zbh h.V;dsimp only at a f g;subst a f g;exact⟨A,n,c,B,m,d,C,q,e,rfl⟩
theorem TrO.shape2 {Q:Nat->Prop} {y:NV} {t:Tr} (h:TrO w Q y t):∃A n c B m d C q e,y=(Yc A n c,Yc B m d,Yc C q e):=by obtain⟨A,c,B,d,C,e,rfl⟩:=h.shape;exact⟨_,_,_,_,_,_,_,_,_,rfl⟩
theorem Gn.listed {ys:List Int} (h:Gn w0 w wi bp b r vL L s x k p ws [] []) (c:ys.length<=maxLen) :
  Gn w0 w ((wi.alloc (.cells (ys.map (Value.int Yf)).toArray 2)).setCell ⟨b,2,Yb⟩ (Yc (Ya ⟨wi.heap.size,0,Yb⟩) ys.length ys.length)) bp b r vL L s (x.1,Yc (Ya ⟨wi.heap.size,0,Yb⟩) ys.length ys.length,x.2.2) k p ws ys []:=by
 have a:(wi.alloc (.cells (ys.map (Value.int Yf)).toArray 2)).ownsRow w.heap.size 2 1 (Yc (Ya ⟨wi.heap.size,0,Yb⟩) ys.length ys.length) (([]:List Int).length+ys.length) (([]:List Int).map (Value.int Yf)++ys.map (Value.int Yf)):=by rw[show([]:List Int).length+ys.length=ys.length by simp];refine⟨by simp,.inr ⟨wi.heap.size,ys.length,(ys.map (Value.int Yf)).toArray,rfl,h.F.size,Zk.start wi _ _,Nat.le_refl _,c,by simp,?_⟩⟩;simp only[Nat.mul_one,List.map_nil,List.nil_append];rw[List.take_of_length_le (by simp)]
 exact(h.nums a (Zd7 (below_alloc1 wi _) _)).2.2
abbrev Zcw (f:Yh) (a:Nat) (d:Yi) (L:List Tok) (w:Yh) (t:Tr) (b:PS) (e:Ending) (w':Yh):Prop:=∃x:NV,e=.returned (ZbQ (x,t))/\ParS f w' a d L b/\TrO w' (fun c=>w.heap.size<=c) x t/\Fp w w' a
theorem Gn.out (h:Gn w0 w wi bp b r vL L s x k p ws us vs) (m:r≠0) (a d f i j l:Yi) :
  ParS w0 (Zfu wi r a d f i j l) bp vL L s/\TrO (Zfu wi r a d f i j l) (fun c=>w.heap.size<=c) x (.mk k ws us p (vs.map (·.2)))/\Fp w (Zfu wi r a d f i j l) bp:=by
 have g:wi.grownBy (Zfu wi r a d f i j l) (Ya r):=((((Zaw.trans Zaw).trans Zaw).trans Zaw).trans Zaw).trans Zaw;obtain⟨n,o⟩:=h.grow g (fun e=>h.bne.2 m (by injection e)) (fun q hq=>by injection hq with hq;subst hq;exact h.B.2.1 m);refine⟨n,(h.tree.kept g (fun c e=>?_)).mono (fun c hc=>hc.1),o⟩;injection e with e;subst e;exact⟨_,_,h.R m,by decide,by decide,.inr fun c hc=>hc.2.2⟩
end
end
section
open Go.RowKit
theorem Zd2 (w:Yh) (a b c d e f:Yi) (ty:TypeId):ZO (w.alloc (Yg #[a,b,c,d,e,f] ty)) (w.heap.size+1) 6 (Ya ⟨w.heap.size,0,Yb⟩) 1 [a,b,c,d,e,f]:=
 ⟨rfl,fun _=>⟨_,rfl,Nat.lt_succ_self _,fun j v g=>Zgb w #[a,b,c,d,e,f] ty j v (by simpa using g)⟩⟩
theorem Zd8 (k p:Int) (A B C D:Option Addr) (n c m d q e f g:Nat):∀u∈[Value.int Yf k,Yc A n c,Yc B m d,Yc C q e,Yd Yf p,Yc D f g],u.oneCell'=true:=fun u a=>by
 simp at a;rcases a with rfl|rfl|rfl|rfl|rfl|rfl<;>rfl
theorem Zd4 (w:Yh) (g n b:Nat) (v a d f i k l:Yi) (h:g≠b):(((((((w.setCell ⟨b,5,Yb⟩ v).setCell ⟨g,n*6,Yb⟩ a).setCell ⟨g,n*6+1,Yb⟩ d).setCell ⟨g,n*6+2,Yb⟩ f).setCell ⟨g,n*6+3,Yb⟩ i).setCell ⟨g,n*6+4,Yb⟩ k).setCell ⟨g,n*6+5,Yb⟩ l)=(((((((w.setCell ⟨g,n*6,Yb⟩ a).setCell ⟨g,n*6+1,Yb⟩ d).setCell ⟨g,n*6+2,Yb⟩ f).setCell ⟨g,n*6+3,Yb⟩ i).setCell ⟨g,n*6+4,Yb⟩ k).setCell ⟨g,n*6+5,Yb⟩ l).setCell ⟨b,5,Yb⟩ v):=by have c:∀(X:Yh) (j:Nat) (u:Yi),(X.setCell ⟨b,5,Yb⟩ v).setCell ⟨g,j,Yb⟩ u=(X.setCell ⟨g,j,Yb⟩ u).setCell ⟨b,5,Yb⟩ v:=fun X j u=>Zle X ⟨b,5,Yb⟩ ⟨g,j,Yb⟩ v u (fun e=>h e.symm);rw[c,c,c,c,c,c]
section
variable {w0 w wi w3 w4:Yh} {bp b r:Nat} {vL:Yi} {L:List Tok} {s:PS} {x:NV} {k p:Int} {ws:List Txt} {us:List Int} {vs:List (NV×Tr)}
theorem Gn.apart (h:Gn w0 w wi bp b r vL L s x k p ws us vs) {c:Nat} (hc:wi.heap.size<=c):w.heap.size<=c/\c≠b/\c≠r/\x.2.2.ownBlock≠Ya c:=by
 have a:=h.K.lt;have d:r=0\/r<wi.heap.size:=by
  by_cases q:r=0
  ·exact .inl q
  ·exact .inr (h.R q).lt
 have f:=h.B;exact⟨by omega,by omega,by omega,fun e=>by have:=(h.V.lt c e).2;omega⟩
theorem Gn.klen {C:Option Addr} {q e:Nat} {a1 a2:Yi} (h:Gn w0 w wi bp b r vL L s (a1,a2,Yc C q e) k p ws us vs):q=vs.length:=by obtain⟨A,c,a⟩:=ZbB h.V;injection a
theorem Zd3 {B n:Nat} {v:Yi} {e:List Yi} {w:Yh} (h:w.ownsRow B 55 6 v (n+1) e):∃g c,v=Yc (Ya ⟨g,0,Yb⟩) (n+1) c/\∀j,w.frozen? ⟨g,j,Yb⟩=false:=by
 rcases h.2 with⟨_,f⟩|⟨g,a,b,rfl,_,d,_⟩
 ·omega
 ·exact⟨g,a,rfl,fun j=>Blk.free ⟨_,d⟩ j⟩
theorem ZoG {v v2:Yi} {g:Nat} (a:wi.grownBy w3 v.ownBlock) (b:v2.ownBlock=v.ownBlock\/v2.ownBlock=Ya wi.heap.size) (hv:v2.ownBlock=Ya g) (h:w3.grownBy w4 (Ya g)):wi.grownBy w4 v.ownBlock:=
 ⟨h.os.trans a.os,h.tape.trans a.tape,h.output.trans a.output,Nat.le_trans a.size h.size,fun c hc hn=>by
  refine(h.block c (Nat.lt_of_lt_of_le hc a.size) (fun e=>?_)).trans (a.block c hc hn)
  rcases b with q|q
  ·exact hn (by rw[<-q,hv];exact e)
  ·rw[hv]at q;injection q with q;injection e with e;omega⟩
theorem Gn.V2 (h:Gn w0 w wi bp b r vL L s x k p ws us vs) {n:Nat} (hn:n=vs.length):wi.ownsRow w.heap.size 55 6 x.2.2 n (ZaZ vs):=hn▸h.V
theorem Gn.gne {v:Yi} {g:Nat} (h:Gn w0 w wi bp b r vL L s x k p ws us vs) (a:v.ownBlock=x.2.2.ownBlock\/v.ownBlock=Ya wi.heap.size) (hv:v.ownBlock=Ya g):g≠b:=fun e=>by
 subst e;rcases a with q|q
 ·exact h.N.1 (q▸hv)
 ·rw[hv]at q;injection q with q;have:=h.K.lt;omega
theorem Gn.zeroed {g c n:Nat} {y:NV×Tr} {Q:Nat->Prop} (h:Gn w0 w wi bp b r vL L s x k p ws us vs) (hn:n=vs.length) (A:TrO wi Q y.1 y.2) (z:∀c,Q c->w.heap.size<=c/\c≠b/\c≠r/\x.2.2.ownBlock≠Ya c)
  (d:w3.ownsRow w.heap.size 55 6 (Yc (Ya ⟨g,0,Yb⟩) (n+1) c) (n+1) (ZaZ vs++Zbo.toList)) (m:wi.grownBy w3 x.2.2.ownBlock) (l:Value.ownBlock (Yc (Ya ⟨g,0,Yb⟩) (n+1) c)=x.2.2.ownBlock\/Value.ownBlock (Yc (Ya ⟨g,0,Yb⟩) (n+1) c)=Ya wi.heap.size) :
  w3.cell? ⟨b,5,Yb⟩=Ya x.2.2/\(w3.cell? ⟨g,n*6,Yb⟩=Ya (Yd Yf 0)/\w3.cell? ⟨g,n*6+1,Yb⟩=Ya (Yc Yb 0 0)/\w3.cell? ⟨g,n*6+2,Yb⟩=Ya (Yc Yb 0 0)/\w3.cell? ⟨g,n*6+3,Yb⟩=Ya (Yc Yb 0 0)/\w3.cell? ⟨g,n*6+4,Yb⟩=Ya (Yd Yf 0)/\w3.cell? ⟨g,n*6+5,Yb⟩=Ya (Yc Yb 0 0))/\(∀j,w3.frozen? ⟨g,j,Yb⟩=false) ∧
  (∀a,a<wi.heap.size->x.2.2.ownBlock≠Ya a->∀j,((((((w3.setCell ⟨g,n*6,Yb⟩ (Yd Yf y.2.kd)).setCell ⟨g,n*6+1,Yb⟩ y.1.1).setCell ⟨g,n*6+2,Yb⟩ y.1.2.1).setCell ⟨g,n*6+3,Yb⟩ (Yc Yb 0 0)).setCell ⟨g,n*6+4,Yb⟩ (Yd Yf y.2.ps)).setCell ⟨g,n*6+5,Yb⟩ y.1.2.2).cell? ⟨a,j,Yb⟩=wi.cell? ⟨a,j,Yb⟩/\w3.cell? ⟨a,j,Yb⟩=wi.cell? ⟨a,j,Yb⟩) ∧
  ((((((w3.setCell ⟨g,n*6,Yb⟩ (Yd Yf y.2.kd)).setCell ⟨g,n*6+1,Yb⟩ y.1.1).setCell ⟨g,n*6+2,Yb⟩ y.1.2.1).setCell ⟨g,n*6+3,Yb⟩ (Yc Yb 0 0)).setCell ⟨g,n*6+4,Yb⟩ (Yd Yf y.2.ps)).setCell ⟨g,n*6+5,Yb⟩ y.1.2.2).cell? ⟨b,5,Yb⟩=Ya x.2.2 ∧
  ((((((w3.setCell ⟨g,n*6,Yb⟩ (Yd Yf y.2.kd)).setCell ⟨g,n*6+1,Yb⟩ y.1.1).setCell ⟨g,n*6+2,Yb⟩ y.1.2.1).setCell ⟨g,n*6+3,Yb⟩ (Yc Yb 0 0)).setCell ⟨g,n*6+4,Yb⟩ (Yd Yf y.2.ps)).setCell ⟨g,n*6+5,Yb⟩ y.1.2.2).frozen? ⟨b,5,Yb⟩=false ∧
  Gn w0 w (((((((w3.setCell ⟨g,n*6,Yb⟩ (Yd Yf y.2.kd)).setCell ⟨g,n*6+1,Yb⟩ y.1.1).setCell ⟨g,n*6+2,Yb⟩ y.1.2.1).setCell ⟨g,n*6+3,Yb⟩ (Yc Yb 0 0)).setCell ⟨g,n*6+4,Yb⟩ (Yd Yf y.2.ps)).setCell ⟨g,n*6+5,Yb⟩ y.1.2.2).setCell ⟨b,5,Yb⟩ (Yc (Ya ⟨g,0,Yb⟩) (n+1) c)) bp b r vL L s (x.1,x.2.1,Yc (Ya ⟨g,0,Yb⟩) (n+1) c) k p ws us (vs++[y]):=by
 subst hn;have D:=h.K.grown m h.N.1;obtain⟨B,C,f⟩:=Zq7 d y;have q:=ZoG m l rfl C;obtain⟨E,F,G⟩:=h.kid A z B q l;refine⟨D.blk.cell 5,⟨f 0,f 1,f 2,f 3,f 4,f 5⟩,fun j=>?_,fun a t i j=>⟨World.cell?_of_block (q.block a t (fun e=>i e.symm)),World.cell?_of_block (m.block a t (fun e=>i e.symm))⟩,E,F,G⟩;rcases d.2 with⟨e,_⟩|⟨H,u,v,e,_,o,_⟩
 ·simp at e
 ·simp only[Value.slice.injEq,Option.some.injEq,Addr.mk.injEq,and_true,true_and]at e;obtain⟨rfl,_⟩:=e;exact Blk.free ⟨_,o⟩ j
end
end
section
open Go.RowKit
def Zi4 (g w:Yh) (d b r:Nat) (f:Yi) (L:List Tok) (e:PS) (x:NV) (k p:Int) (h:List Txt) (us:List Int) (vs:List (NV×Tr)) (n0:Nat) (a:Tr) (v:Yi) (w1:Yh):Prop:=
 ∃y:NV,v=ZbQ (y,a)/\Gn g w w1 d b r f L e x k p h us vs/\TrO w1 (fun c=>n0<=c) y a
def Zh4 (d w:Yh) (a b r:Nat) (c:Yi) (L:List Tok) (s:PS) (x:NV) (k p:Int) (e:List Txt) (us:List Int) (vs:List (NV×Tr)) (n0:Nat) (u:Yi) (w1:Yh):Prop:=
 ∃z:Nat,u=Yc (Ya ⟨z,0,Yb⟩) 1 1/\Gn d w w1 a b r c L s x k p e us vs/\Zk w1 z 55 Zbo/\n0<=w1.heap.size
def Zi3 (g w:Yh) (d b r:Nat) (f:Yi) (L:List Tok) (e:PS) (x:NV) (k p:Int) (h:List Txt) (us:List Int) (vs:List (NV×Tr)) (n0:Nat) (a:Tr) (v u:Yi) (w2:Yh):Prop:=
 ∃(y:NV) (z:Nat),v=ZbQ (y,a)/\u=Yc (Ya ⟨z,0,Yb⟩) 1 1/\Gn g w w2 d b r f L e x k p h us vs/\TrO w2 (fun c=>n0<=c) y a/\Zk w2 z 55 Zbo
section
variable {w0 w w1 w2:Yh} {bp b r:Nat} {vL:Yi} {L:List Tok} {s s2:PS} {x:NV} {k p:Int} {ws:List Txt} {us:List Int} {vs:List (NV×Tr)} {n0:Nat} {tr:Tr} {v u:Yi}
theorem Gn.loose (h:Gn w0 w w1 bp b r vL L s x k p ws us vs):∃A n c B m d C q e,Gn w0 w w1 bp b r vL L s (Yc A n c,Yc B m d,Yc C q e) k p ws us vs:=by obtain⟨A,n,c,B,m,d,C,q,e,rfl⟩:=h.shape;exact⟨A,n,c,B,m,d,C,q,e,h⟩
theorem Zi4.built (h:Zi4 w0 w bp b r vL L s2 x k p ws us vs n0 tr v w1):Zi3 w0 w bp b r vL L s2 x k p ws us vs n0 tr v (Yc (Ya ⟨w1.heap.size,0,Yb⟩) 1 1) (w1.alloc (Yg #[Yd Yf 0,Yc Yb 0 0,Yc Yb 0 0,Yc Yb 0 0,Yd Yf 0,Yc Yb 0 0] 55)):=by obtain⟨y,rfl,a,c⟩:=h;exact⟨y,_,rfl,rfl,a.below (below_alloc1 _ _),c.keep (below_alloc1 _ _),Zk.start _ _ _⟩
theorem Gn.built (h:Gn w0 w w1 bp b r vL L s x k p ws us vs) (hn:n0<=w1.heap.size):Zh4 w0 w bp b r vL L s x k p ws us vs n0 (Yc (Ya ⟨w1.heap.size,0,Yb⟩) 1 1) (w1.alloc (Yg #[Yd Yf 0,Yc Yb 0 0,Yc Yb 0 0,Yc Yb 0 0,Yd Yf 0,Yc Yb 0 0] 55)):=
 ⟨_,rfl,h.below (below_alloc1 _ _),Zk.start _ _ _,by simp;omega⟩
theorem Zh4.called (h:Zh4 w0 w bp b r vL L s x k p ws us vs n0 u w1) {y:NV} (f:ParS w0 w2 bp vL L s2) (g:TrO w2 (fun c=>w1.heap.size<=c) y tr) (d:Fp w1 w2 bp):Zi3 w0 w bp b r vL L s2 x k p ws us vs n0 tr (ZbQ (y,tr)) u w2:=by obtain⟨z,rfl,a,e,hn⟩:=h;exact⟨y,z,rfl,rfl,a.call f d,g.mono fun c hc=>Nat.le_trans hn hc,d.tblk e (Zeb e a.P.box (by decide))⟩
theorem Zi4.G (h:Zi4 w0 w bp b r vL L s2 x k p ws us vs n0 tr v w1):w1.cell? ⟨b,5,Yb⟩=Ya x.2.2:=by obtain⟨y,_,a,_⟩:=h;exact a.cells.2.2.2.2.2
theorem Zh4.G (h:Zh4 w0 w bp b r vL L s x k p ws us vs n0 u w1):w1.cell? ⟨b,5,Yb⟩=Ya x.2.2/\ParS w0 w1 bp vL L s:=by obtain⟨z,_,a,_⟩:=h;exact⟨a.cells.2.2.2.2.2,a.P⟩
theorem Zi3.G (h:Zi3 w0 w bp b r vL L s2 x k p ws us vs n0 tr v u w2):w2.cell? ⟨b,5,Yb⟩=Ya x.2.2:=by obtain⟨y,z,_,_,a,_⟩:=h;exact a.cells.2.2.2.2.2
theorem ZjN {w:Yh} {z:Nat} (h:Zk w z 55 Zbo):ZO w (z+1) 6 (Ya ⟨z,0,Yb⟩) 1 Zbo.toList:=by refine⟨rfl,fun _=>⟨_,rfl,Nat.lt_succ_self _,fun j u a=>?_⟩⟩;rw[Addr.add_lit,Nat.zero_add,h.blk.cell j];rw[<-a];simp
end
end
section
open Go.RowKit
mutual
def Zci:Tr->Int->Int
 |.mk _ _ _ p ks,a=>if 24<a then p else Zef ks (a+1)
def Zef:List Tr->Int->Int
 |[],_=>-1
 |t::r,a=>if 0<=Zci t a then Zci t a else Zef r a
end
theorem Zmx {W w:Yh} {n:Yi} {vs:List (NV×Tr)} (l:W.ownsRow 0 55 6 n vs.length (ZaZ vs)) (o:Below W.heap.size W w) {i:Nat} {y:NV×Tr} (m:vs[i]? = Ya y) :
  ∃g c,n=Yc (Ya ⟨g,0,Yb⟩) vs.length c/\w.cell? ⟨g,i*6,Yb⟩=Ya (Yd Yf y.2.kd)/\w.cell? ⟨g,i*6+1,Yb⟩=Ya y.1.1/\w.cell? ⟨g,i*6+2,Yb⟩=Ya y.1.2.1/\w.cell? ⟨g,i*6+3,Yb⟩=Ya (Yc Yb 0 0)/\w.cell? ⟨g,i*6+4,Yb⟩=Ya (Yd Yf y.2.ps)/\w.cell? ⟨g,i*6+5,Yb⟩=Ya y.1.2.2:=by
 have s:=(List.getElem?_eq_some_iff.1 m).1;obtain⟨g,k,e,_,q⟩:=l.form (by omega);refine⟨g,k,e,?_⟩
 have h:∀j u,(ZaZ vs)[j]? = Ya u->w.cell? ⟨g,j,Yb⟩=Ya u:=fun j u r=>by
  have:=l.cells (g:=g) (by rw[e];rfl) j u r;rw[Addr.add_lit,Nat.zero_add]at this;exact(o.cell (p:=⟨g,j,Yb⟩) q).trans this
 obtain⟨a,b,c,d,e1,f⟩:=ZjG vs i y m;exact⟨h _ _ a,h _ _ b,h _ _ c,h _ _ d,h _ _ e1,h _ _ f⟩
theorem Zpd {W:Yh} {Q:Nat->Prop} {x:NV} {t:Tr} (h:TrO W Q x t):∀(w:Yh) (a:Int),Below W.heap.size W w->0<=a->a<=1000 ->
  Calls Tryz.prog 19 #[ZbQ (x,t),Yd Yf a] w fun e w'=>e=.returned (Yd Yf (Zci t a))/\Below w.heap.size w w':=by
 induction h with
 |@mk Q wv uv lv k p ws us vs hw hm hu hl hq he ih=>
  intro w a O L V;have S1:=Zbh hw;have S2:=Zbh hu;have S3:=ZbB hl;obtain⟨A,n,c,rfl⟩:=S1;obtain⟨B,m,d,rfl⟩:=S2;obtain⟨C,e,rfl⟩:=S3;have K:=below_alloc1 w (Yg #[Yd Yf k,Yc A n c,Yc B m d,Yc Yb 0 0,Yd Yf p,Yc C vs.length e] 55);have G:=Zk.start w #[Yd Yf k,Yc A n c,Yc B m d,Yc Yb 0 0,Yd Yf p,Yc C vs.length e] 55;generalize am:w.alloc (Yg #[Yd Yf k,Yc A n c,Yc B m d,Yc Yb 0 0,Yd Yf p,Yc C vs.length e] 55)=Y at *;have z:=fun i=>G.blk.cell i;have z4:=z 4;have z5:=z 5;simp only[List.getElem?_toArray,List.getElem?_cons_zero,List.getElem?_cons_succ]at z4 z5;have wa:IntKind.i64.wrap (a+1)=a+1:=IntWalk.i64_in _ (by omega);have r:vs.length<=maxLen:=by
   rcases hl.2 with⟨_,q⟩|⟨_,ak,_,q,_,_,h3,h4,_⟩
   ·omega
   ·injection q with _ q2 q3;omega
  have f:=zh (zi hl (zi he (zi ih (zi O (zi L (zi K r))))));have HT:=zh G;by_cases E:24<a
  ·have F:Zci (.mk k ws us p (vs.map (·.2))) a=p:=by rw[Zci,Yo E]
   rw[F];dsimp only[ZbQ,Tr.kd,Tr.ps];clear z G K hw hm hu hl hq he ih O L V F r wa;go_enter Tryz.func19,Tryz.ntmps19;go_wp2_with fail;go_ret;exact⟨rfl,f.out.2.2.2.2.2.1⟩
  ·have F:Zci (.mk k ws us p (vs.map (·.2))) a=Zef (vs.map (·.2)) (a+1):=by rw[Zci,Yn E]
   obtain⟨R,M⟩:∃R,R=Zef (vs.map (·.2)) (a+1):=⟨_,rfl⟩
   rw[F,<-M];dsimp only[ZbQ,Tr.kd,Tr.ps];have T:=zh (zi M (show a<=24 by omega));clear z G K hw hm hu hl hq he ih O L V F M r z4;go_enter Tryz.func19,Tryz.ntmps19;go_upto_region 4 with fail;go_loopg [5,6] vs.length (fun g v5 v6 wr=>∃i:Nat,v5=Yd Yf i/\i<=vs.length/\g=vs.length-i/\R=Zef ((vs.map (·.2)).drop i) (a+1)/\Below Y.heap.size Y wr)
   case atStart=>exact⟨0,rfl,Nat.zero_le _,rfl,by simpa using T.out.1,Below.refl _ _⟩
   case round=>
    obtain⟨i,rfl,X,P,u,j⟩:=hrel;have y5:wr.cell? ⟨w.heap.size,5,Yb⟩=Ya (Yc C vs.length e):=(j.cell (p:=⟨w.heap.size,5,Yb⟩) HT.out.lt).trans z5;by_cases s:i<vs.length
    ·obtain⟨y,H⟩:∃y,vs[i]? = Ya y:=⟨_,Ym s⟩
     have N:Below W.heap.size W wr:=(f.out.2.2.2.1.trans (f.out.2.2.2.2.2.1.mono f.out.2.2.2.1.size)).trans (j.mono (Nat.le_trans f.out.2.2.2.1.size f.out.2.2.2.2.2.1.size));obtain⟨g,e',hC,c0,c1,c2,c3,c4,c5⟩:=Zmx f.out.1 N H;injection hC with hC1 _ hC2;subst hC1 hC2;have o:=List.mem_of_getElem? H;have U:=(f.out.2.1 y o).shape2;have J:=zh (f.out.2.2.1 y o wr (a+1) N (by have:=f.out.2.2.2.2.1;omega) (by have:=T.out.2;omega));have hd:(vs.map (·.2)).drop i=y.2::(vs.map (·.2)).drop (i+1):=List.drop_eq_getElem?_toList_append.trans (by rw[List.getElem?_map,H];rfl);rw[hd,Zef]at u;obtain⟨⟨y1,y2,y3⟩,Z⟩:=y;dsimp only at c0 c1 c2 c3 c4 c5 U u J;obtain⟨yA,yn,yc,yB,ym,yd,yC,yq,ye,S⟩:=U;injection S with q1 q2;injection q2 with q2 q3;subst q1 q2 q3;have i1:(i:Int)<(vs.length:Int):=by omega
     have i0:(0:Int)<=(i:Int):=by omega
     have wi:IntKind.i64.wrap ((i:Int)+1)=((i+1:Nat):Int):=by push_cast;exact IntWalk.i64_in _ (by have:=f.out.2.2.2.2.2.2;unfold maxLen at this;omega)
     have v:=zh (zi s (zi P j));clear s X P j N o H hd;by_cases hk:0<=Zci Z (a+1)
     ·have b:R=Zci Z (a+1):=by rw[u,Yo hk]
      have D:=zh b;clear u b;go_wp2_with (go_at_call 19;(refine J.out.mono ?_);rintro e w3 ⟨rfl,l⟩;have I:=zh l;clear l);go_ret;rw[D.out];exact⟨rfl,f.out.2.2.2.2.2.1.trans ((v.out.2.2.trans (I.out.mono v.out.2.2.size)).mono f.out.2.2.2.2.2.1.size)⟩
     ·have b:R=Zef ((vs.map (·.2)).drop (i+1)) (a+1):=by rw[u,Yn hk]
      have D:=zh b;clear u b;go_wp2_with (go_at_call 19;(refine J.out.mono ?_);rintro e w3 ⟨rfl,l⟩;have I:=zh l;clear l);go_roundg (vs.length-(i+1))
      case measure=>have:=v.out.1;have:=v.out.2.1;omega
      case rel=>exact⟨i+1,by push_cast;rfl,v.out.1,rfl,D.out,v.out.2.2.trans (I.out.mono v.out.2.2.size)⟩
    ·obtain rfl:i=vs.length:=by omega
     have b:R=-1:=by rw[u,List.drop_of_length_le (by simp)];rfl
     have D:=zh (zi b j);clear u b j s X P;go_wp2_with fail;go_ret;rw[D.out.1];exact⟨rfl,f.out.2.2.2.2.2.1.trans (D.out.2.mono f.out.2.2.2.2.2.1.size)⟩
end
end Go.Proofs.YtdkegpkfjgloeaaGreatDoor
