import Derived.Test.YtkongcicmajolaaGreatDoorQBC
set_option maxRecDepth 100000
set_option maxHeartbeats 8000000
namespace Go.Proofs.YtkongcicmajolaaGreatDoor
section
open Go.RowKit
abbrev ZeZ:NV:=(.slice none 0 0,.slice none 0 0,.slice none 0 0)
theorem Zgk (w:World) (cs:Array Value) (ty:TypeId) (j:Nat) (u:Value) (h:cs[j]? = some u):(w.alloc (.cells cs ty)).cell? (Addr.add ⟨w.heap.size,0,none⟩ j)=some u:=by
 rw [Addr.add_lit,Nat.zero_add,(Blk.start w cs ty).cell j]
 exact h
theorem Zdp (w:World) (u:Value) (ty:TypeId):ZM (w.alloc (.cells #[u] ty)) (w.heap.size+1) 1 (some ⟨w.heap.size,0,none⟩) 1 [u]:=
 ⟨rfl,fun _=>⟨_,rfl,Nat.lt_succ_self _,fun j v hj=>Zgk w #[u] ty j v (by simpa using hj)⟩⟩
theorem ZhY (y:Txt):∀ u∈[txt y],u.oneCell'=true:=fun u hu=>by rw [List.mem_singleton.1 hu];rfl
theorem Zq1 (y:Int):∀ u∈[Value.int .i64 y],u.oneCell'=true:=fun u hu=>by rw [List.mem_singleton.1 hu];rfl
theorem Zbc {w:World} {base n size:Nat} {e:TypeId} {v:Value} {xs:List Value} (h:w.ownsRow base e size v n xs):∃ A k c,v=.slice A k c:=by
 obtain ⟨A,c,rfl⟩:=Zby h
 exact ⟨_,_,_,rfl⟩
section
variable {w0 w wi w1 w3:World} {bp b r:Nat} {vL:Value} {L:List Tok} {s s2:PS} {x:NV} {k p:Int} {ws:List Txt} {us:List Int} {vs:List (NV×Tr)}
theorem ZY {y:Txt} (h:ParS w0 w bp vL L s) (hy:isM L y s=true):Calls Tryz.prog 73 #[.pointer (some ⟨bp,0,none⟩),txt y] w (Got w0 bp vL L w (.bool true) (Zd s)):=by
 have q:=Zgr w0 w bp vL L s y h
 rw [hy,show (Zdr L y s).2=Zd s by unfold Zdr;rw [if_pos hy]] at q
 exact q
theorem ZQ {y:Txt} (h:ParS w0 w bp vL L s) (hy:isM L y s=false):Calls Tryz.prog 73 #[.pointer (some ⟨bp,0,none⟩),txt y] w (Got w0 bp vL L w (.bool false) s):=by
 have q:=Zgr w0 w bp vL L s y h
 rw [hy,show (Zdr L y s).2=s by unfold Zdr;rw [hy];rfl] at q
 exact q
theorem ParS.name_len (h:ParS w0 w bp vL L s):(Zb L s).1.length<=maxLen:=by
 have key:∀ j,(Zi L j).2.1.length<=maxLen:=fun j=>by
  unfold Zi
  cases e:L[j]? with
  | none=>exact Nat.zero_le _
  | some t=>have:=h.few.2.2 t (List.mem_of_getElem? e);show t.2.1.length<=maxLen;unfold maxLen;omega
 unfold Zb
 by_cases q:ZaZ L s=true
 ·rw [if_pos q]
  unfold ZaK
  split<;>exact key _
 ·rw [if_neg q];exact Nat.zero_le _
theorem Gn.start (h:ParS w0 w bp vL L s) {wa:World} (ha:w.alloc (.cells Zbj 58)=wa) (hb:Below wa.heap.size wa w1) :
  Gn w0 w (w1.alloc (.cells #[.int .i64 k,.slice none 0 0,.slice none 0 0,.slice none 0 0,.int .i64 p,.slice none 0 0] 58)) bp w1.heap.size w.heap.size vL L s ZeZ k p [] [] []:=by
 subst ha
 have a0:=below_alloc1 w (.cells Zbj 58)
 have a2:=below_alloc1 w1 (.cells #[.int .i64 k,.slice none 0 0,.slice none 0 0,.slice none 0 0,.int .i64 p,.slice none 0 0] 58)
 have hs:w.heap.size<w1.heap.size:=Nat.lt_of_lt_of_le (by simp) hb.size
 have all:Below w.heap.size w (w1.alloc (.cells #[.int .i64 k,.slice none 0 0,.slice none 0 0,.slice none 0 0,.int .i64 p,.slice none 0 0] 58)):=(a0.trans (hb.mono a0.size)).trans (a2.mono (Nat.le_of_lt hs))
 exact ⟨h.keep all,Fp.of_below bp all,Zh.start w1 _ _,World.ownsRow_nil _ _ _ _,fun _ hq=>(nomatch hq),World.ownsRow_nil _ _ _ _,World.ownsRow_nil _ _ _ _,⟨by simp [Value.ownBlock],by simp [Value.ownBlock]⟩,fun _ hq=>(nomatch hq),fun _=>((Zh.start w Zbj _).keep hb).keep a2,⟨Nat.le_of_lt hs,fun _=>Nat.le_refl _,Nat.ne_of_gt hs,h.below.size⟩⟩
theorem Gn.side (h:ParS w0 w bp vL L s) (hb:Below w.heap.size w w1) :
  Gn w0 w (w1.alloc (.cells #[.int .i64 k,.slice none 0 0,.slice none 0 0,.slice none 0 0,.int .i64 p,.slice none 0 0] 58)) bp w1.heap.size 0 vL L s ZeZ k p [] [] []:=by
 have a2:=below_alloc1 w1 (.cells #[.int .i64 k,.slice none 0 0,.slice none 0 0,.slice none 0 0,.int .i64 p,.slice none 0 0] 58)
 have all:=hb.trans (a2.mono hb.size)
 have:=h.box.lt
 have:=hb.size
 exact ⟨h.keep all,Fp.of_below bp all,Zh.start w1 _ _,World.ownsRow_nil _ _ _ _,fun _ hq=>(nomatch hq),World.ownsRow_nil _ _ _ _,World.ownsRow_nil _ _ _ _,⟨by simp [Value.ownBlock],by simp [Value.ownBlock]⟩,fun _ hq=>(nomatch hq),fun q=>absurd rfl q,⟨hb.size,fun q=>absurd rfl q,by omega,h.below.size⟩⟩
theorem ParS.size0 (h:ParS w0 w bp vL L s):w.heap.size≠0:=by have:=h.box.lt;omega
theorem Gn.cells (h:Gn w0 w wi bp b r vL L s x k p ws us vs):wi.cell? ⟨b,0,none⟩=some (.int .i64 k)/\wi.cell? ⟨b,1,none⟩=some x.1/\wi.cell? ⟨b,2,none⟩=some x.2.1/\wi.cell? ⟨b,3,none⟩=some (.slice none 0 0)/\wi.cell? ⟨b,4,none⟩=some (.int .i64 p)/\wi.cell? ⟨b,5,none⟩=some x.2.2:=by
 have c:=fun i=>h.K.blk.cell i
 exact ⟨c 0,c 1,c 2,c 3,c 4,c 5⟩
theorem Gn.free (h:Gn w0 w wi bp b r vL L s x k p ws us vs) (i:Nat):wi.frozen? ⟨b,i,none⟩=false:=h.K.blk.free i
theorem Gn.zeros (h:Gn w0 w wi bp b r vL L s x k p ws us vs) (hr:r≠0):wi.cell? ⟨r,0,none⟩=some (.int .i64 0)/\wi.cell? ⟨r,1,none⟩=some (.slice none 0 0)/\wi.cell? ⟨r,2,none⟩=some (.slice none 0 0)/\wi.cell? ⟨r,3,none⟩=some (.slice none 0 0)/\wi.cell? ⟨r,4,none⟩=some (.int .i64 0)/\wi.cell? ⟨r,5,none⟩=some (.slice none 0 0):=by
 have c:=fun i=>(h.R hr).blk.cell i
 exact ⟨c 0,c 1,c 2,c 3,c 4,c 5⟩
theorem Gn.rfree (h:Gn w0 w wi bp b r vL L s x k p ws us vs) (hr:r≠0) (i:Nat):wi.frozen? ⟨r,i,none⟩=false:=(h.R hr).blk.free i
theorem Gn.shape (h:Gn w0 w wi bp b r vL L s x k p ws us vs):∃ A n c B m d C q e,x=(.slice A n c,.slice B m d,.slice C q e):=by
 obtain ⟨wv,uv,lv⟩:=x
 obtain ⟨A,n,c,h1⟩:=Zbc h.W
 obtain ⟨B,m,d,h2⟩:=Zbc h.U
 obtain ⟨C,q,e,h3⟩:=Zbc h.V
 dsimp only at h1 h2 h3
 subst h1 h2 h3
 exact ⟨A,n,c,B,m,d,C,q,e,rfl⟩
theorem TrO.shape2 {Q:Nat->Prop} {y:NV} {t:Tr} (h:TrO w Q y t):∃ A n c B m d C q e,y=(.slice A n c,.slice B m d,.slice C q e):=by
 obtain ⟨A,c,B,d,C,e,rfl⟩:=h.shape
 exact ⟨_,_,_,_,_,_,_,_,_,rfl⟩
theorem Gn.listed {ys:List Int} (h:Gn w0 w wi bp b r vL L s x k p ws [] []) (hy:ys.length<=maxLen) :
  Gn w0 w ((wi.alloc (.cells (ys.map (Value.int .i64)).toArray 2)).setCell ⟨b,2,none⟩ (.slice (some ⟨wi.heap.size,0,none⟩) ys.length ys.length)) bp b r vL L s (x.1,.slice (some ⟨wi.heap.size,0,none⟩) ys.length ys.length,x.2.2) k p ws ys []:=by
 have hown:(wi.alloc (.cells (ys.map (Value.int .i64)).toArray 2)).ownsRow w.heap.size 2 1 (.slice (some ⟨wi.heap.size,0,none⟩) ys.length ys.length) (([]:List Int).length+ys.length) (([]:List Int).map (Value.int .i64)++ys.map (Value.int .i64)):=by
  rw [show ([]:List Int).length+ys.length=ys.length by simp]
  refine ⟨by simp,.inr ⟨wi.heap.size,ys.length,(ys.map (Value.int .i64)).toArray,rfl,h.F.size,Zh.start wi _ _,Nat.le_refl _,hy,by simp,?_⟩⟩
  simp only [Nat.mul_one,List.map_nil,List.nil_append]
  rw [List.take_of_length_le (by simp)]
 exact (h.nums hown (Zd9 (below_alloc1 wi _) _)).2.2
abbrev Zcz (w0:World) (bp:Nat) (vL:Value) (L:List Tok) (w:World) (t:Tr) (s2:PS) (e:Ending) (w':World):Prop:=∃ x:NV,e=.returned (ZbQ (x,t))/\ParS w0 w' bp vL L s2/\TrO w' (fun c=>w.heap.size<=c) x t/\Fp w w' bp
theorem Gn.out (h:Gn w0 w wi bp b r vL L s x k p ws us vs) (hr:r≠0) (u0 u1 u2 u3 u4 u5:Value) :
  ParS w0 (ZfC wi r u0 u1 u2 u3 u4 u5) bp vL L s/\TrO (ZfC wi r u0 u1 u2 u3 u4 u5) (fun c=>w.heap.size<=c) x (.mk k ws us p (vs.map (·.2)))/\Fp w (ZfC wi r u0 u1 u2 u3 u4 u5) bp:=by
 have g:wi.grownBy (ZfC wi r u0 u1 u2 u3 u4 u5) (some r):=((((Zas.trans Zas).trans Zas).trans Zas).trans Zas).trans Zas
 obtain ⟨h1,h2⟩:=h.grow g (fun e=>h.bne.2 hr (by injection e)) (fun q hq=>by injection hq with hq;subst hq;exact h.B.2.1 hr)
 refine ⟨h1,(h.tree.kept g (fun c e=>?_)).mono (fun c hc=>hc.1),h2⟩
 injection e with e
 subst e
 exact ⟨_,_,h.R hr,by decide,by decide,.inr fun c hc=>hc.2.2⟩
end
end
section
open Go.RowKit
theorem Zd5 (w:World) (u0 u1 u2 u3 u4 u5:Value) (ty:TypeId):ZM (w.alloc (.cells #[u0,u1,u2,u3,u4,u5] ty)) (w.heap.size+1) 6 (some ⟨w.heap.size,0,none⟩) 1 [u0,u1,u2,u3,u4,u5]:=
 ⟨rfl,fun _=>⟨_,rfl,Nat.lt_succ_self _,fun j v hj=>Zgk w #[u0,u1,u2,u3,u4,u5] ty j v (by simpa using hj)⟩⟩
theorem Zea (k p:Int) (A B C D:Option Addr) (n c m d q e f g:Nat):∀ u∈[Value.int .i64 k,.slice A n c,.slice B m d,.slice C q e,.int .i64 p,.slice D f g],u.oneCell'=true:=fun u hu=>by
 simp at hu
 rcases hu with rfl | rfl | rfl | rfl | rfl | rfl<;>rfl
theorem Zd8 (w:World) (g n b:Nat) (v u0 u1 u2 u3 u4 u5:Value) (h:g≠b):(((((((w.setCell ⟨b,5,none⟩ v).setCell ⟨g,n*6,none⟩ u0).setCell ⟨g,n*6+1,none⟩ u1).setCell ⟨g,n*6+2,none⟩ u2).setCell ⟨g,n*6+3,none⟩ u3).setCell ⟨g,n*6+4,none⟩ u4).setCell ⟨g,n*6+5,none⟩ u5)=(((((((w.setCell ⟨g,n*6,none⟩ u0).setCell ⟨g,n*6+1,none⟩ u1).setCell ⟨g,n*6+2,none⟩ u2).setCell ⟨g,n*6+3,none⟩ u3).setCell ⟨g,n*6+4,none⟩ u4).setCell ⟨g,n*6+5,none⟩ u5).setCell ⟨b,5,none⟩ v):=by
 have c:∀ (X:World) (j:Nat) (u:Value),(X.setCell ⟨b,5,none⟩ v).setCell ⟨g,j,none⟩ u=(X.setCell ⟨g,j,none⟩ u).setCell ⟨b,5,none⟩ v:=fun X j u=>Zlr X ⟨b,5,none⟩ ⟨g,j,none⟩ v u (fun e=>h e.symm)
 rw [c,c,c,c,c,c]
section
variable {w0 w wi w3 w4:World} {bp b r:Nat} {vL:Value} {L:List Tok} {s:PS} {x:NV} {k p:Int} {ws:List Txt} {us:List Int} {vs:List (NV×Tr)}
theorem Gn.apart (h:Gn w0 w wi bp b r vL L s x k p ws us vs) {c:Nat} (hc:wi.heap.size<=c):w.heap.size<=c/\c≠b/\c≠r/\x.2.2.ownBlock≠some c:=by
 have h1:=h.K.lt
 have h2:r=0\/r<wi.heap.size:=by
  by_cases q:r=0
  ·exact .inl q
  ·exact .inr (h.R q).lt
 have h3:=h.B
 exact ⟨by omega,by omega,by omega,fun e=>by have:=(h.V.lt c e).2;omega⟩
theorem Gn.klen {C:Option Addr} {q e:Nat} {a1 a2:Value} (h:Gn w0 w wi bp b r vL L s (a1,a2,.slice C q e) k p ws us vs):q=vs.length:=by
 obtain ⟨A,c,h1⟩:=Zby h.V
 injection h1
theorem Zd6 {B n:Nat} {v:Value} {xs:List Value} {w:World} (h:w.ownsRow B 58 6 v (n+1) xs):∃ g c,v=.slice (some ⟨g,0,none⟩) (n+1) c/\∀ j,w.frozen? ⟨g,j,none⟩=false:=by
 rcases h.2 with ⟨_,h0⟩ | ⟨g,cap,cur,rfl,_,hg,_⟩
 ·omega
 ·exact ⟨g,cap,rfl,fun j=>Blk.free ⟨_,hg⟩ j⟩
theorem ZoD {v v2:Value} {g:Nat} (hg:wi.grownBy w3 v.ownBlock) (hor:v2.ownBlock=v.ownBlock\/v2.ownBlock=some wi.heap.size) (hv:v2.ownBlock=some g) (h:w3.grownBy w4 (some g)):wi.grownBy w4 v.ownBlock:=
 ⟨h.os.trans hg.os,h.tape.trans hg.tape,h.output.trans hg.output,Nat.le_trans hg.size h.size,fun c hc hn=>by
  refine (h.block c (Nat.lt_of_lt_of_le hc hg.size) (fun e=>?_)).trans (hg.block c hc hn)
  rcases hor with q | q
  ·exact hn (by rw [<- q,hv];exact e)
  ·rw [hv] at q;injection q with q;injection e with e;omega⟩
theorem Gn.V2 (h:Gn w0 w wi bp b r vL L s x k p ws us vs) {n:Nat} (hn:n=vs.length):wi.ownsRow w.heap.size 58 6 x.2.2 n (ZaY vs):=hn▸h.V
theorem Gn.gne {v:Value} {g:Nat} (h:Gn w0 w wi bp b r vL L s x k p ws us vs) (hor:v.ownBlock=x.2.2.ownBlock\/v.ownBlock=some wi.heap.size) (hv:v.ownBlock=some g):g≠b:=fun e=>by
 subst e
 rcases hor with q | q
 ·exact h.N.1 (q▸hv)
 ·rw [hv] at q
  injection q with q
  have:=h.K.lt
  omega
theorem Gn.zeroed {g c n:Nat} {y:NV×Tr} {Q:Nat->Prop} (h:Gn w0 w wi bp b r vL L s x k p ws us vs) (hn:n=vs.length) (hy:TrO wi Q y.1 y.2) (hQ:∀ c,Q c->w.heap.size<=c/\c≠b/\c≠r/\x.2.2.ownBlock≠some c)
  (hown:w3.ownsRow w.heap.size 58 6 (.slice (some ⟨g,0,none⟩) (n+1) c) (n+1) (ZaY vs++Zbj.toList)) (hg:wi.grownBy w3 x.2.2.ownBlock) (hor:Value.ownBlock (.slice (some ⟨g,0,none⟩) (n+1) c)=x.2.2.ownBlock\/Value.ownBlock (.slice (some ⟨g,0,none⟩) (n+1) c)=some wi.heap.size) :
  w3.cell? ⟨b,5,none⟩=some x.2.2/\(w3.cell? ⟨g,n*6,none⟩=some (.int .i64 0)/\w3.cell? ⟨g,n*6+1,none⟩=some (.slice none 0 0)/\w3.cell? ⟨g,n*6+2,none⟩=some (.slice none 0 0)/\w3.cell? ⟨g,n*6+3,none⟩=some (.slice none 0 0)/\w3.cell? ⟨g,n*6+4,none⟩=some (.int .i64 0)/\w3.cell? ⟨g,n*6+5,none⟩=some (.slice none 0 0))/\(∀ j,w3.frozen? ⟨g,j,none⟩=false) ∧
  (∀ c2,c2<wi.heap.size->x.2.2.ownBlock≠some c2->∀ j,((((((w3.setCell ⟨g,n*6,none⟩ (.int .i64 y.2.kd)).setCell ⟨g,n*6+1,none⟩ y.1.1).setCell ⟨g,n*6+2,none⟩ y.1.2.1).setCell ⟨g,n*6+3,none⟩ (.slice none 0 0)).setCell ⟨g,n*6+4,none⟩ (.int .i64 y.2.ps)).setCell ⟨g,n*6+5,none⟩ y.1.2.2).cell? ⟨c2,j,none⟩=wi.cell? ⟨c2,j,none⟩/\w3.cell? ⟨c2,j,none⟩=wi.cell? ⟨c2,j,none⟩) ∧
  ((((((w3.setCell ⟨g,n*6,none⟩ (.int .i64 y.2.kd)).setCell ⟨g,n*6+1,none⟩ y.1.1).setCell ⟨g,n*6+2,none⟩ y.1.2.1).setCell ⟨g,n*6+3,none⟩ (.slice none 0 0)).setCell ⟨g,n*6+4,none⟩ (.int .i64 y.2.ps)).setCell ⟨g,n*6+5,none⟩ y.1.2.2).cell? ⟨b,5,none⟩=some x.2.2 ∧
  ((((((w3.setCell ⟨g,n*6,none⟩ (.int .i64 y.2.kd)).setCell ⟨g,n*6+1,none⟩ y.1.1).setCell ⟨g,n*6+2,none⟩ y.1.2.1).setCell ⟨g,n*6+3,none⟩ (.slice none 0 0)).setCell ⟨g,n*6+4,none⟩ (.int .i64 y.2.ps)).setCell ⟨g,n*6+5,none⟩ y.1.2.2).frozen? ⟨b,5,none⟩=false ∧
  Gn w0 w (((((((w3.setCell ⟨g,n*6,none⟩ (.int .i64 y.2.kd)).setCell ⟨g,n*6+1,none⟩ y.1.1).setCell ⟨g,n*6+2,none⟩ y.1.2.1).setCell ⟨g,n*6+3,none⟩ (.slice none 0 0)).setCell ⟨g,n*6+4,none⟩ (.int .i64 y.2.ps)).setCell ⟨g,n*6+5,none⟩ y.1.2.2).setCell ⟨b,5,none⟩ (.slice (some ⟨g,0,none⟩) (n+1) c)) bp b r vL L s (x.1,x.2.1,.slice (some ⟨g,0,none⟩) (n+1) c) k p ws us (vs++[y]):=by
 subst hn
 have kb:=h.K.grown hg h.N.1
 obtain ⟨k1,k2,k3⟩:=ZqW hown y
 have g4:=ZoD hg hor rfl k2
 obtain ⟨q1,q2,q3⟩:=h.kid hy hQ k1 g4 hor
 refine ⟨kb.blk.cell 5,⟨k3 0,k3 1,k3 2,k3 3,k3 4,k3 5⟩,fun j=>?_,fun c2 h2 hne j=>⟨World.cell?_of_block (g4.block c2 h2 (fun e=>hne e.symm)),World.cell?_of_block (hg.block c2 h2 (fun e=>hne e.symm))⟩,q1,q2,q3⟩
 rcases hown.2 with ⟨e,_⟩ | ⟨g2,cap,cur,e,_,hgg,_⟩
 ·simp at e
 ·simp only [Value.slice.injEq,Option.some.injEq,Addr.mk.injEq,and_true,true_and] at e
  obtain ⟨rfl,_⟩:=e
  exact Blk.free ⟨_,hgg⟩ j
end
end
section
open Go.RowKit
def Zjp (w0 w:World) (bp b r:Nat) (vL:Value) (L:List Tok) (s2:PS) (x:NV) (k p:Int) (ws:List Txt) (us:List Int) (vs:List (NV×Tr)) (n0:Nat) (tr:Tr) (v:Value) (w1:World):Prop:=
 ∃ y:NV,v=ZbQ (y,tr)/\Gn w0 w w1 bp b r vL L s2 x k p ws us vs/\TrO w1 (fun c=>n0<=c) y tr
def Zia (w0 w:World) (bp b r:Nat) (vL:Value) (L:List Tok) (s:PS) (x:NV) (k p:Int) (ws:List Txt) (us:List Int) (vs:List (NV×Tr)) (n0:Nat) (u:Value) (w1:World):Prop:=
 ∃ z:Nat,u=.slice (some ⟨z,0,none⟩) 1 1/\Gn w0 w w1 bp b r vL L s x k p ws us vs/\Zh w1 z 58 Zbj/\n0<=w1.heap.size
def Zjo (w0 w:World) (bp b r:Nat) (vL:Value) (L:List Tok) (s2:PS) (x:NV) (k p:Int) (ws:List Txt) (us:List Int) (vs:List (NV×Tr)) (n0:Nat) (tr:Tr) (v u:Value) (w2:World):Prop:=
 ∃ (y:NV) (z:Nat),v=ZbQ (y,tr)/\u=.slice (some ⟨z,0,none⟩) 1 1/\Gn w0 w w2 bp b r vL L s2 x k p ws us vs/\TrO w2 (fun c=>n0<=c) y tr/\Zh w2 z 58 Zbj
section
variable {w0 w w1 w2:World} {bp b r:Nat} {vL:Value} {L:List Tok} {s s2:PS} {x:NV} {k p:Int} {ws:List Txt} {us:List Int} {vs:List (NV×Tr)} {n0:Nat} {tr:Tr} {v u:Value}
theorem Gn.loose (h:Gn w0 w w1 bp b r vL L s x k p ws us vs):∃ A n c B m d C q e,Gn w0 w w1 bp b r vL L s (.slice A n c,.slice B m d,.slice C q e) k p ws us vs:=by
 obtain ⟨A,n,c,B,m,d,C,q,e,rfl⟩:=h.shape
 exact ⟨A,n,c,B,m,d,C,q,e,h⟩
theorem Zjp.built (h:Zjp w0 w bp b r vL L s2 x k p ws us vs n0 tr v w1):Zjo w0 w bp b r vL L s2 x k p ws us vs n0 tr v (.slice (some ⟨w1.heap.size,0,none⟩) 1 1) (w1.alloc (.cells #[.int .i64 0,.slice none 0 0,.slice none 0 0,.slice none 0 0,.int .i64 0,.slice none 0 0] 58)):=by
 obtain ⟨y,rfl,hG,ht⟩:=h
 exact ⟨y,_,rfl,rfl,hG.below (below_alloc1 _ _),ht.keep (below_alloc1 _ _),Zh.start _ _ _⟩
theorem Gn.built (h:Gn w0 w w1 bp b r vL L s x k p ws us vs) (hn:n0<=w1.heap.size):Zia w0 w bp b r vL L s x k p ws us vs n0 (.slice (some ⟨w1.heap.size,0,none⟩) 1 1) (w1.alloc (.cells #[.int .i64 0,.slice none 0 0,.slice none 0 0,.slice none 0 0,.int .i64 0,.slice none 0 0] 58)):=
 ⟨_,rfl,h.below (below_alloc1 _ _),Zh.start _ _ _,by simp;omega⟩
theorem Zia.called (h:Zia w0 w bp b r vL L s x k p ws us vs n0 u w1) {y:NV} (hp:ParS w0 w2 bp vL L s2) (ht:TrO w2 (fun c=>w1.heap.size<=c) y tr) (hf:Fp w1 w2 bp):Zjo w0 w bp b r vL L s2 x k p ws us vs n0 tr (ZbQ (y,tr)) u w2:=by
 obtain ⟨z,rfl,hG,hz,hn⟩:=h
 exact ⟨y,z,rfl,rfl,hG.call hp hf,ht.mono fun c hc=>Nat.le_trans hn hc,hf.tblk hz (Zee hz hG.P.box (by decide))⟩
theorem Zjp.G (h:Zjp w0 w bp b r vL L s2 x k p ws us vs n0 tr v w1):w1.cell? ⟨b,5,none⟩=some x.2.2:=by
 obtain ⟨y,_,hG,_⟩:=h
 exact hG.cells.2.2.2.2.2
theorem Zia.G (h:Zia w0 w bp b r vL L s x k p ws us vs n0 u w1):w1.cell? ⟨b,5,none⟩=some x.2.2/\ParS w0 w1 bp vL L s:=by
 obtain ⟨z,_,hG,_⟩:=h
 exact ⟨hG.cells.2.2.2.2.2,hG.P⟩
theorem Zjo.G (h:Zjo w0 w bp b r vL L s2 x k p ws us vs n0 tr v u w2):w2.cell? ⟨b,5,none⟩=some x.2.2:=by
 obtain ⟨y,z,_,_,hG,_⟩:=h
 exact hG.cells.2.2.2.2.2
theorem Zj7 {w:World} {z:Nat} (h:Zh w z 58 Zbj):ZM w (z+1) 6 (some ⟨z,0,none⟩) 1 Zbj.toList:=by
 refine ⟨rfl,fun _=>⟨_,rfl,Nat.lt_succ_self _,fun j u hj=>?_⟩⟩
 rw [Addr.add_lit,Nat.zero_add,h.blk.cell j]
 rw [<- hj]
 simp
end
end
section
open Go.RowKit
mutual
def ZbK:Tr->Int->Int
 | .mk _ _ _ p ks,a=>if 24<a then p else ZdQ ks (a+1)
def ZdQ:List Tr->Int->Int
 | [],_=>-1
 | t::r,a=>if 0<=ZbK t a then ZbK t a else ZdQ r a
end
theorem ZmC {W w:World} {lv:Value} {vs:List (NV×Tr)} (hl:W.ownsRow 0 58 6 lv vs.length (ZaY vs)) (hb:Below W.heap.size W w) {i:Nat} {y:NV×Tr} (hy:vs[i]? = some y) :
  ∃ g c,lv=.slice (some ⟨g,0,none⟩) vs.length c/\w.cell? ⟨g,i*6,none⟩=some (.int .i64 y.2.kd)/\w.cell? ⟨g,i*6+1,none⟩=some y.1.1/\w.cell? ⟨g,i*6+2,none⟩=some y.1.2.1/\w.cell? ⟨g,i*6+3,none⟩=some (.slice none 0 0)/\w.cell? ⟨g,i*6+4,none⟩=some (.int .i64 y.2.ps)/\w.cell? ⟨g,i*6+5,none⟩=some y.1.2.2:=by
 have hlt:=(List.getElem?_eq_some_iff.1 hy).1
 obtain ⟨g,cap,e,_,hg⟩:=hl.form (by omega)
 refine ⟨g,cap,e,?_⟩
 have go:∀ j u,(ZaY vs)[j]? = some u->w.cell? ⟨g,j,none⟩=some u:=fun j u hj=>by
  have:=hl.cells (g:=g) (by rw [e];rfl) j u hj
  rw [Addr.add_lit,Nat.zero_add] at this
  exact (hb.cell (p:=⟨g,j,none⟩) hg).trans this
 obtain ⟨a,b,c,d,e1,f⟩:=ZjY vs i y hy
 exact ⟨go _ _ a,go _ _ b,go _ _ c,go _ _ d,go _ _ e1,go _ _ f⟩
theorem Zpb {W:World} {Q:Nat->Prop} {x:NV} {t:Tr} (h:TrO W Q x t):∀ (w:World) (a:Int),Below W.heap.size W w->0<=a->a<=1000 ->
  Calls Tryz.prog 22 #[ZbQ (x,t),.int .i64 a] w fun e w'=>e=.returned (.int .i64 (ZbK t a))/\Below w.heap.size w w':=by
 induction h with
 | @mk Q wv uv lv k p ws us vs hw hm hu hl hq he ih=>
  intro w a hb h0 h1
  have S1:=Zbc hw
  have S2:=Zbc hu
  have S3:=Zby hl
  obtain ⟨A,n,c,rfl⟩:=S1
  obtain ⟨B,m,d,rfl⟩:=S2
  obtain ⟨C,e,rfl⟩:=S3
  have a1:=below_alloc1 w (.cells #[.int .i64 k,.slice A n c,.slice B m d,.slice none 0 0,.int .i64 p,.slice C vs.length e] 58)
  have T1:=Zh.start w #[.int .i64 k,.slice A n c,.slice B m d,.slice none 0 0,.int .i64 p,.slice C vs.length e] 58
  generalize hw1:w.alloc (.cells #[.int .i64 k,.slice A n c,.slice B m d,.slice none 0 0,.int .i64 p,.slice C vs.length e] 58)=w1 at *
  have z:=fun i=>T1.blk.cell i
  have z4:=z 4
  have z5:=z 5
  simp only [List.getElem?_toArray,List.getElem?_cons_zero,List.getElem?_cons_succ] at z4 z5
  have wa:IntKind.i64.wrap (a+1)=a+1:=IntWalk.i64_in _ (by omega)
  have lenC:vs.length<=maxLen:=by
   rcases hl.2 with ⟨_,q⟩ | ⟨_,cap,_,q,_,_,h3,h4,_⟩
   ·omega
   ·injection q with _ q2 q3;omega
  have HH:=zh (zi hl (zi he (zi ih (zi hb (zi h0 (zi a1 lenC))))))
  have HT:=zh T1
  by_cases h24:24<a
  ·have hM:ZbK (.mk k ws us p (vs.map (·.2))) a=p:=by rw [ZbK,if_pos h24]
   rw [hM]
   dsimp only [ZbQ,Tr.kd,Tr.ps]
   clear z T1 a1 hw hm hu hl hq he ih hb h0 h1 hM lenC wa
   go_enter Tryz.func22,Tryz.ntmps22
   go_wp2_with fail
   go_ret
   exact ⟨rfl,HH.out.2.2.2.2.2.1⟩
  ·have hM:ZbK (.mk k ws us p (vs.map (·.2))) a=ZdQ (vs.map (·.2)) (a+1):=by rw [ZbK,if_neg h24]
   obtain ⟨R,hR⟩:∃ R,R=ZdQ (vs.map (·.2)) (a+1):=⟨_,rfl⟩
   rw [hM,<- hR]
   dsimp only [ZbQ,Tr.kd,Tr.ps]
   have HR:=zh (zi hR (show a<=24 by omega))
   clear z T1 a1 hw hm hu hl hq he ih hb h0 h1 hM hR lenC z4
   go_enter Tryz.func22,Tryz.ntmps22
   go_upto_region 4 with fail
   go_loopg [5,6] vs.length (fun g v5 v6 wr=>∃ i:Nat,v5=.int .i64 i/\i<=vs.length/\g=vs.length-i/\R=ZdQ ((vs.map (·.2)).drop i) (a+1)/\Below w1.heap.size w1 wr)
   case atStart=>exact ⟨0,rfl,Nat.zero_le _,rfl,by simpa using HR.out.1,Below.refl _ _⟩
   case round=>
    obtain ⟨i,rfl,hi,hg,hr,hbr⟩:=hrel
    have y5:wr.cell? ⟨w.heap.size,5,none⟩=some (.slice C vs.length e):=(hbr.cell (p:=⟨w.heap.size,5,none⟩) HT.out.lt).trans z5
    by_cases hlt:i<vs.length
    ·obtain ⟨y,hy⟩:∃ y,vs[i]? = some y:=⟨_,List.getElem?_eq_getElem hlt⟩
     have hW:Below W.heap.size W wr:=(HH.out.2.2.2.1.trans (HH.out.2.2.2.2.2.1.mono HH.out.2.2.2.1.size)).trans (hbr.mono (Nat.le_trans HH.out.2.2.2.1.size HH.out.2.2.2.2.2.1.size))
     obtain ⟨g,e',hC,c0,c1,c2,c3,c4,c5⟩:=ZmC HH.out.1 hW hy
     injection hC with hC1 _ hC2
     subst hC1 hC2
     have hmem:=List.mem_of_getElem? hy
     have SY:=(HH.out.2.1 y hmem).shape2
     have CT:=zh (HH.out.2.2.1 y hmem wr (a+1) hW (by have:=HH.out.2.2.2.2.1;omega) (by have:=HR.out.2;omega))
     have hd:(vs.map (·.2)).drop i=y.2::(vs.map (·.2)).drop (i+1):=List.drop_eq_getElem?_toList_append.trans (by rw [List.getElem?_map,hy];rfl)
     rw [hd,ZdQ] at hr
     obtain ⟨⟨y1,y2,y3⟩,yt⟩:=y
     dsimp only at c0 c1 c2 c3 c4 c5 SY hr CT
     obtain ⟨yA,yn,yc,yB,ym,yd,yC,yq,ye,hyy⟩:=SY
     injection hyy with q1 q2
     injection q2 with q2 q3
     subst q1 q2 q3
     have i1:(i:Int)<(vs.length:Int):=by omega
     have i0:(0:Int)<=(i:Int):=by omega
     have wi:IntKind.i64.wrap ((i:Int)+1)=((i+1:Nat):Int):=by push_cast;exact IntWalk.i64_in _ (by have:=HH.out.2.2.2.2.2.2;unfold maxLen at this;omega)
     have HK:=zh (zi hlt (zi hg hbr))
     clear hlt hi hg hbr hW hmem hy hd
     by_cases hk:0<=ZbK yt (a+1)
     ·have hr2:R=ZbK yt (a+1):=by rw [hr,if_pos hk]
      have HQ:=zh hr2
      clear hr hr2
      go_wp2_with (go_at_call 22;(refine CT.out.mono ?_);rintro e w3 ⟨rfl,hb3⟩;have B3:=zh hb3;clear hb3)
      go_ret
      rw [HQ.out]
      exact ⟨rfl,HH.out.2.2.2.2.2.1.trans ((HK.out.2.2.trans (B3.out.mono HK.out.2.2.size)).mono HH.out.2.2.2.2.2.1.size)⟩
     ·have hr2:R=ZdQ ((vs.map (·.2)).drop (i+1)) (a+1):=by rw [hr,if_neg hk]
      have HQ:=zh hr2
      clear hr hr2
      go_wp2_with (go_at_call 22;(refine CT.out.mono ?_);rintro e w3 ⟨rfl,hb3⟩;have B3:=zh hb3;clear hb3)
      go_roundg (vs.length-(i+1))
      case measure=>have:=HK.out.1;have:=HK.out.2.1;omega
      case rel=>exact ⟨i+1,by push_cast;rfl,HK.out.1,rfl,HQ.out,HK.out.2.2.trans (B3.out.mono HK.out.2.2.size)⟩
    ·obtain rfl:i=vs.length:=by omega
     have hr2:R=-1:=by rw [hr,List.drop_of_length_le (by simp)];rfl
     have HQ:=zh (zi hr2 hbr)
     clear hr hr2 hbr hlt hi hg
     go_wp2_with fail
     go_ret
     rw [HQ.out.1]
     exact ⟨rfl,HH.out.2.2.2.2.2.1.trans (HQ.out.2.mono HH.out.2.2.2.2.2.1.size)⟩
end
end Go.Proofs.YtkongcicmajolaaGreatDoor
