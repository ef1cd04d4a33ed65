import Derived.OrdersHeld
import Derived.Test.YtaacbenikcbibabGreatDoorQAU
set_option maxRecDepth 100000
set_option maxHeartbeats 8000000
namespace Go.Proofs.YtaacbenikcbibabGreatDoor
section
open Go.RowKit Go.Shelf
section
variable {P:Program} {ops:Array Oper} {Q:Exit->Act->World->Prop} {l n:Nat}
theorem ZdZ (n:Nat):((Fence.wide.inRound l).depth.isSome=true->1<=n):=fun h=>by simp [Fence.wide,Fence.inRound] at h
theorem ZiT {o:Oper} {a:Act} {next next':Act->World->Prop} (hn:∀ a w,next a w->next' a w):∀ r:Result Next,o.upon P a next Q r->o.uponIn (Fence.wide.inRound l) n P a next' Q r:=by
 intro r h
 cases r with
 | ok x w=>
  cases x with
  | value v=>exact hn _ _ h
  | skip=>exact hn _ _ h
  | «defer» d=>exact hn _ _ h
  | enter f args=>
   refine ⟨ZdZ _,CallsIn.inRound l ((callsIn_wide (n:=n-1)).2 (Calls.mono h ?_))⟩
   intro e w' k
   cases e with
   | returned v=>exact hn _ _ k
   | panicked c=>exact k
   | outgrown=>exact k
  | row r args=>
   refine ⟨ZdZ _,fun c cs _=>?_⟩
   obtain ⟨v,w',k,s⟩:=h c cs
   exact ⟨v,w',hn _ _ k,stepsIn_wide.2 s⟩
  | _=>exact h.elim
 | halt x w=>
  cases x<;>first | exact h | exact h.elim
theorem Zcf (hnd:∀ (i:Nat) (o:Oper),ops[i]? = some o->∀ c,o.op≠Op.defer c) (hq:∀ a w,¬ Q .outgrown a w):∀ (L:List Nat) (a:Act) (w:World),wpOps P ops Q L a w->wpOpsIn (Fence.wide.inRound l) n P ops Q L a w
 | [],_,_,h=>h
 | i::rest,a,w,h=>by
  simp only [wpOps,wpOpsIn] at h ⊢
  cases ho:ops[i]? with
  | none=>
   simp only [ho] at h ⊢
   exact Zcf hnd hq rest a w h
  | some o=>
   simp only [ho] at h ⊢
   by_cases hw:Region.wanted o (yielded ops a.tmps)=true
   ·rw [if_pos hw] at h ⊢
    rcases h with h | ⟨_,a',w',h⟩
    ·refine ⟨fun _ _=>trivial,?_⟩
     rw [Oper.semAt_eq _ _ _ (hnd i o ho)]
     exact ZiT (fun a w k=>Zcf hnd hq rest a w k) _ h
    ·exact absurd h (hq _ _)
   ·rw [if_neg hw] at h ⊢
    exact ⟨fun _ _=>trivial,Zcf hnd hq rest _ w h⟩
theorem Zfp {id:Nat} {a:Act} {w:World} (hm:P.follows .mixedOrders=true) (hnd:∀ (i:Nat) (o:Oper),ops[i]? = some o->∀ c,o.op≠Op.defer c) (hq:∀ a w,¬ Q .outgrown a w)
  (h:wpAny P .any ops Q ops.size (Array.replicate ops.size false) a w.drew):(Code.region id ops true).wpIn (Fence.wide.inRound l) n P Q a w:=
 wpIn_region_draw fun t=>by
  simp only [Region.schedule,hm,Bool.true_or,if_true]
  exact Zcf hnd hq _ a _ (wpAny_sound ops.size t _ a _ h)
end
end
section
open Go.RowKit Go.Shelf
theorem Zbc {W W':World} {row:Option Nat} {b:Nat} {ty:TypeId} {cs:Array Value} (h:Ze W b ty cs) (hg:W.grownBy W' row) (hr:∀ r,row=some r->∃ o:Obj,W.heap[r]? = some o/\o.isCells=false):Ze W' b ty cs:=
 (hg.block b h.lt (fun e=>by
  obtain ⟨o,ho,hc⟩:=hr b e.symm
  unfold Ze at h
  rw [h] at ho
  injection ho with ho
  subst ho
  cases hc)).trans h
theorem ZeR {W W':World} {row:Option Nat} {base size n:Nat} {e:TypeId} {v:Value} {xs:List Value} (h:W.ownsRow base e size v n xs) (hg:W.grownBy W' row) (hr:∀ r,row=some r->∃ o:Obj,W.heap[r]? = some o/\o.isCells=false):W'.ownsRow base e size v n xs:=by
 refine h.kept hg ?_
 rcases h.2 with ⟨rfl,_⟩ | ⟨g,cap,cur,rfl,_,hb,_⟩
 ·exact .inl rfl
 ·refine .inr fun q=>?_
  obtain ⟨o,ho,hc⟩:=hr g q.symm
  rw [hb] at ho
  injection ho with ho
  subst ho
  cases hc
theorem ZiF {b1 b2:Nat} {w:World} (h1:b1<w.heap.size) (h2:b2<w.heap.size) (W:World) (l:Nat) (o o':Obj) (hl:w.heap.size<=l) (_:W.heap[l]? = some o) (_:o.isCells=false) (_:o.isWalk=false):KpC b1 b2 W (W.putObj l o'):=by
 have hb:∀ b,b<w.heap.size->(W.putObj l o').heap[b]? = W.heap[b]?:=fun b hb=>World.putObj_heap_other (by omega)
 refine ⟨fun v hv=>?_,fun v hv=>?_⟩
 ·unfold World.cell? at hv ⊢;rw [hb b1 h1];exact hv
 ·unfold World.cell? at hv ⊢;rw [hb b2 h2];exact hv
theorem ZeX {T:Array Value} {Q:Exit->Act->World->Prop} {w:World} {g:Operand} {assign body:Code} {b1 b2 m c:Nat} {ad:Addr} (i j:Nat)
  (hg:(⟨T,[]⟩:Act).eval g=.func (.func 67) #[] #[.pointer (some ⟨b1,0,none⟩),.pointer (some ⟨b2,0,none⟩)]) (hm:m<=1000) (hc:2*m<=c)
  (h1:w.cell? ⟨b1,0,none⟩=some (.slice (some ad) (2*m) c)) (h2:w.cell? ⟨b2,0,none⟩=some (.int .i64 2)) (I:List (Fin m)->World->Prop) (hI:OwnFrom w.heap.size I) (h0:I [] w)
  (hassign:∀ (l:Nat) (v:Value) (W:World) (K:Act->World->Prop),K ⟨(T.setIfInBounds i v).setIfInBounds j v,[]⟩ W->assign.wpIn (Fence.wide.inRound l) 7 Tryz.prog (Exit.then K (fun _ _ _=>False)) ⟨T.setIfInBounds i v,[]⟩ W)
  (hbody:∀ (l:Nat) (pre:List (Fin m)) (x:Fin m) (W:World),I pre W->pre.length<m->body.wpIn (Fence.wide.inRound l) 7 Tryz.prog (ownPostK (KpC b1 b2) I (fun _ _ _=>False) (pre++[x]) W) ⟨(T.setIfInBounds i (.slice (some (ad.add (2*x.1))) 2 2)).setIfInBounds j (.slice (some (ad.add (2*x.1))) 2 2),[]⟩ W)
  (hdone:∀ (D:Nat) (W:World),w.heap.size<=D->I (List.finRange m) W->W.heap[D]? = some (.deferred (some []))->Q .normal ⟨T,[{ target:=.collected D,args:=#[] }]⟩ W) :
  (Code.rangeFunc g #[i] assign body).wp Tryz.prog Q ⟨T,[]⟩ w:=by
 refine (wpIn_wide (n:=9)).1 ?_
 refine wpIn_rangeFunc_ownF (F:=Fence.wide) (n:=9) rfl (by decide) hg trivial (enters_of Tryz.func67 (by kernel_rfl) rfl)
  (Zfa 8 b1 b2 m c ad hm hc w h1 h2) (fun a b=>KpC.trans a b) (ZiF (World.block_lt_of_cell? _ _ h1) (World.block_lt_of_cell? _ _ h2)) (Below.refl _ _) (fun _=>rfl) I (fun _ _ _=>False) hI
  (fun _ _ _ _ _ hs _ _=>hs) h0 (fun x=>⟨(T.setIfInBounds i (.slice (some (ad.add (2*x.1))) 2 2)).setIfInBounds j (.slice (some (ad.add (2*x.1))) 2 2),[]⟩) ?_ ?_ ?_ ?_
 ·intro l x W K hK
  have:=hassign l _ W K hK
  simpa using this
 ·intro l pre x W hi hl
  exact hbody l pre x W hi hl
 ·rintro D ys W hD rfl hi hk
  exact hdone D W hD hi hk
 ·intro D c pre W _ _ h _
  exact h.elim
end
end Go.Proofs.YtaacbenikcbibabGreatDoor
