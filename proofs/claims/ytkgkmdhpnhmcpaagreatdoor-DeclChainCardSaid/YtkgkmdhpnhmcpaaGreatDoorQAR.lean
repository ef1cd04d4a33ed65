import Derived.RangeFuncNested
import Derived.RangeFuncBound
import Derived.RangeFuncCalls
import Derived.RangeFuncLeaves
import Derived.Shelf.Abstract
import Derived.Shelf.RegionOpen
import Derived.OwnWalkIn
import Derived.TacticsInMore
import Derived.LoopNIn
import Derived.LoopIn
import Derived.OrdersHeld
import Derived.Test.YtkgkmdhpnhmcpaaGreatDoorQAP
set_option maxRecDepth 100000
set_option maxHeartbeats 8000000
namespace Go.Proofs.YtkgkmdhpnhmcpaaGreatDoor
section
open Go.RowKit Go.Shelf
attribute [local go_sem] Oper.semAt_some
theorem ZgP (w:World) (A:Option Addr) (n c:Nat):Calls Tryz.prog 76 #[.slice A n c,.int .i64 2] w fun e w'=>e=.returned (.func (.func 106) #[] #[.pointer (some ⟨w.heap.size,0,none⟩),.pointer (some ⟨w.heap.size+1,0,none⟩)])/\w'=(w.alloc (.cells #[.slice A n c] 24)).alloc (.cells #[.int .i64 2] 3):=by
 have hmf:∀ (fn:Fn) (first cap:Array Value) (w:World),(Instr.makeFunc fn first cap).run Tryz.prog w=.ok (.func fn first cap) w:=fun _ _ _ _=>rfl
 go_enter Tryz.func76,Tryz.ntmps76
 go_wp2_with fail
 go_ret
 exact ⟨rfl,rfl⟩
theorem Zio {m k:Nat} (h:k<m):(List.finRange m).take (k+1)=(List.finRange m).take k++[⟨k,h⟩]:=by
 rw [List.take_add_one,List.getElem?_eq_getElem (by simpa using h)]
 simp
def KpC (b1 b2:Nat) (W W':World):Prop:=(∀ v,W.cell? ⟨b1,0,none⟩=some v->W'.cell? ⟨b1,0,none⟩=some v)/\(∀ v,W.cell? ⟨b2,0,none⟩=some v->W'.cell? ⟨b2,0,none⟩=some v)
theorem KpC.trans {b1 b2:Nat} {A B C:World} (h:KpC b1 b2 A B) (k:KpC b1 b2 B C):KpC b1 b2 A C:=⟨fun v q=>k.1 v (h.1 v q),fun v q=>k.2 v (h.2 v q)⟩
theorem ZgO (n:Nat) (l b1 b2 m c:Nat) (ad:Addr) (J Jx:List (Fin m)->World->Prop) (hm:m<=1000) (hc:2*m<=c)
  (hY:∀ pre x W,J pre W->pre.length<m->YieldAt Fence.wide (n-1) Tryz.prog l #[.slice (some (ad.add (2*x.1))) 2 2] W fun e W'=>
   (e=.returned (.bool true)/\J (pre++[x]) W'/\KpC b1 b2 W W')\/(e=.returned (.bool false)/\Jx (pre++[x]) W'))
  (W:World) (h1:W.cell? ⟨b1,0,none⟩=some (.slice (some ad) (2*m) c)) (h2:W.cell? ⟨b2,0,none⟩=some (.int .i64 2)) (h0:J [] W) (hJd:∀ pre W,J pre W->J pre W.drew) :
  CallsIn Fence.wide n Tryz.prog 106 #[.func (.yield l) #[] #[],.pointer (some ⟨b1,0,none⟩),.pointer (some ⟨b2,0,none⟩)] W fun e W'=>(∃ v,e=.returned v) ∧
   ((∃ ys,ys=List.finRange m/\J ys W')\/(∃ pre:List (Fin m),True/\Jx pre W')):=by
 refine callsIn_of_wp Tryz.func106 rfl trivial ?_ rfl
 simp only [Tryz.ntmps106,List.size_toArray,List.length_cons,List.length_nil,Nat.reduceAdd,Nat.reduceSub,Array.replicate_succ,Array.replicate_zero,List.push_toArray,List.append_toArray,List.nil_append,List.cons_append]
 gi_wp2
 gi_loopw [4] (fun p wr=>∃ k:Nat,p=.int .i64 ((2*k:Nat):Int)/\k<=m/\J ((List.finRange m).take k) wr/\wr.cell? ⟨b1,0,none⟩=some (.slice (some ad) (2*m) c)/\wr.cell? ⟨b2,0,none⟩=some (.int .i64 2))
  (fun p _=>match p with | .int _ i=>2*m-i.toNat | _=>0)
 case atStart=>exact ⟨0,rfl,Nat.zero_le _,by simpa using h0,h1,h2⟩
 case round=>
  obtain ⟨k,rfl,hk,hJ,c1,c2⟩:=hrel
  by_cases hkm:k=m
  ·subst hkm
   have j1:¬ (((2*k:Nat):Int)<((2*k:Nat):Int)):=by omega
   gi_wp2
   go_end0
   exact ⟨⟨_,rfl⟩,.inl (by rw [List.take_of_length_le (by simp)] at hJ;simpa using hJ)⟩
  ·have hlt:k<m:=by omega
   have j1:((2*k:Nat):Int)<((2*m:Nat):Int):=by omega
   have i0:(0:Int)<=((2*k:Nat):Int):=by omega
   have i1:((2*k:Nat):Int)<=((2*m:Nat):Int):=by omega
   have i2:(((2*k:Nat):Int)).toNat=2*k:=by omega
   gi_wp2
   refine wpIn_wide.2 ?_
   go_region
   obtain ⟨fn,tmps,assign,body,hy,hR⟩:=hY _ ⟨k,hlt⟩ wr.drew (hJd _ _ hJ) (by simp;omega)
   dsimp only at hy
   have mn:min 2 (((2*m-2*k:Nat):Int))=2:=by omega
   have c1d:wr.drew.cell? ⟨b1,0,none⟩=some (.slice (some ad) (2*m) c):=c1
   have i3:IntKind.i64.wrap (((2*k:Nat):Int)+2)=((2*k+2:Nat):Int):=by rw [IntWalk.i64_in _ (by omega)];omega
   have i4:(((2*k+2:Nat):Int)).toNat=2*k+2:=by omega
   have i5:((2*k:Nat):Int)<=((2*k+2:Nat):Int):=by omega
   have i6:((2*k+2:Nat):Int)<=(c:Int):=by omega
   rw [mn]
   gi_wp2
   refine ⟨fun h=>by simp [Fence.wide] at h,hR.mono ?_⟩
   rintro e W3 (⟨rfl,hJ3,hk3⟩ | ⟨rfl,hJx3⟩)
   ·have d1:W3.cell? ⟨b1,0,none⟩=some (.slice (some ad) (2*m) c):=hk3.1 _ c1
    have d2:W3.cell? ⟨b2,0,none⟩=some (.int .i64 2):=hk3.2 _ c2
    have hJ4:J ((List.finRange m).take (k+1)) W3:=by rw [Zio hlt];exact hJ3
    gi_wp2
    go_roundw
    case rel=>exact ⟨k+1,by push_cast;rfl,hlt,hJ4,d1,d2⟩
    case measure=>show 2*m-(2*(k:Int)+2).toNat<2*m-((2*k:Nat):Int).toNat;omega
   ·gi_wp2
    refine bodyPost_ret (results_none rfl _ _ _) rfl ?_
    exact ⟨⟨_,rfl⟩,.inr ⟨_,trivial,hJx3⟩⟩
theorem Zfh (n b1 b2 m c:Nat) (ad:Addr) (hm:m<=1000) (hc:2*m<=c) (w:World) (h1:w.cell? ⟨b1,0,none⟩=some (.slice (some ad) (2*m) c)) (h2:w.cell? ⟨b2,0,none⟩=some (.int .i64 2)) :
  SeqStopsK Fence.wide n Tryz.prog 106 #[.pointer (some ⟨b1,0,none⟩),.pointer (some ⟨b2,0,none⟩)] (fun x:Fin m=>#[Value.slice (some (ad.add (2*x.1))) 2 2]) (KpC b1 b2) (fun ys=>ys=List.finRange m) (fun _=>True) m w:=fun l J Jx W hW hJ _ hY h0=>
 ZgO n l b1 b2 m c ad J Jx hm hc hY W ((hW.cell (p:=⟨b1,0,none⟩) (World.block_lt_of_cell? _ _ h1)).trans h1) ((hW.cell (p:=⟨b2,0,none⟩) (World.block_lt_of_cell? _ _ h2)).trans h2) h0 (fun pre V h=>hJ pre V V.drew none h (Zf6 (World.grownBy.refl V none)) (fun r e=>by cases e))
end
section
open Go.RowKit Go.Shelf
section
variable {P:Program} {ops:Array Oper} {Q:Exit->Act->World->Prop} {l n:Nat}
theorem Zd5 (n:Nat):((Fence.wide.inRound l).depth.isSome=true->1<=n):=fun h=>by simp [Fence.wide,Fence.inRound] at h
theorem Zjc {o:Oper} {a:Act} {next next':Act->World->Prop} (hn:∀ a w,next a w->next' a w):∀ r:Result Next,o.upon P a next Q r->o.uponIn (Fence.wide.inRound l) n P a next' Q r:=by
 intro r h
 cases r with
 | ok x w=>
  cases x with
  | value v=>exact hn _ _ h
  | skip=>exact hn _ _ h
  | «defer» d=>exact hn _ _ h
  | enter f args=>
   refine ⟨Zd5 _,CallsIn.inRound l ((callsIn_wide (n:=n-1)).2 (Calls.mono h ?_))⟩
   intro e w' k
   cases e with
   | returned v=>exact hn _ _ k
   | panicked c=>exact k
   | outgrown=>exact k
  | row r args=>
   refine ⟨Zd5 _,fun c cs _=>?_⟩
   obtain ⟨v,w',k,s⟩:=h c cs
   exact ⟨v,w',hn _ _ k,stepsIn_wide.2 s⟩
  | _=>exact h.elim
 | halt x w=>
  cases x<;>first | exact h | exact h.elim
theorem Zcj (hnd:∀ (i:Nat) (o:Oper),ops[i]? = some o->∀ c,o.op≠Op.defer c) (hq:∀ a w,¬ Q .outgrown a w):∀ (L:List Nat) (a:Act) (w:World),wpOps P ops Q L a w->wpOpsIn (Fence.wide.inRound l) n P ops Q L a w
 | [],_,_,h=>h
 | i::rest,a,w,h=>by
  simp only [wpOps,wpOpsIn] at h ⊢
  cases ho:ops[i]? with
  | none=>
   simp only [ho] at h ⊢
   exact Zcj hnd hq rest a w h
  | some o=>
   simp only [ho] at h ⊢
   by_cases hw:Region.wanted o (yielded ops a.tmps)=true
   ·rw [if_pos hw] at h ⊢
    rcases h with h | ⟨_,a',w',h⟩
    ·refine ⟨fun _ _=>trivial,?_⟩
     rw [Oper.semAt_eq _ _ _ (hnd i o ho)]
     exact Zjc (fun a w k=>Zcj hnd hq rest a w k) _ h
    ·exact absurd h (hq _ _)
   ·rw [if_neg hw] at h ⊢
    exact ⟨fun _ _=>trivial,Zcj hnd hq rest _ w h⟩
theorem Zfw {id:Nat} {a:Act} {w:World} (hm:P.follows .mixedOrders=true) (hnd:∀ (i:Nat) (o:Oper),ops[i]? = some o->∀ c,o.op≠Op.defer c) (hq:∀ a w,¬ Q .outgrown a w)
  (h:wpAny P .any ops Q ops.size (Array.replicate ops.size false) a w.drew):(Code.region id ops true).wpIn (Fence.wide.inRound l) n P Q a w:=
 wpIn_region_draw fun t=>by
  simp only [Region.schedule,hm,Bool.true_or,if_true]
  exact Zcj hnd hq _ a _ (wpAny_sound ops.size t _ a _ h)
end
end
section
open Go.RowKit Go.Shelf
theorem Zbb {W W':World} {row:Option Nat} {b:Nat} {ty:TypeId} {cs:Array Value} (h:Zd W b ty cs) (hg:W.grownBy W' row) (hr:∀ r,row=some r->∃ o:Obj,W.heap[r]? = some o/\o.isCells=false):Zd W' b ty cs:=
 (hg.block b h.lt (fun e=>by
  obtain ⟨o,ho,hc⟩:=hr b e.symm
  unfold Zd at h
  rw [h] at ho
  injection ho with ho
  subst ho
  cases hc)).trans h
theorem ZeZ {W W':World} {row:Option Nat} {base size n:Nat} {e:TypeId} {v:Value} {xs:List Value} (h:W.ownsRow base e size v n xs) (hg:W.grownBy W' row) (hr:∀ r,row=some r->∃ o:Obj,W.heap[r]? = some o/\o.isCells=false):W'.ownsRow base e size v n xs:=by
 refine h.kept hg ?_
 rcases h.2 with ⟨rfl,_⟩ | ⟨g,cap,cur,rfl,_,hb,_⟩
 ·exact .inl rfl
 ·refine .inr fun q=>?_
  obtain ⟨o,ho,hc⟩:=hr g q.symm
  rw [hb] at ho
  injection ho with ho
  subst ho
  cases hc
theorem ZiZ {b1 b2:Nat} {w:World} (h1:b1<w.heap.size) (h2:b2<w.heap.size) (W:World) (l:Nat) (o o':Obj) (hl:w.heap.size<=l) (_:W.heap[l]? = some o) (_:o.isCells=false) (_:o.isWalk=false):KpC b1 b2 W (W.putObj l o'):=by
 have hb:∀ b,b<w.heap.size->(W.putObj l o').heap[b]? = W.heap[b]?:=fun b hb=>World.putObj_heap_other (by omega)
 refine ⟨fun v hv=>?_,fun v hv=>?_⟩
 ·unfold World.cell? at hv ⊢;rw [hb b1 h1];exact hv
 ·unfold World.cell? at hv ⊢;rw [hb b2 h2];exact hv
theorem Ze5 {T:Array Value} {Q:Exit->Act->World->Prop} {w:World} {g:Operand} {assign body:Code} {b1 b2 m c:Nat} {ad:Addr} (i j:Nat)
  (hg:(⟨T,[]⟩:Act).eval g=.func (.func 106) #[] #[.pointer (some ⟨b1,0,none⟩),.pointer (some ⟨b2,0,none⟩)]) (hm:m<=1000) (hc:2*m<=c)
  (h1:w.cell? ⟨b1,0,none⟩=some (.slice (some ad) (2*m) c)) (h2:w.cell? ⟨b2,0,none⟩=some (.int .i64 2)) (I:List (Fin m)->World->Prop) (hI:OwnFrom w.heap.size I) (h0:I [] w)
  (hassign:∀ (l:Nat) (v:Value) (W:World) (K:Act->World->Prop),K ⟨(T.setIfInBounds i v).setIfInBounds j v,[]⟩ W->assign.wpIn (Fence.wide.inRound l) 7 Tryz.prog (Exit.then K (fun _ _ _=>False)) ⟨T.setIfInBounds i v,[]⟩ W)
  (hbody:∀ (l:Nat) (pre:List (Fin m)) (x:Fin m) (W:World),I pre W->pre.length<m->body.wpIn (Fence.wide.inRound l) 7 Tryz.prog (ownPostK (KpC b1 b2) I (fun _ _ _=>False) (pre++[x]) W) ⟨(T.setIfInBounds i (.slice (some (ad.add (2*x.1))) 2 2)).setIfInBounds j (.slice (some (ad.add (2*x.1))) 2 2),[]⟩ W)
  (hdone:∀ (D:Nat) (W:World),w.heap.size<=D->I (List.finRange m) W->W.heap[D]? = some (.deferred (some []))->Q .normal ⟨T,[{ target:=.collected D,args:=#[] }]⟩ W) :
  (Code.rangeFunc g #[i] assign body).wp Tryz.prog Q ⟨T,[]⟩ w:=by
 refine (wpIn_wide (n:=9)).1 ?_
 refine wpIn_rangeFunc_ownF (F:=Fence.wide) (n:=9) rfl (by decide) hg trivial (enters_of Tryz.func106 (by kernel_rfl) rfl)
  (Zfh 8 b1 b2 m c ad hm hc w h1 h2) (fun a b=>KpC.trans a b) (ZiZ (World.block_lt_of_cell? _ _ h1) (World.block_lt_of_cell? _ _ h2)) (Below.refl _ _) (fun _=>rfl) I (fun _ _ _=>False) hI
  (fun _ _ _ _ _ hs _ _=>hs) h0 (fun x=>⟨(T.setIfInBounds i (.slice (some (ad.add (2*x.1))) 2 2)).setIfInBounds j (.slice (some (ad.add (2*x.1))) 2 2),[]⟩) ?_ ?_ ?_ ?_
 ·intro l x W K hK
  have:=hassign l _ W K hK
  simpa using this
 ·intro l pre x W hi hl
  exact hbody l pre x W hi hl
 ·rintro D ys W hD rfl hi hk
  exact hdone D W hD hi hk
 ·intro D c pre W _ _ h _
  exact h.elim
end
end Go.Proofs.YtkgkmdhpnhmcpaaGreatDoor
