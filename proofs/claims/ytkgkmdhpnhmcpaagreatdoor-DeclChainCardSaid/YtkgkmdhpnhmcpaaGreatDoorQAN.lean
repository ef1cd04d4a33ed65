import Derived.Test.YtkgkmdhpnhmcpaaGreatDoorQAM
set_option maxRecDepth 100000
set_option maxHeartbeats 8000000
namespace Go.Proofs.YtkgkmdhpnhmcpaaGreatDoor
section
open Go.RowKit
structure FitS (w0 w:World) (b1 b2:Nat) (cs1 cs2:Array Value):Prop where
 p:Blk w b1 cs1
 m:Blk w b2 cs2
 b:Below w0.heap.size w0 w
theorem FitS.keep {w0 w w':World} {b1 b2:Nat} {cs1 cs2:Array Value} (h:FitS w0 w b1 b2 cs1 cs2) (hb:Below w.heap.size w w'):FitS w0 w' b1 b2 cs1 cs2:=⟨h.p.keep hb,h.m.keep hb,h.b.trans (hb.mono h.b.size)⟩
end
section
open Go.RowKit
theorem ZdX:∀ (n:Nat) (l:List Nat),l.Nodup->(∀ x∈l,x<n)->l.length<=n
 | 0,l,_,h=>by
  cases l with
  | nil=>exact Nat.le_refl _
  | cons x r=>exact absurd (h x (List.mem_cons_self ..)) (Nat.not_lt_zero _)
 | n+1,l,hd,h=>by
  have h1:∀ x∈l.erase n,x<n:=fun x hx=>by
   have a:=h x (List.mem_of_mem_erase hx)
   have b:x≠n:=fun e=>by subst e;exact hd.not_mem_erase hx
   omega
  have h2:=ZdX n (l.erase n) (hd.erase n) h1
  rw [List.length_erase] at h2
  split at h2<;>omega
structure GoodL (p:Pro) (a:Nat) (l:List Nat):Prop where
 nd:l.Nodup
 lt:∀ x∈l,x<p.states.length
 fin:∀ x∈l,Zam p x=false
 back:∀ x∈l,∀ j,Zx p j x=true->∃ K,Zx p K a=true
theorem GoodL.len {p:Pro} {a:Nat} {l:List Nat} (h:GoodL p a l):l.length<=p.states.length:=ZdX _ _ h.nd h.lt
theorem GoodL.one {p:Pro} {a:Nat} (ha:a<p.states.length) (hf:Zam p a=false):GoodL p a [a]:=
 ⟨by simp,fun x hx=>by rw [List.mem_singleton.mp hx];exact ha,fun x hx=>by rw [List.mem_singleton.mp hx];exact hf,fun x hx j hj=>by rw [List.mem_singleton.mp hx] at hj;exact ⟨j,hj⟩⟩
def Zep (p:Pro) (x:Nat) (l:List Nat):Prop:=∀ m∈p.moves,m.at_=(x:Int)->∀ o∈m.outs,o.to.toNat∈l
def ZcS (p:Pro) (a k:Nat) (l:List Nat):Prop:=∀ j,(∀ x∈l,Zx p j x=false)->Zx p (j+k) a=false
theorem ZcS.one (p:Pro) (a:Nat):ZcS p a 0 [a]:=fun _ h=>h a (List.mem_singleton.mpr rfl)
theorem ZcS.step {p:Pro} {a k:Nat} {l l':List Nat} (h:ZcS p a k l) (hs:∀ x∈l,x∈l') (hn:∀ x∈l,Zep p x l'):ZcS p a (k+1) l':=fun j hj=>by
 rw [show j+(k+1)=(j+1)+k by omega]
 refine h (j+1) fun x hx=>?_
 cases q:Zx p (j+1) x with
 | false=>rfl
 | true=>
  rw [Zx,Bool.or_eq_true,List.any_eq_true] at q
  rcases q with q | ⟨m,hm,q⟩
  ·have:=goes_le p (k:=0) (j:=j) (Nat.zero_le _) (i:=x) q
   rw [hj x (hs x hx)] at this
   cases this
  ·rw [Bool.and_eq_true,List.any_eq_true] at q
   obtain ⟨e,o,ho,q⟩:=q
   rw [hj _ (hn x hx m hm (of_decide_eq_true e) o ho)] at q
   cases q
theorem ZcS.none {p:Pro} {a:Nat} {l:List Nat} (h:ZcS p a p.states.length l) (g:GoodL p a l):Zx p p.states.length a=false:=by
 have:=h 0 (fun x hx=>g.fin x hx)
 rwa [Nat.zero_add] at this
abbrev iv (l:List Nat):List Value:=l.map fun (x:Nat)=>Value.int .i64 (x:Int)
def ZfG (w:World) (B:Nat) (v:Value) (l:List Nat):Prop:=w.ownsRow B 3 1 v l.length (iv l)
end
end Go.Proofs.YtkgkmdhpnhmcpaaGreatDoor
