import Derived.Test.YtkgkmdhpnhmcpaaGreatDoorQAN
set_option maxRecDepth 100000
set_option maxHeartbeats 8000000
namespace Go.Proofs.YtkgkmdhpnhmcpaaGreatDoor
section
open Go.RowKit
structure EndR (w0 w:World) (b:Nat) (cs:Array Value) (vl vn:Value) (l nx:List Nat):Prop where
 p:Blk w b cs
 l:ZfG w w0.heap.size vl l
 n:ZfG w w0.heap.size vn nx
 b:Below w0.heap.size w0 w
theorem EndR.keep {w0 w w':World} {b:Nat} {cs:Array Value} {vl vn:Value} {l nx:List Nat} (h:EndR w0 w b cs vl vn l nx) (hb:Below w.heap.size w w'):EndR w0 w' b cs vl vn l nx:=⟨h.p.keep hb,Ze h.l hb,Ze h.n hb,h.b.trans (hb.mono h.b.size)⟩
theorem ZbR (w:World) (u:Value) (ty:TypeId):Zr (w.alloc (.cells #[u] ty)) (w.heap.size+1) 1 (some ⟨w.heap.size,0,none⟩) 1 [u]:=by
 refine ⟨rfl,fun _=>⟨_,rfl,Nat.lt_succ_self _,fun j v hj=>?_⟩⟩
 cases j with
 | zero=>
  obtain rfl:=Option.some.inj hj
  exact (Blk.start w #[u] ty).cell 0
 | succ j=>simp at hj
structure MidL (p:Pro) (a:Nat) (l:List Nat) (i:Nat) (nx:List Nat):Prop where
 g:GoodL p a nx
 sub:∀ x∈l,x∈nx
 done:∀ x∈l.take i,Zep p x nx
theorem MidL.more {p:Pro} {a i:Nat} {l nx ny:List Nat} (h:MidL p a l i nx) (g:GoodL p a ny) (hs:∀ x∈nx,x∈ny):MidL p a l i ny:=⟨g,fun x hx=>hs x (h.sub x hx),fun x hx m hm e o ho=>hs _ (h.done x hx m hm e o ho)⟩
theorem MidL.next {p:Pro} {a i x:Nat} {l nx:List Nat} (h:MidL p a l i nx) (hx:l[i]? = some x) (hn:Zep p x nx):MidL p a l (i+1) nx:=⟨h.g,h.sub,fun y hy=>by
 rw [List.take_add_one,hx] at hy
 rcases List.mem_append.1 hy with hy | hy
 ·exact h.done y hy
 ·rw [show y=x by simpa using hy];exact hn⟩
end
end Go.Proofs.YtkgkmdhpnhmcpaaGreatDoor
