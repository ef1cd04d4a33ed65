import Derived.Test.YtkgkmdhpnhmcpaaGreatDoorQAA
import Derived.Test.YtkgkmdhpnhmcpaaGreatDoorQAO
set_option maxRecDepth 100000
set_option maxHeartbeats 8000000
namespace Go.Proofs.YtkgkmdhpnhmcpaaGreatDoor
section
open Go.RowKit
structure WrS (w0 w:World) (b:Nat) (cs:Array Value):Prop where
 p:Blk w b cs
 b:Below w0.heap.size w0 w
theorem WrS.keep {w0 w w':World} {b:Nat} {cs:Array Value} (h:WrS w0 w b cs) (hb:Below w.heap.size w w'):WrS w0 w' b cs:=⟨h.p.keep hb,h.b.trans (hb.mono h.b.size)⟩
end
end Go.Proofs.YtkgkmdhpnhmcpaaGreatDoor
