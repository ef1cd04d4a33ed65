import Derived.Test.YtaacbenikcbibabGreatDoorQBI
import Derived.Test.YtaacbenikcbibabGreatDoorQBV
set_option maxRecDepth 100000
set_option maxHeartbeats 8000000
namespace Go.Proofs.YtaacbenikcbibabGreatDoor
section
open Go.RowKit
def up (p:List Int):Nat->Int->Int
 | 0,x=>x
 | j+1,x=>up p j (atI p x)
section
variable {ns:List Nd} {p:List Int}
end
end
section
open Go.RowKit
theorem ZiE {W:World} (h:laidMetH Tryz.prog [("ballcock/lex.keywords",Rows.laid_ballcock_lex_keywords)] W):Zad W 0 Zh:=by
 rw [MakeChecks.laidMetH_plain _ _ _ (by kernel_rfl)] at h
 exact Ze1 (zs:=Zh) (rest:=[]) Tryz.gKeys Tryz.gKeysType Tryz.underlying142 Tryz.underlying9 Tryz.cellsS (by kernel_rfl) h
end
end Go.Proofs.YtaacbenikcbibabGreatDoor
