/-
  The walk of the reference's Do of terms: multiples. (Template: by-name.py fills it; gen/genRDo.py writes it.)
-/
import Derived.Test.YtkinbbhbencipaaJS
namespace Go.Proofs.Ytkinbbhbencipaa
open Go.RowKit


end Go.Proofs.Ytkinbbhbencipaa
