/-
  The reference's Do at operation 0. (Template: by-name.py fills it; gen/genL.py writes it.)
-/
import Derived.Test.YtkinbbhbencipaaJNumL
namespace Go.Proofs.Ytkinbbhbencipaa
open Go.RowKit

end Go.Proofs.Ytkinbbhbencipaa
