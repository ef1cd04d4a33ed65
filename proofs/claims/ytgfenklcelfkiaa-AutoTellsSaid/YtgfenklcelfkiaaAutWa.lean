/-
  The walk of the statement AutoWrong. (Template: by-name.py fills it; gen/genAutWa.py writes it.)
-/
import Derived.Test.YtgfenklcelfkiaaAutX
import Derived.Test.YtgfenklcelfkiaaAutZ
namespace Go.Proofs.Ytgfenklcelfkiaa
open Go.RowKit

end Go.Proofs.Ytgfenklcelfkiaa
