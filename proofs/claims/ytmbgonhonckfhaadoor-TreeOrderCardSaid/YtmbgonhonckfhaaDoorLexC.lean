/-
  The walks of package lex's blanks and first. (Template: by-name.py fills it.)
-/
import Derived.Test.YtmbgonhonckfhaaDoorLexT
import Derived.Test.YtmbgonhonckfhaaDoorShelf
import Derived.Lib.PathFns
import Derived.Lib.IndexBytes
namespace Go.Proofs.YtmbgonhonckfhaaDoor
open Go.RowKit

end Go.Proofs.YtmbgonhonckfhaaDoor
