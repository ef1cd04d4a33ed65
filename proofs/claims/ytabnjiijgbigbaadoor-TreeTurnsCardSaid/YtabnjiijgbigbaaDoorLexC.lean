/-
  The walks of package lex's blanks and first. (Template: by-name.py fills it.)
-/
import Derived.Test.YtabnjiijgbigbaaDoorLexT
import Derived.Test.YtabnjiijgbigbaaDoorShelf
import Derived.Lib.PathFns
import Derived.Lib.IndexBytes
namespace Go.Proofs.YtabnjiijgbigbaaDoor
open Go.RowKit

end Go.Proofs.YtabnjiijgbigbaaDoor
