/-
  The walks of slices.ContainsFunc at package auto's tests. (Template: by-name.py fills it; gen/genAutC.py writes it.)
-/
import Derived.Test.YtbfgeiimjmhhdaaAutC
namespace Go.Proofs.Ytbfgeiimjmhhdaa
open Go.RowKit




end Go.Proofs.Ytbfgeiimjmhhdaa
