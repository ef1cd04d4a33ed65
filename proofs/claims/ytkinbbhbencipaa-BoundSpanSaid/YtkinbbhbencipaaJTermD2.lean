/-
  The reference's Do at any terms. (Template: by-name.py fills it; gen/genDoes.py writes it.)
-/
import Derived.Test.YtkinbbhbencipaaJTermZa
import Derived.Test.YtkinbbhbencipaaJTermZm
import Derived.Test.YtkinbbhbencipaaJD
namespace Go.Proofs.Ytkinbbhbencipaa
open Go.RowKit


theorem wrong_of {a b : Bool} (g : ¬ (a = true ∧ b = true)) : a = false ∨ (a = true ∧ b = false) := by
  cases a
  · exact .inl rfl
  · cases b
    · exact .inr ⟨rfl, rfl⟩
    · exact absurd ⟨rfl, rfl⟩ g
theorem rightT_none (kn kd : Int) : rightT [] kn kd = rightB kn kd := by
  unfold rightT allR
  simp

end Go.Proofs.Ytkinbbhbencipaa
