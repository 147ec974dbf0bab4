/-
  Contracts of layer 5: Majority, Of; the document's examples.
-/
import Derived.Test.YthloamhodapmpaaMask2
namespace Go.Proofs.Ythloamhodapmpaa
open Go.RowKit
set_option linter.unusedVariables false
set_option linter.unusedSimpArgs false

theorem majB_zero (a b : Nat) : majB a b 0 = false := by simp [majB]
end Go.Proofs.Ythloamhodapmpaa
