/-
  Contracts of the number functions of layer 1.
-/
import Derived.Test.YtgbfpolcefhemaaRows
import Derived.Test.YtgbfpolcefhemaaLib
import Derived.Test.YtgbfpolcefhemaaMath1
import Derived.Outline
namespace Go.Proofs.Ytgbfpolcefhemaa
open Go.RowKit
set_option linter.unusedVariables false

theorem width_any (n : Int) (w : World)  :
    Calls Try.prog 68 #[.int .i64 n] w fun e w' => e = .returned (.bool (widthB n)) ∧ w = w' := by
  go_enter Try.func68, Try.ntmps68
  go_wp2
  all_goals go_ret
  all_goals exact ⟨ret_bool (by simp_all [widthB]), rfl⟩
end Go.Proofs.Ytgbfpolcefhemaa
