/-
  Contracts of the number functions of layer 1.
-/
import Derived.Test.YtnaegaeicdknbaaRows
import Derived.Test.YtnaegaeicdknbaaLib
import Derived.Test.YtnaegaeicdknbaaMath1
import Derived.Outline
namespace Go.Proofs.Ytnaegaeicdknbaa
open Go.RowKit
set_option linter.unusedVariables false

end Go.Proofs.Ytnaegaeicdknbaa
