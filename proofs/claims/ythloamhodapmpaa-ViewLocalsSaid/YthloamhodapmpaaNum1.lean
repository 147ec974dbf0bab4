/-
  Contracts of the number functions of layer 1.
-/
import Derived.Test.YthloamhodapmpaaRows
import Derived.Test.YthloamhodapmpaaLib
import Derived.Test.YthloamhodapmpaaMath1
import Derived.Outline
namespace Go.Proofs.Ythloamhodapmpaa
open Go.RowKit
set_option linter.unusedVariables false

end Go.Proofs.Ythloamhodapmpaa
