/-
  Contracts of the number functions of layer 1.
-/
import Derived.Test.YtcnnpbeadldflaaDoorRows
import Derived.Test.YtcnnpbeadldflaaDoorLib
import Derived.Test.YtcnnpbeadldflaaDoorMath1
import Derived.Outline
namespace Go.Proofs.YtcnnpbeadldflaaDoor
open Go.RowKit
set_option linter.unusedVariables false

end Go.Proofs.YtcnnpbeadldflaaDoor
