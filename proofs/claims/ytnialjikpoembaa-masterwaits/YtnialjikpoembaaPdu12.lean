/-
  What is proved here: what pdu's Parse returns, of any bytes.
-/
import Derived.Test.YtnialjikpoembaaPdu11
namespace Go.Proofs.Ytnialjikpoembaa
set_option linter.unusedVariables false
set_option linter.unusedSimpArgs false
open Go.RowKit

theorem parse_eq (xs : List UInt8) (f a c : Int) (vs : List Int) (t an o : Int) (h : gs xs = ⟨f, a, c, vs, t, an, o⟩) :
    parseL xs = if mayB f a c vs t an o = true ∧ layL f a c vs t an o = xs then some ⟨f, a, c, vs, t, an, o⟩ else none := by
  unfold parseL
  rw [h]
  rfl


end Go.Proofs.Ytnialjikpoembaa
