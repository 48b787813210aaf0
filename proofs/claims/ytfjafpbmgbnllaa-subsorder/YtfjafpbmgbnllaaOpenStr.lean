/-
  What is proved here: a text that came in as an argument is some text, for the walks of the laws. No condition of its own.
-/
import Derived.Test.YtfjafpbmgbnllaaInfo
import Derived.Test.YtfjafpbmgbnllaaOpenPdu
import Derived.ShutString
namespace Go.Proofs.Ytfjafpbmgbnllaa
set_option linter.unusedVariables false
set_option linter.unusedSimpArgs false
open Go.Joins Go.ChangeShapes Go.WideShapes Go.RowKit Go.Deep

set_option maxRecDepth 100000 in
/-- A text that came in. -/
theorem open_str {H : Type} {enc : TypeId × Value → H} {w : World} {base b0 : Nat} {held : Bool} {r : Reach} {v : Value} {d : DataW H} {p : List MemPlace} (hv : Value.okWide Try.prog w r b0 9 v) (h : DataW.Trod enc Try.prog w base (fun _ => true) held 9 v d p) :
    ∃ s : ByteArray, v = .string s ∧ s.size ≤ maxLen := by
  obtain ⟨s, rfl, _, _, hw⟩ := Go.ChangeMaps.open_string Try.underlying9 hv h
  exact ⟨s, rfl, hw⟩

end Go.Proofs.Ytfjafpbmgbnllaa
