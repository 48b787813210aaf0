/-
  What is proved here: a block that is new, by its whole content. Nothing of the program is named.
-/
import Derived.Test.YtfjafpbmgbnllaaGreatBase
namespace Go.Proofs.YtfjafpbmgbnllaaGreat
set_option linter.unusedVariables false
set_option linter.unusedSimpArgs false
open Go.RowKit

/-- A box of two cells. -/
theorem box2 (w : World) (t : TypeId) (v0 v1 : Value) (W : World) (hW : W = w.alloc (.cells #[v0, v1] t)) : Blk W w.heap.size t [v0, v1] ∧ Below w.heap.size w W := by
  subst hW
  exact ⟨Blk.new w t [v0, v1], (Below.refl _ _).alloc (Nat.le_refl _) _⟩

theorem box1 (w : World) (t : TypeId) (cs : List Value) (W : World) (hW : W = w.alloc (.cells (arr cs) t)) : Blk W w.heap.size t cs ∧ Below w.heap.size w W := by
  subst hW
  exact ⟨Blk.new w t cs, (Below.refl _ _).alloc (Nat.le_refl _) _⟩

end Go.Proofs.YtfjafpbmgbnllaaGreat
