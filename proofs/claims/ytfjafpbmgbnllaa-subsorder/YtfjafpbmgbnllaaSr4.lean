/-
  What is proved here: what the document's own Add of layer 13 does. Conditions: at most a million entries; a filter of at most 65535 bytes.
-/
import Derived.Test.YtfjafpbmgbnllaaSr3
import Derived.Test.YtfjafpbmgbnllaaStructs
namespace Go.Proofs.Ytfjafpbmgbnllaa
set_option linter.unusedVariables false
set_option linter.unusedSimpArgs false
open Go.RowKit

/-- A struct that is boxed. -/
theorem boxedS {w W : World} {t : TypeId} {cs : List Value} (h : w.alloc (.cells (arr cs) t) = W) : ∃ g, w.heap.size = g ∧ Blk W g t cs ∧ Below g w W ∧ W.heap.size = g + 1 := by
  subst h
  exact ⟨_, rfl, Blk.new w t cs, (Below.refl _ _).alloc (Nat.le_refl _) _, by simp⟩
theorem ownS_frozen {w : World} {base s : Nat} {e : TypeId} {A : Option Addr} {n c : Nat} {xs : List Value} (h : w.ownsRow base e s (.slice A n c) n xs) {b o : Nat} (eA : A = some ⟨b, o, none⟩) (i : Nat) : w.frozen? ⟨b, i, none⟩ = false := by
  rcases h.2 with ⟨hv, _⟩ | ⟨g, cap, cur, hv, hg, hh, _⟩
  · injection hv with hA _ _
    rw [eA] at hA
    cases hA
  · injection hv with hA _ _
    rw [eA] at hA
    injection hA with hA
    injection hA with h1 _ _
    subst h1
    simp [World.frozen?, hh]
end Go.Proofs.Ytfjafpbmgbnllaa
