/-
  What is proved here: what the document's own 'without', Drop and Gone of layer 13 do. Conditions: at most a million entries; texts of at most 65535 bytes.
-/
import Derived.Test.YtfjafpbmgbnllaaSr2
import Derived.Test.YtfjafpbmgbnllaaTr2
namespace Go.Proofs.Ytfjafpbmgbnllaa
set_option linter.unusedVariables false
set_option linter.unusedSimpArgs false
open Go.RowKit

theorem own_low13 {w : World} {b b' : Nat} {e : TypeId} {s : Nat} {v : Value} {n : Nat} {xs : List Value} (h : w.ownsRow b e s v n xs) (hb : b' ≤ b) : w.ownsRow b' e s v n xs := by
  refine ⟨h.1, ?_⟩
  rcases h.2 with h2 | ⟨g, cap, cur, hv, hg, r⟩
  · exact .inl h2
  · exact .inr ⟨g, cap, cur, hv, Nat.le_trans hb hg, r⟩
theorem dropE_le (es : List SE) (c f : List UInt8) : (dropE es c f).length ≤ es.length := List.length_filter_le _ _

theorem keepE_some (c f : List UInt8) (es : List SE) : 0 < es.length - (dropE es c f).length ↔ dropE es c f ≠ es := by
  constructor
  · intro h e
    rw [e] at h
    omega
  · intro h
    have h1 := dropE_le es c f
    rcases Nat.lt_or_ge (dropE es c f).length es.length with h2 | h2
    · omega
    · exact absurd (List.filter_eq_self.2 (List.length_filter_eq_length_iff.1 (by unfold dropE at h1 h2; omega))) h

end Go.Proofs.Ytfjafpbmgbnllaa
