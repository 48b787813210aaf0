/-
  What is proved here: a struct of two texts as a map's key. No condition but the texts' lengths.
-/
import Derived.Test.YtfjafpbmgbnllaaGreatRows
import Derived.Test.YtfjafpbmgbnllaaGreatBase
import Derived.Maps.OwnSet
import Derived.DeepKeys5
import Derived.MapViews
namespace Go.Proofs.YtfjafpbmgbnllaaGreat
set_option linter.unusedVariables false
set_option linter.unusedSimpArgs false
open Go.RowKit

theorem mk_laid : laidOutB Tryz.prog = true := by kernel_rfl
theorem mk_keyed : Maps.Keyed Tryz.prog 59 := Maps.Keyed.of_law (deep_law_gate mk_laid (by decide +kernel) (by decide +kernel) (by kernel_rfl) (by kernel_rfl))
/-- The key. -/
def mkV (c f : List UInt8) : Value := .agg #[.string (str c), .string (str f)]
def mkL (c f : List UInt8) : Lit := .string (keyBytes [.string c, .string f])
theorem mk_key (c f : List UInt8) (hc : c.length ≤ maxLen) (hf : f.length ≤ maxLen) : keyOf Tryz.prog 59 (mkV c f) = some (mkL c f) := by
  have h1 : Tryz.prog.keyType 59 = true := by kernel_rfl
  have h2 : Tryz.prog.cellsOf 59 = 2 := by kernel_rfl
  have h3 : Tryz.prog.cellsOf 9 = 1 := by kernel_rfl
  obtain ⟨m, hm⟩ : ∃ m, Tryz.prog.types.size = m + 1 := ⟨_, (by kernel_rfl : Tryz.prog.types.size = (Tryz.prog.types.size - 1) + 1)⟩
  have h4 : (Value.formed Tryz.prog 59 (mkV c f)) = true := by
    simp [Value.formed, mkV, Tryz.underlying59, h2]
  unfold keyOf
  rw [Tryz.underlying59]
  simp only [h1, h4, Bool.and_self, if_true, hm]
  simp [Program.keyLits, mkV, Value.cells, Tryz.underlying59, Tryz.underlying9, h2, h3, hc, hf, mkL, str_size, str_data]
theorem mk_inj {c f c' f' : List UInt8} (hc : c.length ≤ maxLen) (hf : f.length ≤ maxLen) (hc' : c'.length ≤ maxLen) (hf' : f'.length ≤ maxLen) (h : mkL c f = mkL c' f') : c = c' ∧ f = f' := by
  have := mk_keyed.inj (mk_key c f hc hf) (by rw [h]; exact mk_key c' f' hc' hf')
  simp only [mkV, Value.agg.injEq, Array.mk.injEq, List.cons.injEq, Value.string.injEq, and_true] at this
  exact ⟨str_inj.1 this.1, str_inj.1 this.2⟩
end Go.Proofs.YtfjafpbmgbnllaaGreat
