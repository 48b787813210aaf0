/-
  What is proved here: a struct of two texts as a map's key. No condition but the texts' lengths.
-/
import Derived.Test.YtfjafpbmgbnllaaRows
import Derived.Test.YtfjafpbmgbnllaaBase
import Derived.Maps.OwnSet
import Derived.DeepKeys5
import Derived.MapViews
namespace Go.Proofs.Ytfjafpbmgbnllaa
set_option linter.unusedVariables false
set_option linter.unusedSimpArgs false
open Go.RowKit

theorem mk_laid : laidOutB Try.prog = true := by kernel_rfl
theorem mk_keyed : Maps.Keyed Try.prog 60 := Maps.Keyed.of_law (deep_law_gate mk_laid (by decide +kernel) (by decide +kernel) (by kernel_rfl) (by kernel_rfl))
/-- The key. -/
def mkV (c f : List UInt8) : Value := .agg #[.string (str c), .string (str f)]
def mkL (c f : List UInt8) : Lit := .string (keyBytes [.string c, .string f])
theorem mk_key (c f : List UInt8) (hc : c.length ≤ maxLen) (hf : f.length ≤ maxLen) : keyOf Try.prog 60 (mkV c f) = some (mkL c f) := by
  have h1 : Try.prog.keyType 60 = true := by kernel_rfl
  have h2 : Try.prog.cellsOf 60 = 2 := by kernel_rfl
  have h3 : Try.prog.cellsOf 9 = 1 := by kernel_rfl
  obtain ⟨m, hm⟩ : ∃ m, Try.prog.types.size = m + 1 := ⟨_, (by kernel_rfl : Try.prog.types.size = (Try.prog.types.size - 1) + 1)⟩
  have h4 : (Value.formed Try.prog 60 (mkV c f)) = true := by
    simp [Value.formed, mkV, Try.underlying60, h2]
  unfold keyOf
  rw [Try.underlying60]
  simp only [h1, h4, Bool.and_self, if_true, hm]
  simp [Program.keyLits, mkV, Value.cells, Try.underlying60, Try.underlying9, h2, h3, hc, hf, mkL, str_size, str_data]
theorem mk_inj {c f c' f' : List UInt8} (hc : c.length ≤ maxLen) (hf : f.length ≤ maxLen) (hc' : c'.length ≤ maxLen) (hf' : f'.length ≤ maxLen) (h : mkL c f = mkL c' f') : c = c' ∧ f = f' := by
  have := mk_keyed.inj (mk_key c f hc hf) (by rw [h]; exact mk_key c' f' hc' hf')
  simp only [mkV, Value.agg.injEq, Array.mk.injEq, List.cons.injEq, Value.string.injEq, and_true] at this
  exact ⟨str_inj.1 this.1, str_inj.1 this.2⟩
end Go.Proofs.Ytfjafpbmgbnllaa
