/-
  What is proved here: the law MbapNil returns true for every slice of bytes, and writes nothing that was there. No condition.
-/
import Derived.Test.YtjldfefebnpdgaaMb6
namespace Go.Proofs.Ytjldfefebnpdgaa
set_option linter.unusedVariables false
set_option linter.unusedSimpArgs false
open Go.RowKit

theorem nil6_walk (A : Option Addr) (n k : Nat) (w : World) : Calls Try.prog 7 #[.slice A n k] w fun e w' => e = .returned (.bool true) ∧ Below w.heap.size w w' := by
  go_enter Try.func7, Try.ntmps7
  go_wp2_with (first
    | (go_at_call 15; refine (mfeed_nil A n k w).mono ?_; rintro e w1 ⟨rfl, rfl⟩)
    | (go_at_call 16; refine (mleft_nil _).mono ?_; rintro e w1 ⟨rfl, rfl⟩)
    | (go_at_call 11; refine (awake6_any _).mono ?_; rintro e w1 ⟨rfl, b1⟩))
  go_ret
  exact ⟨rfl, b1⟩

end Go.Proofs.Ytjldfefebnpdgaa
