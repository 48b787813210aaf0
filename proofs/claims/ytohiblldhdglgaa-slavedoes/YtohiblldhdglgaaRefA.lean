/-
  What is proved here: what the document's own functions of layer 1 (Is, Both) return. Conditions: lengths up to some hundred thousand where memory is made.
-/
import Derived.Test.YtohiblldhdglgaaInfo
import Derived.Test.YtohiblldhdglgaaBitsMath
import Derived.LoopTactic
namespace Go.Proofs.Ytohiblldhdglgaa
set_option linter.unusedVariables false
set_option linter.unusedSimpArgs false
open Go.RowKit

theorem is_yes (n : Nat) (hn : n ≤ 65535) (w : World) : Calls Try.prog 31 #[.int .i64 (n : Int)] w fun e w' => e = .returned (.bool true) ∧ w = w' := by
  have q0 : (0 : Int) ≤ (n : Int) := by omega
  have q1 : (n : Int) ≤ 65535 := by omega
  go_enter Try.func31, Try.ntmps31
  go_wp2
  go_ret
  exact ⟨rfl, rfl⟩
theorem is_no (n : Int) (hn : n < 0 ∨ 65535 < n) (w : World) : Calls Try.prog 31 #[.int .i64 n] w fun e w' => e = .returned (.bool false) ∧ w = w' := by
  rcases hn with hn | hn
  · have q0 : decide ((0 : Int) ≤ n) = false := by simpa using hn
    go_enter Try.func31, Try.ntmps31
    go_wp2
    go_ret
    exact ⟨rfl, rfl⟩
  · have q0 : (0 : Int) ≤ n := by omega
    have q1 : decide (n ≤ 65535) = false := by simpa using hn
    go_enter Try.func31, Try.ntmps31
    go_wp2
    go_ret
    exact ⟨rfl, rfl⟩

end Go.Proofs.Ytohiblldhdglgaa
