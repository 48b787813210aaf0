/-
  What is proved here: the contracts of package varint for plain callers; the document's own Is, Put, At of layer 8; the chapter's examples come out true. Conditions: slices of at most 2^62 bytes where they are read.
-/
import Derived.Test.YtkgidimaiedocaaVt2
namespace Go.Proofs.Ytkgidimaiedocaa
set_option linter.unusedVariables false
set_option linter.unusedSimpArgs false
open Go.RowKit

theorem vput_no (n : Int) (hn : isLen n = false) (w : World) : Calls Try.prog 28 #[.int .i64 n] w fun e w' => e = .returned (.tuple #[.slice none 0 0, .int .i64 1]) ∧ w = w' :=
  callsIn_wide.1 (put_no_in Fence.wide 3 trivial trivial rfl (by omega) n hn w)
theorem vput_ok (n : Nat) (hn : n ≤ 268435455) (w : World) : Calls Try.prog 28 #[.int .i64 (n : Int)] w fun e w' => ∃ C c, e = .returned (.tuple #[.slice C (dgL n) c, .int .i64 0]) ∧ dgL n ≤ c ∧ Rd w' C (dgL n) (bv (dg n)) ∧ Below w.heap.size w w' :=
  callsIn_wide.1 (put_ok_in Fence.wide 3 trivial trivial trivial trivial rfl (by omega) n hn w)
theorem vat_neg (A : Option Addr) (l c : Nat) (i : Int) (hi : i < 0) (w : World) : Calls Try.prog 103 #[.slice A l c, .int .i64 i] w fun e w' => e = .returned (.tuple #[.int .i64 0, .int .i64 0, .int .i64 1]) ∧ Below w.heap.size w w' :=
  callsIn_wide.1 (vat_neg_in Fence.wide 3 trivial rfl A l c i hi w)
theorem vat_any (A : Option Addr) (l c i : Nat) (xs : List UInt8) (w : World) (hA : Rd w A l (bv xs)) (hlc : l ≤ c) (hlm : l ≤ maxLen) (hxs : xs.length = l) :
    Calls Try.prog 103 #[.slice A l c, .int .i64 (i : Int)] w fun e w' => e = .returned (.tuple #[.int .i64 (atR xs i).1, .int .i64 (atR xs i).2.1, .int .i64 (atR xs i).2.2]) ∧ Below w.heap.size w w' :=
  callsIn_wide.1 (vat_in Fence.wide 3 trivial trivial trivial rfl (by omega) A l c i xs w hA hlc hlm hxs)

theorem rvIs_any (n : Int) (w : World) : Calls Try.prog 37 #[.int .i64 n] w fun e w' => e = .returned (.bool (isLen n)) ∧ w = w' := by
  by_cases h0 : 0 ≤ n
  · by_cases h1 : n ≤ 268435455
    · rw [show isLen n = true by simp [isLen, h0, h1]]
      go_enter Try.func37, Try.ntmps37
      go_wp2
      go_ret
      exact ⟨rfl, rfl⟩
    · rw [show isLen n = false by simp [isLen, h1]]
      go_enter Try.func37, Try.ntmps37
      go_wp2
      go_ret
      exact ⟨rfl, rfl⟩
  · rw [show isLen n = false by simp [isLen, h0]]
    go_enter Try.func37, Try.ntmps37
    go_wp2
    go_ret
    exact ⟨rfl, rfl⟩


end Go.Proofs.Ytkgidimaiedocaa
