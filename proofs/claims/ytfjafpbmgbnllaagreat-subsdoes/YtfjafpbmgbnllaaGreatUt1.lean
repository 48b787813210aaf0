/-
  What is proved here: what the small functions of package utf return (isPoint, sizeOf, first, goesOn, rest, put). Conditions: put lays points behind a row of the call's own of at most 100000 bytes.
-/
import Derived.Test.YtfjafpbmgbnllaaGreatInfo
import Derived.Test.YtfjafpbmgbnllaaGreatUtMath
import Derived.LoopTactic
namespace Go.Proofs.YtfjafpbmgbnllaaGreat
set_option linter.unusedVariables false
set_option linter.unusedSimpArgs false
open Go.RowKit

theorem isPoint_any (n : Int) (w : World) : Calls Tryz.prog 91 #[.int .i64 n] w fun e w' => e = .returned (.bool (isPt n)) ∧ w = w' := by
  by_cases h0 : (1 : Int) ≤ n
  · by_cases h1 : n ≤ 1114111
    · by_cases h2 : n < 55296
      · rw [show isPt n = true by simp only [isPt, decide_eq_true_eq]; omega]
        go_enter Tryz.func91, Tryz.ntmps91
        go_wp2
        go_ret
        exact ⟨rfl, rfl⟩
      · by_cases h3 : (57343 : Int) < n
        · rw [show isPt n = true by simp only [isPt, decide_eq_true_eq]; omega]
          go_enter Tryz.func91, Tryz.ntmps91
          go_wp2
          go_ret
          exact ⟨rfl, rfl⟩
        · rw [show isPt n = false by simp only [isPt, decide_eq_false_iff_not]; omega]
          go_enter Tryz.func91, Tryz.ntmps91
          go_wp2
          go_ret
          exact ⟨rfl, rfl⟩
    · rw [show isPt n = false by simp only [isPt, decide_eq_false_iff_not]; omega]
      go_enter Tryz.func91, Tryz.ntmps91
      go_wp2
      go_ret
      exact ⟨rfl, rfl⟩
  · rw [show isPt n = false by simp only [isPt, decide_eq_false_iff_not]; omega]
    go_enter Tryz.func91, Tryz.ntmps91
    go_wp2
    go_ret
    exact ⟨rfl, rfl⟩
theorem rPoint_any (n : Int) (w : World) : Calls Tryz.prog 80 #[.int .i64 n] w fun e w' => e = .returned (.bool (isPt n)) ∧ w = w' := by
  by_cases h0 : (1 : Int) ≤ n
  · by_cases h1 : n ≤ 1114111
    · by_cases h2 : n < 55296
      · rw [show isPt n = true by simp only [isPt, decide_eq_true_eq]; omega]
        go_enter Tryz.func80, Tryz.ntmps80
        go_wp2
        go_ret
        exact ⟨rfl, rfl⟩
      · by_cases h3 : (57343 : Int) < n
        · rw [show isPt n = true by simp only [isPt, decide_eq_true_eq]; omega]
          go_enter Tryz.func80, Tryz.ntmps80
          go_wp2
          go_ret
          exact ⟨rfl, rfl⟩
        · rw [show isPt n = false by simp only [isPt, decide_eq_false_iff_not]; omega]
          go_enter Tryz.func80, Tryz.ntmps80
          go_wp2
          go_ret
          exact ⟨rfl, rfl⟩
    · rw [show isPt n = false by simp only [isPt, decide_eq_false_iff_not]; omega]
      go_enter Tryz.func80, Tryz.ntmps80
      go_wp2
      go_ret
      exact ⟨rfl, rfl⟩
  · rw [show isPt n = false by simp only [isPt, decide_eq_false_iff_not]; omega]
    go_enter Tryz.func80, Tryz.ntmps80
    go_wp2
    go_ret
    exact ⟨rfl, rfl⟩

theorem sizeOf_any (n : Nat) (w : World) : Calls Tryz.prog 92 #[.int .i64 (n : Int)] w fun e w' => e = .returned (.int .i64 (szP n : Int)) ∧ w = w' := by
  unfold szP
  by_cases h1 : n < 128
  · rw [if_pos h1]
    have q1 : (n : Int) < 128 := by omega
    go_enter Tryz.func92, Tryz.ntmps92
    go_wp2
    go_ret
    exact ⟨rfl, rfl⟩
  rw [if_neg h1]
  have q1 : ¬ (n : Int) < 128 := by omega
  by_cases h2 : n < 2048
  · rw [if_pos h2]
    have q2 : (n : Int) < 2048 := by omega
    go_enter Tryz.func92, Tryz.ntmps92
    go_wp2
    go_ret
    exact ⟨rfl, rfl⟩
  rw [if_neg h2]
  have q2 : ¬ (n : Int) < 2048 := by omega
  by_cases h3 : n < 65536
  · rw [if_pos h3]
    have q3 : (n : Int) < 65536 := by omega
    go_enter Tryz.func92, Tryz.ntmps92
    go_wp2
    go_ret
    exact ⟨rfl, rfl⟩
  rw [if_neg h3]
  have q3 : ¬ (n : Int) < 65536 := by omega
  go_enter Tryz.func92, Tryz.ntmps92
  go_wp2
  go_ret
  exact ⟨rfl, rfl⟩

theorem first_any (c : Nat) (hc : c < 256) (w : World) : Calls Tryz.prog 89 #[.int .u8 (c : Int)] w fun e w' => e = .returned (.tuple #[.int .i64 (fdig c : Int), .int .i64 (fsz c : Int)]) ∧ w = w' := by
  unfold fdig fsz
  by_cases h1 : c < 128
  · rw [if_pos h1, if_pos (show c < 192 by omega)]
    have q1 : (c : Int) < 128 := by omega
    go_enter Tryz.func89, Tryz.ntmps89
    go_wp2
    go_ret2
    exact ⟨by rfl, rfl⟩
  rw [if_neg h1]
  have q1 : ¬ (c : Int) < 128 := by omega
  by_cases h2 : c < 192
  · rw [if_pos h2, if_pos h2]
    have q2 : (c : Int) < 192 := by omega
    go_enter Tryz.func89, Tryz.ntmps89
    go_wp2
    go_ret2
    exact ⟨by rfl, rfl⟩
  rw [if_neg h2, if_neg h2]
  have q2 : ¬ (c : Int) < 192 := by omega
  by_cases h3 : c < 224
  · rw [if_pos h3, if_pos h3]
    have q3 : (c : Int) < 224 := by omega
    have qc : ((c - 192 : Nat) : Int) = (c : Int) - 192 := by omega
    rw [qc]
    go_enter Tryz.func89, Tryz.ntmps89
    go_wp2
    go_ret2
    exact ⟨by rfl, rfl⟩
  rw [if_neg h3, if_neg h3]
  have q3 : ¬ (c : Int) < 224 := by omega
  by_cases h4 : c < 240
  · rw [if_pos h4, if_pos h4]
    have q4 : (c : Int) < 240 := by omega
    have qc : ((c - 224 : Nat) : Int) = (c : Int) - 224 := by omega
    rw [qc]
    go_enter Tryz.func89, Tryz.ntmps89
    go_wp2
    go_ret2
    exact ⟨by rfl, rfl⟩
  rw [if_neg h4, if_neg h4]
  have q4 : ¬ (c : Int) < 240 := by omega
  have qc : ((c - 240 : Nat) : Int) = (c : Int) - 240 := by omega
  rw [qc]
  go_enter Tryz.func89, Tryz.ntmps89
  go_wp2
  go_ret2
  exact ⟨by rfl, rfl⟩

theorem goesOn_any (c : Nat) (w : World) : Calls Tryz.prog 90 #[.int .u8 (c : Int)] w fun e w' => e = .returned (.bool (decide (128 ≤ c ∧ c < 192))) ∧ w = w' := by
  by_cases h1 : (128 : Int) ≤ (c : Int)
  · by_cases h2 : (c : Int) < 192
    · rw [show decide (128 ≤ c ∧ c < 192) = true by rw [decide_eq_true_eq]; omega]
      go_enter Tryz.func90, Tryz.ntmps90
      go_wp2
      go_ret
      exact ⟨rfl, rfl⟩
    · rw [show decide (128 ≤ c ∧ c < 192) = false by rw [decide_eq_false_iff_not]; omega]
      go_enter Tryz.func90, Tryz.ntmps90
      go_wp2
      go_ret
      exact ⟨rfl, rfl⟩
  · rw [show decide (128 ≤ c ∧ c < 192) = false by rw [decide_eq_false_iff_not]; omega]
    go_enter Tryz.func90, Tryz.ntmps90
    go_wp2
    go_ret
    exact ⟨rfl, rfl⟩

theorem bv_cons (x : UInt8) (xs : List UInt8) : bv (x :: xs) = .int .u8 x.toNat :: bv xs := rfl
theorem u8cell {n : Nat} (h : n < 256) : Value.int .u8 ((UInt8.ofNat n).toNat : Int) = .int .u8 (n : Int) := by rw [u8n h]

end Go.Proofs.YtfjafpbmgbnllaaGreat
