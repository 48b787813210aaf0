/-
  What is proved here: what the small functions of package utf return (isPoint, sizeOf, first, goesOn, rest, put). Conditions: put lays points behind a row of the call's own of at most 100000 bytes.
-/
import Derived.Test.YtojkjcfhfcnehaaInfo
import Derived.Test.YtojkjcfhfcnehaaUtMath
import Derived.LoopTactic
namespace Go.Proofs.Ytojkjcfhfcnehaa
set_option linter.unusedVariables false
set_option linter.unusedSimpArgs false
open Go.RowKit

theorem isPoint_any (n : Int) (w : World) : Calls Try.prog 19 #[.int .i64 n] w fun e w' => e = .returned (.bool (isPt n)) ∧ w = w' := by
  by_cases h0 : (1 : Int) ≤ n
  · by_cases h1 : n ≤ 1114111
    · by_cases h2 : n < 55296
      · rw [show isPt n = true by simp only [isPt, decide_eq_true_eq]; omega]
        go_enter Try.func19, Try.ntmps19
        go_wp2
        go_ret
        exact ⟨rfl, rfl⟩
      · by_cases h3 : (57343 : Int) < n
        · rw [show isPt n = true by simp only [isPt, decide_eq_true_eq]; omega]
          go_enter Try.func19, Try.ntmps19
          go_wp2
          go_ret
          exact ⟨rfl, rfl⟩
        · rw [show isPt n = false by simp only [isPt, decide_eq_false_iff_not]; omega]
          go_enter Try.func19, Try.ntmps19
          go_wp2
          go_ret
          exact ⟨rfl, rfl⟩
    · rw [show isPt n = false by simp only [isPt, decide_eq_false_iff_not]; omega]
      go_enter Try.func19, Try.ntmps19
      go_wp2
      go_ret
      exact ⟨rfl, rfl⟩
  · rw [show isPt n = false by simp only [isPt, decide_eq_false_iff_not]; omega]
    go_enter Try.func19, Try.ntmps19
    go_wp2
    go_ret
    exact ⟨rfl, rfl⟩
theorem rPoint_any (n : Int) (w : World) : Calls Try.prog 21 #[.int .i64 n] w fun e w' => e = .returned (.bool (isPt n)) ∧ w = w' := by
  by_cases h0 : (1 : Int) ≤ n
  · by_cases h1 : n ≤ 1114111
    · by_cases h2 : n < 55296
      · rw [show isPt n = true by simp only [isPt, decide_eq_true_eq]; omega]
        go_enter Try.func21, Try.ntmps21
        go_wp2
        go_ret
        exact ⟨rfl, rfl⟩
      · by_cases h3 : (57343 : Int) < n
        · rw [show isPt n = true by simp only [isPt, decide_eq_true_eq]; omega]
          go_enter Try.func21, Try.ntmps21
          go_wp2
          go_ret
          exact ⟨rfl, rfl⟩
        · rw [show isPt n = false by simp only [isPt, decide_eq_false_iff_not]; omega]
          go_enter Try.func21, Try.ntmps21
          go_wp2
          go_ret
          exact ⟨rfl, rfl⟩
    · rw [show isPt n = false by simp only [isPt, decide_eq_false_iff_not]; omega]
      go_enter Try.func21, Try.ntmps21
      go_wp2
      go_ret
      exact ⟨rfl, rfl⟩
  · rw [show isPt n = false by simp only [isPt, decide_eq_false_iff_not]; omega]
    go_enter Try.func21, Try.ntmps21
    go_wp2
    go_ret
    exact ⟨rfl, rfl⟩

theorem sizeOf_any (n : Nat) (w : World) : Calls Try.prog 24 #[.int .i64 (n : Int)] w fun e w' => e = .returned (.int .i64 (szP n : Int)) ∧ w = w' := by
  unfold szP
  by_cases h1 : n < 128
  · rw [if_pos h1]
    have q1 : (n : Int) < 128 := by omega
    go_enter Try.func24, Try.ntmps24
    go_wp2
    go_ret
    exact ⟨rfl, rfl⟩
  rw [if_neg h1]
  have q1 : ¬ (n : Int) < 128 := by omega
  by_cases h2 : n < 2048
  · rw [if_pos h2]
    have q2 : (n : Int) < 2048 := by omega
    go_enter Try.func24, Try.ntmps24
    go_wp2
    go_ret
    exact ⟨rfl, rfl⟩
  rw [if_neg h2]
  have q2 : ¬ (n : Int) < 2048 := by omega
  by_cases h3 : n < 65536
  · rw [if_pos h3]
    have q3 : (n : Int) < 65536 := by omega
    go_enter Try.func24, Try.ntmps24
    go_wp2
    go_ret
    exact ⟨rfl, rfl⟩
  rw [if_neg h3]
  have q3 : ¬ (n : Int) < 65536 := by omega
  go_enter Try.func24, Try.ntmps24
  go_wp2
  go_ret
  exact ⟨rfl, rfl⟩

theorem first_any (c : Nat) (hc : c < 256) (w : World) : Calls Try.prog 22 #[.int .u8 (c : Int)] w fun e w' => e = .returned (.tuple #[.int .i64 (fdig c : Int), .int .i64 (fsz c : Int)]) ∧ w = w' := by
  unfold fdig fsz
  by_cases h1 : c < 128
  · rw [if_pos h1, if_pos (show c < 192 by omega)]
    have q1 : (c : Int) < 128 := by omega
    go_enter Try.func22, Try.ntmps22
    go_wp2
    go_ret2
    exact ⟨by rfl, rfl⟩
  rw [if_neg h1]
  have q1 : ¬ (c : Int) < 128 := by omega
  by_cases h2 : c < 192
  · rw [if_pos h2, if_pos h2]
    have q2 : (c : Int) < 192 := by omega
    go_enter Try.func22, Try.ntmps22
    go_wp2
    go_ret2
    exact ⟨by rfl, rfl⟩
  rw [if_neg h2, if_neg h2]
  have q2 : ¬ (c : Int) < 192 := by omega
  by_cases h3 : c < 224
  · rw [if_pos h3, if_pos h3]
    have q3 : (c : Int) < 224 := by omega
    have qc : ((c - 192 : Nat) : Int) = (c : Int) - 192 := by omega
    rw [qc]
    go_enter Try.func22, Try.ntmps22
    go_wp2
    go_ret2
    exact ⟨by rfl, rfl⟩
  rw [if_neg h3, if_neg h3]
  have q3 : ¬ (c : Int) < 224 := by omega
  by_cases h4 : c < 240
  · rw [if_pos h4, if_pos h4]
    have q4 : (c : Int) < 240 := by omega
    have qc : ((c - 224 : Nat) : Int) = (c : Int) - 224 := by omega
    rw [qc]
    go_enter Try.func22, Try.ntmps22
    go_wp2
    go_ret2
    exact ⟨by rfl, rfl⟩
  rw [if_neg h4, if_neg h4]
  have q4 : ¬ (c : Int) < 240 := by omega
  have qc : ((c - 240 : Nat) : Int) = (c : Int) - 240 := by omega
  rw [qc]
  go_enter Try.func22, Try.ntmps22
  go_wp2
  go_ret2
  exact ⟨by rfl, rfl⟩

theorem goesOn_any (c : Nat) (w : World) : Calls Try.prog 23 #[.int .u8 (c : Int)] w fun e w' => e = .returned (.bool (decide (128 ≤ c ∧ c < 192))) ∧ w = w' := by
  by_cases h1 : (128 : Int) ≤ (c : Int)
  · by_cases h2 : (c : Int) < 192
    · rw [show decide (128 ≤ c ∧ c < 192) = true by rw [decide_eq_true_eq]; omega]
      go_enter Try.func23, Try.ntmps23
      go_wp2
      go_ret
      exact ⟨rfl, rfl⟩
    · rw [show decide (128 ≤ c ∧ c < 192) = false by rw [decide_eq_false_iff_not]; omega]
      go_enter Try.func23, Try.ntmps23
      go_wp2
      go_ret
      exact ⟨rfl, rfl⟩
  · rw [show decide (128 ≤ c ∧ c < 192) = false by rw [decide_eq_false_iff_not]; omega]
    go_enter Try.func23, Try.ntmps23
    go_wp2
    go_ret
    exact ⟨rfl, rfl⟩

theorem rest_any (n : Int) (r : Nat) (hn : n = (r : Int)) (hr : r ≤ 1114111) (w : World) : Calls Try.prog 25 #[.int .i64 n] w fun e w' => e = .returned (.int .u8 (128 + (r : Int) % 64)) ∧ w = w' := by
  subst hn
  go_enter Try.func25, Try.ntmps25
  go_wp2
  go_ret
  exact ⟨rfl, rfl⟩

theorem bv_cons (x : UInt8) (xs : List UInt8) : bv (x :: xs) = .int .u8 x.toNat :: bv xs := rfl
theorem u8cell {n : Nat} (h : n < 256) : Value.int .u8 ((UInt8.ofNat n).toNat : Int) = .int .u8 (n : Int) := by rw [u8n h]

set_option maxHeartbeats 1000000 in
/-- put: a point's bytes behind a row of the call's own. -/
theorem put_any (base : Nat) (A : Option Addr) (n c : Nat) (xs : List UInt8) (p : Nat) (hp : isPt (p : Int) = true) (w : World) (hown : w.ownsRow base 5 1 (.slice A n c) n (bv xs)) (hn : n ≤ 100000) (hbase : base ≤ w.heap.size) :
    Calls Try.prog 20 #[.slice A n c, .int .i64 (p : Int)] w fun e w' => ∃ A' c', e = .returned (.slice A' (n + szP p) c') ∧ w'.ownsRow base 5 1 (.slice A' (n + szP p) c') (n + szP p) (bv (xs ++ enc p)) ∧ Below base w w' := by
  have hb := (isPt_iff p).1 hp
  obtain ⟨hb1, hb2, _⟩ := hb
  have S0 := sizeOf_any p
  unfold szP at S0
  unfold szP enc
  clear hp
  by_cases h1 : p < 128
  · rw [if_pos h1] at S0 ⊢
    rw [if_pos h1]
    go_enter Try.func20, Try.ntmps20
    go_wp2_with (first
      | (go_at_call 24; refine (S0 _).mono ?_; rintro e w' ⟨rfl, rfl⟩)
      | (at_builtin; refine wpList_app rfl (.tmp 10) (.tmp 13) 37 rfl 5 _ _ Try.underlying37 u8_info rfl base A n c (bv xs) rfl (hown.alloc _) (some ⟨w.heap.size, 0, none⟩) 1 1 [.int .u8 (p : Int)] rfl (rd_one _ _ _) (by simp [Value.oneCell']) (by unfold maxLen; omega) (by omega) (by simp; omega) ?_; intro A1 c1 w1 o1 g1 b1))
    go_ret
    refine ⟨A1, c1, rfl, ?_, ((Below.refl _ _).alloc hbase _).trans b1⟩
    rw [bv_append, bv_cons, u8cell (by omega)]
    exact o1
  rw [if_neg h1] at S0 ⊢
  rw [if_neg h1]
  by_cases h2 : p < 2048
  · rw [if_pos h2] at S0 ⊢
    rw [if_pos h2]
    go_enter Try.func20, Try.ntmps20
    go_wp2_with (first
      | (go_at_call 24; refine (S0 _).mono ?_; rintro e w' ⟨rfl, rfl⟩)
      | (go_at_call 25; refine (rest_any _ p (by omega) hb2 _).mono ?_; rintro e w' ⟨rfl, rfl⟩)
      | (at_builtin; refine wpList_app rfl (.tmp 17) (.tmp 24) 37 rfl 5 _ _ Try.underlying37 u8_info rfl base A n c (bv xs) rfl (hown.alloc _) (some ⟨w.heap.size, 0, none⟩) 2 2 [.int .u8 (192 + (p : Int) / 64), .int .u8 (128 + (p : Int) % 64)] rfl ((Blk.new w 5 [.int .u8 (192 + (p : Int) / 64), .int .u8 (128 + (p : Int) % 64)]).rd) (by simp [Value.oneCell']) (by unfold maxLen; omega) (by omega) (by simp; omega) ?_; intro A1 c1 w1 o1 g1 b1))
    go_ret
    refine ⟨A1, c1, rfl, ?_, ((Below.refl _ _).alloc hbase _).trans b1⟩
    rw [bv_append, bv_cons, u8cell (by omega), bv_cons, u8cell (by omega)]
    exact o1
  rw [if_neg h2] at S0 ⊢
  rw [if_neg h2]
  by_cases h3 : p < 65536
  · rw [if_pos h3] at S0 ⊢
    rw [if_pos h3]
    go_enter Try.func20, Try.ntmps20
    go_wp2_with (first
      | (go_at_call 24; refine (S0 _).mono ?_; rintro e w' ⟨rfl, rfl⟩)
      | (go_at_call 25; refine (rest_any _ (p / 64) (by omega) (by omega) _).mono ?_; rintro e w' ⟨rfl, rfl⟩)
      | (go_at_call 25; refine (rest_any _ p (by omega) hb2 _).mono ?_; rintro e w' ⟨rfl, rfl⟩)
      | (at_builtin; refine wpList_app rfl (.tmp 28) (.tmp 38) 37 rfl 5 _ _ Try.underlying37 u8_info rfl base A n c (bv xs) rfl (hown.alloc _) (some ⟨w.heap.size, 0, none⟩) 3 3 [.int .u8 (224 + (p : Int) / 4096), .int .u8 (128 + (p : Int) / 64 % 64), .int .u8 (128 + (p : Int) % 64)] rfl ((Blk.new w 5 [.int .u8 (224 + (p : Int) / 4096), .int .u8 (128 + (p : Int) / 64 % 64), .int .u8 (128 + (p : Int) % 64)]).rd) (by simp [Value.oneCell']) (by unfold maxLen; omega) (by omega) (by simp; omega) ?_; intro A1 c1 w1 o1 g1 b1))
    go_ret
    refine ⟨A1, c1, rfl, ?_, ((Below.refl _ _).alloc hbase _).trans b1⟩
    rw [bv_append, bv_cons, u8cell (by omega), bv_cons, u8cell (by omega), bv_cons, u8cell (by omega)]
    exact o1
  rw [if_neg h3] at S0 ⊢
  rw [if_neg h3]
  go_enter Try.func20, Try.ntmps20
  have e4 : (p : Int) / 4096 / 64 = (p : Int) / 262144 := by omega
  go_wp2_with (first
    | (go_at_call 24; refine (S0 _).mono ?_; rintro e w' ⟨rfl, rfl⟩)
    | (go_at_call 25; refine (rest_any _ (p / 4096) (by omega) (by omega) _).mono ?_; rintro e w' ⟨rfl, rfl⟩)
    | (go_at_call 25; refine (rest_any _ (p / 64) (by omega) (by omega) _).mono ?_; rintro e w' ⟨rfl, rfl⟩)
    | (go_at_call 25; refine (rest_any _ p (by omega) hb2 _).mono ?_; rintro e w' ⟨rfl, rfl⟩)
    | (at_builtin; refine wpList_app rfl (.tmp 42) (.tmp 54) 37 rfl 5 _ _ Try.underlying37 u8_info rfl base A n c (bv xs) rfl (hown.alloc _) (some ⟨w.heap.size, 0, none⟩) 4 4 [.int .u8 (240 + (p : Int) / 262144), .int .u8 (128 + (p : Int) / 4096 % 64), .int .u8 (128 + (p : Int) / 64 % 64), .int .u8 (128 + (p : Int) % 64)] rfl ((Blk.new w 5 [.int .u8 (240 + (p : Int) / 262144), .int .u8 (128 + (p : Int) / 4096 % 64), .int .u8 (128 + (p : Int) / 64 % 64), .int .u8 (128 + (p : Int) % 64)]).rd) (by simp [Value.oneCell']) (by unfold maxLen; omega) (by omega) (by simp; omega) ?_; intro A1 c1 w1 o1 g1 b1))
  go_ret
  refine ⟨A1, c1, rfl, ?_, ((Below.refl _ _).alloc hbase _).trans b1⟩
  rw [bv_append, bv_cons, u8cell (by omega), bv_cons, u8cell (by omega), bv_cons, u8cell (by omega), bv_cons, u8cell (by omega)]
  exact o1

end Go.Proofs.Ytojkjcfhfcnehaa
