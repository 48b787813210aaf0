/-
  What is proved here: the document's own May says no to a request of more than a million values. Condition: there are as many.
-/
import Derived.Test.YtnialjikpoembaaRef3c
namespace Go.Proofs.Ytnialjikpoembaa
set_option linter.unusedVariables false
set_option linter.unusedSimpArgs false
set_option maxRecDepth 100000
open Go.RowKit
theorem valuesL_no (f a c t an o most : Int) (A : Option Addr) (n k : Nat) (w : World) (hn : 1000000 < n) (hm : most ≤ 2000) :
    Calls Try.prog 42 #[.agg #[.int .i64 f, .int .i64 a, .int .i64 c, .slice A n k, .int .i64 t, .int .i64 an, .int .i64 o], .int .i64 1, .int .i64 most] w fun e w' => e = .returned (.bool false) ∧ Below w.heap.size w w' := by
  have q1 : decide ((n : Int) < 1) = false := decide_eq_false (by omega)
  have q2 : decide (most < (n : Int)) = true := decide_eq_true (by omega)
  clear hn hm
  go_enter Try.func42, Try.ntmps42
  go_wp2
  go_ret
  exact ⟨rfl, (Below.refl _ _).alloc (Nat.le_refl _) _⟩
theorem refMayL_5 (a c t an o : Int) (A : Option Addr) (n k : Nat) (w : World) (hn : 1000000 < n) :
    Calls Try.prog 23 #[.agg #[.int .i64 5, .int .i64 a, .int .i64 c, .slice A n k, .int .i64 t, .int .i64 an, .int .i64 o]] w fun e w' => e = .returned (.bool false) ∧ Below w.heap.size w w' := by
  have HV := hide (fun W => valuesL_no 5 a c t an o 1 A n k W hn (by omega))
  clear hn
  cases h1 : an == 0
  · skip
    go_enter Try.func23, Try.ntmps23
    go_wp2
    go_ret
    exact ⟨rfl, (Below.refl _ _).alloc (Nat.le_refl _) _⟩
  cases h2 : o == 0
  · skip
    go_enter Try.func23, Try.ntmps23
    go_wp2
    go_ret
    exact ⟨rfl, (Below.refl _ _).alloc (Nat.le_refl _) _⟩
  cases ht : t == 0
  · skip
    go_enter Try.func23, Try.ntmps23
    go_wp2
    go_ret
    exact ⟨rfl, (Below.refl _ _).alloc (Nat.le_refl _) _⟩
  cases hc : c == 0
  · skip
    go_enter Try.func23, Try.ntmps23
    go_wp2
    go_ret
    exact ⟨rfl, (Below.refl _ _).alloc (Nat.le_refl _) _⟩
  go_enter Try.func23, Try.ntmps23
  go_wp2_with fail
  refine (HV.out _).mono ?_
  rintro e w1 ⟨rfl, b1⟩
  have B2 := hide (((Below.refl w.heap.size w).alloc (Nat.le_refl _) _).trans (b1.mono (by simp)))
  clear b1
  go_wp2
  go_ret
  exact ⟨rfl, B2.out⟩
theorem refMayL_6 (a c t an o : Int) (A : Option Addr) (n k : Nat) (w : World) (hn : 1000000 < n) :
    Calls Try.prog 23 #[.agg #[.int .i64 6, .int .i64 a, .int .i64 c, .slice A n k, .int .i64 t, .int .i64 an, .int .i64 o]] w fun e w' => e = .returned (.bool false) ∧ Below w.heap.size w w' := by
  have HV := hide (fun W => valuesL_no 6 a c t an o 1 A n k W hn (by omega))
  clear hn
  cases h1 : an == 0
  · skip
    go_enter Try.func23, Try.ntmps23
    go_wp2
    go_ret
    exact ⟨rfl, (Below.refl _ _).alloc (Nat.le_refl _) _⟩
  cases h2 : o == 0
  · skip
    go_enter Try.func23, Try.ntmps23
    go_wp2
    go_ret
    exact ⟨rfl, (Below.refl _ _).alloc (Nat.le_refl _) _⟩
  cases ht : t == 0
  · skip
    go_enter Try.func23, Try.ntmps23
    go_wp2
    go_ret
    exact ⟨rfl, (Below.refl _ _).alloc (Nat.le_refl _) _⟩
  cases hc : c == 0
  · skip
    go_enter Try.func23, Try.ntmps23
    go_wp2
    go_ret
    exact ⟨rfl, (Below.refl _ _).alloc (Nat.le_refl _) _⟩
  go_enter Try.func23, Try.ntmps23
  go_wp2_with fail
  refine (HV.out _).mono ?_
  rintro e w1 ⟨rfl, b1⟩
  have B2 := hide (((Below.refl w.heap.size w).alloc (Nat.le_refl _) _).trans (b1.mono (by simp)))
  clear b1
  go_wp2
  go_ret
  exact ⟨rfl, B2.out⟩
theorem refMayL_15 (a c t an o : Int) (A : Option Addr) (n k : Nat) (w : World) (hn : 1000000 < n) :
    Calls Try.prog 23 #[.agg #[.int .i64 15, .int .i64 a, .int .i64 c, .slice A n k, .int .i64 t, .int .i64 an, .int .i64 o]] w fun e w' => e = .returned (.bool false) ∧ Below w.heap.size w w' := by
  have HV := hide (fun W => valuesL_no 15 a c t an o 1968 A n k W hn (by omega))
  clear hn
  cases h1 : an == 0
  · skip
    go_enter Try.func23, Try.ntmps23
    go_wp2
    go_ret
    exact ⟨rfl, (Below.refl _ _).alloc (Nat.le_refl _) _⟩
  cases h2 : o == 0
  · skip
    go_enter Try.func23, Try.ntmps23
    go_wp2
    go_ret
    exact ⟨rfl, (Below.refl _ _).alloc (Nat.le_refl _) _⟩
  cases ht : t == 0
  · skip
    go_enter Try.func23, Try.ntmps23
    go_wp2
    go_ret
    exact ⟨rfl, (Below.refl _ _).alloc (Nat.le_refl _) _⟩
  cases hc : c == (n : Int)
  · skip
    go_enter Try.func23, Try.ntmps23
    go_wp2
    go_ret
    exact ⟨rfl, (Below.refl _ _).alloc (Nat.le_refl _) _⟩
  go_enter Try.func23, Try.ntmps23
  go_wp2_with fail
  refine (HV.out _).mono ?_
  rintro e w1 ⟨rfl, b1⟩
  have B2 := hide (((Below.refl w.heap.size w).alloc (Nat.le_refl _) _).trans (b1.mono (by simp)))
  clear b1
  go_wp2
  go_ret
  exact ⟨rfl, B2.out⟩
theorem refMayL_16 (a c t an o : Int) (A : Option Addr) (n k : Nat) (w : World) (hn : 1000000 < n) :
    Calls Try.prog 23 #[.agg #[.int .i64 16, .int .i64 a, .int .i64 c, .slice A n k, .int .i64 t, .int .i64 an, .int .i64 o]] w fun e w' => e = .returned (.bool false) ∧ Below w.heap.size w w' := by
  have HV := hide (fun W => valuesL_no 16 a c t an o 123 A n k W hn (by omega))
  clear hn
  cases h1 : an == 0
  · skip
    go_enter Try.func23, Try.ntmps23
    go_wp2
    go_ret
    exact ⟨rfl, (Below.refl _ _).alloc (Nat.le_refl _) _⟩
  cases h2 : o == 0
  · skip
    go_enter Try.func23, Try.ntmps23
    go_wp2
    go_ret
    exact ⟨rfl, (Below.refl _ _).alloc (Nat.le_refl _) _⟩
  cases ht : t == 0
  · skip
    go_enter Try.func23, Try.ntmps23
    go_wp2
    go_ret
    exact ⟨rfl, (Below.refl _ _).alloc (Nat.le_refl _) _⟩
  cases hc : c == (n : Int)
  · skip
    go_enter Try.func23, Try.ntmps23
    go_wp2
    go_ret
    exact ⟨rfl, (Below.refl _ _).alloc (Nat.le_refl _) _⟩
  go_enter Try.func23, Try.ntmps23
  go_wp2_with fail
  refine (HV.out _).mono ?_
  rintro e w1 ⟨rfl, b1⟩
  have B2 := hide (((Below.refl w.heap.size w).alloc (Nat.le_refl _) _).trans (b1.mono (by simp)))
  clear b1
  go_wp2
  go_ret
  exact ⟨rfl, B2.out⟩
theorem refMayL_1 (a c t an o : Int) (A : Option Addr) (n k : Nat) (w : World) (hn : 1000000 < n) :
    Calls Try.prog 23 #[.agg #[.int .i64 1, .int .i64 a, .int .i64 c, .slice A n k, .int .i64 t, .int .i64 an, .int .i64 o]] w fun e w' => e = .returned (.bool false) ∧ Below w.heap.size w w' := by
  have q : ((n : Int) == 0) = false := by rw [beq_eq_false_iff_ne]; omega
  clear hn
  cases h1 : an == 0
  · skip
    go_enter Try.func23, Try.ntmps23
    go_wp2
    go_ret
    exact ⟨rfl, (Below.refl _ _).alloc (Nat.le_refl _) _⟩
  cases h2 : o == 0
  all_goals
    go_enter Try.func23, Try.ntmps23
    go_wp2
    go_ret
    exact ⟨rfl, (Below.refl _ _).alloc (Nat.le_refl _) _⟩
theorem refMayL_2 (a c t an o : Int) (A : Option Addr) (n k : Nat) (w : World) (hn : 1000000 < n) :
    Calls Try.prog 23 #[.agg #[.int .i64 2, .int .i64 a, .int .i64 c, .slice A n k, .int .i64 t, .int .i64 an, .int .i64 o]] w fun e w' => e = .returned (.bool false) ∧ Below w.heap.size w w' := by
  have q : ((n : Int) == 0) = false := by rw [beq_eq_false_iff_ne]; omega
  clear hn
  cases h1 : an == 0
  · skip
    go_enter Try.func23, Try.ntmps23
    go_wp2
    go_ret
    exact ⟨rfl, (Below.refl _ _).alloc (Nat.le_refl _) _⟩
  cases h2 : o == 0
  all_goals
    go_enter Try.func23, Try.ntmps23
    go_wp2
    go_ret
    exact ⟨rfl, (Below.refl _ _).alloc (Nat.le_refl _) _⟩
theorem refMayL_3 (a c t an o : Int) (A : Option Addr) (n k : Nat) (w : World) (hn : 1000000 < n) :
    Calls Try.prog 23 #[.agg #[.int .i64 3, .int .i64 a, .int .i64 c, .slice A n k, .int .i64 t, .int .i64 an, .int .i64 o]] w fun e w' => e = .returned (.bool false) ∧ Below w.heap.size w w' := by
  have q : ((n : Int) == 0) = false := by rw [beq_eq_false_iff_ne]; omega
  clear hn
  cases h1 : an == 0
  · skip
    go_enter Try.func23, Try.ntmps23
    go_wp2
    go_ret
    exact ⟨rfl, (Below.refl _ _).alloc (Nat.le_refl _) _⟩
  cases h2 : o == 0
  all_goals
    go_enter Try.func23, Try.ntmps23
    go_wp2
    go_ret
    exact ⟨rfl, (Below.refl _ _).alloc (Nat.le_refl _) _⟩
theorem refMayL_4 (a c t an o : Int) (A : Option Addr) (n k : Nat) (w : World) (hn : 1000000 < n) :
    Calls Try.prog 23 #[.agg #[.int .i64 4, .int .i64 a, .int .i64 c, .slice A n k, .int .i64 t, .int .i64 an, .int .i64 o]] w fun e w' => e = .returned (.bool false) ∧ Below w.heap.size w w' := by
  have q : ((n : Int) == 0) = false := by rw [beq_eq_false_iff_ne]; omega
  clear hn
  cases h1 : an == 0
  · skip
    go_enter Try.func23, Try.ntmps23
    go_wp2
    go_ret
    exact ⟨rfl, (Below.refl _ _).alloc (Nat.le_refl _) _⟩
  cases h2 : o == 0
  all_goals
    go_enter Try.func23, Try.ntmps23
    go_wp2
    go_ret
    exact ⟨rfl, (Below.refl _ _).alloc (Nat.le_refl _) _⟩
theorem refMayL_22 (a c t an o : Int) (A : Option Addr) (n k : Nat) (w : World) (hn : 1000000 < n) :
    Calls Try.prog 23 #[.agg #[.int .i64 22, .int .i64 a, .int .i64 c, .slice A n k, .int .i64 t, .int .i64 an, .int .i64 o]] w fun e w' => e = .returned (.bool false) ∧ Below w.heap.size w w' := by
  have q : ((n : Int) == 0) = false := by rw [beq_eq_false_iff_ne]; omega
  clear hn
  cases h1 : an == 0
  · skip
    go_enter Try.func23, Try.ntmps23
    go_wp2
    go_ret
    exact ⟨rfl, (Below.refl _ _).alloc (Nat.le_refl _) _⟩
  cases h2 : o == 0
  all_goals
    go_enter Try.func23, Try.ntmps23
    go_wp2
    go_ret
    exact ⟨rfl, (Below.refl _ _).alloc (Nat.le_refl _) _⟩
theorem refMayL_23 (a c t an o : Int) (A : Option Addr) (n k : Nat) (w : World) (hn : 1000000 < n) :
    Calls Try.prog 23 #[.agg #[.int .i64 23, .int .i64 a, .int .i64 c, .slice A n k, .int .i64 t, .int .i64 an, .int .i64 o]] w fun e w' => e = .returned (.bool false) ∧ Below w.heap.size w w' := by
  have HV := hide (fun W => valuesL_no 23 a c t an o 121 A n k W hn (by omega))
  clear hn
  cases h1 : an == 0
  · skip
    go_enter Try.func23, Try.ntmps23
    go_wp2
    go_ret
    exact ⟨rfl, (Below.refl _ _).alloc (Nat.le_refl _) _⟩
  cases h2 : o == 0
  · skip
    go_enter Try.func23, Try.ntmps23
    go_wp2
    go_ret
    exact ⟨rfl, (Below.refl _ _).alloc (Nat.le_refl _) _⟩
  cases hc1 : decide (1 ≤ c)
  · skip
    go_enter Try.func23, Try.ntmps23
    go_wp2
    go_ret
    exact ⟨rfl, (Below.refl _ _).alloc (Nat.le_refl _) _⟩
  cases hc2 : decide (c ≤ 125)
  · skip
    go_enter Try.func23, Try.ntmps23
    go_wp2
    go_ret
    exact ⟨rfl, (Below.refl _ _).alloc (Nat.le_refl _) _⟩
  have hc1' := of_decide_eq_true hc1
  have hc2' := of_decide_eq_true hc2
  have HSp := hide (fun W => span_any a c (by omega) (by omega) W)
  generalize spanB a c = bS at *
  cases bS
  · go_enter Try.func23, Try.ntmps23
    go_wp2_with fail
    refine (HSp.out _).mono ?_
    rintro e w1 ⟨rfl, rfl⟩
    go_wp2
    go_ret
    exact ⟨rfl, (Below.refl _ _).alloc (Nat.le_refl _) _⟩
  · go_enter Try.func23, Try.ntmps23
    go_wp2_with fail
    refine (HSp.out _).mono ?_
    rintro e w1 ⟨rfl, rfl⟩
    go_wp2_with fail
    refine (HV.out _).mono ?_
    rintro e w1 ⟨rfl, b1⟩
    have B2 := hide (((Below.refl w.heap.size w).alloc (Nat.le_refl _) _).trans (b1.mono (by simp)))
    clear b1
    go_wp2
    go_ret
    exact ⟨rfl, B2.out⟩
theorem refMay_long (f a c t an o : Int) (A : Option Addr) (n k : Nat) (w : World) (hn : 1000000 < n) :
    Calls Try.prog 23 #[.agg #[.int .i64 f, .int .i64 a, .int .i64 c, .slice A n k, .int .i64 t, .int .i64 an, .int .i64 o]] w fun e w' => e = .returned (.bool false) ∧ Below w.heap.size w w' := by
  by_cases h1 : f = 1
  · subst h1; exact refMayL_1 a c t an o A n k w hn
  by_cases h2 : f = 2
  · subst h2; exact refMayL_2 a c t an o A n k w hn
  by_cases h3 : f = 3
  · subst h3; exact refMayL_3 a c t an o A n k w hn
  by_cases h4 : f = 4
  · subst h4; exact refMayL_4 a c t an o A n k w hn
  by_cases h5 : f = 5
  · subst h5; exact refMayL_5 a c t an o A n k w hn
  by_cases h6 : f = 6
  · subst h6; exact refMayL_6 a c t an o A n k w hn
  by_cases h15 : f = 15
  · subst h15; exact refMayL_15 a c t an o A n k w hn
  by_cases h16 : f = 16
  · subst h16; exact refMayL_16 a c t an o A n k w hn
  by_cases h22 : f = 22
  · subst h22; exact refMayL_22 a c t an o A n k w hn
  by_cases h23 : f = 23
  · subst h23; exact refMayL_23 a c t an o A n k w hn
  exact refMay_else f a c t an o A n k w (ne_beq h1) (ne_beq h2) (ne_beq h3) (ne_beq h4) (ne_beq h5) (ne_beq h6) (ne_beq h15) (ne_beq h16) (ne_beq h22) (ne_beq h23)
end Go.Proofs.Ytnialjikpoembaa
