/-
  What is proved here: what the document's own May returns: whether a request may be. Condition: at most a million values.
-/
import Derived.Test.YtfpfijggmfeejaaRef3a
namespace Go.Proofs.Ytfpfijggmfeejaa
set_option linter.unusedVariables false
set_option linter.unusedSimpArgs false
open Go.RowKit

theorem reads_ref (a c : Int) (n : Nat) (t an o most : Int) : readsB a c n t an o most = (((n : Int) == 0) && (an == 0 && o == 0) && t == 0 && decide (1 ≤ c) && decide (c ≤ most) && spanB a c) := by
  rw [Bool.eq_iff_iff]
  simp [readsB, liesB, plainB, spanB, isW]
  omega
theorem one_ref (a c : Int) (vs : List Int) (t an o top : Int) : oneB a c vs t an o top = ((an == 0 && o == 0) && t == 0 && c == 0 && valsB vs 1 1 top && spanB a 1) := by
  rw [Bool.eq_iff_iff]
  cases hu : upToB vs top <;> simp [oneB, plainB, spanB, isW, valsB, hu]
  omega
theorem many_ref (a c : Int) (vs : List Int) (t an o most top : Int) : manyB a c vs t an o most top = ((an == 0 && o == 0) && t == 0 && c == (vs.length : Int) && valsB vs 1 most top && spanB a vs.length) := by
  rw [Bool.eq_iff_iff]
  cases hu : upToB vs top <;> simp [manyB, liesB, plainB, spanB, isW, valsB, hu]
  omega
theorem masks_ref (a c : Int) (n : Nat) (t an o : Int) : masksB a c n t an o = (((n : Int) == 0) && t == 0 && c == 0 && spanB a 1 && isW an && isW o) := by
  rw [Bool.eq_iff_iff]
  simp [masksB, spanB, isW]
  omega
theorem swaps_ref (a c : Int) (vs : List Int) (t an o : Int) : swapsB a c vs t an o = ((an == 0 && o == 0) && decide (1 ≤ c) && decide (c ≤ 125) && spanB a c && valsB vs 1 121 65535 && spanB t vs.length) := by
  rw [Bool.eq_iff_iff]
  cases hu : upToB vs 65535 <;> simp [swapsB, liesB, plainB, spanB, isW, valsB, hu]
  omega

set_option maxRecDepth 100000 in
theorem refMay_1 (a c t an o : Int) (A : Option Addr) (n k : Nat) (vs : List Int) (w : World) (h : Rd w A n (iv vs)) :
    Calls Try.prog 20 #[.agg #[.int .i64 1, .int .i64 a, .int .i64 c, .slice A n k, .int .i64 t, .int .i64 an, .int .i64 o]] w fun e w' => e = .returned (.bool (mayB 1 a c vs t an o)) ∧ Below w.heap.size w w' := by
  have hl : vs.length = n := by rw [← iv_length]; exact h.1
  rw [show mayB 1 a c vs t an o = readsB a c n t an o 2000 from by simp [mayB, hl], reads_ref]
  clear h hl
  cases hn0 : (n : Int) == 0
  · cases h1 : an == 0
    all_goals cases h2 : o == 0
    all_goals
      go_enter Try.func20, Try.ntmps20
      go_wp2
      go_ret
      exact ⟨by simp, (Below.refl _ _).alloc (Nat.le_refl _) _⟩
  cases h1 : an == 0
  · skip
    go_enter Try.func20, Try.ntmps20
    go_wp2
    go_ret
    exact ⟨by simp, (Below.refl _ _).alloc (Nat.le_refl _) _⟩
  cases h2 : o == 0
  · skip
    go_enter Try.func20, Try.ntmps20
    go_wp2
    go_ret
    exact ⟨by simp, (Below.refl _ _).alloc (Nat.le_refl _) _⟩
  cases ht : t == 0
  · skip
    go_enter Try.func20, Try.ntmps20
    go_wp2
    go_ret
    exact ⟨by simp, (Below.refl _ _).alloc (Nat.le_refl _) _⟩
  cases hc1 : decide (1 ≤ c)
  · skip
    go_enter Try.func20, Try.ntmps20
    go_wp2
    go_ret
    exact ⟨by simp, (Below.refl _ _).alloc (Nat.le_refl _) _⟩
  cases hc2 : decide (c ≤ 2000)
  · skip
    go_enter Try.func20, Try.ntmps20
    go_wp2
    go_ret
    exact ⟨by simp, (Below.refl _ _).alloc (Nat.le_refl _) _⟩
  have hc1' := of_decide_eq_true hc1
  have hc2' := of_decide_eq_true hc2
  have HSp := hide (fun W => span_any a c (by omega) (by omega) W)
  generalize spanB a c = bS at *
  go_enter Try.func20, Try.ntmps20
  go_wp2_with fail
  refine (HSp.out _).mono ?_
  rintro e w1 ⟨rfl, rfl⟩
  go_wp2
  go_ret
  exact ⟨by simp, (Below.refl _ _).alloc (Nat.le_refl _) _⟩
set_option maxRecDepth 100000 in
theorem refMay_2 (a c t an o : Int) (A : Option Addr) (n k : Nat) (vs : List Int) (w : World) (h : Rd w A n (iv vs)) :
    Calls Try.prog 20 #[.agg #[.int .i64 2, .int .i64 a, .int .i64 c, .slice A n k, .int .i64 t, .int .i64 an, .int .i64 o]] w fun e w' => e = .returned (.bool (mayB 2 a c vs t an o)) ∧ Below w.heap.size w w' := by
  have hl : vs.length = n := by rw [← iv_length]; exact h.1
  rw [show mayB 2 a c vs t an o = readsB a c n t an o 2000 from by simp [mayB, hl], reads_ref]
  clear h hl
  cases hn0 : (n : Int) == 0
  · cases h1 : an == 0
    all_goals cases h2 : o == 0
    all_goals
      go_enter Try.func20, Try.ntmps20
      go_wp2
      go_ret
      exact ⟨by simp, (Below.refl _ _).alloc (Nat.le_refl _) _⟩
  cases h1 : an == 0
  · skip
    go_enter Try.func20, Try.ntmps20
    go_wp2
    go_ret
    exact ⟨by simp, (Below.refl _ _).alloc (Nat.le_refl _) _⟩
  cases h2 : o == 0
  · skip
    go_enter Try.func20, Try.ntmps20
    go_wp2
    go_ret
    exact ⟨by simp, (Below.refl _ _).alloc (Nat.le_refl _) _⟩
  cases ht : t == 0
  · skip
    go_enter Try.func20, Try.ntmps20
    go_wp2
    go_ret
    exact ⟨by simp, (Below.refl _ _).alloc (Nat.le_refl _) _⟩
  cases hc1 : decide (1 ≤ c)
  · skip
    go_enter Try.func20, Try.ntmps20
    go_wp2
    go_ret
    exact ⟨by simp, (Below.refl _ _).alloc (Nat.le_refl _) _⟩
  cases hc2 : decide (c ≤ 2000)
  · skip
    go_enter Try.func20, Try.ntmps20
    go_wp2
    go_ret
    exact ⟨by simp, (Below.refl _ _).alloc (Nat.le_refl _) _⟩
  have hc1' := of_decide_eq_true hc1
  have hc2' := of_decide_eq_true hc2
  have HSp := hide (fun W => span_any a c (by omega) (by omega) W)
  generalize spanB a c = bS at *
  go_enter Try.func20, Try.ntmps20
  go_wp2_with fail
  refine (HSp.out _).mono ?_
  rintro e w1 ⟨rfl, rfl⟩
  go_wp2
  go_ret
  exact ⟨by simp, (Below.refl _ _).alloc (Nat.le_refl _) _⟩
set_option maxRecDepth 100000 in
theorem refMay_3 (a c t an o : Int) (A : Option Addr) (n k : Nat) (vs : List Int) (w : World) (h : Rd w A n (iv vs)) :
    Calls Try.prog 20 #[.agg #[.int .i64 3, .int .i64 a, .int .i64 c, .slice A n k, .int .i64 t, .int .i64 an, .int .i64 o]] w fun e w' => e = .returned (.bool (mayB 3 a c vs t an o)) ∧ Below w.heap.size w w' := by
  have hl : vs.length = n := by rw [← iv_length]; exact h.1
  rw [show mayB 3 a c vs t an o = readsB a c n t an o 125 from by simp [mayB, hl], reads_ref]
  clear h hl
  cases hn0 : (n : Int) == 0
  · cases h1 : an == 0
    all_goals cases h2 : o == 0
    all_goals
      go_enter Try.func20, Try.ntmps20
      go_wp2
      go_ret
      exact ⟨by simp, (Below.refl _ _).alloc (Nat.le_refl _) _⟩
  cases h1 : an == 0
  · skip
    go_enter Try.func20, Try.ntmps20
    go_wp2
    go_ret
    exact ⟨by simp, (Below.refl _ _).alloc (Nat.le_refl _) _⟩
  cases h2 : o == 0
  · skip
    go_enter Try.func20, Try.ntmps20
    go_wp2
    go_ret
    exact ⟨by simp, (Below.refl _ _).alloc (Nat.le_refl _) _⟩
  cases ht : t == 0
  · skip
    go_enter Try.func20, Try.ntmps20
    go_wp2
    go_ret
    exact ⟨by simp, (Below.refl _ _).alloc (Nat.le_refl _) _⟩
  cases hc1 : decide (1 ≤ c)
  · skip
    go_enter Try.func20, Try.ntmps20
    go_wp2
    go_ret
    exact ⟨by simp, (Below.refl _ _).alloc (Nat.le_refl _) _⟩
  cases hc2 : decide (c ≤ 125)
  · skip
    go_enter Try.func20, Try.ntmps20
    go_wp2
    go_ret
    exact ⟨by simp, (Below.refl _ _).alloc (Nat.le_refl _) _⟩
  have hc1' := of_decide_eq_true hc1
  have hc2' := of_decide_eq_true hc2
  have HSp := hide (fun W => span_any a c (by omega) (by omega) W)
  generalize spanB a c = bS at *
  go_enter Try.func20, Try.ntmps20
  go_wp2_with fail
  refine (HSp.out _).mono ?_
  rintro e w1 ⟨rfl, rfl⟩
  go_wp2
  go_ret
  exact ⟨by simp, (Below.refl _ _).alloc (Nat.le_refl _) _⟩
set_option maxRecDepth 100000 in
theorem refMay_4 (a c t an o : Int) (A : Option Addr) (n k : Nat) (vs : List Int) (w : World) (h : Rd w A n (iv vs)) :
    Calls Try.prog 20 #[.agg #[.int .i64 4, .int .i64 a, .int .i64 c, .slice A n k, .int .i64 t, .int .i64 an, .int .i64 o]] w fun e w' => e = .returned (.bool (mayB 4 a c vs t an o)) ∧ Below w.heap.size w w' := by
  have hl : vs.length = n := by rw [← iv_length]; exact h.1
  rw [show mayB 4 a c vs t an o = readsB a c n t an o 125 from by simp [mayB, hl], reads_ref]
  clear h hl
  cases hn0 : (n : Int) == 0
  · cases h1 : an == 0
    all_goals cases h2 : o == 0
    all_goals
      go_enter Try.func20, Try.ntmps20
      go_wp2
      go_ret
      exact ⟨by simp, (Below.refl _ _).alloc (Nat.le_refl _) _⟩
  cases h1 : an == 0
  · skip
    go_enter Try.func20, Try.ntmps20
    go_wp2
    go_ret
    exact ⟨by simp, (Below.refl _ _).alloc (Nat.le_refl _) _⟩
  cases h2 : o == 0
  · skip
    go_enter Try.func20, Try.ntmps20
    go_wp2
    go_ret
    exact ⟨by simp, (Below.refl _ _).alloc (Nat.le_refl _) _⟩
  cases ht : t == 0
  · skip
    go_enter Try.func20, Try.ntmps20
    go_wp2
    go_ret
    exact ⟨by simp, (Below.refl _ _).alloc (Nat.le_refl _) _⟩
  cases hc1 : decide (1 ≤ c)
  · skip
    go_enter Try.func20, Try.ntmps20
    go_wp2
    go_ret
    exact ⟨by simp, (Below.refl _ _).alloc (Nat.le_refl _) _⟩
  cases hc2 : decide (c ≤ 125)
  · skip
    go_enter Try.func20, Try.ntmps20
    go_wp2
    go_ret
    exact ⟨by simp, (Below.refl _ _).alloc (Nat.le_refl _) _⟩
  have hc1' := of_decide_eq_true hc1
  have hc2' := of_decide_eq_true hc2
  have HSp := hide (fun W => span_any a c (by omega) (by omega) W)
  generalize spanB a c = bS at *
  go_enter Try.func20, Try.ntmps20
  go_wp2_with fail
  refine (HSp.out _).mono ?_
  rintro e w1 ⟨rfl, rfl⟩
  go_wp2
  go_ret
  exact ⟨by simp, (Below.refl _ _).alloc (Nat.le_refl _) _⟩

end Go.Proofs.Ytfpfijggmfeejaa
