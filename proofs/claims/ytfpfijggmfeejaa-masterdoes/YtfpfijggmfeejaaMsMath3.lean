/-
  What is proved here: a master as layer 7's plain functions have it that is asked twice of one unit and never answered, tick by tick. No condition of its own; nothing of the program is named.
-/
import Derived.Test.YtfpfijggmfeejaaMsMath
namespace Go.Proofs.Ytfpfijggmfeejaa
set_option linter.unusedVariables false
set_option linter.unusedSimpArgs false
open Go.RowKit

/-- Ahead of the step at tick n. -/
structure WC (w a R : Int) (x1 x2 : Wt) (s : MSt) : Prop where
  hw : s.wait = w
  ha : s.again = a
  hr : s.rest = R
  hn : s.next = 2
def WI (w a R : Int) (x1 x2 : Wt) (n : Int) (s : MSt) : Prop := WC w a R x1 x2 s ∧
  ((n = 0 ∧ s.now = 0 ∧ s.line = [x1, x2] ∧ s.out = none ∧ ∀ u, s.till u = 0) ∨
   (∃ q : Int, 0 ≤ q ∧ q ≤ a ∧ q * w + 1 ≤ n ∧ n ≤ q * w + w ∧ s.now = n - 1 ∧ s.last = q * w ∧ s.line = [x2] ∧ s.out = some (x1, q + 1) ∧ ∀ u, s.till u = 0) ∨
   (w * (a + 1) < n ∧ n ≤ w * (a + 1) + R ∧ s.now = n - 1 ∧ s.line = [x2] ∧ s.out = none ∧ s.till 1 = w * (a + 1) + R) ∨
   (n = w * (a + 1) + R + 1 ∧ s.line = [] ∧ s.out = some (x2, 1)))
/-- What the step tells. -/
def WO (w a R : Int) (x1 x2 : Wt) (n : Int) (A : List Wt) (D : List Dn) : Prop :=
  (A = [x1] ∧ D = [] ∧ n < w * (a + 1) ∧ n.tmod w = 0 ∧ n ≠ w * (a + 1) + R ∧ n ≠ w * (a + 1)) ∨
  (A = [] ∧ D = [] ∧ n < w * (a + 1) ∧ n.tmod w ≠ 0 ∧ n ≠ w * (a + 1) + R ∧ n ≠ w * (a + 1)) ∨
  (A = [] ∧ D = [⟨x1.tk, An.none, true⟩] ∧ ¬ n < w * (a + 1) ∧ n = w * (a + 1) ∧ n ≠ w * (a + 1) + R) ∨
  (A = [x2] ∧ D = [⟨x1.tk, An.none, true⟩] ∧ ¬ n < w * (a + 1) ∧ n = w * (a + 1) ∧ n = w * (a + 1) + R) ∨
  (A = [] ∧ D = [] ∧ ¬ n < w * (a + 1) ∧ n ≠ w * (a + 1) ∧ n ≠ w * (a + 1) + R) ∨
  (A = [x2] ∧ D = [] ∧ ¬ n < w * (a + 1) ∧ n ≠ w * (a + 1) ∧ n = w * (a + 1) + R)
theorem mul_up {q a w : Int} (hw : 0 ≤ w) (h : q ≤ a) : q * w + w ≤ w * (a + 1) := by
  have h1 := Int.mul_le_mul_of_nonneg_right h hw
  rw [Int.mul_add, Int.mul_one, Int.mul_comm w a]
  omega
theorem tmod_mid {n q w : Int} (hq : 0 ≤ q) (hw : 1 ≤ w) (h1 : q * w + 1 ≤ n) (h2 : n < q * w + w) : n.tmod w ≠ 0 := by
  have h0 : 0 ≤ q * w := Int.mul_nonneg hq (by omega)
  rw [Int.tmod_eq_emod_of_nonneg (by omega)]
  have e : n = (n - q * w) + q * w := by omega
  rw [e, Int.add_mul_emod_self_right, Int.emod_eq_of_lt (by omega) (by omega)]
  omega
theorem tmod_end {q w : Int} (hq : 0 ≤ q) (hw : 1 ≤ w) : (q * w + w).tmod w = 0 := by
  have h0 : 0 ≤ q * w := Int.mul_nonneg hq (by omega)
  rw [Int.tmod_eq_emod_of_nonneg (by omega)]
  have e : q * w + w = 0 + (q + 1) * w := by rw [Int.add_mul, Int.one_mul]; omega
  rw [e, Int.add_mul_emod_self_right]
  simp
theorem freeAt_one {till : Int → Int} {now : Int} {x : Wt} {l : List Wt} (h : till x.u ≤ now) : freeAt till now (x :: l) = some ([], x, l) := by
  unfold freeAt
  rw [if_pos h]
theorem freeAt_rest {till : Int → Int} {now : Int} {x : Wt} (h : ¬ till x.u ≤ now) : freeAt till now [x] = none := by
  unfold freeAt
  rw [if_neg h]
  rfl
theorem tick_ok {s : MSt} {n : Int} (h0 : 0 ≤ n) (h1 : s.now ≤ n) : tickBad s n = false := by
  unfold tickBad
  rw [decide_eq_false (by omega), decide_eq_false (by omega)]
  rfl
theorem sendS_some {s : MSt} {now : Int} {a b : List Wt} {x : Wt} (h : freeAt s.till now s.line = some (a, x, b)) : sendS s now = ([x], { s with line := a ++ b, out := some (x, 1), last := now }) := by
  unfold sendS
  rw [h]
theorem sendS_none {s : MSt} {now : Int} (h : freeAt s.till now s.line = none) : sendS s now = ([], s) := by
  unfold sendS
  rw [h]
theorem wi_step {w a R : Int} {x1 x2 : Wt} {n : Int} {s : MSt} (hw : 1 ≤ w) (ha : 0 ≤ a) (hR : 0 ≤ R) (u1 : x1.u = 1) (u2 : x2.u = 1) (h : WI w a R x1 x2 n s) (hn : n ≤ w * (a + 1) + R) :
    WO w a R x1 x2 n (stepR s n).1 (stepR s n).2.1 ∧ (stepR s n).2.2.1 = 0 ∧ WI w a R x1 x2 (n + 1) (stepR s n).2.2.2 := by
  obtain ⟨⟨c1, c2, c3, c4⟩, h⟩ := h
  have hE : w ≤ w * (a + 1) := by
    have := mul_up (q := 0) (a := a) (w := w) (by omega) ha
    omega
  rcases h with ⟨rfl, e1, e2, e3, e4⟩ | ⟨q, q0, q1, q2, q3, e1, e2, e3, e4, e5⟩ | ⟨q1, q2, e1, e2, e3, e4⟩ | ⟨q1, _⟩
  · rw [stepR_none (tick_ok (by omega) (by omega)) e3]
    have hf : freeAt s.till 0 s.line = some ([], x1, [x2]) := by
      rw [e2]
      exact freeAt_one (by rw [e4]; omega)
    have hs := sendS_some (s := { s with now := 0 }) hf
    rw [hs]
    refine ⟨Or.inl ⟨rfl, rfl, by omega, by simp, by omega, by omega⟩, rfl, ⟨c1, c2, c3, c4⟩, Or.inr (Or.inl ⟨0, by omega, ha, by omega, by omega, rfl, by simp, rfl, rfl, e4⟩)⟩
  · have h0 : 0 ≤ q * w := Int.mul_nonneg q0 (by omega)
    have hup := mul_up (q := q) (a := a) (w := w) (by omega) q1
    have hb : tickBad s n = false := tick_ok (by omega) (by omega)
    by_cases hd : n < q * w + w
    · rw [stepR_wait hb e4 (by rw [e2, c1]; omega)]
      refine ⟨Or.inr (Or.inl ⟨rfl, rfl, by omega, tmod_mid q0 hw q2 hd, by omega, by omega⟩), rfl, ⟨c1, c2, c3, c4⟩, Or.inr (Or.inl ⟨q, q0, q1, by omega, by omega, by show n = n + 1 - 1; omega, e2, e3, e4, e5⟩)⟩
    · have hn' : n = q * w + w := by omega
      by_cases hq : q < a
      · rw [stepR_again hb e4 (by rw [e2, c1]; omega) (by rw [c2]; omega)]
        have hup2 := mul_up (q := q + 1) (a := a) (w := w) (by omega) (by omega)
        have hqw : (q + 1) * w = q * w + w := by rw [Int.add_mul, Int.one_mul]
        rw [hqw] at hup2
        refine ⟨Or.inl ⟨rfl, rfl, by omega, by rw [hn']; exact tmod_end q0 hw, by omega, by omega⟩, rfl, ⟨c1, c2, c3, c4⟩, Or.inr (Or.inl ⟨q + 1, by omega, by omega, by rw [hqw]; omega, by rw [hqw]; omega, by show n = n + 1 - 1; omega, by show n = (q + 1) * w; rw [hqw]; exact hn', e3, by show some (x1, q + 1 + 1) = _; rfl, e5⟩)⟩
      · have hqa : q = a := by omega
        subst hqa
        have hEq : w * (q + 1) = q * w + w := by rw [Int.mul_add, Int.mul_one, Int.mul_comm]
        rw [stepR_late hb e4 (by rw [e2, c1]; omega) (by rw [c2]; omega)]
        have ht : (lateS s n x1).till x2.u = n + R := by
          show (if x2.u = x1.u then n + s.rest else s.till x2.u) = _
          rw [if_pos (by rw [u1, u2]), c3]
        have ht1 : (lateS s n x1).till 1 = n + R := by rw [← u2]; exact ht
        by_cases hR0 : R = 0
        · have hf : freeAt (lateS s n x1).till n (lateS s n x1).line = some ([], x2, []) := by
            show freeAt _ n s.line = _
            rw [e3]
            exact freeAt_one (by rw [ht]; omega)
          rw [sendS_some hf]
          refine ⟨Or.inr (Or.inr (Or.inr (Or.inl ⟨rfl, rfl, by omega, by omega, by omega⟩))), rfl, ⟨c1, c2, c3, c4⟩, Or.inr (Or.inr (Or.inr ⟨by omega, rfl, rfl⟩))⟩
        · have hf : freeAt (lateS s n x1).till n (lateS s n x1).line = none := by
            show freeAt _ n s.line = _
            rw [e3]
            exact freeAt_rest (by rw [ht]; omega)
          rw [sendS_none hf]
          refine ⟨Or.inr (Or.inr (Or.inl ⟨rfl, rfl, by omega, by omega, by omega⟩)), rfl, ⟨c1, c2, c3, c4⟩, Or.inr (Or.inr (Or.inl ⟨by omega, by omega, by show n = n + 1 - 1; omega, e3, rfl, by rw [ht1]; omega⟩))⟩
  · rw [stepR_none (tick_ok (by omega) (by omega)) e3]
    by_cases hl : n = w * (a + 1) + R
    · have hf : freeAt s.till n s.line = some ([], x2, []) := by
        rw [e2]
        exact freeAt_one (by rw [u2, e4]; omega)
      have hs := sendS_some (s := { s with now := n }) hf
      rw [hs]
      refine ⟨Or.inr (Or.inr (Or.inr (Or.inr (Or.inr ⟨rfl, rfl, by omega, by omega, hl⟩)))), rfl, ⟨c1, c2, c3, c4⟩, Or.inr (Or.inr (Or.inr ⟨by omega, rfl, rfl⟩))⟩
    · have hf : freeAt s.till n s.line = none := by
        rw [e2]
        exact freeAt_rest (by rw [u2, e4]; omega)
      have hs := sendS_none (s := { s with now := n }) hf
      rw [hs]
      refine ⟨Or.inr (Or.inr (Or.inr (Or.inr (Or.inl ⟨rfl, rfl, by omega, by omega, hl⟩)))), rfl, ⟨c1, c2, c3, c4⟩, Or.inr (Or.inr (Or.inl ⟨by omega, by omega, by show n = n + 1 - 1; omega, e2, e3, e4⟩))⟩
  · omega
theorem wi_end {w a R : Int} {x1 x2 : Wt} {s : MSt} (hw : 1 ≤ w) (ha : 0 ≤ a) (hR : 0 ≤ R) (h : WI w a R x1 x2 (w * (a + 1) + R + 1) s) : mCount s = 1 := by
  have hE : w ≤ w * (a + 1) := by
    have := mul_up (q := 0) (a := a) (w := w) (by omega) ha
    omega
  obtain ⟨_, h⟩ := h
  rcases h with ⟨h, _⟩ | ⟨q, _, q1, _, q3, _⟩ | ⟨_, q2, _⟩ | ⟨_, e1, e2⟩
  · omega
  · have hup := mul_up (q := q) (a := a) (w := w) (by omega) q1
    omega
  · omega
  · unfold mCount
    rw [e1, e2]
    rfl
end Go.Proofs.Ytfpfijggmfeejaa
