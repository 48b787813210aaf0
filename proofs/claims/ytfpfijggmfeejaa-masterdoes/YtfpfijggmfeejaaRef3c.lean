/-
  What is proved here: what the document's own May returns, for the functions that write, and of any request. Condition: at most a million values.
-/
import Derived.Test.YtfpfijggmfeejaaRef3b
namespace Go.Proofs.Ytfpfijggmfeejaa
set_option linter.unusedVariables false
set_option linter.unusedSimpArgs false
open Go.RowKit
set_option maxRecDepth 100000 in
theorem refMay_5 (a c t an o : Int) (A : Option Addr) (n k : Nat) (vs : List Int) (w : World) (h : Rd w A n (iv vs)) (hn : n ≤ 1000000) :
    Calls Try.prog 20 #[.agg #[.int .i64 5, .int .i64 a, .int .i64 c, .slice A n k, .int .i64 t, .int .i64 an, .int .i64 o]] w fun e w' => e = .returned (.bool (mayB 5 a c vs t an o)) ∧ Below w.heap.size w w' := by
  have hl : vs.length = n := by rw [← iv_length]; exact h.1
  rw [show mayB 5 a c vs t an o = oneB a c vs t an o 1 from by simp [mayB], one_ref]
  try rw [hl]
  have HV := hide (fun W (b : Below w.heap.size w W) => values_any 5 a c t an o 1 1 1 A n k vs W (h.keep b) hn (by decide))
  have HSp := hide (fun W => span_any a 1 (by omega) (by omega) W)
  clear h hl
  generalize valsB vs 1 1 1 = bV at *
  generalize spanB a 1 = bS at *
  cases h1 : an == 0
  · skip
    go_enter Try.func20, Try.ntmps20
    go_wp2
    go_ret
    exact ⟨by simp, (Below.refl _ _).alloc (Nat.le_refl _) _⟩
  cases h2 : o == 0
  · skip
    go_enter Try.func20, Try.ntmps20
    go_wp2
    go_ret
    exact ⟨by simp, (Below.refl _ _).alloc (Nat.le_refl _) _⟩
  cases ht : t == 0
  · skip
    go_enter Try.func20, Try.ntmps20
    go_wp2
    go_ret
    exact ⟨by simp, (Below.refl _ _).alloc (Nat.le_refl _) _⟩
  cases hc : c == 0
  · skip
    go_enter Try.func20, Try.ntmps20
    go_wp2
    go_ret
    exact ⟨by simp, (Below.refl _ _).alloc (Nat.le_refl _) _⟩
  cases bV
  · go_enter Try.func20, Try.ntmps20
    go_wp2_with fail
    refine (HV.out _ ((Below.refl _ _).alloc (Nat.le_refl _) _)).mono ?_
    rintro e w1 ⟨rfl, b1⟩
    have B2 := hide (((Below.refl w.heap.size w).alloc (Nat.le_refl _) _).trans (b1.mono (by simp)))
    obtain ⟨k0, k1, k2, k3, k4, k5, k6⟩ := ((Blk.new w 37 [.int .i64 5, .int .i64 a, .int .i64 c, .slice A n k, .int .i64 t, .int .i64 an, .int .i64 o]).keep b1).seven
    clear b1
    go_wp2
    go_ret
    exact ⟨by simp, B2.out⟩
  go_enter Try.func20, Try.ntmps20
  go_wp2_with fail
  refine (HV.out _ ((Below.refl _ _).alloc (Nat.le_refl _) _)).mono ?_
  rintro e w1 ⟨rfl, b1⟩
  have B2 := hide (((Below.refl w.heap.size w).alloc (Nat.le_refl _) _).trans (b1.mono (by simp)))
  obtain ⟨k0, k1, k2, k3, k4, k5, k6⟩ := ((Blk.new w 37 [.int .i64 5, .int .i64 a, .int .i64 c, .slice A n k, .int .i64 t, .int .i64 an, .int .i64 o]).keep b1).seven
  clear b1
  go_wp2_with fail
  refine (HSp.out _).mono ?_
  rintro e w2 ⟨rfl, rfl⟩
  go_wp2
  go_ret
  exact ⟨by simp, B2.out⟩
set_option maxRecDepth 100000 in
theorem refMay_6 (a c t an o : Int) (A : Option Addr) (n k : Nat) (vs : List Int) (w : World) (h : Rd w A n (iv vs)) (hn : n ≤ 1000000) :
    Calls Try.prog 20 #[.agg #[.int .i64 6, .int .i64 a, .int .i64 c, .slice A n k, .int .i64 t, .int .i64 an, .int .i64 o]] w fun e w' => e = .returned (.bool (mayB 6 a c vs t an o)) ∧ Below w.heap.size w w' := by
  have hl : vs.length = n := by rw [← iv_length]; exact h.1
  rw [show mayB 6 a c vs t an o = oneB a c vs t an o 65535 from by simp [mayB], one_ref]
  try rw [hl]
  have HV := hide (fun W (b : Below w.heap.size w W) => values_any 6 a c t an o 1 1 65535 A n k vs W (h.keep b) hn (by decide))
  have HSp := hide (fun W => span_any a 1 (by omega) (by omega) W)
  clear h hl
  generalize valsB vs 1 1 65535 = bV at *
  generalize spanB a 1 = bS at *
  cases h1 : an == 0
  · skip
    go_enter Try.func20, Try.ntmps20
    go_wp2
    go_ret
    exact ⟨by simp, (Below.refl _ _).alloc (Nat.le_refl _) _⟩
  cases h2 : o == 0
  · skip
    go_enter Try.func20, Try.ntmps20
    go_wp2
    go_ret
    exact ⟨by simp, (Below.refl _ _).alloc (Nat.le_refl _) _⟩
  cases ht : t == 0
  · skip
    go_enter Try.func20, Try.ntmps20
    go_wp2
    go_ret
    exact ⟨by simp, (Below.refl _ _).alloc (Nat.le_refl _) _⟩
  cases hc : c == 0
  · skip
    go_enter Try.func20, Try.ntmps20
    go_wp2
    go_ret
    exact ⟨by simp, (Below.refl _ _).alloc (Nat.le_refl _) _⟩
  cases bV
  · go_enter Try.func20, Try.ntmps20
    go_wp2_with fail
    refine (HV.out _ ((Below.refl _ _).alloc (Nat.le_refl _) _)).mono ?_
    rintro e w1 ⟨rfl, b1⟩
    have B2 := hide (((Below.refl w.heap.size w).alloc (Nat.le_refl _) _).trans (b1.mono (by simp)))
    obtain ⟨k0, k1, k2, k3, k4, k5, k6⟩ := ((Blk.new w 37 [.int .i64 6, .int .i64 a, .int .i64 c, .slice A n k, .int .i64 t, .int .i64 an, .int .i64 o]).keep b1).seven
    clear b1
    go_wp2
    go_ret
    exact ⟨by simp, B2.out⟩
  go_enter Try.func20, Try.ntmps20
  go_wp2_with fail
  refine (HV.out _ ((Below.refl _ _).alloc (Nat.le_refl _) _)).mono ?_
  rintro e w1 ⟨rfl, b1⟩
  have B2 := hide (((Below.refl w.heap.size w).alloc (Nat.le_refl _) _).trans (b1.mono (by simp)))
  obtain ⟨k0, k1, k2, k3, k4, k5, k6⟩ := ((Blk.new w 37 [.int .i64 6, .int .i64 a, .int .i64 c, .slice A n k, .int .i64 t, .int .i64 an, .int .i64 o]).keep b1).seven
  clear b1
  go_wp2_with fail
  refine (HSp.out _).mono ?_
  rintro e w2 ⟨rfl, rfl⟩
  go_wp2
  go_ret
  exact ⟨by simp, B2.out⟩
set_option maxRecDepth 100000 in
theorem refMay_15 (a c t an o : Int) (A : Option Addr) (n k : Nat) (vs : List Int) (w : World) (h : Rd w A n (iv vs)) (hn : n ≤ 1000000) :
    Calls Try.prog 20 #[.agg #[.int .i64 15, .int .i64 a, .int .i64 c, .slice A n k, .int .i64 t, .int .i64 an, .int .i64 o]] w fun e w' => e = .returned (.bool (mayB 15 a c vs t an o)) ∧ Below w.heap.size w w' := by
  have hl : vs.length = n := by rw [← iv_length]; exact h.1
  rw [show mayB 15 a c vs t an o = manyB a c vs t an o 1968 1 from by simp [mayB], many_ref]
  try rw [hl]
  have HV := hide (fun W (b : Below w.heap.size w W) => values_any 15 a c t an o 1 1968 1 A n k vs W (h.keep b) hn (by decide))
  have HSp := hide (fun W => span_any a (n : Int) (by omega) (by omega) W)
  clear h hl
  generalize valsB vs 1 1968 1 = bV at *
  generalize spanB a (n : Int) = bS at *
  cases h1 : an == 0
  · skip
    go_enter Try.func20, Try.ntmps20
    go_wp2
    go_ret
    exact ⟨by simp, (Below.refl _ _).alloc (Nat.le_refl _) _⟩
  cases h2 : o == 0
  · skip
    go_enter Try.func20, Try.ntmps20
    go_wp2
    go_ret
    exact ⟨by simp, (Below.refl _ _).alloc (Nat.le_refl _) _⟩
  cases ht : t == 0
  · skip
    go_enter Try.func20, Try.ntmps20
    go_wp2
    go_ret
    exact ⟨by simp, (Below.refl _ _).alloc (Nat.le_refl _) _⟩
  cases hc : c == (n : Int)
  · skip
    go_enter Try.func20, Try.ntmps20
    go_wp2
    go_ret
    exact ⟨by simp, (Below.refl _ _).alloc (Nat.le_refl _) _⟩
  cases bV
  · go_enter Try.func20, Try.ntmps20
    go_wp2_with fail
    refine (HV.out _ ((Below.refl _ _).alloc (Nat.le_refl _) _)).mono ?_
    rintro e w1 ⟨rfl, b1⟩
    have B2 := hide (((Below.refl w.heap.size w).alloc (Nat.le_refl _) _).trans (b1.mono (by simp)))
    obtain ⟨k0, k1, k2, k3, k4, k5, k6⟩ := ((Blk.new w 37 [.int .i64 15, .int .i64 a, .int .i64 c, .slice A n k, .int .i64 t, .int .i64 an, .int .i64 o]).keep b1).seven
    clear b1
    go_wp2
    go_ret
    exact ⟨by simp, B2.out⟩
  go_enter Try.func20, Try.ntmps20
  go_wp2_with fail
  refine (HV.out _ ((Below.refl _ _).alloc (Nat.le_refl _) _)).mono ?_
  rintro e w1 ⟨rfl, b1⟩
  have B2 := hide (((Below.refl w.heap.size w).alloc (Nat.le_refl _) _).trans (b1.mono (by simp)))
  obtain ⟨k0, k1, k2, k3, k4, k5, k6⟩ := ((Blk.new w 37 [.int .i64 15, .int .i64 a, .int .i64 c, .slice A n k, .int .i64 t, .int .i64 an, .int .i64 o]).keep b1).seven
  clear b1
  go_wp2_with fail
  refine (HSp.out _).mono ?_
  rintro e w2 ⟨rfl, rfl⟩
  go_wp2
  go_ret
  exact ⟨by simp, B2.out⟩
set_option maxRecDepth 100000 in
theorem refMay_16 (a c t an o : Int) (A : Option Addr) (n k : Nat) (vs : List Int) (w : World) (h : Rd w A n (iv vs)) (hn : n ≤ 1000000) :
    Calls Try.prog 20 #[.agg #[.int .i64 16, .int .i64 a, .int .i64 c, .slice A n k, .int .i64 t, .int .i64 an, .int .i64 o]] w fun e w' => e = .returned (.bool (mayB 16 a c vs t an o)) ∧ Below w.heap.size w w' := by
  have hl : vs.length = n := by rw [← iv_length]; exact h.1
  rw [show mayB 16 a c vs t an o = manyB a c vs t an o 123 65535 from by simp [mayB], many_ref]
  try rw [hl]
  have HV := hide (fun W (b : Below w.heap.size w W) => values_any 16 a c t an o 1 123 65535 A n k vs W (h.keep b) hn (by decide))
  have HSp := hide (fun W => span_any a (n : Int) (by omega) (by omega) W)
  clear h hl
  generalize valsB vs 1 123 65535 = bV at *
  generalize spanB a (n : Int) = bS at *
  cases h1 : an == 0
  · skip
    go_enter Try.func20, Try.ntmps20
    go_wp2
    go_ret
    exact ⟨by simp, (Below.refl _ _).alloc (Nat.le_refl _) _⟩
  cases h2 : o == 0
  · skip
    go_enter Try.func20, Try.ntmps20
    go_wp2
    go_ret
    exact ⟨by simp, (Below.refl _ _).alloc (Nat.le_refl _) _⟩
  cases ht : t == 0
  · skip
    go_enter Try.func20, Try.ntmps20
    go_wp2
    go_ret
    exact ⟨by simp, (Below.refl _ _).alloc (Nat.le_refl _) _⟩
  cases hc : c == (n : Int)
  · skip
    go_enter Try.func20, Try.ntmps20
    go_wp2
    go_ret
    exact ⟨by simp, (Below.refl _ _).alloc (Nat.le_refl _) _⟩
  cases bV
  · go_enter Try.func20, Try.ntmps20
    go_wp2_with fail
    refine (HV.out _ ((Below.refl _ _).alloc (Nat.le_refl _) _)).mono ?_
    rintro e w1 ⟨rfl, b1⟩
    have B2 := hide (((Below.refl w.heap.size w).alloc (Nat.le_refl _) _).trans (b1.mono (by simp)))
    obtain ⟨k0, k1, k2, k3, k4, k5, k6⟩ := ((Blk.new w 37 [.int .i64 16, .int .i64 a, .int .i64 c, .slice A n k, .int .i64 t, .int .i64 an, .int .i64 o]).keep b1).seven
    clear b1
    go_wp2
    go_ret
    exact ⟨by simp, B2.out⟩
  go_enter Try.func20, Try.ntmps20
  go_wp2_with fail
  refine (HV.out _ ((Below.refl _ _).alloc (Nat.le_refl _) _)).mono ?_
  rintro e w1 ⟨rfl, b1⟩
  have B2 := hide (((Below.refl w.heap.size w).alloc (Nat.le_refl _) _).trans (b1.mono (by simp)))
  obtain ⟨k0, k1, k2, k3, k4, k5, k6⟩ := ((Blk.new w 37 [.int .i64 16, .int .i64 a, .int .i64 c, .slice A n k, .int .i64 t, .int .i64 an, .int .i64 o]).keep b1).seven
  clear b1
  go_wp2_with fail
  refine (HSp.out _).mono ?_
  rintro e w2 ⟨rfl, rfl⟩
  go_wp2
  go_ret
  exact ⟨by simp, B2.out⟩

set_option maxHeartbeats 2000000 in
set_option maxRecDepth 100000 in
theorem refMay_22 (a c t an o : Int) (A : Option Addr) (n k : Nat) (vs : List Int) (w : World) (h : Rd w A n (iv vs)) :
    Calls Try.prog 20 #[.agg #[.int .i64 22, .int .i64 a, .int .i64 c, .slice A n k, .int .i64 t, .int .i64 an, .int .i64 o]] w fun e w' => e = .returned (.bool (mayB 22 a c vs t an o)) ∧ Below w.heap.size w w' := by
  have hl : vs.length = n := by rw [← iv_length]; exact h.1
  rw [show mayB 22 a c vs t an o = masksB a c n t an o from by simp [mayB, hl], masks_ref]
  have HSp := hide (fun W => span_any a 1 (by omega) (by omega) W)
  have HI1 := hide (fun W => is_any an W)
  have HI2 := hide (fun W => is_any o W)
  clear h hl
  generalize spanB a 1 = bS at *
  generalize isW an = bN at *
  generalize isW o = bO at *
  obtain ⟨p1, h1⟩ : ∃ p, (an == 0) = p := ⟨_, rfl⟩
  cases p1
  case' false => have hm := h1
  case' true =>
    obtain ⟨p2, h2⟩ : ∃ p, (o == 0) = p := ⟨_, rfl⟩
    cases p2
  all_goals
    cases hn0 : (n : Int) == 0
    · skip
      go_enter Try.func20, Try.ntmps20
      go_wp2
      go_ret
      exact ⟨by simp, (Below.refl _ _).alloc (Nat.le_refl _) _⟩
    cases ht : t == 0
    · skip
      go_enter Try.func20, Try.ntmps20
      go_wp2
      go_ret
      exact ⟨by simp, (Below.refl _ _).alloc (Nat.le_refl _) _⟩
    cases hc : c == 0
    · skip
      go_enter Try.func20, Try.ntmps20
      go_wp2
      go_ret
      exact ⟨by simp, (Below.refl _ _).alloc (Nat.le_refl _) _⟩
    cases bS
    · skip
      go_enter Try.func20, Try.ntmps20
      go_wp2_with fail
      refine (HSp.out _).mono ?_
      rintro e w2 ⟨rfl, rfl⟩
      go_wp2
      go_ret
      exact ⟨by simp, (Below.refl _ _).alloc (Nat.le_refl _) _⟩
    cases bN
    · skip
      go_enter Try.func20, Try.ntmps20
      go_wp2_with fail
      refine (HSp.out _).mono ?_
      rintro e w2 ⟨rfl, rfl⟩
      go_wp2_with fail
      refine (HI1.out _).mono ?_
      rintro e w2 ⟨rfl, rfl⟩
      go_wp2
      go_ret
      exact ⟨by simp, (Below.refl _ _).alloc (Nat.le_refl _) _⟩
    go_enter Try.func20, Try.ntmps20
    go_wp2_with fail
    refine (HSp.out _).mono ?_
    rintro e w2 ⟨rfl, rfl⟩
    go_wp2_with fail
    refine (HI1.out _).mono ?_
    rintro e w2 ⟨rfl, rfl⟩
    go_wp2_with fail
    refine (HI2.out _).mono ?_
    rintro e w2 ⟨rfl, rfl⟩
    go_wp2
    go_ret
    exact ⟨by simp, (Below.refl _ _).alloc (Nat.le_refl _) _⟩

set_option maxRecDepth 100000 in
theorem refMay_23 (a c t an o : Int) (A : Option Addr) (n k : Nat) (vs : List Int) (w : World) (h : Rd w A n (iv vs)) (hn : n ≤ 1000000) :
    Calls Try.prog 20 #[.agg #[.int .i64 23, .int .i64 a, .int .i64 c, .slice A n k, .int .i64 t, .int .i64 an, .int .i64 o]] w fun e w' => e = .returned (.bool (mayB 23 a c vs t an o)) ∧ Below w.heap.size w w' := by
  have hl : vs.length = n := by rw [← iv_length]; exact h.1
  rw [show mayB 23 a c vs t an o = swapsB a c vs t an o from by simp [mayB], swaps_ref, hl]
  have HV := hide (fun W (b : Below w.heap.size w W) => values_any 23 a c t an o 1 121 65535 A n k vs W (h.keep b) hn (by decide))
  have HT := hide (fun W => span_any t (n : Int) (by omega) (by omega) W)
  clear h hl
  generalize valsB vs 1 121 65535 = bV at *
  generalize spanB t (n : Int) = bT at *
  cases h1 : an == 0
  · skip
    go_enter Try.func20, Try.ntmps20
    go_wp2
    go_ret
    exact ⟨by simp, (Below.refl _ _).alloc (Nat.le_refl _) _⟩
  cases h2 : o == 0
  · skip
    go_enter Try.func20, Try.ntmps20
    go_wp2
    go_ret
    exact ⟨by simp, (Below.refl _ _).alloc (Nat.le_refl _) _⟩
  cases hc1 : decide (1 ≤ c)
  · skip
    go_enter Try.func20, Try.ntmps20
    go_wp2
    go_ret
    exact ⟨by simp, (Below.refl _ _).alloc (Nat.le_refl _) _⟩
  cases hc2 : decide (c ≤ 125)
  · skip
    go_enter Try.func20, Try.ntmps20
    go_wp2
    go_ret
    exact ⟨by simp, (Below.refl _ _).alloc (Nat.le_refl _) _⟩
  have hc1' := of_decide_eq_true hc1
  have hc2' := of_decide_eq_true hc2
  have HSp := hide (fun W => span_any a c (by omega) (by omega) W)
  generalize spanB a c = bS at *
  cases bS
  · skip
    go_enter Try.func20, Try.ntmps20
    go_wp2_with fail
    refine (HSp.out _).mono ?_
    rintro e w2 ⟨rfl, rfl⟩
    go_wp2
    go_ret
    exact ⟨by simp, (Below.refl _ _).alloc (Nat.le_refl _) _⟩
  cases bV
  · skip
    go_enter Try.func20, Try.ntmps20
    go_wp2_with fail
    refine (HSp.out _).mono ?_
    rintro e w2 ⟨rfl, rfl⟩
    go_wp2_with fail
    refine (HV.out _ ((Below.refl _ _).alloc (Nat.le_refl _) _)).mono ?_
    rintro e w1 ⟨rfl, b1⟩
    have B2 := hide (((Below.refl w.heap.size w).alloc (Nat.le_refl _) _).trans (b1.mono (by simp)))
    obtain ⟨k0, k1, k2, k3, k4, k5, k6⟩ := ((Blk.new w 37 [.int .i64 23, .int .i64 a, .int .i64 c, .slice A n k, .int .i64 t, .int .i64 an, .int .i64 o]).keep b1).seven
    clear b1
    go_wp2
    go_ret
    exact ⟨by simp, B2.out⟩
  go_enter Try.func20, Try.ntmps20
  go_wp2_with fail
  refine (HSp.out _).mono ?_
  rintro e w2 ⟨rfl, rfl⟩
  go_wp2_with fail
  refine (HV.out _ ((Below.refl _ _).alloc (Nat.le_refl _) _)).mono ?_
  rintro e w1 ⟨rfl, b1⟩
  have B2 := hide (((Below.refl w.heap.size w).alloc (Nat.le_refl _) _).trans (b1.mono (by simp)))
  obtain ⟨k0, k1, k2, k3, k4, k5, k6⟩ := ((Blk.new w 37 [.int .i64 23, .int .i64 a, .int .i64 c, .slice A n k, .int .i64 t, .int .i64 an, .int .i64 o]).keep b1).seven
  clear b1
  go_wp2_with fail
  refine (HT.out _).mono ?_
  rintro e w2 ⟨rfl, rfl⟩
  go_wp2
  go_ret
  exact ⟨by simp, B2.out⟩

set_option maxRecDepth 100000 in
theorem refMay_else (f a c t an o : Int) (A : Option Addr) (n k : Nat) (w : World) (h1 : (f == 1) = false) (h2 : (f == 2) = false) (h3 : (f == 3) = false) (h4 : (f == 4) = false) (h5 : (f == 5) = false) (h6 : (f == 6) = false) (h15 : (f == 15) = false) (h16 : (f == 16) = false) (h22 : (f == 22) = false) (h23 : (f == 23) = false) :
    Calls Try.prog 20 #[.agg #[.int .i64 f, .int .i64 a, .int .i64 c, .slice A n k, .int .i64 t, .int .i64 an, .int .i64 o]] w fun e w' => e = .returned (.bool false) ∧ Below w.heap.size w w' := by
  cases g1 : an == 0
  · skip
    go_enter Try.func20, Try.ntmps20
    go_wp2
    go_ret
    exact ⟨by simp, (Below.refl _ _).alloc (Nat.le_refl _) _⟩
  cases g2 : o == 0
  all_goals
    go_enter Try.func20, Try.ntmps20
    go_wp2
    go_ret
    exact ⟨by simp, (Below.refl _ _).alloc (Nat.le_refl _) _⟩

theorem refMay_any (f a c t an o : Int) (A : Option Addr) (n k : Nat) (vs : List Int) (w : World) (h : Rd w A n (iv vs)) (hn : n ≤ 1000000) :
    Calls Try.prog 20 #[.agg #[.int .i64 f, .int .i64 a, .int .i64 c, .slice A n k, .int .i64 t, .int .i64 an, .int .i64 o]] w fun e w' => e = .returned (.bool (mayB f a c vs t an o)) ∧ Below w.heap.size w w' := by
  by_cases h1 : f = 1
  · subst h1; exact refMay_1 a c t an o A n k vs w h
  by_cases h2 : f = 2
  · subst h2; exact refMay_2 a c t an o A n k vs w h
  by_cases h3 : f = 3
  · subst h3; exact refMay_3 a c t an o A n k vs w h
  by_cases h4 : f = 4
  · subst h4; exact refMay_4 a c t an o A n k vs w h
  by_cases h5 : f = 5
  · subst h5; exact refMay_5 a c t an o A n k vs w h hn
  by_cases h6 : f = 6
  · subst h6; exact refMay_6 a c t an o A n k vs w h hn
  by_cases h15 : f = 15
  · subst h15; exact refMay_15 a c t an o A n k vs w h hn
  by_cases h16 : f = 16
  · subst h16; exact refMay_16 a c t an o A n k vs w h hn
  by_cases h22 : f = 22
  · subst h22; exact refMay_22 a c t an o A n k vs w h
  by_cases h23 : f = 23
  · subst h23; exact refMay_23 a c t an o A n k vs w h hn
  rw [show mayB f a c vs t an o = false from by simp [mayB, *]]
  exact refMay_else f a c t an o A n k w (ne_beq h1) (ne_beq h2) (ne_beq h3) (ne_beq h4) (ne_beq h5) (ne_beq h6) (ne_beq h15) (ne_beq h16) (ne_beq h22) (ne_beq h23)

end Go.Proofs.Ytfpfijggmfeejaa
