/-
  What is proved here: the law TopicTells returns true for every two texts, and writes nothing that was there. No condition.
-/
import Derived.Test.YtkgidimaiedocaaTp8
import Derived.Test.YtkgidimaiedocaaTr3
namespace Go.Proofs.Ytkgidimaiedocaa
set_option linter.unusedVariables false
set_option linter.unusedSimpArgs false
open Go.RowKit

theorem small_yes (xs : List UInt8) (h : xs.length ≤ 500) (w : World) : Calls Try.prog 16 #[.string (str xs)] w fun e w' => e = .returned (.bool true) ∧ w' = w := by
  have := small_any xs w
  rwa [decide_eq_true h] at this
theorem small_no (xs : List UInt8) (h : ¬ xs.length ≤ 500) (w : World) : Calls Try.prog 16 #[.string (str xs)] w fun e w' => e = .returned (.bool false) ∧ w' = w := by
  have := small_any xs w
  rwa [decide_eq_false h] at this

set_option maxHeartbeats 2000000 in
set_option maxRecDepth 100000 in
theorem tells12_walk (s0 s1 : ByteArray) (w : World) : Calls Try.prog 4 #[.string s0, .string s1] w fun e w' => e = .returned (.bool true) ∧ Below w.heap.size w w' := by
  obtain ⟨xs, rfl⟩ : ∃ xs, s0 = str xs := ⟨_, (str_of s0).symm⟩
  obtain ⟨ns, rfl⟩ : ∃ xs, s1 = str xs := ⟨_, (str_of s1).symm⟩
  by_cases h1 : xs.length ≤ 500
  · have S1 := hide fun W => small_yes xs h1 W
    by_cases h2 : ns.length ≤ 500
    · have S2 := hide fun W => small_yes ns h2 W
      have M := hide fun W => matches_any xs ns (by omega) (by omega) W
      have P1 := hide fun W => name_any ns (by omega) W
      have P2 := hide fun W => rName_any ns (by omega) W
      have P3 := hide fun W => filter_any xs (by omega) W
      have P4 := hide fun W => rFilter_any xs (by omega) W
      unfold mtE at M
      cases hf : filterL xs with
      | false =>
        have M' : Hid (∀ W, Calls Try.prog 17 #[.string (str xs), .string (str ns)] W fun e w' => e = .returned (.tuple #[.bool false, .int .i64 121]) ∧ Below W.heap.size W w') := by
          refine hide ?_
          have := M.out
          unfold tkL at this
          simpa [hf] using this
        have P3' : Hid (∀ W, Calls Try.prog 20 #[.string (str xs)] W fun e w' => e = .returned (.int .i64 121) ∧ Below W.heap.size W w') := by rw [hf] at P3; exact P3.out
        rw [hf] at P4
        cases hn : nameL ns with
        | false =>
          have P1' : Hid (∀ W, Calls Try.prog 18 #[.string (str ns)] W fun e w' => e = .returned (.int .i64 120) ∧ Below W.heap.size W w') := by rw [hn] at P1; exact P1.out
          rw [hn] at P2
          clear M P1 P3 h1 h2 hf hn
          go_enter Try.func4, Try.ntmps4
          go_wp2_with fail
          refine (S1.out _).mono ?_
          rintro e w1 ⟨rfl, rfl⟩
          go_wp2_with fail
          refine (S2.out _).mono ?_
          rintro e w2 ⟨rfl, rfl⟩
          go_wp2_with fail
          refine (M'.out _).mono ?_
          rintro e w3 ⟨rfl, b3⟩
          have B3 := hide b3
          clear b3
          go_wp2_with fail
          refine (P1'.out _).mono ?_
          rintro e w4 ⟨rfl, b4⟩
          have B4 := hide (below_on B3.out b4)
          clear b4
          go_wp2_with fail
          refine (P2.out _).mono ?_
          rintro e w5 ⟨rfl, b5⟩
          have B5 := hide (below_on B4.out b5)
          clear b5
          go_wp2_with fail
          refine (P3'.out _).mono ?_
          rintro e w6 ⟨rfl, b6⟩
          have B6 := hide (below_on B5.out b6)
          clear b6
          go_wp2_with fail
          refine (P4.out _).mono ?_
          rintro e w7 ⟨rfl, b7⟩
          have B7 := hide (below_on B6.out b7)
          clear b7
          go_wp2_with fail
          refine (P4.out _).mono ?_
          rintro e w8 ⟨rfl, b8⟩
          have B8 := hide (below_on B7.out b8)
          clear b8
          go_wp2_with fail
          refine (awake12_any _).mono ?_
          rintro e w9 ⟨rfl, b9⟩
          have B9 := hide (below_on B8.out b9)
          clear b9
          go_wp2_with fail
          refine (P3'.out _).mono ?_
          rintro e w10 ⟨rfl, b10⟩
          have B10 := hide (below_on B9.out b10)
          clear b10
          go_wp2_with fail
          go_ret
          exact ⟨rfl, B10.out⟩
        | true =>
          have P1' : Hid (∀ W, Calls Try.prog 18 #[.string (str ns)] W fun e w' => e = .returned (.int .i64 0) ∧ Below W.heap.size W w') := by rw [hn] at P1; exact P1.out
          rw [hn] at P2
          clear M P1 P3 h1 h2 hf hn
          go_enter Try.func4, Try.ntmps4
          go_wp2_with fail
          refine (S1.out _).mono ?_
          rintro e w1 ⟨rfl, rfl⟩
          go_wp2_with fail
          refine (S2.out _).mono ?_
          rintro e w2 ⟨rfl, rfl⟩
          go_wp2_with fail
          refine (M'.out _).mono ?_
          rintro e w3 ⟨rfl, b3⟩
          have B3 := hide b3
          clear b3
          go_wp2_with fail
          refine (P1'.out _).mono ?_
          rintro e w4 ⟨rfl, b4⟩
          have B4 := hide (below_on B3.out b4)
          clear b4
          go_wp2_with fail
          refine (P2.out _).mono ?_
          rintro e w5 ⟨rfl, b5⟩
          have B5 := hide (below_on B4.out b5)
          clear b5
          go_wp2_with fail
          refine (P3'.out _).mono ?_
          rintro e w6 ⟨rfl, b6⟩
          have B6 := hide (below_on B5.out b6)
          clear b6
          go_wp2_with fail
          refine (P4.out _).mono ?_
          rintro e w7 ⟨rfl, b7⟩
          have B7 := hide (below_on B6.out b7)
          clear b7
          go_wp2_with fail
          refine (P4.out _).mono ?_
          rintro e w8 ⟨rfl, b8⟩
          have B8 := hide (below_on B7.out b8)
          clear b8
          go_wp2_with fail
          refine (awake12_any _).mono ?_
          rintro e w9 ⟨rfl, b9⟩
          have B9 := hide (below_on B8.out b9)
          clear b9
          go_wp2_with fail
          refine (P3'.out _).mono ?_
          rintro e w10 ⟨rfl, b10⟩
          have B10 := hide (below_on B9.out b10)
          clear b10
          go_wp2_with fail
          go_ret
          exact ⟨rfl, B10.out⟩
      | true =>
        have P3' : Hid (∀ W, Calls Try.prog 20 #[.string (str xs)] W fun e w' => e = .returned (.int .i64 0) ∧ Below W.heap.size W w') := by rw [hf] at P3; exact P3.out
        rw [hf] at P4
        cases hn : nameL ns with
        | false =>
          have M' : Hid (∀ W, Calls Try.prog 17 #[.string (str xs), .string (str ns)] W fun e w' => e = .returned (.tuple #[.bool false, .int .i64 120]) ∧ Below W.heap.size W w') := by
            refine hide ?_
            have := M.out
            unfold tkL at this
            simpa [hf, hn, errN] using this
          have P1' : Hid (∀ W, Calls Try.prog 18 #[.string (str ns)] W fun e w' => e = .returned (.int .i64 120) ∧ Below W.heap.size W w') := by rw [hn] at P1; exact P1.out
          rw [hn] at P2
          clear M P1 P3 h1 h2 hf hn
          go_enter Try.func4, Try.ntmps4
          go_wp2_with fail
          refine (S1.out _).mono ?_
          rintro e w1 ⟨rfl, rfl⟩
          go_wp2_with fail
          refine (S2.out _).mono ?_
          rintro e w2 ⟨rfl, rfl⟩
          go_wp2_with fail
          refine (M'.out _).mono ?_
          rintro e w3 ⟨rfl, b3⟩
          have B3 := hide b3
          clear b3
          go_wp2_with fail
          refine (P1'.out _).mono ?_
          rintro e w4 ⟨rfl, b4⟩
          have B4 := hide (below_on B3.out b4)
          clear b4
          go_wp2_with fail
          refine (P2.out _).mono ?_
          rintro e w5 ⟨rfl, b5⟩
          have B5 := hide (below_on B4.out b5)
          clear b5
          go_wp2_with fail
          refine (P3'.out _).mono ?_
          rintro e w6 ⟨rfl, b6⟩
          have B6 := hide (below_on B5.out b6)
          clear b6
          go_wp2_with fail
          refine (P4.out _).mono ?_
          rintro e w7 ⟨rfl, b7⟩
          have B7 := hide (below_on B6.out b7)
          clear b7
          go_wp2_with fail
          refine (P4.out _).mono ?_
          rintro e w8 ⟨rfl, b8⟩
          have B8 := hide (below_on B7.out b8)
          clear b8
          go_wp2_with fail
          refine (P2.out _).mono ?_
          rintro e w9 ⟨rfl, b9⟩
          have B9 := hide (below_on B8.out b9)
          clear b9
          go_wp2_with fail
          refine (awake12_any _).mono ?_
          rintro e w10 ⟨rfl, b10⟩
          have B10 := hide (below_on B9.out b10)
          clear b10
          go_wp2_with fail
          refine (P1'.out _).mono ?_
          rintro e w11 ⟨rfl, b11⟩
          have B11 := hide (below_on B10.out b11)
          clear b11
          go_wp2_with fail
          go_ret
          exact ⟨rfl, B11.out⟩
        | true =>
          have hT := fun W => rTakes_any xs ns (by omega) (by omega) hf (nameL_parts hn).1 W
          have M' : Hid (∀ W, Calls Try.prog 17 #[.string (str xs), .string (str ns)] W fun e w' => e = .returned (.tuple #[.bool (matchL xs ns), .int .i64 0]) ∧ Below W.heap.size W w') := by
            refine hide ?_
            have := M.out
            unfold tkL at this
            simpa [hf, hn, errN] using this
          have P1' : Hid (∀ W, Calls Try.prog 18 #[.string (str ns)] W fun e w' => e = .returned (.int .i64 0) ∧ Below W.heap.size W w') := by rw [hn] at P1; exact P1.out
          rw [hn] at P2
          have T := hide hT
          clear M P1 P3 h1 h2 hf hn hT
          generalize matchL xs ns = mt at *
          go_enter Try.func4, Try.ntmps4
          go_wp2_with fail
          refine (S1.out _).mono ?_
          rintro e w1 ⟨rfl, rfl⟩
          go_wp2_with fail
          refine (S2.out _).mono ?_
          rintro e w2 ⟨rfl, rfl⟩
          go_wp2_with fail
          refine (M'.out _).mono ?_
          rintro e w3 ⟨rfl, b3⟩
          have B3 := hide b3
          clear b3
          go_wp2_with fail
          refine (P1'.out _).mono ?_
          rintro e w4 ⟨rfl, b4⟩
          have B4 := hide (below_on B3.out b4)
          clear b4
          go_wp2_with fail
          refine (P2.out _).mono ?_
          rintro e w5 ⟨rfl, b5⟩
          have B5 := hide (below_on B4.out b5)
          clear b5
          go_wp2_with fail
          refine (P3'.out _).mono ?_
          rintro e w6 ⟨rfl, b6⟩
          have B6 := hide (below_on B5.out b6)
          clear b6
          go_wp2_with fail
          refine (P4.out _).mono ?_
          rintro e w7 ⟨rfl, b7⟩
          have B7 := hide (below_on B6.out b7)
          clear b7
          go_wp2_with fail
          refine (P4.out _).mono ?_
          rintro e w8 ⟨rfl, b8⟩
          have B8 := hide (below_on B7.out b8)
          clear b8
          go_wp2_with fail
          refine (P2.out _).mono ?_
          rintro e w9 ⟨rfl, b9⟩
          have B9 := hide (below_on B8.out b9)
          clear b9
          go_wp2_with fail
          refine (awake12_any _).mono ?_
          rintro e w10 ⟨rfl, b10⟩
          have B10 := hide (below_on B9.out b10)
          clear b10
          go_wp2_with fail
          refine (T.out _).mono ?_
          rintro e w11 ⟨rfl, b11⟩
          have B11 := hide (below_on B10.out b11)
          clear b11
          go_wp2_with fail
          go_ret
          exact ⟨by cases mt <;> rfl, B11.out⟩
    · have S2 := hide fun W => small_no ns h2 W
      clear h1 h2
      go_enter Try.func4, Try.ntmps4
      go_wp2_with fail
      refine (S1.out _).mono ?_
      rintro e w1 ⟨rfl, rfl⟩
      go_wp2_with fail
      refine (S2.out _).mono ?_
      rintro e w2 ⟨rfl, rfl⟩
      go_wp2_with fail
      go_ret
      exact ⟨rfl, Below.refl _ _⟩
  · have S1 := hide fun W => small_no xs h1 W
    clear h1
    go_enter Try.func4, Try.ntmps4
    go_wp2_with fail
    refine (S1.out _).mono ?_
    rintro e w1 ⟨rfl, rfl⟩
    go_wp2_with fail
    go_ret
    exact ⟨rfl, Below.refl _ _⟩

end Go.Proofs.Ytkgidimaiedocaa
