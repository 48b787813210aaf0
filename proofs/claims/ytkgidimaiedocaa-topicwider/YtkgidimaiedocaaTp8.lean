/-
  What is proved here: what Matches of package topic returns, for every two texts of at most 10^11 bytes; what the laws' takes returns; the document's examples are answered as it says. Condition: so short texts.
-/
import Derived.Test.YtkgidimaiedocaaTp7
namespace Go.Proofs.Ytkgidimaiedocaa
set_option linter.unusedVariables false
set_option linter.unusedSimpArgs false
open Go.RowKit

theorem takes_any (xs ns : List UInt8) (hs : xs.length ≤ 100000000000) (hn : ns.length ≤ 100000000000) (w : World) :
    Calls Try.prog 43 #[.string (str xs), .string (str ns)] w fun e w' => e = .returned (.bool (takesL (lvls xs) (lvls ns))) ∧ Below w.heap.size w w' := callsIn_wide.1 (takes_in xs ns hs hn w)

/-- What Matches answers beside. -/
def mtE (xs ns : List UInt8) : Int := if filterL xs = true then errN (nameL ns) 120 else 121

set_option maxHeartbeats 2000000 in
theorem matches_any (xs ns : List UInt8) (hs : xs.length ≤ 100000000000) (hn : ns.length ≤ 100000000000) (w : World) :
    Calls Try.prog 17 #[.string (str xs), .string (str ns)] w fun e w' => e = .returned (.tuple #[.bool (tkL xs ns), .int .i64 (mtE xs ns)]) ∧ Below w.heap.size w w' := by
  have H1 := hide fun W => filter_any xs hs W
  have H2 := hide fun W => name_any ns (by omega) W
  have H3 := hide fun W => sHasPrefix_any 36 ns W
  have H4 := hide fun W => hasWild_any (xs.take 1) (by rw [List.length_take]; omega) W
  have H5 := hide fun W => takes_any xs ns hs hn W
  unfold tkL mtE
  cases hf : filterL xs with
  | false =>
    rw [hf] at H1
    have H1' : Hid (∀ W, Calls Try.prog 20 #[.string (str xs)] W fun e w' => e = .returned (.int .i64 121) ∧ Below W.heap.size W w') := H1.out
    clear H1 hf
    go_enter Try.func17, Try.ntmps17
    go_wp2_with (go_at_call 20; refine (H1'.out _).mono ?_; rintro e w1 ⟨rfl, b1⟩)
    go_ret2
    exact ⟨rfl, b1⟩
  | true =>
    rw [hf] at H1
    have H1' : Hid (∀ W, Calls Try.prog 20 #[.string (str xs)] W fun e w' => e = .returned (.int .i64 0) ∧ Below W.heap.size W w') := H1.out
    have hne := (filterL_parts hf).1
    clear H1 hf
    cases hm : nameL ns with
    | false =>
      rw [hm] at H2
      have H2' : Hid (∀ W, Calls Try.prog 18 #[.string (str ns)] W fun e w' => e = .returned (.int .i64 120) ∧ Below W.heap.size W w') := H2.out
      clear H2 hm
      go_enter Try.func17, Try.ntmps17
      go_wp2_with (first
        | (go_at_call 20; refine (H1'.out _).mono ?_; rintro e w1 ⟨rfl, b1⟩)
        | (go_at_call 18; refine (H2'.out _).mono ?_; rintro e w2 ⟨rfl, b2⟩))
      go_ret2
      exact ⟨rfl, below_on b1 b2⟩
    | true =>
      rw [hm] at H2
      have H2' : Hid (∀ W, Calls Try.prog 18 #[.string (str ns)] W fun e w' => e = .returned (.int .i64 0) ∧ Below W.heap.size W w') := H2.out
      have e1 := str_take xs 1
      have hsz : 1 ≤ (str xs).size := by rw [Lib.size_eq, str_list]; cases xs with | nil => exact absurd rfl hne | cons => simp
      unfold matchL
      by_cases hd : ns.head? = some 36
      · rw [decide_eq_true hd] at H3
        cases hw : wildL (xs.take 1) with
        | true =>
          rw [hw] at H4
          rw [if_pos ⟨hd, rfl⟩]
          generalize str xs = s at *
          have q : (1 : Int) ≤ (s.size : Int) := by omega
          clear H2 hm hd hw hne
          go_enter Try.func17, Try.ntmps17
          go_wp2_with (first
            | (go_at_call 20; refine (H1'.out _).mono ?_; rintro e w1 ⟨rfl, b1⟩)
            | (go_at_call 18; refine (H2'.out _).mono ?_; rintro e w2 ⟨rfl, b2⟩)
            | (go_at_call 41; refine (H3.out _).mono ?_; rintro e w3 ⟨rfl, rfl⟩)
            | (go_at_call 42; refine (H4.out _).mono ?_; rintro e w4 ⟨rfl, b4⟩))
          go_ret2
          exact ⟨rfl, below_on (below_on b1 b2) b4⟩
        | false =>
          rw [hw] at H4
          rw [if_neg (by simp)]
          generalize str xs = s at *
          have q : (1 : Int) ≤ (s.size : Int) := by omega
          clear H2 hm hd hw hne
          go_enter Try.func17, Try.ntmps17
          go_wp2_with (first
            | (go_at_call 20; refine (H1'.out _).mono ?_; rintro e w1 ⟨rfl, b1⟩)
            | (go_at_call 18; refine (H2'.out _).mono ?_; rintro e w2 ⟨rfl, b2⟩)
            | (go_at_call 41; refine (H3.out _).mono ?_; rintro e w3 ⟨rfl, rfl⟩)
            | (go_at_call 42; refine (H4.out _).mono ?_; rintro e w4 ⟨rfl, b4⟩)
            | (go_at_call 43; refine (H5.out _).mono ?_; rintro e w5 ⟨rfl, b5⟩))
          go_ret2
          exact ⟨rfl, below_on (below_on (below_on b1 b2) b4) b5⟩
      · rw [decide_eq_false hd] at H3
        rw [if_neg (fun h => hd h.1)]
        generalize str xs = s at *
        have q : (1 : Int) ≤ (s.size : Int) := by omega
        clear H2 hm hd hne
        go_enter Try.func17, Try.ntmps17
        go_wp2_with (first
          | (go_at_call 20; refine (H1'.out _).mono ?_; rintro e w1 ⟨rfl, b1⟩)
          | (go_at_call 18; refine (H2'.out _).mono ?_; rintro e w2 ⟨rfl, b2⟩)
          | (go_at_call 41; refine (H3.out _).mono ?_; rintro e w3 ⟨rfl, rfl⟩)
          | (go_at_call 43; refine (H5.out _).mono ?_; rintro e w5 ⟨rfl, b5⟩))
        go_ret2
        exact ⟨rfl, below_on (below_on b1 b2) b5⟩

theorem tk_err {xs ns : List UInt8} (h : tkL xs ns = true) : mtE xs ns = 0 := by
  unfold tkL at h
  rw [Bool.and_eq_true, Bool.and_eq_true] at h
  unfold mtE
  rw [if_pos h.1.1, h.1.2]
  rfl
theorem lawTakes_any (xs ns : List UInt8) (hs : xs.length ≤ 100000000000) (hn : ns.length ≤ 100000000000) (w : World) :
    Calls Try.prog 24 #[.string (str xs), .string (str ns)] w fun e w' => e = .returned (.bool (tkL xs ns)) ∧ Below w.heap.size w w' := by
  have H := hide fun W => matches_any xs ns hs hn W
  cases ht : tkL xs ns with
  | true =>
    rw [ht, tk_err ht] at H
    clear ht
    go_enter Try.func24, Try.ntmps24
    go_wp2_with (go_at_call 17; refine (H.out _).mono ?_; rintro e w1 ⟨rfl, b1⟩)
    go_ret
    exact ⟨rfl, b1⟩
  | false =>
    rw [ht] at H
    clear ht
    go_enter Try.func24, Try.ntmps24
    go_wp2_with (go_at_call 17; refine (H.out _).mono ?_; rintro e w1 ⟨rfl, b1⟩)
    go_ret
    exact ⟨rfl, b1⟩
theorem small_any (xs : List UInt8) (w : World) : Calls Try.prog 16 #[.string (str xs)] w fun e w' => e = .returned (.bool (decide (xs.length ≤ 500))) ∧ w' = w := by
  have hsz : (str xs).size = xs.length := by rw [Lib.size_eq, str_list]
  generalize str xs = s at *
  have q : decide ((xs.length : Int) ≤ 500) = decide (xs.length ≤ 500) := decide_eq_decide.2 (by omega)
  go_enter Try.func16, Try.ntmps16
  go_wp2
  go_ret
  exact ⟨rfl, rfl⟩

set_option maxRecDepth 100000 in
theorem mt_ex : mtE [97, 35] [97] = 121 ∧ mtE [97] [97, 47, 43] = 120 := by decide +kernel
set_option maxRecDepth 100000 in
theorem tk_ex : tkL [97, 47, 35] [97] = true ∧ tkL [97, 47, 35] [97, 47, 98, 47, 99] = true ∧ tkL [97, 47, 35] [97, 98] = false ∧ tkL [43, 47, 43] [47, 98] = true ∧ tkL [35] [36, 83, 89, 83, 47, 120] = false ∧ tkL [36, 83, 89, 83, 47, 35] [36, 83, 89, 83, 47, 120] = true := by decide +kernel

set_option maxHeartbeats 2000000 in
set_option maxRecDepth 100000 in
theorem awake12_any (w : World) : Calls Try.prog 22 #[] w fun e w' => e = .returned (.bool true) ∧ Below w.heap.size w w' := by
  obtain ⟨t1, t2, t3, t4, t5, t6⟩ := tk_ex
  have M1 := hide fun W => matches_any [97, 35] [97] (by decide) (by decide) W
  have M2 := hide fun W => matches_any [97] [97, 47, 43] (by decide) (by decide) W
  rw [mt_ex.1] at M1
  rw [mt_ex.2] at M2
  have T1 := hide fun W => lawTakes_any [97, 47, 35] [97] (by decide) (by decide) W
  have T2 := hide fun W => lawTakes_any [97, 47, 35] [97, 47, 98, 47, 99] (by decide) (by decide) W
  have T3 := hide fun W => lawTakes_any [97, 47, 35] [97, 98] (by decide) (by decide) W
  have T4 := hide fun W => lawTakes_any [43, 47, 43] [47, 98] (by decide) (by decide) W
  have T5 := hide fun W => lawTakes_any [35] [36, 83, 89, 83, 47, 120] (by decide) (by decide) W
  have T6 := hide fun W => lawTakes_any [36, 83, 89, 83, 47, 35] [36, 83, 89, 83, 47, 120] (by decide) (by decide) W
  rw [t1] at T1
  rw [t2] at T2
  rw [t3] at T3
  rw [t4] at T4
  rw [t5] at T5
  rw [t6] at T6
  clear t1 t2 t3 t4 t5 t6
  go_enter Try.func22, Try.ntmps22
  go_wp2_with fail
  refine (M1.out _).mono ?_
  rintro e w1 ⟨rfl, b1⟩
  have B1 := hide b1
  clear b1
  go_wp2_with fail
  refine (M2.out _).mono ?_
  rintro e w2 ⟨rfl, b2⟩
  have B2 := hide (below_on B1.out b2)
  clear b2
  go_wp2_with fail
  refine (T1.out _).mono ?_
  rintro e w3 ⟨rfl, b3⟩
  have B3 := hide (below_on B2.out b3)
  clear b3
  go_wp2_with fail
  refine (T2.out _).mono ?_
  rintro e w4 ⟨rfl, b4⟩
  have B4 := hide (below_on B3.out b4)
  clear b4
  go_wp2_with fail
  refine (T3.out _).mono ?_
  rintro e w5 ⟨rfl, b5⟩
  have B5 := hide (below_on B4.out b5)
  clear b5
  go_wp2_with fail
  refine (T4.out _).mono ?_
  rintro e w6 ⟨rfl, b6⟩
  have B6 := hide (below_on B5.out b6)
  clear b6
  go_wp2_with fail
  refine (T5.out _).mono ?_
  rintro e w7 ⟨rfl, b7⟩
  have B7 := hide (below_on B6.out b7)
  clear b7
  go_wp2_with fail
  refine (T6.out _).mono ?_
  rintro e w8 ⟨rfl, b8⟩
  have B8 := hide (below_on B7.out b8)
  clear b8
  go_wp2_with fail
  go_ret
  exact ⟨rfl, B8.out⟩

end Go.Proofs.Ytkgidimaiedocaa
