/-
  What is proved here: what Matches of package topic returns, for every two texts of at most 10^11 bytes; what the laws' takes returns; the document's examples are answered as it says. Condition: so short texts.
-/
import Derived.Test.YtfjafpbmgbnllaaGreatTp7
namespace Go.Proofs.YtfjafpbmgbnllaaGreat
set_option linter.unusedVariables false
set_option linter.unusedSimpArgs false
open Go.RowKit

theorem takes_any (xs ns : List UInt8) (hs : xs.length ≤ 100000000000) (hn : ns.length ≤ 100000000000) (w : World) :
    Calls Tryz.prog 55 #[.string (str xs), .string (str ns)] w fun e w' => e = .returned (.bool (takesL (lvls xs) (lvls ns))) ∧ Below w.heap.size w w' := callsIn_wide.1 (takes_in xs ns hs hn w)

/-- What Matches answers beside. -/
def mtE (xs ns : List UInt8) : Int := if filterL xs = true then errN (nameL ns) 120 else 121

set_option maxHeartbeats 2000000 in
theorem matches_any (xs ns : List UInt8) (hs : xs.length ≤ 100000000000) (hn : ns.length ≤ 100000000000) (w : World) :
    Calls Tryz.prog 41 #[.string (str xs), .string (str ns)] w fun e w' => e = .returned (.tuple #[.bool (tkL xs ns), .int .i64 (mtE xs ns)]) ∧ Below w.heap.size w w' := by
  have H1 := hide fun W => filter_any xs hs W
  have H2 := hide fun W => name_any ns (by omega) W
  have H3 := hide fun W => sHasPrefix_any 36 ns W
  have H4 := hide fun W => hasWild_any (xs.take 1) (by rw [List.length_take]; omega) W
  have H5 := hide fun W => takes_any xs ns hs hn W
  unfold tkL mtE
  cases hf : filterL xs with
  | false =>
    rw [hf] at H1
    have H1' : Hid (∀ W, Calls Tryz.prog 20 #[.string (str xs)] W fun e w' => e = .returned (.int .i64 121) ∧ Below W.heap.size W w') := H1.out
    clear H1 hf
    go_enter Tryz.func41, Tryz.ntmps41
    go_wp2_with (go_at_call 20; refine (H1'.out _).mono ?_; rintro e w1 ⟨rfl, b1⟩)
    go_ret2
    exact ⟨rfl, b1⟩
  | true =>
    rw [hf] at H1
    have H1' : Hid (∀ W, Calls Tryz.prog 20 #[.string (str xs)] W fun e w' => e = .returned (.int .i64 0) ∧ Below W.heap.size W w') := H1.out
    have hne := (filterL_parts hf).1
    clear H1 hf
    cases hm : nameL ns with
    | false =>
      rw [hm] at H2
      have H2' : Hid (∀ W, Calls Tryz.prog 24 #[.string (str ns)] W fun e w' => e = .returned (.int .i64 120) ∧ Below W.heap.size W w') := H2.out
      clear H2 hm
      go_enter Tryz.func41, Tryz.ntmps41
      go_wp2_with (first
        | (go_at_call 20; refine (H1'.out _).mono ?_; rintro e w1 ⟨rfl, b1⟩)
        | (go_at_call 24; refine (H2'.out _).mono ?_; rintro e w2 ⟨rfl, b2⟩))
      go_ret2
      exact ⟨rfl, below_on b1 b2⟩
    | true =>
      rw [hm] at H2
      have H2' : Hid (∀ W, Calls Tryz.prog 24 #[.string (str ns)] W fun e w' => e = .returned (.int .i64 0) ∧ Below W.heap.size W w') := H2.out
      have e1 := str_take xs 1
      have hsz : 1 ≤ (str xs).size := by rw [Lib.size_eq, str_list]; cases xs with | nil => exact absurd rfl hne | cons => simp
      unfold matchL
      by_cases hd : ns.head? = some 36
      · rw [decide_eq_true hd] at H3
        cases hw : wildL (xs.take 1) with
        | true =>
          rw [hw] at H4
          rw [if_pos ⟨hd, rfl⟩]
          generalize str xs = s at *
          have q : (1 : Int) ≤ (s.size : Int) := by omega
          clear H2 hm hd hw hne
          go_enter Tryz.func41, Tryz.ntmps41
          go_wp2_with (first
            | (go_at_call 20; refine (H1'.out _).mono ?_; rintro e w1 ⟨rfl, b1⟩)
            | (go_at_call 24; refine (H2'.out _).mono ?_; rintro e w2 ⟨rfl, b2⟩)
            | (go_at_call 54; refine (H3.out _).mono ?_; rintro e w3 ⟨rfl, rfl⟩)
            | (go_at_call 40; refine (H4.out _).mono ?_; rintro e w4 ⟨rfl, b4⟩))
          go_ret2
          exact ⟨rfl, below_on (below_on b1 b2) b4⟩
        | false =>
          rw [hw] at H4
          rw [if_neg (by simp)]
          generalize str xs = s at *
          have q : (1 : Int) ≤ (s.size : Int) := by omega
          clear H2 hm hd hw hne
          go_enter Tryz.func41, Tryz.ntmps41
          go_wp2_with (first
            | (go_at_call 20; refine (H1'.out _).mono ?_; rintro e w1 ⟨rfl, b1⟩)
            | (go_at_call 24; refine (H2'.out _).mono ?_; rintro e w2 ⟨rfl, b2⟩)
            | (go_at_call 54; refine (H3.out _).mono ?_; rintro e w3 ⟨rfl, rfl⟩)
            | (go_at_call 40; refine (H4.out _).mono ?_; rintro e w4 ⟨rfl, b4⟩)
            | (go_at_call 55; refine (H5.out _).mono ?_; rintro e w5 ⟨rfl, b5⟩))
          go_ret2
          exact ⟨rfl, below_on (below_on (below_on b1 b2) b4) b5⟩
      · rw [decide_eq_false hd] at H3
        rw [if_neg (fun h => hd h.1)]
        generalize str xs = s at *
        have q : (1 : Int) ≤ (s.size : Int) := by omega
        clear H2 hm hd hne
        go_enter Tryz.func41, Tryz.ntmps41
        go_wp2_with (first
          | (go_at_call 20; refine (H1'.out _).mono ?_; rintro e w1 ⟨rfl, b1⟩)
          | (go_at_call 24; refine (H2'.out _).mono ?_; rintro e w2 ⟨rfl, b2⟩)
          | (go_at_call 54; refine (H3.out _).mono ?_; rintro e w3 ⟨rfl, rfl⟩)
          | (go_at_call 55; refine (H5.out _).mono ?_; rintro e w5 ⟨rfl, b5⟩))
        go_ret2
        exact ⟨rfl, below_on (below_on b1 b2) b5⟩

theorem tk_err {xs ns : List UInt8} (h : tkL xs ns = true) : mtE xs ns = 0 := by
  unfold tkL at h
  rw [Bool.and_eq_true, Bool.and_eq_true] at h
  unfold mtE
  rw [if_pos h.1.1, h.1.2]
  rfl
set_option maxRecDepth 100000 in
theorem mt_ex : mtE [97, 35] [97] = 121 ∧ mtE [97] [97, 47, 43] = 120 := by decide +kernel
set_option maxRecDepth 100000 in
theorem tk_ex : tkL [97, 47, 35] [97] = true ∧ tkL [97, 47, 35] [97, 47, 98, 47, 99] = true ∧ tkL [97, 47, 35] [97, 98] = false ∧ tkL [43, 47, 43] [47, 98] = true ∧ tkL [35] [36, 83, 89, 83, 47, 120] = false ∧ tkL [36, 83, 89, 83, 47, 35] [36, 83, 89, 83, 47, 120] = true := by decide +kernel

end Go.Proofs.YtfjafpbmgbnllaaGreat
