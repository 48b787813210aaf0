/-
  What is proved here: the program's small functions of package packet (upTo, isWord, isId, isText, mark, must, isMessage). Conditions: topics of at most 65535 bytes.
-/
import Derived.Test.YtkgidimaiedocaaPkD
import Derived.Test.YtkgidimaiedocaaUt3
import Derived.Deep.DeepCutAuto
namespace Go.Proofs.Ytkgidimaiedocaa
set_option linter.unusedVariables false
set_option linter.unusedSimpArgs false
open Go.RowKit

theorem upTo_any (n t : Int) (w : World) : Calls Try.prog 97 #[.int .i64 n, .int .i64 t] w fun e w' => e = .returned (.bool (decide (0 ≤ n ∧ n ≤ t))) ∧ w = w' := by
  by_cases h0 : 0 ≤ n
  · by_cases h1 : n ≤ t
    · rw [decide_eq_true ⟨h0, h1⟩]
      go_enter Try.func97, Try.ntmps97
      go_wp2_with fail
      go_ret
      exact ⟨rfl, rfl⟩
    · rw [decide_eq_false (fun h => h1 h.2)]
      go_enter Try.func97, Try.ntmps97
      go_wp2_with fail
      go_ret
      exact ⟨rfl, rfl⟩
  · rw [decide_eq_false (fun h => h0 h.1)]
    go_enter Try.func97, Try.ntmps97
    go_wp2_with fail
    go_ret
    exact ⟨rfl, rfl⟩
theorem isWord_any (n : Int) (w : World) : Calls Try.prog 94 #[.int .i64 n] w fun e w' => e = .returned (.bool (decide (0 ≤ n ∧ n ≤ 65535))) ∧ w = w' := by
  have P := hide (upTo_any n 65535 w)
  generalize decide (0 ≤ n ∧ n ≤ 65535) = y at *
  go_enter Try.func94, Try.ntmps94
  go_wp2_with fail
  refine P.out.mono ?_
  rintro e w1 ⟨rfl, rfl⟩
  go_wp2_with fail
  go_ret
  exact ⟨rfl, rfl⟩
theorem isId_any (n : Int) (w : World) : Calls Try.prog 99 #[.int .i64 n] w fun e w' => e = .returned (.bool (idB n)) ∧ w = w' := by
  have P := hide (isWord_any n w)
  by_cases h0 : 0 < n
  · have E := hide (show decide (0 ≤ n ∧ n ≤ 65535) = idB n by unfold idB; exact decide_eq_decide.2 (by omega))
    rw [E.out] at P
    generalize idB n = y at *
    go_enter Try.func99, Try.ntmps99
    go_wp2_with fail
    refine P.out.mono ?_
    rintro e w1 ⟨rfl, rfl⟩
    go_wp2_with fail
    go_ret
    exact ⟨rfl, rfl⟩
  · have E := hide (show idB n = false by unfold idB; exact decide_eq_false (by omega))
    rw [E.out]
    go_enter Try.func99, Try.ntmps99
    go_wp2_with fail
    go_ret
    exact ⟨rfl, rfl⟩
theorem isText_any (xs : List UInt8) (w : World) : Calls Try.prog 115 #[.string (str xs)] w fun e w' => e = .returned (.bool (decide (xs.length ≤ 65535))) ∧ w = w' := by
  obtain ⟨n, hn⟩ : ∃ n, xs.length = n := ⟨_, rfl⟩
  rw [hn]
  have hs : (str xs).size = n := by rw [str_size, hn]
  by_cases h : n ≤ 65535
  · have q : (n : Int) ≤ 65535 := by omega
    rw [decide_eq_true h]
    go_enter Try.func115, Try.ntmps115
    go_wp2_with fail
    go_ret
    exact ⟨by first | rfl | simp, rfl⟩
  · have q : ¬ (n : Int) ≤ 65535 := by omega
    rw [decide_eq_false h]
    go_enter Try.func115, Try.ntmps115
    go_wp2_with fail
    go_ret
    exact ⟨by first | rfl | simp, rfl⟩
theorem mark_any (b : Bool) (n : Nat) (w : World) : Calls Try.prog 55 #[.bool b, .int .i64 (n : Int)] w fun e w' => e = .returned (.int .i64 (flagB b n : Int)) ∧ w = w' := by
  cases b with
  | true =>
    go_enter Try.func55, Try.ntmps55
    go_wp2_with fail
    go_ret
    exact ⟨rfl, rfl⟩
  | false =>
    go_enter Try.func55, Try.ntmps55
    go_wp2_with fail
    go_ret
    exact ⟨rfl, rfl⟩
/-- What a reader gives up with. -/
def gvP : List PanicEntry := [{ v := .iface 118 (.int .i64 100), recovered := false }]
theorem must_ok (r : Value) (w : World) : Calls Try.prog 128 #[r, .bool true] w fun e w' => e = .returned (.tuple #[]) ∧ w = w' := by
  go_enter Try.func128, Try.ntmps128
  go_wp2_with fail
  go_end0
  exact ⟨rfl, rfl⟩
theorem must_no (r : Value) (w : World) : Calls Try.prog 128 #[r, .bool false] w fun e w' => e = .panicked gvP ∧ w = w' := by
  unfold gvP
  go_enter Try.func128, Try.ntmps128
  go_wp2_with fail
  exact ⟨rfl, rfl, rfl⟩
theorem utIs_l (xs : List UInt8) (w : World) : Calls Try.prog 70 #[.string (str xs)] w fun e w' => e = .returned (.bool (isStr xs)) ∧ Below w.heap.size w w' := by
  have h := utIs_any (str xs) w
  rw [str_data] at h
  exact h

/-- Is a message's topic and quality such that it may be? -/
def msgB (topic : List UInt8) (qos : Int) : Bool := fullB topic && decide (0 ≤ qos ∧ qos ≤ 2)
theorem isMessage_any (topic payload : List UInt8) (qos : Int) (ret : Bool) (w : World) : Calls Try.prog 98 #[.agg #[.string (str topic), .string (str payload), .int .i64 qos, .bool ret]] w fun e w' => e = .returned (.bool (msgB topic qos)) ∧ Below w.heap.size w w' := by
  have P := fun W => hide (utIs_l topic W)
  have Q := fun W => hide (upTo_any qos 2 W)
  unfold msgB fullB
  generalize decide (0 ≤ qos ∧ qos ≤ 2) = y at *
  cases topic with
  | nil =>
    go_enter Try.func98, Try.ntmps98
    go_wp2_with fail
    go_ret
    exact ⟨rfl, (Below.refl _ _).alloc (Nat.le_refl _) _⟩
  | cons x t =>
    have e0 : ((x :: t) == []) = false := rfl
    have E := hide (show (x :: t).isEmpty = false from rfl)
    rw [E.out]
    generalize x :: t = xs at *
    generalize isStr xs = s at *
    cases s with
    | false =>
      go_enter Try.func98, Try.ntmps98
      go_wp2_with fail
      refine (P _).out.mono ?_
      rintro e w1 ⟨rfl, b1⟩
      go_wp2_with fail
      go_ret
      exact ⟨rfl, ((Below.refl _ _).alloc (Nat.le_refl _) _).trans (b1.mono (by simp))⟩
    | true =>
      go_enter Try.func98, Try.ntmps98
      go_wp2_with fail
      generalize hW : w.alloc _ = W
      have hB := (Blk.new w 32 [.string (str xs), .string (str payload), .int .i64 qos, .bool ret])
      have hb : Below w.heap.size w W := by rw [← hW]; exact (Below.refl _ _).alloc (Nat.le_refl _) _
      have HB := hide (show Blk W w.heap.size 32 [.string (str xs), .string (str payload), .int .i64 qos, .bool ret] from by rw [← hW]; exact hB)
      clear hB hW
      refine (P _).out.mono ?_
      rintro e w1 ⟨rfl, b1⟩
      have c2 := (HB.out.keep b1).cell 2
      simp only [List.getElem?_cons_zero, List.getElem?_cons_succ] at c2
      have B1 := hide (below_on hb b1)
      clear hb b1
      go_wp2_with fail
      refine (Q _).out.mono ?_
      rintro e w2 ⟨rfl, rfl⟩
      go_wp2_with fail
      go_ret
      exact ⟨rfl, B1.out⟩

end Go.Proofs.Ytkgidimaiedocaa
