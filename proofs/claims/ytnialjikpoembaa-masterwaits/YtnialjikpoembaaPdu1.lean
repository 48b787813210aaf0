/-
  What is proved here: what the small tests of package pdu return.
-/
import Derived.Test.YtnialjikpoembaaPduDef
namespace Go.Proofs.Ytnialjikpoembaa
set_option linter.unusedVariables false
set_option linter.unusedSimpArgs false
open Go.RowKit

theorem unmasked_any (f a c t an o : Int) (A : Option Addr) (n k : Nat) (w : World) :
    Calls Try.prog 79 #[.agg #[.int .i64 f, .int .i64 a, .int .i64 c, .slice A n k, .int .i64 t, .int .i64 an, .int .i64 o]] w fun e w' => e = .returned (.bool (plainB an o)) ∧ Below w.heap.size w w' := by
  unfold plainB
  cases h1 : an == 0
  all_goals cases h2 : o == 0
  all_goals
    go_enter Try.func79, Try.ntmps79
    go_wp2
    go_ret
    exact ⟨rfl, (Below.refl _ _).alloc (Nat.le_refl _) _⟩

theorem isWord_any (n : Int) (w : World) : Calls Try.prog 80 #[.int .i64 n] w fun e w' => e = .returned (.bool (isW n)) ∧ w = w' := by
  unfold isW
  cases h1 : decide (0 ≤ n)
  all_goals cases h2 : decide (n ≤ 65535)
  all_goals
    go_enter Try.func80, Try.ntmps80
    go_wp2
    go_ret
    exact ⟨rfl, rfl⟩

theorem lies_any (a n most : Int) (hm : most ≤ 100000) (w : World) : Calls Try.prog 78 #[.int .i64 a, .int .i64 n, .int .i64 most] w fun e w' => e = .returned (.bool (liesB a n most)) ∧ w = w' := by
  unfold liesB
  cases h1 : decide (1 ≤ n)
  · go_enter Try.func78, Try.ntmps78
    go_wp2
    go_ret
    exact ⟨rfl, rfl⟩
  cases h2 : decide (n ≤ most)
  · go_enter Try.func78, Try.ntmps78
    go_wp2
    go_ret
    exact ⟨rfl, rfl⟩
  cases h3 : decide (0 ≤ a)
  · go_enter Try.func78, Try.ntmps78
    go_wp2
    go_ret
    exact ⟨rfl, rfl⟩
  have hr : decide (a + n ≤ 65536) = decide (a ≤ 65536 - n) := by
    rw [decide_eq_decide]
    omega
  have e1 : IntKind.i64.wrap (65536 - n) = 65536 - n := by
    rw [decide_eq_true_eq] at h1 h2
    rw [IntKind.wrap_i64]
    omega
  rw [hr]
  cases h4 : decide (a ≤ 65536 - n)
  all_goals
    have h1' := of_decide_eq_true h1
    have h2' := of_decide_eq_true h2
    go_enter Try.func78, Try.ntmps78
    go_wp2
    go_ret
    exact ⟨rfl, rfl⟩

theorem reads_any (f a c t an o most : Int) (hm : most ≤ 100000) (A : Option Addr) (n k : Nat) (w : World) :
    Calls Try.prog 63 #[.agg #[.int .i64 f, .int .i64 a, .int .i64 c, .slice A n k, .int .i64 t, .int .i64 an, .int .i64 o], .int .i64 most] w fun e w' => e = .returned (.bool (readsB a c n t an o most)) ∧ Below w.heap.size w w' := by
  have HL := hide (fun W => lies_any a c most hm W)
  unfold readsB
  generalize liesB a c most = bL at *
  cases bL
  · go_enter Try.func63, Try.ntmps63
    go_wp2_with fail
    refine (HL.out _).mono ?_
    rintro e w1 ⟨rfl, rfl⟩
    go_wp2
    go_ret
    exact ⟨rfl, (Below.refl _ _).alloc (Nat.le_refl _) _⟩
  cases hn : n == 0
  · have hn' : ((n : Int) == 0) = false := by simp at hn ⊢; exact hn
    go_enter Try.func63, Try.ntmps63
    go_wp2_with fail
    refine (HL.out _).mono ?_
    rintro e w1 ⟨rfl, rfl⟩
    go_wp2
    go_ret
    exact ⟨rfl, (Below.refl _ _).alloc (Nat.le_refl _) _⟩
  have hn' : ((n : Int) == 0) = true := by simp at hn ⊢; exact hn
  cases ht : t == 0
  · go_enter Try.func63, Try.ntmps63
    go_wp2_with fail
    refine (HL.out _).mono ?_
    rintro e w1 ⟨rfl, rfl⟩
    go_wp2
    go_ret
    exact ⟨rfl, (Below.refl _ _).alloc (Nat.le_refl _) _⟩
  go_enter Try.func63, Try.ntmps63
  go_wp2_with fail
  refine (HL.out _).mono ?_
  rintro e w1 ⟨rfl, rfl⟩
  go_wp2_with fail
  refine (unmasked_any f a c t an o A n k _).mono ?_
  rintro e w1 ⟨rfl, b1⟩
  have b2 := ((Below.refl _ _).alloc (Nat.le_refl _) _).trans (b1.mono (by simp))
  go_wp2
  go_ret
  exact ⟨rfl, b2⟩

theorem upToB_snoc (xs : List Int) (top : Int) (k : Nat) (h : k < xs.length) : upToB (xs.take (k + 1)) top = (upToB (xs.take k) top && (decide (0 ≤ xs[k]) && decide (xs[k] ≤ top))) := by
  rw [upToB, List.take_succ_eq_append_getElem h, List.all_append]
  simp [upToB]

/-- upTo: are all from 0 to top? -/
theorem upTo_any (A : Option Addr) (n c : Nat) (xs : List Int) (top : Int) (w : World) (h : Rd w A n (iv xs)) (hn : n ≤ 1000000) :
    Calls Try.prog 72 #[.slice A n c, .int .i64 top] w fun e w' => e = .returned (.bool (upToB xs top)) ∧ w = w' := by
  have hl : xs.length = n := by rw [← iv_length]; exact h.1
  have Hl := hide hl
  clear hl
  go_enter Try.func72, Try.ntmps72
  go_wp2
  go_loop [9] (fun i => ∃ k : Nat, k ≤ n ∧ i = .int .i64 k ∧ upToB (xs.take k) top = true) (fun i => n - (intOf i).toNat)
  case atStart => exact ⟨0, Nat.zero_le _, rfl, rfl⟩
  case round =>
    obtain ⟨k, hk, rfl, htk⟩ := hrel
    have Htk := hide htk
    clear htk
    by_cases hlt : k < n
    · obtain ⟨b, o, rfl, hbl, hc⟩ := h.at_ hlt
      have hlt' : k < xs.length := by rw [Hl.out]; exact hlt
      have c0 := hc k _ (iv_get xs k hlt')
      have Hts := hide (upToB_snoc xs top k hlt')
      have Hno : Hid (¬ (0 ≤ xs[k] ∧ xs[k] ≤ top) → upToB xs top = false) := fun hne => by
        rw [upToB, List.all_eq_false]
        exact ⟨xs[k], List.getElem_mem hlt', by simpa using hne⟩
      have q : (k : Int) < (n : Int) := by omega
      clear hc h
      generalize xs[k] = z at *
      by_cases hz0 : 0 ≤ z
      · by_cases hzt : z ≤ top
        · have q1 : decide (z < 0) = false := by simp; omega
          have q2 : decide (top < z) = false := by simp; omega
          have Hb : Hid (decide (0 ≤ z) && decide (z ≤ top)) := by simp [Hid, hz0, hzt]
          go_wp2
          go_round
          case rel => exact ⟨k + 1, by omega, by go_num, by rw [Hts.out, Htk.out, Hb.out]; rfl⟩
          case measure => simp [intOf]; omega
        · have q1 : decide (z < 0) = false := by simp; omega
          have q2 : decide (top < z) = true := by simp; omega
          have Hn := hide (Hno.out (fun h => hzt h.2))
          go_wp2
          go_ret
          exact ⟨by rw [Hn.out]; rfl, rfl⟩
      · have q1 : decide (z < 0) = true := by simp; omega
        have Hn := hide (Hno.out (fun h => hz0 h.1))
        go_wp2
        go_ret
        exact ⟨by rw [Hn.out]; rfl, rfl⟩
    · obtain rfl : k = n := by omega
      have hfin : upToB xs top = true := by have := Htk.out; rwa [List.take_of_length_le (by rw [Hl.out]; exact Nat.le_refl _)] at this
      have Hfin := hide hfin
      clear hfin
      go_wp2
      go_ret
      exact ⟨by rw [Hfin.out]; rfl, rfl⟩

end Go.Proofs.Ytnialjikpoembaa
