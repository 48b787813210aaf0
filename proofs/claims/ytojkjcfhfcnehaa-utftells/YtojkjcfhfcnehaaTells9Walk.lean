/-
  What is proved here: the law UtfTells returns true for every text, and writes nothing that was there. No condition.
-/
import Derived.Test.YtojkjcfhfcnehaaAwake9
import Derived.Test.YtojkjcfhfcnehaaRef9b
namespace Go.Proofs.Ytojkjcfhfcnehaa
set_option linter.unusedVariables false
set_option linter.unusedSimpArgs false
open Go.RowKit

theorem rPoints_ok (s : ByteArray) (ps : List Nat) (h : ptsU s.data.toList = some ps) (n : Nat) (hs : s.data.toList.length = n) (hn : n ≤ 65535) (w : World) : Calls Try.prog 8 #[.string s] w fun e w' => ∃ A c, e = .returned (.tuple #[.slice A ps.length c, .bool true]) ∧ ps.length ≤ c ∧ Rd w' A ps.length (iv (nts ps)) ∧ Below w.heap.size w w' := by
  refine (rPoints_any s n hs hn w).mono ?_
  rintro e w' (⟨h1, _⟩ | ⟨qs, A, c, h1, h2, h3, h4, h5⟩)
  · rw [h] at h1; cases h1
  · rw [h] at h1
    injection h1 with h1
    subst h1
    exact ⟨A, c, h2, h3, h4, h5⟩
theorem rPoints_no (s : ByteArray) (h : ptsU s.data.toList = none) (n : Nat) (hs : s.data.toList.length = n) (hn : n ≤ 65535) (w : World) : Calls Try.prog 8 #[.string s] w fun e w' => e = .returned (.tuple #[.slice none 0 0, .bool false]) ∧ Below w.heap.size w w' := by
  refine (rPoints_any s n hs hn w).mono ?_
  rintro e w' (⟨_, h1, h2⟩ | ⟨qs, A, c, h1, _⟩)
  · exact ⟨h1, h2⟩
  · rw [h] at h1; cases h1

set_option maxHeartbeats 1000000 in
set_option maxRecDepth 100000 in
theorem tells9_walk (s : ByteArray) (w : World) : Calls Try.prog 3 #[.string s] w fun e w' => e = .returned (.bool true) ∧ Below w.heap.size w w' := by
  obtain ⟨n, hn⟩ : ∃ n, s.size = n := ⟨_, rfl⟩
  by_cases hs : n ≤ 3000
  · have q0 : ¬ (3000 : Int) < (n : Int) := by omega
    have hl : s.data.toList.length = n := by rw [Array.length_toList]; exact hn
    cases hU : ptsU s.data.toList with
    | none =>
      have P1 := hide fun W => utPoints_no _ hU s rfl W
      have P2 := hide fun W => rPoints_no s hU n hl (by omega) W
      have P3 := hide fun W => utIs_of false _ (by rw [hU]; rfl) s rfl W
      clear hU hl
      go_enter Try.func3, Try.ntmps3
      go_wp2_with fail
      refine (P1.out w).mono ?_
      rintro e w1 ⟨rfl, b1⟩
      have B1 := hide b1
      clear b1
      go_wp2_with fail
      refine (P2.out w1).mono ?_
      rintro e w2 ⟨rfl, b2⟩
      have B2 := hide (below_on B1.out b2)
      clear b2
      go_wp2_with fail
      refine (P3.out w2).mono ?_
      rintro e w3 ⟨rfl, b3⟩
      have B3 := hide (below_on B2.out b3)
      clear b3
      go_wp2_with fail
      refine (awake_any w3).mono ?_
      rintro e w4 ⟨rfl, b4⟩
      have B4 := hide (below_on B3.out b4)
      clear b4
      go_wp2_with fail
      go_ret
      exact ⟨rfl, B4.out⟩
    | some ps =>
      have hpl := ptsL_len (xs := s.data.toList) (ps := ps) (by rw [← ptsU_small _ (by omega)]; exact hU)
      rw [hl] at hpl
      have P1 := hide fun W => utPoints_ok _ _ hU s rfl W
      have P2 := hide fun W => rPoints_ok s ps hU n hl (by omega) W
      have P3 := hide fun W => utIs_of true _ (by rw [hU]; rfl) s rfl W
      clear hU hl
      obtain ⟨m, hm⟩ : ∃ m, ps.length = m := ⟨_, rfl⟩
      rw [hm] at P1 P2 hpl
      clear hm
      go_enter Try.func3, Try.ntmps3
      go_wp2_with fail
      refine (P1.out w).mono ?_
      rintro e w1 ⟨A, c, rfl, _, r1, b1⟩
      have B1 := hide b1
      have R1 := hide r1
      clear b1 r1
      go_wp2_with fail
      refine (P2.out w1).mono ?_
      rintro e w2 ⟨C, d, rfl, _, r2, b2⟩
      have B2 := hide (below_on B1.out b2)
      have R12 := hide (R1.out.keep b2)
      have R2 := hide r2
      clear b2 r2
      go_wp2_with fail
      refine (P3.out w2).mono ?_
      rintro e w3 ⟨rfl, b3⟩
      have B3 := hide (below_on B2.out b3)
      have R13 := hide (R12.out.keep b3)
      have R23 := hide (R2.out.keep b3)
      clear b3
      go_wp2_with fail
      refine (awake_any w3).mono ?_
      rintro e w4 ⟨rfl, b4⟩
      have B4 := hide (below_on B3.out b4)
      have R14 := hide (R13.out.keep b4)
      have R24 := hide (R23.out.keep b4)
      clear b4
      go_wp2_with fail
      refine (ints_any A C m m c d _ _ w4 R14.out R24.out (by omega) (by omega)).mono ?_
      rintro e w5 ⟨rfl, q5, rfl⟩
      rw [decide_eq_true rfl]
      go_wp2_with fail
      go_ret
      exact ⟨rfl, below_drewN B4.out _⟩
  · have q0 : (3000 : Int) < (n : Int) := by omega
    go_enter Try.func3, Try.ntmps3
    go_wp2
    go_ret
    exact ⟨rfl, Below.refl _ _⟩

end Go.Proofs.Ytojkjcfhfcnehaa
