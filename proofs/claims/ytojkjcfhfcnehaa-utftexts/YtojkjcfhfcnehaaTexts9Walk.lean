/-
  What is proved here: the law UtfTexts returns true for every list of ints, and writes nothing that was there. No condition.
-/
import Derived.Test.YtojkjcfhfcnehaaAwake9
import Derived.Test.YtojkjcfhfcnehaaRef9b
namespace Go.Proofs.Ytojkjcfhfcnehaa
set_option linter.unusedVariables false
set_option linter.unusedSimpArgs false
open Go.RowKit

theorem rText_ok (ps : List Int) (hp : ps.all isPt = true) (A : Option Addr) (l c : Nat) (w : World) (h : Rd w A l (iv ps)) (hl : l ≤ 1000) : Calls Try.prog 13 #[.slice A l c] w fun e w' => e = .returned (.tuple #[.string (str (encsI ps)), .bool true]) ∧ Below w.heap.size w w' := by
  refine (rText_any A l c ps w h hl).mono ?_
  rintro e w' ⟨⟨h1, _⟩ | ⟨_, h1⟩, h2⟩
  · rw [hp] at h1; cases h1
  · exact ⟨h1, h2⟩
theorem rText_no (ps : List Int) (hp : ps.all isPt = false) (A : Option Addr) (l c : Nat) (w : World) (h : Rd w A l (iv ps)) (hl : l ≤ 1000) : Calls Try.prog 13 #[.slice A l c] w fun e w' => e = .returned (.tuple #[.string (str []), .bool false]) ∧ Below w.heap.size w w' := by
  refine (rText_any A l c ps w h hl).mono ?_
  rintro e w' ⟨⟨_, h1⟩ | ⟨h1, _⟩, h2⟩
  · exact ⟨h1, h2⟩
  · rw [hp] at h1; cases h1

set_option maxHeartbeats 1000000 in
set_option maxRecDepth 100000 in
theorem texts9_walk (A : Option Addr) (l c : Nat) (ps : List Int) (w : World) (h : Rd w A l (iv ps)) (hps : ps.length = l) : Calls Try.prog 4 #[.slice A l c] w fun e w' => e = .returned (.bool true) ∧ Below w.heap.size w w' := by
  by_cases hs : l ≤ 1000
  · have q0 : ¬ (1000 : Int) < (l : Int) := by omega
    have hlm : l ≤ maxLen := by unfold maxLen; omega
    have htx := txtU_small ps (by omega)
    have H := hide h
    clear h
    cases hp : ps.all isPt with
    | false =>
      rw [hp, if_neg (by simp)] at htx
      have P1 := hide fun W hr => utText_no ps htx A l c W hr hlm
      have P2 := hide fun W hr => rText_no ps hp A l c W hr hs
      clear htx hp hlm hps
      go_enter Try.func4, Try.ntmps4
      go_wp2_with fail
      refine (P1.out w H.out).mono ?_
      rintro e w1 ⟨rfl, b1⟩
      have B1 := hide b1
      clear b1
      go_wp2_with fail
      refine (P2.out w1 (H.out.keep B1.out)).mono ?_
      rintro e w2 ⟨rfl, b2⟩
      have B2 := hide (below_on B1.out b2)
      clear b2
      go_wp2_with fail
      refine (awake_any w2).mono ?_
      rintro e w4 ⟨rfl, b4⟩
      have B4 := hide (below_on B2.out b4)
      clear b4
      go_wp2_with fail
      go_ret
      exact ⟨rfl, B4.out⟩
    | true =>
      rw [hp, if_pos rfl] at htx
      obtain ⟨qs, hq1, hq2, hq3⟩ := pts_of_txt ps hp
      have hel := encsI_len ps
      rw [hps] at hel
      have hU : ptsU (encsI ps) = some qs := by rw [ptsU_small _ (by omega)]; exact hq1
      have P1 := hide fun W hr => utText_ok ps _ htx A l c W hr hlm
      have P2 := hide fun W hr => rText_ok ps hp A l c W hr hs
      have P3 := hide fun W => utPoints_ok _ _ hU (str (encsI ps)) (str_data _) W
      rw [hq2, hq3, hps] at P3
      clear htx hp hlm hps hU hq1 hq2 hq3 hel
      generalize encsI ps = xs at *
      go_enter Try.func4, Try.ntmps4
      go_wp2_with fail
      refine (P1.out w H.out).mono ?_
      rintro e w1 ⟨rfl, b1⟩
      have B1 := hide b1
      clear b1
      go_wp2_with fail
      refine (P2.out w1 (H.out.keep B1.out)).mono ?_
      rintro e w2 ⟨rfl, b2⟩
      have B2 := hide (below_on B1.out b2)
      clear b2
      go_wp2_with fail
      refine (P3.out w2).mono ?_
      rintro e w3 ⟨C, d, rfl, _, r3, b3⟩
      have B3 := hide (below_on B2.out b3)
      have R3 := hide r3
      clear b3 r3
      go_wp2_with fail
      refine (awake_any w3).mono ?_
      rintro e w4 ⟨rfl, b4⟩
      have B4 := hide (below_on B3.out b4)
      have R4 := hide (R3.out.keep b4)
      clear b4
      go_wp2_with fail
      refine (ints_any C A l l d c _ _ w4 R4.out (H.out.keep B4.out) (by omega) (by omega)).mono ?_
      rintro e w5 ⟨rfl, q5, rfl⟩
      rw [decide_eq_true rfl]
      go_wp2_with fail
      go_ret
      exact ⟨rfl, below_drewN B4.out _⟩
  · have q0 : (1000 : Int) < (l : Int) := by omega
    clear h
    go_enter Try.func4, Try.ntmps4
    go_wp2
    go_ret
    exact ⟨rfl, Below.refl _ _⟩

end Go.Proofs.Ytojkjcfhfcnehaa
