/-
  What is proved here: the law CrcHolds returns true for every two slices of bytes, and writes nothing that was there. No condition.
-/
import Derived.Test.YtpolcahpbajiaaaAwake2
import Derived.Test.YtpolcahpbajiaaaRef2
namespace Go.Proofs.Ytpolcahpbajiaaa
set_option linter.unusedVariables false
set_option linter.unusedSimpArgs false
open Go.RowKit


set_option maxHeartbeats 2000000 in
set_option maxRecDepth 100000 in
theorem holds2_walk (A : Option Addr) (l c : Nat) (xs : List UInt8) (B : Option Addr) (m d : Nat) (ys : List UInt8) (w : World) (h : Rd w A l (bv xs)) (g : Rd w B m (bv ys)) (hd : m ≤ d) :
    Calls Try.prog 5 #[.slice A l c, .slice B m d] w fun e w' => e = .returned (.bool true) ∧ Below w.heap.size w w' := by
  have hx : xs.length = l := by rw [← bv_length]; exact h.1
  have hy : ys.length = m := by rw [← bv_length]; exact g.1
  have Hh := hide h
  have Hg := hide g
  have Hlx := hide (show (bv xs).length = l by rw [bv_length]; exact hx)
  have Hlen := hide (show (bv (xs ++ tailL (sumN xs))).length = l + 2 by rw [bv_length, List.length_append, hx]; rfl)
  have Htk := hide (show (xs ++ tailL (sumN xs)).take l = xs by rw [← hx, List.take_left])
  have Gs := hide (good_sum ys)
  clear h g hx
  by_cases hs : l ≤ 600
  · have hsm : decide (l ≤ 600) = true := by simpa using hs
    by_cases hs2 : m ≤ 600
    · have hsm2 : decide (m ≤ 600) = true := by simpa using hs2
      by_cases h2 : m < 2
      · have q : decide ((m : Int) < 2) = true := by simp; omega
        have HG : Hid (goodB ys = goodB ys) := rfl
        clear Gs hy
        go_enter Try.func5, Try.ntmps5
        go_wp2_with fail
        refine (small2_any A l c w).mono ?_
        rintro e w' ⟨rfl, rfl⟩
        rw [hsm]
        go_wp2_with fail
        refine (small2_any B m d w).mono ?_
        rintro e w' ⟨rfl, rfl⟩
        rw [hsm2]
        go_wp2_with fail
        refine (add_any A l c (l + 2) rfl xs w Hh.out (by omega)).mono ?_
        rintro e w1 ⟨rfl, k1, b1⟩
        have Hb1 := hide b1
        have Hr1 := hide (k1.reads (Below.refl _ _) (l + 2) Hlen.out)
        clear k1 b1
        go_wp2_with fail
        refine (whole_ok (some ⟨w.heap.size, 0, none⟩) l (l + 2) (xs ++ tailL (sumN xs)) w1 Hr1.out (Nat.le_refl _) (by omega) (good_tail xs)).mono ?_
        rintro e w2 ⟨rfl, k2, b2⟩
        rw [Htk.out] at k2
        have Hb2 := hide b2
        have Hr2 := hide (k2.reads (Below.refl _ _) l Hlx.out)
        clear k2 b2
        go_wp2_with fail
        refine (awake2_any _).mono ?_
        rintro e w3 ⟨rfl, b3⟩
        have Hr3 := hide ((Hr1.out.keep Hb2.out).keep b3)
        have Hs3 := hide (below_on (below_on Hb1.out Hb2.out) b3)
        have hcw := rdStr (Hr2.out.keep b3)
        have hcb := rdStr (Hh.out.keep Hs3.out)
        clear b3
        go_wp2_with fail
        refine (good_any (some ⟨w.heap.size, 0, none⟩) (l + 2) (l + 2) (xs ++ tailL (sumN xs)) _ Hr3.out (Nat.le_refl _) (by omega)).mono ?_
        rintro e w' ⟨rfl, rfl⟩
        rw [good_tail]
        go_wp2_with fail
        refine (sum_any (some ⟨w.heap.size, 0, none⟩) (l + 2) (l + 2) (xs ++ tailL (sumN xs)) _ Hr3.out (by omega)).mono ?_
        rintro e w' ⟨rfl, rfl⟩
        rw [sum_tail]
        go_wp2_with fail
        go_ret
        exact ⟨rfl, Hs3.out⟩
      · have q : decide ((m : Int) < 2) = false := by simp; omega
        have HG := hide (Gs.out (by omega))
        by_cases h0 : sumN ys = 0
        · have q0 : decide (sumN ys = 0) = true := by simpa using h0
          clear Gs hy
          rw [q0] at HG
          have q1 : (((sumN ys : Nat) : Int) == 0) = true := by rw [beq_iff_eq]; omega
          clear q0 h0
          go_enter Try.func5, Try.ntmps5
          go_wp2_with fail
          refine (small2_any A l c w).mono ?_
          rintro e w' ⟨rfl, rfl⟩
          rw [hsm]
          go_wp2_with fail
          refine (small2_any B m d w).mono ?_
          rintro e w' ⟨rfl, rfl⟩
          rw [hsm2]
          go_wp2_with fail
          refine (add_any A l c (l + 2) rfl xs w Hh.out (by omega)).mono ?_
          rintro e w1 ⟨rfl, k1, b1⟩
          have Hb1 := hide b1
          have Hr1 := hide (k1.reads (Below.refl _ _) (l + 2) Hlen.out)
          clear k1 b1
          go_wp2_with fail
          refine (whole_ok (some ⟨w.heap.size, 0, none⟩) l (l + 2) (xs ++ tailL (sumN xs)) w1 Hr1.out (Nat.le_refl _) (by omega) (good_tail xs)).mono ?_
          rintro e w2 ⟨rfl, k2, b2⟩
          rw [Htk.out] at k2
          have Hb2 := hide b2
          have Hr2 := hide (k2.reads (Below.refl _ _) l Hlx.out)
          clear k2 b2
          go_wp2_with fail
          refine (awake2_any _).mono ?_
          rintro e w3 ⟨rfl, b3⟩
          have Hr3 := hide ((Hr1.out.keep Hb2.out).keep b3)
          have Hs3 := hide (below_on (below_on Hb1.out Hb2.out) b3)
          have hcw := rdStr (Hr2.out.keep b3)
          have hcb := rdStr (Hh.out.keep Hs3.out)
          clear b3
          go_wp2_with fail
          refine (good_any (some ⟨w.heap.size, 0, none⟩) (l + 2) (l + 2) (xs ++ tailL (sumN xs)) _ Hr3.out (Nat.le_refl _) (by omega)).mono ?_
          rintro e w' ⟨rfl, rfl⟩
          rw [good_tail]
          go_wp2_with fail
          refine (sum_any (some ⟨w.heap.size, 0, none⟩) (l + 2) (l + 2) (xs ++ tailL (sumN xs)) _ Hr3.out (by omega)).mono ?_
          rintro e w' ⟨rfl, rfl⟩
          rw [sum_tail]
          go_wp2_with fail
          refine (good_any B m d ys _ (Hg.out.keep Hs3.out) hd (by omega)).mono ?_
          rintro e w' ⟨rfl, rfl⟩
          rw [HG.out]
          go_wp2_with fail
          refine (sum_any B m d ys _ (Hg.out.keep Hs3.out) (by omega)).mono ?_
          rintro e w' ⟨rfl, rfl⟩
          go_wp2_with fail
          go_ret
          exact ⟨rfl, Hs3.out⟩
        · have q0 : decide (sumN ys = 0) = false := by simpa using h0
          clear Gs hy
          rw [q0] at HG
          have q1 : (((sumN ys : Nat) : Int) == 0) = false := by rw [beq_eq_false_iff_ne]; omega
          clear q0 h0
          go_enter Try.func5, Try.ntmps5
          go_wp2_with fail
          refine (small2_any A l c w).mono ?_
          rintro e w' ⟨rfl, rfl⟩
          rw [hsm]
          go_wp2_with fail
          refine (small2_any B m d w).mono ?_
          rintro e w' ⟨rfl, rfl⟩
          rw [hsm2]
          go_wp2_with fail
          refine (add_any A l c (l + 2) rfl xs w Hh.out (by omega)).mono ?_
          rintro e w1 ⟨rfl, k1, b1⟩
          have Hb1 := hide b1
          have Hr1 := hide (k1.reads (Below.refl _ _) (l + 2) Hlen.out)
          clear k1 b1
          go_wp2_with fail
          refine (whole_ok (some ⟨w.heap.size, 0, none⟩) l (l + 2) (xs ++ tailL (sumN xs)) w1 Hr1.out (Nat.le_refl _) (by omega) (good_tail xs)).mono ?_
          rintro e w2 ⟨rfl, k2, b2⟩
          rw [Htk.out] at k2
          have Hb2 := hide b2
          have Hr2 := hide (k2.reads (Below.refl _ _) l Hlx.out)
          clear k2 b2
          go_wp2_with fail
          refine (awake2_any _).mono ?_
          rintro e w3 ⟨rfl, b3⟩
          have Hr3 := hide ((Hr1.out.keep Hb2.out).keep b3)
          have Hs3 := hide (below_on (below_on Hb1.out Hb2.out) b3)
          have hcw := rdStr (Hr2.out.keep b3)
          have hcb := rdStr (Hh.out.keep Hs3.out)
          clear b3
          go_wp2_with fail
          refine (good_any (some ⟨w.heap.size, 0, none⟩) (l + 2) (l + 2) (xs ++ tailL (sumN xs)) _ Hr3.out (Nat.le_refl _) (by omega)).mono ?_
          rintro e w' ⟨rfl, rfl⟩
          rw [good_tail]
          go_wp2_with fail
          refine (sum_any (some ⟨w.heap.size, 0, none⟩) (l + 2) (l + 2) (xs ++ tailL (sumN xs)) _ Hr3.out (by omega)).mono ?_
          rintro e w' ⟨rfl, rfl⟩
          rw [sum_tail]
          go_wp2_with fail
          refine (good_any B m d ys _ (Hg.out.keep Hs3.out) hd (by omega)).mono ?_
          rintro e w' ⟨rfl, rfl⟩
          rw [HG.out]
          go_wp2_with fail
          refine (sum_any B m d ys _ (Hg.out.keep Hs3.out) (by omega)).mono ?_
          rintro e w' ⟨rfl, rfl⟩
          go_wp2_with fail
          go_ret
          exact ⟨rfl, Hs3.out⟩
    · have hsm2 : decide (m ≤ 600) = false := by simpa using hs2
      go_enter Try.func5, Try.ntmps5
      go_wp2_with (first
        | (go_at_call 9; refine (small2_any A l c w).mono ?_; rintro e w' ⟨rfl, rfl⟩; rw [hsm])
        | (go_at_call 9; refine (small2_any B m d w).mono ?_; rintro e w' ⟨rfl, rfl⟩; rw [hsm2]))
      go_ret
      exact ⟨rfl, Below.refl _ _⟩
  · have hsm : decide (l ≤ 600) = false := by simpa using hs
    go_enter Try.func5, Try.ntmps5
    go_wp2_with (go_at_call 9; refine (small2_any A l c w).mono ?_; rintro e w' ⟨rfl, rfl⟩; rw [hsm])
    go_ret
    exact ⟨rfl, Below.refl _ _⟩

end Go.Proofs.Ytpolcahpbajiaaa
