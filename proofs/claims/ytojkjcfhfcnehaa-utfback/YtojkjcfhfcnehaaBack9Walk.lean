/-
  What is proved here: the law UtfBack returns true for any two texts, and writes nothing that was there. No condition.
-/
import Derived.Test.YtojkjcfhfcnehaaAwake9
import Derived.Test.YtojkjcfhfcnehaaRef9
namespace Go.Proofs.Ytojkjcfhfcnehaa
set_option linter.unusedVariables false
set_option linter.unusedSimpArgs false
open Go.RowKit

set_option maxHeartbeats 4000000 in
set_option maxRecDepth 100000 in
theorem back9_walk (s t : ByteArray) (w : World) : Calls Try.prog 5 #[.string s, .string t] w fun e w' => e = .returned (.bool true) ∧ Below w.heap.size w w' := by
  obtain ⟨xs, rfl⟩ : ∃ xs, s = str xs := ⟨_, (str_of s).symm⟩
  obtain ⟨ys, rfl⟩ : ∃ ys, t = str ys := ⟨_, (str_of t).symm⟩
  obtain ⟨n, hn⟩ : ∃ n, xs.length = n := ⟨_, rfl⟩
  obtain ⟨m, hm⟩ : ∃ m, ys.length = m := ⟨_, rfl⟩
  have d1 := str_data xs
  have d2 := str_data ys
  have Hn := hide hn
  have Hm := hide hm
  by_cases hs : (3000 : Int) < (n : Int)
  · clear d1 d2
    go_enter Try.func5, Try.ntmps5
    go_wp2
    go_ret
    exact ⟨rfl, Below.refl _ _⟩
  by_cases ht : (3000 : Int) < (m : Int)
  · clear d1 d2
    go_enter Try.func5, Try.ntmps5
    go_wp2
    go_ret
    exact ⟨rfl, Below.refl _ _⟩
  cases hU : ptsU xs with
  | none =>
    have P1 := hide fun W => utPoints_no xs hU (str xs) d1 W
    have P3 := hide fun W => utIs_of false xs (by rw [hU]; rfl) (str xs) d1 W
    have P2 := hide fun W => utPoints_any (str ys) W
    clear hU d1 d2
    go_enter Try.func5, Try.ntmps5
    go_wp2_with fail
    refine (P1.out w).mono ?_
    rintro e w1 ⟨rfl, b1⟩
    have B1 := hide b1
    clear b1
    go_wp2_with fail
    refine (P2.out w1).mono ?_
    rintro e w2 (⟨_, rfl, b2⟩ | ⟨qs, C, c2, _, rfl, _, _, b2⟩)
    all_goals have B2 := hide (below_on B1.out b2)
    all_goals clear b2
    · skip
      go_wp2_with fail
      refine (awake_any w2).mono ?_
      rintro e w3 ⟨rfl, b3⟩
      have B3 := hide (below_on B2.out b3)
      clear b3
      go_wp2_with fail
      refine (P3.out w3).mono ?_
      rintro e w4 ⟨rfl, b4⟩
      have B4 := hide (below_on B3.out b4)
      clear b4
      go_wp2_with fail
      go_ret
      exact ⟨rfl, B4.out⟩
    · skip
      go_wp2_with fail
      refine (awake_any w2).mono ?_
      rintro e w3 ⟨rfl, b3⟩
      have B3 := hide (below_on B2.out b3)
      clear b3
      go_wp2_with fail
      refine (P3.out w3).mono ?_
      rintro e w4 ⟨rfl, b4⟩
      have B4 := hide (below_on B3.out b4)
      clear b4
      go_wp2_with fail
      go_ret
      exact ⟨rfl, B4.out⟩
  | some ps =>
    have P1 := hide fun W => utPoints_ok xs ps hU (str xs) d1 W
    have P3 := hide fun W => utIs_of true xs (by rw [hU]; rfl) (str xs) d1 W
    cases hV : ptsU ys with
    | none =>
      have P2 := hide fun W => utPoints_no ys hV (str ys) d2 W
      have P4 := hide fun W => utIs_of false ys (by rw [hV]; rfl) (str ys) d2 W
      clear hU hV d1 d2
      go_enter Try.func5, Try.ntmps5
      go_wp2_with fail
      refine (P1.out w).mono ?_
      rintro e w1 ⟨A, c, rfl, _, _, b1⟩
      have B1 := hide b1
      clear b1
      go_wp2_with fail
      refine (P2.out w1).mono ?_
      rintro e w2 ⟨rfl, b2⟩
      have B2 := hide (below_on B1.out b2)
      clear b2
      go_wp2_with fail
      refine (awake_any w2).mono ?_
      rintro e w3 ⟨rfl, b3⟩
      have B3 := hide (below_on B2.out b3)
      clear b3
      go_wp2_with fail
      refine (P3.out w3).mono ?_
      rintro e w4 ⟨rfl, b4⟩
      have B4 := hide (below_on B3.out b4)
      clear b4
      go_wp2_with fail
      refine (P4.out w4).mono ?_
      rintro e w5 ⟨rfl, b5⟩
      have B5 := hide (below_on B4.out b5)
      clear b5
      go_wp2_with fail
      go_ret
      exact ⟨rfl, B5.out⟩
    | some qs =>
      have hU1 : ptsL xs = some ps := by rw [← ptsU_small xs (by omega)]; exact hU
      have hV1 : ptsL ys = some qs := by rw [← ptsU_small ys (by omega)]; exact hV
      obtain ⟨t1, t2⟩ := txt_of_pts hU1
      have hkn := ptsL_len hU1
      have hjm := ptsL_len hV1
      have htx : txtU (nts ps) = some xs := by rw [txtU_small _ (by rw [nts_length]; omega), if_pos t1, t2]
      have hboth : ptsU (xs ++ ys) = some (ps ++ qs) := by
        rw [ptsU_small _ (by rw [List.length_append]; omega)]
        obtain ⟨u1, u2⟩ := (ptsL_iff _ _).1 hU1
        rw [u2, ptsL_encs ps u1, hV1]
        rfl
      have Hcut := hide fun us h h0 => ptsL_cut (qs := us) hU1 h h0
      have hcs := ptsU_small (xs.take (xs.length - 1)) (by rw [List.length_take]; omega)
      have Hemp := hide (show xs = [] → ps.length = 0 from fun e => by rw [e] at hkn; simpa using hkn)
      have Hpos := hide (show xs ≠ [] → 0 < ps.length from fun hne => by
        rcases Nat.eq_zero_or_pos ps.length with e | e
        · exact absurd (by rw [((ptsL_iff _ _).1 hU1).2, List.eq_nil_of_length_eq_zero e]; rfl) hne
        · exact e)
      obtain ⟨k, hk⟩ : ∃ k, ps.length = k := ⟨_, rfl⟩
      obtain ⟨j, hj⟩ : ∃ j, qs.length = j := ⟨_, rfl⟩
      have P2 := hide fun W => utPoints_ok ys qs hV (str ys) d2 W
      have P4 := hide fun W A l c hr hl => utText_ok (nts ps) xs htx A l c W hr hl
      have P5 := hide fun W => utPoints_ok (xs ++ ys) (ps ++ qs) hboth (str (xs ++ ys)) (str_data _) W
      have hjn := str_join xs ys
      have hsl := str_take xs (n - 1)
      have P6 := hide fun W => utPoints_any (str (xs.take (n - 1))) W
      rw [str_data] at P6
      rw [hn] at hkn hcs Hcut
      rw [hm] at hjm
      rw [hk] at hkn P1 Hcut Hemp Hpos
      rw [hj] at hjm P2
      rw [List.length_append, hk, hj, nts_append] at P5
      have Hcs := hide hcs
      clear hU hV d1 d2 hU1 hV1 t1 t2 htx hboth hk hj hcs
      generalize xs.take (n - 1) = cs at *
      have hnil : ∀ W : World, W.ownsRow W.heap.size 3 1 (.slice none 0 0) 0 [] := fun W => World.ownsRow_nil _ _ _ _
      go_enter Try.func5, Try.ntmps5
      go_wp2_with fail
      refine (P1.out w).mono ?_
      rintro e w1 ⟨A, c, rfl, hkc, r1, b1⟩
      have B1 := hide b1
      have R1 := hide r1
      clear b1 r1
      go_wp2_with fail
      refine (P2.out w1).mono ?_
      rintro e w2 ⟨C, d, rfl, _, r2, b2⟩
      have B2 := hide (below_on B1.out b2)
      have R12 := hide (R1.out.keep b2)
      have R2 := hide r2
      clear b2 r2
      go_wp2_with fail
      refine (P4.out w2 A k c R12.out (by unfold maxLen; omega)).mono ?_
      rintro e w3 ⟨rfl, b3⟩
      have B3 := hide (below_on B2.out b3)
      have R13 := hide (R12.out.keep b3)
      have R23 := hide (R2.out.keep b3)
      clear b3
      go_wp2_with fail
      refine (P5.out w3).mono ?_
      rintro e w4 ⟨E, f, rfl, _, r4, b4⟩
      have B4 := hide (below_on B3.out b4)
      have R14 := hide (R13.out.keep b4)
      have R24 := hide (R23.out.keep b4)
      have R4 := hide r4
      clear b4 r4
      go_wp2_with (first
        | (at_builtin; refine wpList_app rfl (.tmp 62) (.tmp 63) 22 rfl 3 _ _ Try.underlying22 int_info rfl w4.heap.size none 0 0 [] rfl (hnil w4) A k c (iv (nts ps)) rfl R14.out (iv_one _) (by unfold maxLen; omega) (by omega) (Nat.le_refl _) ?_; intro A1 c1 w5 o1 g1 b5; rw [Nat.zero_add, List.nil_append] at o1)
        | (at_builtin; refine wpList_app rfl (.tmp 65) (.tmp 66) 22 rfl 3 _ _ Try.underlying22 int_info rfl w4.heap.size A1 k c1 (iv (nts ps)) rfl o1 C j d (iv (nts qs)) rfl (R24.out.keep b5) (iv_one _) (by unfold maxLen; omega) (by omega) b5.size ?_; intro A2 c2 w6 o2 g2 b6))
      have B46 : Below w4.heap.size w4 w6 := b5.trans b6
      have r46 := own_rd o2
      rw [← iv_append] at r46
      refine (ints_any E A2 (k + j) (k + j) f c2 _ _ w6 (R4.out.keep B46) r46 (by omega) (by omega)).mono ?_
      rintro e w7 ⟨rfl, q7, rfl⟩
      rw [decide_eq_true rfl]
      have B7 := hide (below_drewN (below_on B4.out B46) q7)
      have R7 := hide ((R14.out.keep B46).drewN q7)
      clear B46 r46 o1 o2 g1 g2 b5 b6 hnil
      generalize w6.drewN q7 = w8 at *
      by_cases h0 : n = 0
      · have hk0 : k = 0 := Hemp.out (List.eq_nil_of_length_eq_zero (by rw [Hn.out]; exact h0))
        have q3 : ((n : Int) == 0) = true := by simp; omega
        have q4 : ((k : Int) == 0) = true := by simp; omega
        clear hsl hjn
        go_wp2_with fail
        refine (awake_any w8).mono ?_
        rintro e w9 ⟨rfl, b9⟩
        have B9 := hide (below_on B7.out b9)
        clear b9
        go_wp2_with fail
        go_ret
        exact ⟨rfl, B9.out⟩
      · have q3 : ((n : Int) == 0) = false := by simp; omega
        have hne : xs ≠ [] := by intro e; have := Hn.out; rw [e] at this; simp at this; omega
        obtain ⟨N, rfl⟩ : ∃ N, n = N + 1 := ⟨n - 1, by omega⟩
        rw [Nat.add_sub_cancel] at hsl
        have hk0 := Hpos.out hne
        have q4 : (0 : Int) < (k : Int) := by omega
        have Hne := hide hne
        clear hne h0 hjn
        go_wp2_with fail
        refine (P6.out w8).mono ?_
        rintro e w9 (⟨_, rfl, b9⟩ | ⟨us, F, c9, hus, rfl, hc9, r9, b9⟩)
        · have B9 := hide (below_on B7.out b9)
          clear b9
          go_wp2_with fail
          refine (awake_any w9).mono ?_
          rintro e w10 ⟨rfl, b10⟩
          have B10 := hide (below_on B9.out b10)
          clear b10
          go_wp2_with fail
          go_ret
          exact ⟨rfl, B10.out⟩
        · have B9 := hide (below_on B7.out b9)
          have R79 := hide (R7.out.keep b9)
          have R9 := hide r9
          clear b9 r9
          rw [Hcs.out] at hus
          obtain ⟨hu1, hu2⟩ := Hcut.out us hus Hne.out
          obtain ⟨K, rfl⟩ : ∃ K, k = K + 1 := ⟨k - 1, by omega⟩
          rw [Nat.add_sub_cancel] at hu1
          have hul : us.length = K := by rw [hu1, List.length_take]; have := R7.out.1; rw [iv_length, nts_length] at this; omega
          rw [hul]
          rw [hul] at R9 hc9
          have hnu : nts us = (nts ps).take K := by rw [hu1]; simp [nts, List.map_take]
          have Hnu := hide hnu
          have hsA := fun W => run_slTo (P := Try.prog) 22 3 Try.underlying22 int_size A (K + 1) c (K : Int) K rfl (by omega) W
          clear hus hu1 hul hnu
          go_wp2_with fail
          refine (awake_any w9).mono ?_
          rintro e w10 ⟨rfl, b10⟩
          have B10 := hide (below_on B9.out b10)
          have R10 := hide (R9.out.keep b10)
          have R710 := hide (R79.out.keep b10)
          clear b10
          go_wp2_with fail
          have rA := R710.out.cut 0 K c (by omega) hkc
          rw [cutA_zero, List.drop_zero] at rA
          have eI : (iv (nts ps)).take K = iv ((nts ps).take K) := by simp [iv, List.map_take]
          rw [eI] at rA
          refine (ints_any F A K K c9 c _ _ w10 R10.out rA (by omega) (by omega)).mono ?_
          rintro e w11 ⟨rfl, q11, rfl⟩
          rw [decide_eq_true Hnu.out]
          go_wp2_with fail
          go_ret
          exact ⟨rfl, below_drewN B10.out _⟩

end Go.Proofs.Ytojkjcfhfcnehaa
