/-
  What is proved here: the law PduBack returns true for every request and every answer, and turns nothing that was there.
-/
import Derived.Test.YtemlfhoejelgbaaAwake3
namespace Go.Proofs.Ytemlfhoejelgbaa
set_option linter.unusedVariables false
set_option linter.unusedSimpArgs false
open Go.RowKit

set_option maxHeartbeats 1000000 in
theorem back3_walk (f a c t an o code : Int) (A B : Option Addr) (n k m d : Nat) (vs us : List Int) (w : World) (h : Rd w A n (iv vs)) (h2 : Rd w B m (iv us)) :
    Calls Try.prog 7 #[.agg #[.int .i64 f, .int .i64 a, .int .i64 c, .slice A n k, .int .i64 t, .int .i64 an, .int .i64 o], .agg #[.slice B m d, .int .i64 code]] w fun e w' => e = .returned (.bool true) ∧ Below w.heap.size w w' := by
  have HS := hide (fun W => small3_any f a c t an o A n k W)
  have H0 := hide h
  have H2 := hide h2
  clear h h2
  by_cases hn : n ≤ 2100
  · rw [show decide (n ≤ 2100) = true from by simpa using hn] at HS
    by_cases hm : m ≤ 2100
    · have qm : decide (2100 < (m : Int)) = false := by simp; omega
      cases hM : mayB f a c vs t an o
      · have HB := hide (fun W (b : Below w.heap.size w W) => pbytes_no f a c t an o A n k vs W (H0.out.keep b) (by omega) hM)
        have HC := hide (fun W (b : Below w.heap.size w W) => check_any f a c t an o A n k vs W (H0.out.keep b) (by omega))
        rw [hM] at HC
        clear hM hn hm
        go_enter Try.func7, Try.ntmps7
        go_wp2_with fail
        generalize hW : (w.alloc (.cells #[.int .i64 f, .int .i64 a, .int .i64 c, .slice A n k, .int .i64 t, .int .i64 an, .int .i64 o] 24)).alloc (.cells #[.slice B m d, .int .i64 code] 40) = W
        obtain ⟨hB1, hB2, hBel, _⟩ := two_boxes w [.int .i64 f, .int .i64 a, .int .i64 c, .slice A n k, .int .i64 t, .int .i64 an, .int .i64 o] [.slice B m d, .int .i64 code] 24 40 W hW.symm
        clear hW
        refine (HS.out _).mono ?_
        rintro e w1 ⟨rfl, b1⟩
        have K := hide (hB1.keep b1)
        have J := hide (hB2.keep b1)
        have L := hide (below_on hBel b1)
        clear hB1 hB2 hBel b1
        obtain ⟨k0, k1, k2, k3, k4, k5, k6⟩ := K.out.seven
        obtain ⟨j0, j1⟩ := J.out.two
        go_wp2_with fail
        refine (HB.out _ L.out).mono ?_
        rintro e w2 ⟨C, kC, rfl, _, _, b2⟩
        have K' := hide (K.out.keep b2)
        have J' := hide (J.out.keep b2)
        have L' := hide (below_on L.out b2)
        clear k0 k1 k2 k3 k4 k5 k6 j0 j1 b2
        clear K J L
        have K := K'
        have J := J'
        have L := L'
        clear K' J' L'
        obtain ⟨k0, k1, k2, k3, k4, k5, k6⟩ := K.out.seven
        obtain ⟨j0, j1⟩ := J.out.two
        go_wp2_with fail
        refine (awake3_any _).mono ?_
        rintro e w3 ⟨rfl, b3⟩
        have K' := hide (K.out.keep b3)
        have J' := hide (J.out.keep b3)
        have L' := hide (below_on L.out b3)
        clear k0 k1 k2 k3 k4 k5 k6 j0 j1 b3
        clear K J L
        have K := K'
        have J := J'
        have L := L'
        clear K' J' L'
        obtain ⟨k0, k1, k2, k3, k4, k5, k6⟩ := K.out.seven
        obtain ⟨j0, j1⟩ := J.out.two
        go_wp2_with fail
        refine (HC.out _ L.out).mono ?_
        rintro e w4 ⟨rfl, b4⟩
        have K' := hide (K.out.keep b4)
        have J' := hide (J.out.keep b4)
        have L' := hide (below_on L.out b4)
        clear k0 k1 k2 k3 k4 k5 k6 j0 j1 b4
        clear K J L
        have K := K'
        have J := J'
        have L := L'
        clear K' J' L'
        obtain ⟨k0, k1, k2, k3, k4, k5, k6⟩ := K.out.seven
        obtain ⟨j0, j1⟩ := J.out.two
        go_wp2
        go_ret
        exact ⟨rfl, L.out⟩
      · have HB := hide (fun W (b : Below w.heap.size w W) => pbytes_ok f a c t an o A n k vs W (H0.out.keep b) (by omega) hM)
        have HP := hide (fun C kC W hr hk => parse_any C (layL f a c vs t an o).length kC (layL f a c vs t an o) W hr hk)
        rw [show parseL (layL f a c vs t an o) = some ⟨f, a, c, vs, t, an, o⟩ from parse_lay ⟨f, a, c, vs, t, an, o⟩ hM] at HP
        have HE := hide (fun D mD kD W hr (b : Below w.heap.size w W) hh => same_yes f a c t an o D A mD n kD k vs W hr (H0.out.keep b) hh)
        have HAn := hide (fun hx W (b : Below w.heap.size w W) => pansB_no f a c t an o code A B n k m d vs us W (H0.out.keep b) (H2.out.keep b) (by omega) (by omega) (Or.inr hx))
        have HAy := hide (fun hx W (b : Below w.heap.size w W) => pansB_ok f a c t an o code A B n k m d vs us W (H0.out.keep b) (H2.out.keep b) (by omega) (by omega) hM hx)
        have HQ := hide (fun E nE kE xs W (b : Below w.heap.size w W) hr hk => pansP_any f a c t an o A E n k nE kE vs xs W (H0.out.keep b) (by omega) hr hk hM)
        have HX := hide (fun (hx : ansMayB f c code us = true) => show ansParseL ⟨f, a, c, vs, t, an, o⟩ (ansL f a c vs t an o code us) = some ⟨us, code⟩ from ansParse_lay ⟨f, a, c, vs, t, an, o⟩ hM ⟨us, code⟩ hx)
        have HZ := hide (fun D mD kD W hr (b : Below w.heap.size w W) hh => ansSame_yes code D B mD m kD d us W hr (H2.out.keep b) hh)
        have HN : Hid (vs.length = n) := by show _ = _; rw [← iv_length]; exact H0.out.1
        have HU : Hid (us.length = m) := by show _ = _; rw [← iv_length]; exact H2.out.1
        clear hM
        generalize layL f a c vs t an o = X at *
        generalize X.length = nX at *
        go_enter Try.func7, Try.ntmps7
        go_wp2_with fail
        generalize hW : (w.alloc (.cells #[.int .i64 f, .int .i64 a, .int .i64 c, .slice A n k, .int .i64 t, .int .i64 an, .int .i64 o] 24)).alloc (.cells #[.slice B m d, .int .i64 code] 40) = W
        obtain ⟨hB1, hB2, hBel, _⟩ := two_boxes w [.int .i64 f, .int .i64 a, .int .i64 c, .slice A n k, .int .i64 t, .int .i64 an, .int .i64 o] [.slice B m d, .int .i64 code] 24 40 W hW.symm
        clear hW
        refine (HS.out _).mono ?_
        rintro e w1 ⟨rfl, b1⟩
        have K := hide (hB1.keep b1)
        have J := hide (hB2.keep b1)
        have L := hide (below_on hBel b1)
        clear hB1 hB2 hBel b1
        obtain ⟨k0, k1, k2, k3, k4, k5, k6⟩ := K.out.seven
        obtain ⟨j0, j1⟩ := J.out.two
        go_wp2_with fail
        refine (HB.out _ L.out).mono ?_
        rintro e w2 ⟨C, kC, rfl, lC, rC, b2⟩
        have RC := hide rC
        clear rC
        have K' := hide (K.out.keep b2)
        have J' := hide (J.out.keep b2)
        have L' := hide (below_on L.out b2)
        clear k0 k1 k2 k3 k4 k5 k6 j0 j1 b2
        clear K J L
        have K := K'
        have J := J'
        have L := L'
        clear K' J' L'
        obtain ⟨k0, k1, k2, k3, k4, k5, k6⟩ := K.out.seven
        obtain ⟨j0, j1⟩ := J.out.two
        go_wp2_with fail
        refine (HP.out C kC _ RC.out lC).mono ?_
        rintro e w3 ⟨D, mD, kD, rfl, lD, rD, b3⟩
        have RD : Hid (Rd w3 D mD (iv vs)) := rD
        have hmD : mD ≤ 1000000 := by have := HN.out; have h1 : (iv vs).length = mD := rD.1; rw [iv_length] at h1; omega
        clear rD RC
        have K' := hide (K.out.keep b3)
        have J' := hide (J.out.keep b3)
        have L' := hide (below_on L.out b3)
        clear k0 k1 k2 k3 k4 k5 k6 j0 j1 b3
        clear K J L
        have K := K'
        have J := J'
        have L := L'
        clear K' J' L'
        obtain ⟨k0, k1, k2, k3, k4, k5, k6⟩ := K.out.seven
        obtain ⟨j0, j1⟩ := J.out.two
        have hw3a := K.out.lt
        have hw3b := J.out.lt
        go_wp2_with fail
        have b4 : Below w3.heap.size w3 (w3.alloc (.cells #[.int .i64 f, .int .i64 a, .int .i64 c, .slice D mD kD, .int .i64 t, .int .i64 an, .int .i64 o] 24)) := (Below.refl _ _).alloc (Nat.le_refl _) _
        refine (HE.out D mD kD _ (RD.out.keep b4) (below_on L.out b4) hmD).mono ?_
        rintro e w5 ⟨rfl, b5⟩
        have b6 := below_on b4 b5
        clear b4 b5 RD hw3a hw3b
        have K' := hide (K.out.keep b6)
        have J' := hide (J.out.keep b6)
        have L' := hide (below_on L.out b6)
        clear k0 k1 k2 k3 k4 k5 k6 j0 j1 b6
        clear K J L
        have K := K'
        have J := J'
        have L := L'
        clear K' J' L'
        obtain ⟨k0, k1, k2, k3, k4, k5, k6⟩ := K.out.seven
        obtain ⟨j0, j1⟩ := J.out.two
        cases hx : ansMayB f c code us
        · have HB2 := hide (HAn.out hx)
          clear hx HAn HAy HX
          go_wp2_with fail
          refine (HB2.out _ L.out).mono ?_
          rintro e w7 ⟨E, kE, rfl, _, _, b7⟩
          have K' := hide (K.out.keep b7)
          have J' := hide (J.out.keep b7)
          have L' := hide (below_on L.out b7)
          clear k0 k1 k2 k3 k4 k5 k6 j0 j1 b7
          clear K J L
          have K := K'
          have J := J'
          have L := L'
          clear K' J' L'
          obtain ⟨k0, k1, k2, k3, k4, k5, k6⟩ := K.out.seven
          obtain ⟨j0, j1⟩ := J.out.two
          go_wp2_with fail
          refine (awake3_any _).mono ?_
          rintro e w8 ⟨rfl, b8⟩
          have K' := hide (K.out.keep b8)
          have J' := hide (J.out.keep b8)
          have L' := hide (below_on L.out b8)
          clear k0 k1 k2 k3 k4 k5 k6 j0 j1 b8
          clear K J L
          have K := K'
          have J := J'
          have L := L'
          clear K' J' L'
          obtain ⟨k0, k1, k2, k3, k4, k5, k6⟩ := K.out.seven
          obtain ⟨j0, j1⟩ := J.out.two
          go_wp2
          go_ret
          exact ⟨rfl, L.out⟩
        · have HB2 := hide (HAy.out hx)
          have HX2 := hide (HX.out hx)
          clear hx HAn HAy HX
          have HQ2 := hide (fun E kE => HQ.out E (ansL f a c vs t an o code us).length kE (ansL f a c vs t an o code us))
          rw [HX2.out] at HQ2
          clear HX2 HQ
          generalize ansL f a c vs t an o code us = Y at *
          generalize Y.length = nY at *
          go_wp2_with fail
          refine (HB2.out _ L.out).mono ?_
          rintro e w7 ⟨E, kE, rfl, lE, rE, b7⟩
          have RE := hide rE
          clear rE
          have K' := hide (K.out.keep b7)
          have J' := hide (J.out.keep b7)
          have L' := hide (below_on L.out b7)
          clear k0 k1 k2 k3 k4 k5 k6 j0 j1 b7
          clear K J L
          have K := K'
          have J := J'
          have L := L'
          clear K' J' L'
          obtain ⟨k0, k1, k2, k3, k4, k5, k6⟩ := K.out.seven
          obtain ⟨j0, j1⟩ := J.out.two
          go_wp2_with fail
          refine (HQ2.out E kE _ L.out RE.out lE).mono ?_
          rintro e w8 ⟨F, mF, kF, rfl, lF, rF, b8⟩
          have RF : Hid (Rd w8 F mF (iv us)) := rF
          have hmF : mF ≤ 1000000 := by have := HU.out; have h1 : (iv us).length = mF := rF.1; rw [iv_length] at h1; omega
          clear rF RE
          have K' := hide (K.out.keep b8)
          have J' := hide (J.out.keep b8)
          have L' := hide (below_on L.out b8)
          clear k0 k1 k2 k3 k4 k5 k6 j0 j1 b8
          clear K J L
          have K := K'
          have J := J'
          have L := L'
          clear K' J' L'
          obtain ⟨k0, k1, k2, k3, k4, k5, k6⟩ := K.out.seven
          obtain ⟨j0, j1⟩ := J.out.two
          go_wp2_with fail
          refine (awake3_any _).mono ?_
          rintro e w9 ⟨rfl, b9⟩
          have b4 : Below w8.heap.size w8 (w8.alloc (.cells #[.slice F mF kF, .int .i64 code] 40)) := (Below.refl _ _).alloc (Nat.le_refl _) _
          obtain ⟨i0, i1⟩ := ((Blk.new w8 40 [.slice F mF kF, .int .i64 code]).keep b9).two
          have b10 := below_on b4 b9
          have RF2 := hide (RF.out.keep b10)
          clear b4 b9 RF
          have K' := hide (K.out.keep b10)
          have J' := hide (J.out.keep b10)
          have L' := hide (below_on L.out b10)
          clear k0 k1 k2 k3 k4 k5 k6 j0 j1 b10
          clear K J L
          have K := K'
          have J := J'
          have L := L'
          clear K' J' L'
          obtain ⟨k0, k1, k2, k3, k4, k5, k6⟩ := K.out.seven
          obtain ⟨j0, j1⟩ := J.out.two
          go_wp2_with fail
          refine (HZ.out F mF kF _ RF2.out L.out hmF).mono ?_
          rintro e w11 ⟨rfl, b11⟩
          have K' := hide (K.out.keep b11)
          have J' := hide (J.out.keep b11)
          have L' := hide (below_on L.out b11)
          clear k0 k1 k2 k3 k4 k5 k6 j0 j1 b11
          clear K J L
          have K := K'
          have J := J'
          have L := L'
          clear K' J' L'
          obtain ⟨k0, k1, k2, k3, k4, k5, k6⟩ := K.out.seven
          obtain ⟨j0, j1⟩ := J.out.two
          go_wp2
          go_ret
          exact ⟨rfl, L.out⟩
    · have qm : decide (2100 < (m : Int)) = true := by simp; omega
      go_enter Try.func7, Try.ntmps7
      go_wp2_with fail
      generalize hW : (w.alloc (.cells #[.int .i64 f, .int .i64 a, .int .i64 c, .slice A n k, .int .i64 t, .int .i64 an, .int .i64 o] 24)).alloc (.cells #[.slice B m d, .int .i64 code] 40) = W
      obtain ⟨hB1, hB2, hBel, _⟩ := two_boxes w [.int .i64 f, .int .i64 a, .int .i64 c, .slice A n k, .int .i64 t, .int .i64 an, .int .i64 o] [.slice B m d, .int .i64 code] 24 40 W hW.symm
      clear hW
      refine (HS.out _).mono ?_
      rintro e w1 ⟨rfl, b1⟩
      have K := hide (hB1.keep b1)
      have J := hide (hB2.keep b1)
      have L := hide (below_on hBel b1)
      clear hB1 hB2 hBel b1
      obtain ⟨k0, k1, k2, k3, k4, k5, k6⟩ := K.out.seven
      obtain ⟨j0, j1⟩ := J.out.two
      go_wp2
      go_ret
      exact ⟨rfl, L.out⟩
  · rw [show decide (n ≤ 2100) = false from by simpa using hn] at HS
    go_enter Try.func7, Try.ntmps7
    go_wp2_with fail
    generalize hW : (w.alloc (.cells #[.int .i64 f, .int .i64 a, .int .i64 c, .slice A n k, .int .i64 t, .int .i64 an, .int .i64 o] 24)).alloc (.cells #[.slice B m d, .int .i64 code] 40) = W
    obtain ⟨hB1, hB2, hBel, _⟩ := two_boxes w [.int .i64 f, .int .i64 a, .int .i64 c, .slice A n k, .int .i64 t, .int .i64 an, .int .i64 o] [.slice B m d, .int .i64 code] 24 40 W hW.symm
    clear hW
    refine (HS.out _).mono ?_
    rintro e w1 ⟨rfl, b1⟩
    have K := hide (hB1.keep b1)
    have J := hide (hB2.keep b1)
    have L := hide (below_on hBel b1)
    clear hB1 hB2 hBel b1
    obtain ⟨k0, k1, k2, k3, k4, k5, k6⟩ := K.out.seven
    obtain ⟨j0, j1⟩ := J.out.two
    go_wp2
    go_ret
    exact ⟨rfl, L.out⟩

end Go.Proofs.Ytemlfhoejelgbaa
