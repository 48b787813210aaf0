/-
  What is proved here: the law PduAnswers returns true for every request and every answer, and turns nothing that was there.
-/
import Derived.Test.YtemlfhoejelgbaaAwake3
import Derived.Test.YtemlfhoejelgbaaRef3g
namespace Go.Proofs.Ytemlfhoejelgbaa
set_option linter.unusedVariables false
set_option linter.unusedSimpArgs false
open Go.RowKit


set_option maxHeartbeats 1000000 in
theorem answers3_walk (f a c t an o code : Int) (A B : Option Addr) (n k m d : Nat) (vs us : List Int) (w : World) (h : Rd w A n (iv vs)) (h2 : Rd w B m (iv us)) :
    Calls Try.prog 5 #[.agg #[.int .i64 f, .int .i64 a, .int .i64 c, .slice A n k, .int .i64 t, .int .i64 an, .int .i64 o], .agg #[.slice B m d, .int .i64 code]] w fun e w' => e = .returned (.bool true) ∧ Below w.heap.size w w' := by
  have HS := hide (fun W => small3_any f a c t an o A n k W)
  have H0 := hide h
  have H2 := hide h2
  clear h h2
  by_cases hn : n ≤ 2100
  · rw [show decide (n ≤ 2100) = true from by simpa using hn] at HS
    by_cases hm : m ≤ 2100
    · have qm : decide (2100 < (m : Int)) = false := by simp; omega
      have HM := hide (fun W (b : Below w.heap.size w W) => refMay_any f a c t an o A n k vs W (H0.out.keep b) (by omega))
      have HX := hide (fun W (b : Below w.heap.size w W) => refAnsMay_any f a c t an o code A B n k m d us W (H2.out.keep b) (by omega))
      cases hM : mayB f a c vs t an o
      · have HB := hide (fun W (b : Below w.heap.size w W) => pansB_no f a c t an o code A B n k m d vs us W (H0.out.keep b) (H2.out.keep b) (by omega) (by omega) (Or.inl hM))
        rw [hM] at HM
        clear hM hn hm
        go_enter Try.func5, Try.ntmps5
        go_wp2_with fail
        generalize hW : (w.alloc (.cells #[.int .i64 f, .int .i64 a, .int .i64 c, .slice A n k, .int .i64 t, .int .i64 an, .int .i64 o] 24)).alloc (.cells #[.slice B m d, .int .i64 code] 40) = W
        obtain ⟨hB1, hB2, hBel, _⟩ := two_boxes w [.int .i64 f, .int .i64 a, .int .i64 c, .slice A n k, .int .i64 t, .int .i64 an, .int .i64 o] [.slice B m d, .int .i64 code] 24 40 W hW.symm
        clear hW
        refine (HS.out _).mono ?_
        rintro e w1 ⟨rfl, b1⟩
        have K := hide (hB1.keep b1)
        have J := hide (hB2.keep b1)
        have L := hide (below_on hBel b1)
        clear hB1 hB2 hBel b1
        obtain ⟨k0, k1, k2, k3, k4, k5, k6⟩ := K.out.seven
        obtain ⟨j0, j1⟩ := J.out.two
        go_wp2_with fail
        refine (HB.out _ L.out).mono ?_
        rintro e w2 ⟨C, kC, rfl, _, _, b2⟩
        have K' := hide (K.out.keep b2)
        have J' := hide (J.out.keep b2)
        have L' := hide (below_on L.out b2)
        clear k0 k1 k2 k3 k4 k5 k6 j0 j1 b2
        clear K J L
        have K := K'
        have J := J'
        have L := L'
        clear K' J' L'
        obtain ⟨k0, k1, k2, k3, k4, k5, k6⟩ := K.out.seven
        obtain ⟨j0, j1⟩ := J.out.two
        go_wp2_with fail
        refine (HM.out _ L.out).mono ?_
        rintro e w3 ⟨rfl, b3⟩
        have K' := hide (K.out.keep b3)
        have J' := hide (J.out.keep b3)
        have L' := hide (below_on L.out b3)
        clear k0 k1 k2 k3 k4 k5 k6 j0 j1 b3
        clear K J L
        have K := K'
        have J := J'
        have L := L'
        clear K' J' L'
        obtain ⟨k0, k1, k2, k3, k4, k5, k6⟩ := K.out.seven
        obtain ⟨j0, j1⟩ := J.out.two
        go_wp2_with fail
        refine (awake3_any _).mono ?_
        rintro e w4 ⟨rfl, b4⟩
        have K' := hide (K.out.keep b4)
        have J' := hide (J.out.keep b4)
        have L' := hide (below_on L.out b4)
        clear k0 k1 k2 k3 k4 k5 k6 j0 j1 b4
        clear K J L
        have K := K'
        have J := J'
        have L := L'
        clear K' J' L'
        obtain ⟨k0, k1, k2, k3, k4, k5, k6⟩ := K.out.seven
        obtain ⟨j0, j1⟩ := J.out.two
        go_wp2
        go_ret
        exact ⟨rfl, L.out⟩
      cases hx : ansMayB f c code us
      · have HB := hide (fun W (b : Below w.heap.size w W) => pansB_no f a c t an o code A B n k m d vs us W (H0.out.keep b) (H2.out.keep b) (by omega) (by omega) (Or.inr hx))
        rw [hM] at HM
        rw [hx] at HX
        clear hM hn hm hx
        go_enter Try.func5, Try.ntmps5
        go_wp2_with fail
        generalize hW : (w.alloc (.cells #[.int .i64 f, .int .i64 a, .int .i64 c, .slice A n k, .int .i64 t, .int .i64 an, .int .i64 o] 24)).alloc (.cells #[.slice B m d, .int .i64 code] 40) = W
        obtain ⟨hB1, hB2, hBel, _⟩ := two_boxes w [.int .i64 f, .int .i64 a, .int .i64 c, .slice A n k, .int .i64 t, .int .i64 an, .int .i64 o] [.slice B m d, .int .i64 code] 24 40 W hW.symm
        clear hW
        refine (HS.out _).mono ?_
        rintro e w1 ⟨rfl, b1⟩
        have K := hide (hB1.keep b1)
        have J := hide (hB2.keep b1)
        have L := hide (below_on hBel b1)
        clear hB1 hB2 hBel b1
        obtain ⟨k0, k1, k2, k3, k4, k5, k6⟩ := K.out.seven
        obtain ⟨j0, j1⟩ := J.out.two
        go_wp2_with fail
        refine (HB.out _ L.out).mono ?_
        rintro e w2 ⟨C, kC, rfl, _, _, b2⟩
        have K' := hide (K.out.keep b2)
        have J' := hide (J.out.keep b2)
        have L' := hide (below_on L.out b2)
        clear k0 k1 k2 k3 k4 k5 k6 j0 j1 b2
        clear K J L
        have K := K'
        have J := J'
        have L := L'
        clear K' J' L'
        obtain ⟨k0, k1, k2, k3, k4, k5, k6⟩ := K.out.seven
        obtain ⟨j0, j1⟩ := J.out.two
        go_wp2_with fail
        refine (HM.out _ L.out).mono ?_
        rintro e w3 ⟨rfl, b3⟩
        have K' := hide (K.out.keep b3)
        have J' := hide (J.out.keep b3)
        have L' := hide (below_on L.out b3)
        clear k0 k1 k2 k3 k4 k5 k6 j0 j1 b3
        clear K J L
        have K := K'
        have J := J'
        have L := L'
        clear K' J' L'
        obtain ⟨k0, k1, k2, k3, k4, k5, k6⟩ := K.out.seven
        obtain ⟨j0, j1⟩ := J.out.two
        go_wp2_with fail
        refine (HX.out _ L.out).mono ?_
        rintro e w4 ⟨rfl, b4⟩
        have K' := hide (K.out.keep b4)
        have J' := hide (J.out.keep b4)
        have L' := hide (below_on L.out b4)
        clear k0 k1 k2 k3 k4 k5 k6 j0 j1 b4
        clear K J L
        have K := K'
        have J := J'
        have L := L'
        clear K' J' L'
        obtain ⟨k0, k1, k2, k3, k4, k5, k6⟩ := K.out.seven
        obtain ⟨j0, j1⟩ := J.out.two
        go_wp2_with fail
        refine (awake3_any _).mono ?_
        rintro e w5 ⟨rfl, b5⟩
        have K' := hide (K.out.keep b5)
        have J' := hide (J.out.keep b5)
        have L' := hide (below_on L.out b5)
        clear k0 k1 k2 k3 k4 k5 k6 j0 j1 b5
        clear K J L
        have K := K'
        have J := J'
        have L := L'
        clear K' J' L'
        obtain ⟨k0, k1, k2, k3, k4, k5, k6⟩ := K.out.seven
        obtain ⟨j0, j1⟩ := J.out.two
        go_wp2
        go_ret
        exact ⟨rfl, L.out⟩
      · have HB := hide (fun W (b : Below w.heap.size w W) => pansB_ok f a c t an o code A B n k m d vs us W (H0.out.keep b) (H2.out.keep b) (by omega) (by omega) hM hx)
        have HR := hide (fun W (b : Below w.heap.size w W) => refAns_any f a c t an o code A B n k m d vs us W (H0.out.keep b) (H2.out.keep b) hM hx)
        have hlb := ans_bounds hM hx
        rw [hM] at HM
        rw [hx] at HX
        generalize ansL f a c vs t an o code us = X at *
        generalize hnX : X.length = nX at *
        clear hM hx hnX
        have qn : decide ((nX : Int) ≤ 253) = true := by simp; omega
        have qx : (X == X) = true := by simp
        go_enter Try.func5, Try.ntmps5
        go_wp2_with fail
        generalize hW : (w.alloc (.cells #[.int .i64 f, .int .i64 a, .int .i64 c, .slice A n k, .int .i64 t, .int .i64 an, .int .i64 o] 24)).alloc (.cells #[.slice B m d, .int .i64 code] 40) = W
        obtain ⟨hB1, hB2, hBel, _⟩ := two_boxes w [.int .i64 f, .int .i64 a, .int .i64 c, .slice A n k, .int .i64 t, .int .i64 an, .int .i64 o] [.slice B m d, .int .i64 code] 24 40 W hW.symm
        clear hW
        refine (HS.out _).mono ?_
        rintro e w1 ⟨rfl, b1⟩
        have K := hide (hB1.keep b1)
        have J := hide (hB2.keep b1)
        have L := hide (below_on hBel b1)
        clear hB1 hB2 hBel b1
        obtain ⟨k0, k1, k2, k3, k4, k5, k6⟩ := K.out.seven
        obtain ⟨j0, j1⟩ := J.out.two
        go_wp2_with fail
        refine (HB.out _ L.out).mono ?_
        rintro e w2 ⟨C, kC, rfl, lC, rC, b2⟩
        have RC := hide rC
        clear rC
        have K' := hide (K.out.keep b2)
        have J' := hide (J.out.keep b2)
        have L' := hide (below_on L.out b2)
        clear k0 k1 k2 k3 k4 k5 k6 j0 j1 b2
        clear K J L
        have K := K'
        have J := J'
        have L := L'
        clear K' J' L'
        obtain ⟨k0, k1, k2, k3, k4, k5, k6⟩ := K.out.seven
        obtain ⟨j0, j1⟩ := J.out.two
        go_wp2_with fail
        refine (HM.out _ L.out).mono ?_
        rintro e w3 ⟨rfl, b3⟩
        have RC' := hide (RC.out.keep b3)
        clear RC
        have K' := hide (K.out.keep b3)
        have J' := hide (J.out.keep b3)
        have L' := hide (below_on L.out b3)
        clear k0 k1 k2 k3 k4 k5 k6 j0 j1 b3
        clear K J L
        have K := K'
        have J := J'
        have L := L'
        clear K' J' L'
        obtain ⟨k0, k1, k2, k3, k4, k5, k6⟩ := K.out.seven
        obtain ⟨j0, j1⟩ := J.out.two
        go_wp2_with fail
        refine (HX.out _ L.out).mono ?_
        rintro e w4 ⟨rfl, b4⟩
        have RC := RC'.out.keep b4
        clear RC'
        have K' := hide (K.out.keep b4)
        have J' := hide (J.out.keep b4)
        have L' := hide (below_on L.out b4)
        clear k0 k1 k2 k3 k4 k5 k6 j0 j1 b4
        clear K J L
        have K := K'
        have J := J'
        have L := L'
        clear K' J' L'
        obtain ⟨k0, k1, k2, k3, k4, k5, k6⟩ := K.out.seven
        obtain ⟨j0, j1⟩ := J.out.two
        clear k0 k1 k2 k3 k4 k5 k6 j0 j1
        go_wp2_with fail
        have hcv := strOn RC
        have k0 := K.out.on 0 _ rfl
        have k1 := K.out.on 1 _ rfl
        have k2 := K.out.on 2 _ rfl
        have k3 := K.out.on 3 _ rfl
        have k4 := K.out.on 4 _ rfl
        have k5 := K.out.on 5 _ rfl
        have k6 := K.out.on 6 _ rfl
        have j0 := J.out.on 0 _ rfl
        have j1 := J.out.on 1 _ rfl
        clear RC
        refine wp_region_held_drew (S := fun w' => Below w4.heap.size w4 w') (by kernel_rfl) ?_ (fun hHeld => ?_)
        · exact (Below.refl _ _).drew
        refine wpAnyH_ready (rs := [0]) (by kernel_rfl) (by simp) (AllReadyH.cons (o := { dst := some 41, op := _, type := _, pos := _, after := _, guard := _ }) rfl (fun K hK => ?_) AllReadyH.nil)
        go_simp
        refine (awake3_any _).mono ?_
        rintro e w8 ⟨rfl, b8⟩
        have s8 := below_on hHeld b8
        go_wp2_with fail
        refine hK.out _ _ ?_ (fun hHeld => ?_)
        · exact s8
        clear hK K
        try simp only [Act.put, List.setIfInBounds_toArray, List.set_cons_zero, List.set_cons_succ]
        refine wpAnyH_take (i := 1) (oi := { dst := some 42, op := _, type := _, pos := _, after := _, guard := _ }) (v := ?v1x2) rfl (by kernel_rfl) (by kernel_rfl) (by kernel_rfl) (fun _ _ _ h => h) (Or.inl ⟨by rfl, ?hy1x2⟩) hHeld ?rest1x2
        case hy1x2 => (intro w hSw; go_simp <;> with_reducible rfl)
        try simp only [Act.put, List.setIfInBounds_toArray, List.set_cons_zero, List.set_cons_succ]
        refine wpAnyH_take (i := 2) (oi := { dst := some 43, op := _, type := _, pos := _, after := _, guard := _ }) (v := ?v1x3) rfl (by kernel_rfl) (by kernel_rfl) (by kernel_rfl) (fun _ _ _ h => h) (Or.inl ⟨by rfl, ?hy1x3⟩) hHeld ?rest1x3
        case hy1x3 => (intro w hSw; go_simp <;> with_reducible rfl)
        try simp only [Act.put, List.setIfInBounds_toArray, List.set_cons_zero, List.set_cons_succ]
        refine wpAnyH_take (i := 3) (oi := { dst := some 44, op := _, type := _, pos := _, after := _, guard := _ }) (v := ?v1x4) rfl (by kernel_rfl) (by kernel_rfl) (by kernel_rfl) (fun _ _ _ h => h) (Or.inl ⟨by rfl, ?hy1x4⟩) hHeld ?rest1x4
        case hy1x4 => (intro w hSw; go_simp <;> with_reducible rfl)
        try simp only [Act.put, List.setIfInBounds_toArray, List.set_cons_zero, List.set_cons_succ]
        refine wpAnyH_take (i := 4) (oi := { dst := some 45, op := _, type := _, pos := _, after := _, guard := _ }) (v := ?v1x5) rfl (by kernel_rfl) (by kernel_rfl) (by kernel_rfl) (fun _ _ _ h => h) (Or.inl ⟨by rfl, ?hy1x5⟩) hHeld ?rest1x5
        case hy1x5 => (intro w hSw; go_simp <;> with_reducible rfl)
        try simp only [Act.put, List.setIfInBounds_toArray, List.set_cons_zero, List.set_cons_succ]
        refine wpAnyH_take (i := 5) (oi := { dst := some 46, op := _, type := _, pos := _, after := _, guard := _ }) (v := ?v1x6) rfl (by kernel_rfl) (by kernel_rfl) (by kernel_rfl) (fun _ _ _ h => h) (Or.inl ⟨by rfl, ?hy1x6⟩) hHeld ?rest1x6
        case hy1x6 => (intro w hSw; go_simp <;> with_reducible rfl)
        try simp only [Act.put, List.setIfInBounds_toArray, List.set_cons_zero, List.set_cons_succ]
        refine wpAnyH_take (i := 6) (oi := { dst := some 47, op := _, type := _, pos := _, after := _, guard := _ }) (v := ?v1x7) rfl (by kernel_rfl) (by kernel_rfl) (by kernel_rfl) (fun _ _ _ h => h) (Or.inl ⟨by rfl, ?hy1x7⟩) hHeld ?rest1x7
        case hy1x7 => (intro w hSw; go_simp <;> with_reducible rfl)
        try simp only [Act.put, List.setIfInBounds_toArray, List.set_cons_zero, List.set_cons_succ]
        refine wpAnyH_take (i := 7) (oi := { dst := some 48, op := _, type := _, pos := _, after := _, guard := _ }) (v := ?v1x8) rfl (by kernel_rfl) (by kernel_rfl) (by kernel_rfl) (fun _ _ _ h => h) (Or.inl ⟨by rfl, ?hy1x8⟩) hHeld ?rest1x8
        case hy1x8 => (intro w hSw; go_simp <;> with_reducible rfl)
        try simp only [Act.put, List.setIfInBounds_toArray, List.set_cons_zero, List.set_cons_succ]
        refine wpAnyH_take (i := 8) (oi := { dst := some 49, op := _, type := _, pos := _, after := _, guard := _ }) (v := ?v1x9) rfl (by kernel_rfl) (by kernel_rfl) (by kernel_rfl) (fun _ _ _ h => h) (Or.inl ⟨by rfl, ?hy1x9⟩) hHeld ?rest1x9
        case hy1x9 => (intro w hSw; go_simp <;> with_reducible rfl)
        try simp only [Act.put, List.setIfInBounds_toArray, List.set_cons_zero, List.set_cons_succ]
        refine wpAnyH_take (i := 9) (oi := { dst := some 50, op := _, type := _, pos := _, after := _, guard := _ }) (v := ?v1x10) rfl (by kernel_rfl) (by kernel_rfl) (by kernel_rfl) (fun _ _ _ h => h) (Or.inl ⟨by rfl, ?hy1x10⟩) hHeld ?rest1x10
        case hy1x10 => (intro w hSw; go_simp <;> with_reducible rfl)
        try simp only [Act.put, List.setIfInBounds_toArray, List.set_cons_zero, List.set_cons_succ]
        refine wpAnyH_ready (rs := [10]) (by kernel_rfl) (by simp) (AllReadyH.cons (o := { dst := some 51, op := _, type := _, pos := _, after := _, guard := _ }) rfl (fun K hK => ?_) AllReadyH.nil)
        go_simp
        refine (HR.out _ (below_on L.out s8)).mono ?_
        rintro e w9 ⟨E, kE, rfl, lE, rE, b9⟩
        have s9 := below_on s8 b9
        have hcE := strOn rE
        go_wp2_with fail
        refine hK.out _ _ ?_ (fun hHeld => ?_)
        · exact below_on hHeld b9
        clear hK K
        try simp only [Act.put, List.setIfInBounds_toArray, List.set_cons_zero, List.set_cons_succ]
        refine wpAnyH_strong (S' := fun w' => Below w9.heap.size w9 w') (by intro w' h; exact below_on hHeld h) ?_
        replace hHeld : (fun w' => Below w9.heap.size w9 w') _ := Below.refl _ _
        refine wpAnyH_take (i := 11) (oi := { dst := some 52, op := _, type := _, pos := _, after := _, guard := _ }) (v := ?v1x12) rfl (by kernel_rfl) (by kernel_rfl) (by kernel_rfl) (fun _ _ _ h => h) (Or.inl ⟨by rfl, ?hy1x12⟩) hHeld ?rest1x12
        case hy1x12 => (intro w hSw; go_simp <;> with_reducible rfl)
        try simp only [Act.put, List.setIfInBounds_toArray, List.set_cons_zero, List.set_cons_succ]
        refine wpAnyH_take (i := 12) (oi := { dst := some 53, op := _, type := _, pos := _, after := _, guard := _ }) (v := ?v1x13) rfl (by kernel_rfl) (by kernel_rfl) (by kernel_rfl) (fun _ _ _ h => h) (Or.inl ⟨by rfl, ?hy1x13⟩) hHeld ?rest1x13
        case hy1x13 => (intro w hSw; go_simp <;> with_reducible rfl)
        try simp only [Act.put, List.setIfInBounds_toArray, List.set_cons_zero, List.set_cons_succ]
        refine wpAnyH_take (i := 13) (oi := { dst := some 54, op := _, type := _, pos := _, after := _, guard := _ }) (v := ?v1x14) rfl (by kernel_rfl) (by kernel_rfl) (by kernel_rfl) (fun _ _ _ h => h) (Or.inl ⟨by rfl, ?hy1x14⟩) hHeld ?rest1x14
        case hy1x14 => (intro w hSw; go_simp <;> with_reducible rfl)
        try simp only [Act.put, List.setIfInBounds_toArray, List.set_cons_zero, List.set_cons_succ]
        refine wpAnyH_take (i := 14) (oi := { dst := some 55, op := _, type := _, pos := _, after := _, guard := _ }) (v := ?v1x15) rfl (by kernel_rfl) (by kernel_rfl) (by kernel_rfl) (fun _ _ _ h => h) (Or.inl ⟨by rfl, ?hy1x15⟩) hHeld ?rest1x15
        case hy1x15 => (intro w hSw; go_simp <;> with_reducible rfl)
        try simp only [Act.put, List.setIfInBounds_toArray, List.set_cons_zero, List.set_cons_succ]
        refine wpAnyH_take (i := 15) (oi := { dst := some 56, op := _, type := _, pos := _, after := _, guard := _ }) (v := ?v1x16) rfl (by kernel_rfl) (by kernel_rfl) (by kernel_rfl) (fun _ _ _ h => h) (Or.inl ⟨by rfl, ?hy1x16⟩) hHeld ?rest1x16
        case hy1x16 => (intro w hSw; go_simp <;> with_reducible rfl)
        try simp only [Act.put, List.setIfInBounds_toArray, List.set_cons_zero, List.set_cons_succ]
        refine wpAnyH_take (i := 16) (oi := { dst := some 57, op := _, type := _, pos := _, after := _, guard := _ }) (v := ?v1x17) rfl (by kernel_rfl) (by kernel_rfl) (by kernel_rfl) (fun _ _ _ h => h) (Or.inl ⟨by rfl, ?hy1x17⟩) hHeld ?rest1x17
        case hy1x17 => (intro w hSw; go_simp <;> with_reducible rfl)
        try simp only [Act.put, List.setIfInBounds_toArray, List.set_cons_zero, List.set_cons_succ]
        refine wpAnyH_take (i := 17) (oi := { dst := some 58, op := _, type := _, pos := _, after := _, guard := _ }) (v := ?v1x18) rfl (by kernel_rfl) (by kernel_rfl) (by kernel_rfl) (fun _ _ _ h => h) (Or.inl ⟨by rfl, ?hy1x18⟩) hHeld ?rest1x18
        case hy1x18 => (intro w hSw; go_simp <;> with_reducible rfl)
        try simp only [Act.put, List.setIfInBounds_toArray, List.set_cons_zero, List.set_cons_succ]
        refine wpAnyH_take (i := 18) (oi := { dst := some 59, op := _, type := _, pos := _, after := _, guard := _ }) (v := ?v1x19) rfl (by kernel_rfl) (by kernel_rfl) (by kernel_rfl) (fun _ _ _ h => h) (Or.inl ⟨by rfl, ?hy1x19⟩) hHeld ?rest1x19
        case hy1x19 => (intro w hSw; go_simp <;> with_reducible rfl)
        try simp only [Act.put, List.setIfInBounds_toArray, List.set_cons_zero, List.set_cons_succ]
        refine wpAnyH_take (i := 19) (oi := { dst := some 4, op := _, type := _, pos := _, after := _, guard := _ }) (v := ?v1x20) rfl (by kernel_rfl) (by kernel_rfl) (by kernel_rfl) (fun _ _ _ h => h) (Or.inl ⟨by rfl, ?hy1x20⟩) hHeld ?rest1x20
        case hy1x20 => (intro w hSw; go_simp <;> with_reducible rfl)
        try simp only [Act.put, List.setIfInBounds_toArray, List.set_cons_zero, List.set_cons_succ]
        refine wpAnyH_done (by kernel_rfl) ?_ _
        have L9 := hide (below_on L.out s9)
        clear s8 s9 b8 b9 hHeld rE hcE hcv
        go_wp2
        go_ret
        exact ⟨by simp, L9.out⟩
    · have qm : decide (2100 < (m : Int)) = true := by simp; omega
      go_enter Try.func5, Try.ntmps5
      go_wp2_with fail
      generalize hW : (w.alloc (.cells #[.int .i64 f, .int .i64 a, .int .i64 c, .slice A n k, .int .i64 t, .int .i64 an, .int .i64 o] 24)).alloc (.cells #[.slice B m d, .int .i64 code] 40) = W
      obtain ⟨hB1, hB2, hBel, _⟩ := two_boxes w [.int .i64 f, .int .i64 a, .int .i64 c, .slice A n k, .int .i64 t, .int .i64 an, .int .i64 o] [.slice B m d, .int .i64 code] 24 40 W hW.symm
      clear hW
      refine (HS.out _).mono ?_
      rintro e w1 ⟨rfl, b1⟩
      have K := hide (hB1.keep b1)
      have J := hide (hB2.keep b1)
      have L := hide (below_on hBel b1)
      clear hB1 hB2 hBel b1
      obtain ⟨k0, k1, k2, k3, k4, k5, k6⟩ := K.out.seven
      obtain ⟨j0, j1⟩ := J.out.two
      go_wp2
      go_ret
      exact ⟨rfl, L.out⟩
  · rw [show decide (n ≤ 2100) = false from by simpa using hn] at HS
    go_enter Try.func5, Try.ntmps5
    go_wp2_with fail
    generalize hW : (w.alloc (.cells #[.int .i64 f, .int .i64 a, .int .i64 c, .slice A n k, .int .i64 t, .int .i64 an, .int .i64 o] 24)).alloc (.cells #[.slice B m d, .int .i64 code] 40) = W
    obtain ⟨hB1, hB2, hBel, _⟩ := two_boxes w [.int .i64 f, .int .i64 a, .int .i64 c, .slice A n k, .int .i64 t, .int .i64 an, .int .i64 o] [.slice B m d, .int .i64 code] 24 40 W hW.symm
    clear hW
    refine (HS.out _).mono ?_
    rintro e w1 ⟨rfl, b1⟩
    have K := hide (hB1.keep b1)
    have J := hide (hB2.keep b1)
    have L := hide (below_on hBel b1)
    clear hB1 hB2 hBel b1
    obtain ⟨k0, k1, k2, k3, k4, k5, k6⟩ := K.out.seven
    obtain ⟨j0, j1⟩ := J.out.two
    go_wp2
    go_ret
    exact ⟨rfl, L.out⟩

end Go.Proofs.Ytemlfhoejelgbaa
