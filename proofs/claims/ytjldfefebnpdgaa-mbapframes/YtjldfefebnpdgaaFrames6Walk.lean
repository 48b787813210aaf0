/-
  What is proved here: the law MbapFrames returns true for every frame, and writes nothing that was there. No condition.
-/
import Derived.Test.YtjldfefebnpdgaaMb6
import Derived.Test.YtjldfefebnpdgaaRef6
import Derived.Deep.DeepCutAuto
namespace Go.Proofs.Ytjldfefebnpdgaa
set_option linter.unusedVariables false
set_option linter.unusedSimpArgs false
open Go.RowKit

theorem own_empty6 (w : World) : (w.alloc (.cells #[] 5)).ownsRow w.heap.size 5 1 (.slice (some ⟨w.heap.size, 0, none⟩) 0 0) 0 [] := (Blk.new w 5 []).own (Nat.le_refl _) 0 rfl (by decide)

set_option maxHeartbeats 2000000 in
set_option maxRecDepth 100000 in
theorem frames6_walk (t u : Int) (A : Option Addr) (n k : Nat) (xs : List UInt8) (w : World) (hA : Rd w A n (bv xs)) :
    Calls Try.prog 3 #[.agg #[.int .i64 t, .int .i64 u, .slice A n k]] w fun e w' => e = .returned (.bool true) ∧ Below w.heap.size w w' := by
  have HA := hide hA
  have HX : Hid (xs.length = n) := by show _ = _; rw [← bv_length]; exact hA.1
  clear hA
  by_cases h1 : 600 < n
  · have q : (600 : Int) < (n : Int) := by omega
    go_enter Try.func3, Try.ntmps3
    go_wp2
    go_ret
    exact ⟨rfl, (Below.refl _ _).alloc (Nat.le_refl _) _⟩
  have q1 : ¬ (600 : Int) < (n : Int) := by omega
  cases hb : aduOk ⟨t, u, xs⟩ with
  | false =>
    have HF := hide (fun (B : Option Addr) (c : Nat) (W : World) => mframe_no t u B n c xs HX.out hb W)
    have HM := hide (fun (W : World) => rmay_any t u A n k xs HX.out W)
    rw [hb] at HM
    clear hb
    go_enter Try.func3, Try.ntmps3
    go_upto_region 4 with (fail)
    generalize hW : (w.alloc _).alloc _ = W
    obtain ⟨k0, k1, bW, hsz⟩ := two_boxes w _ _ 24 24 W hW.symm
    clear hW
    obtain ⟨c00, c01, c02⟩ := k0.three
    obtain ⟨c10, c11, c12⟩ := k1.three
    have hl0 : w.heap.size < W.heap.size := by omega
    have hl1 : w.heap.size + 1 < W.heap.size := by omega
    have K0 := hide k0
    have K1 := hide k1
    have BW := hide bW
    clear k0 k1 bW hsz
    go_upto_region 5 with (at_builtin; refine wpList_app rfl (.tmp 11) (.tmp 13) 22 rfl 5 _ _ Try.underlying22 u8_info rfl W.heap.size (some ⟨W.heap.size, 0, none⟩) 0 0 [] rfl (own_empty6 W) A n k (bv xs) rfl ((HA.out.keep BW.out).keep ((Below.refl _ _).alloc (Nat.le_refl _) _)) (bv_one _) (by unfold maxLen; omega) (by omega) (by simp) ?_; intro A1 c1 w1 o1 g1 b1; rw [Nat.zero_add, List.nil_append] at o1; have O1 := hide o1; (have s1 : Below W.heap.size W w1 := ((Below.refl _ _).alloc (Nat.le_refl _) _).trans b1); have B1 := hide s1; (have e1 := K1.out.keep s1); (have e0 := K0.out.keep s1); obtain ⟨v0, v1, v2⟩ := e1.three; have vf := e1.frozen; have E1 := hide e1; have E0 := hide e0; clear o1 g1 b1 s1 e1 e0)
    have kV1 := E1.out.set 2 (.slice A1 n c1)
    have kV0 := E0.out.oth (G := w.heap.size + 1) (by omega) 2 (.slice A1 n c1)
    have rA1 := (own_rd O1.out).set1 (g := w.heap.size + 1) (fun b o e => by have := own_newAt O1.out b o e; omega) 2 (.slice A1 n c1)
    have bV : Below w.heap.size w (w1.setCell ⟨w.heap.size + 1, 2, none⟩ (.slice A1 n c1)) := (below_on BW.out B1.out).setCell (Nat.le_succ _) _
    generalize w1.setCell ⟨w.heap.size + 1, 2, none⟩ (.slice A1 n c1) = V at *
    have BV := hide bV
    clear v0 v1 v2 vf E1 E0 bV
    obtain ⟨v0, v1, v2⟩ := kV1.three
    obtain ⟨u0, u1, u2⟩ := kV0.three
    go_wp2_with fail
    refine (HF.out A1 c1 V).mono ?_
    rintro e w2 ⟨rfl, b2⟩
    have T2 := hide (below_on BV.out b2)
    have k20 := kV0.keep b2
    have k21 := kV1.keep b2
    obtain ⟨x0, x1, x2⟩ := k21.three
    obtain ⟨z0, z1, z2⟩ := k20.three
    have d1 := rdStr (rA1.keep b2)
    have d2 := rdStr (HA.out.keep T2.out)
    have K2 := hide k20
    clear k20 k21 b2
    go_wp2_with (first
      | (go_at_call 10; refine (HM.out w2).mono ?_; rintro e w3 ⟨rfl, b3⟩)
      | (go_at_call 11; refine (awake6_any _).mono ?_; rintro e w4 ⟨rfl, b4⟩))
    go_ret
    exact ⟨rfl, below_on T2.out (below_on b3 b4)⟩
  | true =>
    obtain ⟨h1, h2, h3, h4, h5, h6⟩ := aduOk_yes hb
    simp only [HX.out] at h1 h2 h3 h4 h5 h6
    obtain ⟨tn, rfl⟩ := Int.eq_ofNat_of_zero_le h1
    obtain ⟨un, rfl⟩ := Int.eq_ofNat_of_zero_le h3
    have HF := hide (fun (B : Option Addr) (c : Nat) (W : World) (h : Rd W B n (bv xs)) => mframe_ok tn un B n c xs HX.out (by omega) (by omega) h5 h6 W h)
    have HM := hide (fun (W : World) => rmay_any tn un A n k xs HX.out W)
    have HB := hide (fun (W : World) (h : Rd W A n (bv xs)) => rbytes_ok tn un A n k xs HX.out (by omega) (by omega) h6 W h)
    rw [hb] at HM
    generalize aduL ⟨tn, un, xs⟩ = L at *
    clear hb h1 h2 h3 h4 h5 h6
    go_enter Try.func3, Try.ntmps3
    go_upto_region 4 with (fail)
    generalize hW : (w.alloc _).alloc _ = W
    obtain ⟨k0, k1, bW, hsz⟩ := two_boxes w _ _ 24 24 W hW.symm
    clear hW
    obtain ⟨c00, c01, c02⟩ := k0.three
    obtain ⟨c10, c11, c12⟩ := k1.three
    have hl0 : w.heap.size < W.heap.size := by omega
    have hl1 : w.heap.size + 1 < W.heap.size := by omega
    have K0 := hide k0
    have K1 := hide k1
    have BW := hide bW
    clear k0 k1 bW hsz
    go_upto_region 5 with (at_builtin; refine wpList_app rfl (.tmp 11) (.tmp 13) 22 rfl 5 _ _ Try.underlying22 u8_info rfl W.heap.size (some ⟨W.heap.size, 0, none⟩) 0 0 [] rfl (own_empty6 W) A n k (bv xs) rfl ((HA.out.keep BW.out).keep ((Below.refl _ _).alloc (Nat.le_refl _) _)) (bv_one _) (by unfold maxLen; omega) (by omega) (by simp) ?_; intro A1 c1 w1 o1 g1 b1; rw [Nat.zero_add, List.nil_append] at o1; have O1 := hide o1; (have s1 : Below W.heap.size W w1 := ((Below.refl _ _).alloc (Nat.le_refl _) _).trans b1); have B1 := hide s1; (have e1 := K1.out.keep s1); (have e0 := K0.out.keep s1); obtain ⟨v0, v1, v2⟩ := e1.three; have vf := e1.frozen; have E1 := hide e1; have E0 := hide e0; clear o1 g1 b1 s1 e1 e0)
    have kV1 := E1.out.set 2 (.slice A1 n c1)
    have kV0 := E0.out.oth (G := w.heap.size + 1) (by omega) 2 (.slice A1 n c1)
    have rA1 := (own_rd O1.out).set1 (g := w.heap.size + 1) (fun b o e => by have := own_newAt O1.out b o e; omega) 2 (.slice A1 n c1)
    have bV : Below w.heap.size w (w1.setCell ⟨w.heap.size + 1, 2, none⟩ (.slice A1 n c1)) := (below_on BW.out B1.out).setCell (Nat.le_succ _) _
    generalize w1.setCell ⟨w.heap.size + 1, 2, none⟩ (.slice A1 n c1) = V at *
    have BV := hide bV
    clear v0 v1 v2 vf E1 E0 bV
    obtain ⟨v0, v1, v2⟩ := kV1.three
    obtain ⟨u0, u1, u2⟩ := kV0.three
    go_wp2_with fail
    refine (HF.out A1 c1 V rA1).mono ?_
    rintro e w2 ⟨F, fk, rfl, o2, b2⟩
    have RF := hide (own_rd o2)
    clear o2
    have T2 := hide (below_on BV.out b2)
    have k20 := kV0.keep b2
    have k21 := kV1.keep b2
    obtain ⟨x0, x1, x2⟩ := k21.three
    obtain ⟨z0, z1, z2⟩ := k20.three
    have d1 := rdStr (rA1.keep b2)
    have d2 := rdStr (HA.out.keep T2.out)
    have K2 := hide k20
    clear k20 k21 b2
    go_wp2_with (go_at_call 10; refine (HM.out w2).mono ?_; rintro e w3 ⟨rfl, b3⟩; have B3 := hide b3; clear b3)
    have RF3 := hide (RF.out.keep B3.out)
    have RA3 := hide (HA.out.keep (below_on T2.out B3.out))
    have k3 := K2.out.keep B3.out
    have g0 : ∀ w', Below w3.heap.size w3 w' → w'.cell? ⟨w.heap.size, 0, none⟩ = some (.int .i64 (tn : Int)) := fun w' h => (k3.keep h).cell 0
    have g1 : ∀ w', Below w3.heap.size w3 w' → w'.cell? ⟨w.heap.size, 1, none⟩ = some (.int .i64 (un : Int)) := fun w' h => (k3.keep h).cell 1
    have g2 : ∀ w', Below w3.heap.size w3 w' → w'.cell? ⟨w.heap.size, 2, none⟩ = some (.slice A n k) := fun w' h => (k3.keep h).cell 2
    clear d1 d2
    refine wp_region_held_drew (S := fun w' => Below w3.heap.size w3 w') (by kernel_rfl) ?_ (fun hHeld => ?_)
    · exact (Below.refl _ _).drew
    refine wpAnyH_ready (rs := [0]) (by kernel_rfl) (by simp) (AllReadyH.cons (o := { dst := some 41, op := _, type := _, pos := _, after := _, guard := _ }) rfl (fun K hK => ?_) AllReadyH.nil)
    go_simp
    refine (awake6_any _).mono ?_
    rintro e w6 ⟨rfl, b6⟩
    have s6 := below_on hHeld b6
    have dF := strOn (RF3.out.keep s6)
    have y0 : ∀ w', Below w6.heap.size w6 w' → w'.cell? ⟨w.heap.size, 0, none⟩ = some (.int .i64 (tn : Int)) := fun w' h => g0 w' (below_on s6 h)
    have y1 : ∀ w', Below w6.heap.size w6 w' → w'.cell? ⟨w.heap.size, 1, none⟩ = some (.int .i64 (un : Int)) := fun w' h => g1 w' (below_on s6 h)
    have y2 : ∀ w', Below w6.heap.size w6 w' → w'.cell? ⟨w.heap.size, 2, none⟩ = some (.slice A n k) := fun w' h => g2 w' (below_on s6 h)
    go_wp2_with fail
    refine hK.out _ _ ?_ (fun hHeld => ?_)
    · exact below_on hHeld b6
    clear hK K
    try simp only [Act.put, List.setIfInBounds_toArray, List.set_cons_zero, List.set_cons_succ]
    refine wpAnyH_strong (S' := fun w' => Below w6.heap.size w6 w') (by intro w' h; exact below_on hHeld h) ?_
    replace hHeld : (fun w' => Below w6.heap.size w6 w') _ := Below.refl _ _
    refine wpAnyH_take (i := 1) (oi := { dst := some 42, op := _, type := _, pos := _, after := _, guard := _ }) (v := ?v1x2) rfl (by kernel_rfl) (by kernel_rfl) (by kernel_rfl) (fun _ _ _ h => h) (Or.inl ⟨by rfl, ?hy1x2⟩) hHeld ?rest1x2
    case hy1x2 => (intro w hSw; go_simp <;> with_reducible rfl)
    try simp only [Act.put, List.setIfInBounds_toArray, List.set_cons_zero, List.set_cons_succ]
    refine wpAnyH_take (i := 2) (oi := { dst := some 43, op := _, type := _, pos := _, after := _, guard := _ }) (v := ?v1x3) rfl (by kernel_rfl) (by kernel_rfl) (by kernel_rfl) (fun _ _ _ h => h) (Or.inl ⟨by rfl, ?hy1x3⟩) hHeld ?rest1x3
    case hy1x3 => (intro w hSw; go_simp <;> with_reducible rfl)
    try simp only [Act.put, List.setIfInBounds_toArray, List.set_cons_zero, List.set_cons_succ]
    refine wpAnyH_take (i := 3) (oi := { dst := some 44, op := _, type := _, pos := _, after := _, guard := _ }) (v := ?v1x4) rfl (by kernel_rfl) (by kernel_rfl) (by kernel_rfl) (fun _ _ _ h => h) (Or.inl ⟨by rfl, ?hy1x4⟩) hHeld ?rest1x4
    case hy1x4 => (intro w hSw; go_simp <;> with_reducible rfl)
    try simp only [Act.put, List.setIfInBounds_toArray, List.set_cons_zero, List.set_cons_succ]
    refine wpAnyH_take (i := 4) (oi := { dst := some 45, op := _, type := _, pos := _, after := _, guard := _ }) (v := ?v1x5) rfl (by kernel_rfl) (by kernel_rfl) (by kernel_rfl) (fun _ _ _ h => h) (Or.inl ⟨by rfl, ?hy1x5⟩) hHeld ?rest1x5
    case hy1x5 => (intro w hSw; go_simp <;> with_reducible rfl)
    try simp only [Act.put, List.setIfInBounds_toArray, List.set_cons_zero, List.set_cons_succ]
    refine wpAnyH_take (i := 5) (oi := { dst := some 46, op := _, type := _, pos := _, after := _, guard := _ }) (v := ?v1x6) rfl (by kernel_rfl) (by kernel_rfl) (by kernel_rfl) (fun _ _ _ h => h) (Or.inl ⟨by rfl, ?hy1x6⟩) hHeld ?rest1x6
    case hy1x6 => (intro w hSw; go_simp <;> with_reducible rfl)
    try simp only [Act.put, List.setIfInBounds_toArray, List.set_cons_zero, List.set_cons_succ]
    refine wpAnyH_take (i := 6) (oi := { dst := some 47, op := _, type := _, pos := _, after := _, guard := _ }) (v := ?v1x7) rfl (by kernel_rfl) (by kernel_rfl) (by kernel_rfl) (fun _ _ _ h => h) (Or.inl ⟨by rfl, ?hy1x7⟩) hHeld ?rest1x7
    case hy1x7 => (intro w hSw; go_simp <;> with_reducible rfl)
    try simp only [Act.put, List.setIfInBounds_toArray, List.set_cons_zero, List.set_cons_succ]
    refine wpAnyH_take (i := 7) (oi := { dst := some 48, op := _, type := _, pos := _, after := _, guard := _ }) (v := ?v1x8) rfl (by kernel_rfl) (by kernel_rfl) (by kernel_rfl) (fun _ _ _ h => h) (Or.inl ⟨by rfl, ?hy1x8⟩) hHeld ?rest1x8
    case hy1x8 => (intro w hSw; go_simp <;> with_reducible rfl)
    try simp only [Act.put, List.setIfInBounds_toArray, List.set_cons_zero, List.set_cons_succ]
    refine wpAnyH_take (i := 8) (oi := { dst := some 49, op := _, type := _, pos := _, after := _, guard := _ }) (v := ?v1x9) rfl (by kernel_rfl) (by kernel_rfl) (by kernel_rfl) (fun _ _ _ h => h) (Or.inl ⟨by rfl, ?hy1x9⟩) hHeld ?rest1x9
    case hy1x9 => (intro w hSw; go_simp <;> with_reducible rfl)
    try simp only [Act.put, List.setIfInBounds_toArray, List.set_cons_zero, List.set_cons_succ]
    refine wpAnyH_ready (rs := [9]) (by kernel_rfl) (by simp) (AllReadyH.cons (o := { dst := some 50, op := _, type := _, pos := _, after := _, guard := _ }) rfl (fun K hK => ?_) AllReadyH.nil)
    go_simp
    refine (HB.out _ ((RA3.out.keep s6).keep hHeld)).mono ?_
    rintro e w7 ⟨G, gk, rfl, hgk, r7, b7⟩
    have s7 := below_on s6 (below_on hHeld b7)
    have dG := strOn r7
    go_wp2_with fail
    refine hK.out _ _ ?_ (fun hHeld => ?_)
    · exact below_on hHeld b7
    clear hK K
    try simp only [Act.put, List.setIfInBounds_toArray, List.set_cons_zero, List.set_cons_succ]
    refine wpAnyH_strong (S' := fun w' => Below w7.heap.size w7 w') (by intro w' h; exact below_on hHeld h) ?_
    replace hHeld : (fun w' => Below w7.heap.size w7 w') _ := Below.refl _ _
    refine wpAnyH_take (i := 10) (oi := { dst := some 51, op := _, type := _, pos := _, after := _, guard := _ }) (v := ?v1x11) rfl (by kernel_rfl) (by kernel_rfl) (by kernel_rfl) (fun _ _ _ h => h) (Or.inl ⟨by rfl, ?hy1x11⟩) hHeld ?rest1x11
    case hy1x11 => (intro w hSw; go_simp <;> with_reducible rfl)
    try simp only [Act.put, List.setIfInBounds_toArray, List.set_cons_zero, List.set_cons_succ]
    refine wpAnyH_take (i := 11) (oi := { dst := some 52, op := _, type := _, pos := _, after := _, guard := _ }) (v := ?v1x12) rfl (by kernel_rfl) (by kernel_rfl) (by kernel_rfl) (fun _ _ _ h => h) (Or.inl ⟨by rfl, ?hy1x12⟩) hHeld ?rest1x12
    case hy1x12 => (intro w hSw; go_simp <;> with_reducible rfl)
    try simp only [Act.put, List.setIfInBounds_toArray, List.set_cons_zero, List.set_cons_succ]
    refine wpAnyH_take (i := 12) (oi := { dst := some 53, op := _, type := _, pos := _, after := _, guard := _ }) (v := ?v1x13) rfl (by kernel_rfl) (by kernel_rfl) (by kernel_rfl) (fun _ _ _ h => h) (Or.inl ⟨by rfl, ?hy1x13⟩) hHeld ?rest1x13
    case hy1x13 => (intro w hSw; go_simp <;> with_reducible rfl)
    try simp only [Act.put, List.setIfInBounds_toArray, List.set_cons_zero, List.set_cons_succ]
    refine wpAnyH_take (i := 13) (oi := { dst := some 2, op := _, type := _, pos := _, after := _, guard := _ }) (v := ?v1x14) rfl (by kernel_rfl) (by kernel_rfl) (by kernel_rfl) (fun _ _ _ h => h) (Or.inl ⟨by rfl, ?hy1x14⟩) hHeld ?rest1x14
    case hy1x14 => (intro w hSw; go_simp <;> with_reducible rfl)
    try simp only [Act.put, List.setIfInBounds_toArray, List.set_cons_zero, List.set_cons_succ]
    refine wpAnyH_done (by kernel_rfl) ?_ _
    go_wp2_with fail
    go_ret
    exact ⟨rfl, below_on T2.out (below_on B3.out s7)⟩

end Go.Proofs.Ytjldfefebnpdgaa
