/-
  What is proved here: the law PduSizes returns true for the functions 5 and 6.
-/
import Derived.Test.YtemlfhoejelgbaaAwake3
namespace Go.Proofs.Ytemlfhoejelgbaa
set_option linter.unusedVariables false
set_option linter.unusedSimpArgs false
open Go.RowKit


set_option maxRecDepth 100000 in
set_option maxHeartbeats 1000000 in
theorem sizes_5 (a c t an o code : Int) (A B : Option Addr) (n k m d : Nat) (vs us : List Int) (w : World) (h : Rd w A n (iv vs)) (h2 : Rd w B m (iv us)) (hn : n ≤ 2100) (hm : m ≤ 2100) (hM : mayB 5 a c vs t an o = true) :
    Calls Try.prog 9 #[.agg #[.int .i64 5, .int .i64 a, .int .i64 c, .slice A n k, .int .i64 t, .int .i64 an, .int .i64 o], .agg #[.slice B m d, .int .i64 code]] w fun e w' => e = .returned (.bool true) ∧ Below w.heap.size w w' := by
  have HAn := hide (fun hx W (b : Below w.heap.size w W) => pansB_no 5 a c t an o code A B n k m d vs us W (h.keep b) (h2.keep b) (by omega) (by omega) (Or.inr hx))
  have HAy := hide (fun hx W (b : Below w.heap.size w W) => pansB_ok 5 a c t an o code A B n k m d vs us W (h.keep b) (h2.keep b) (by omega) (by omega) hM hx)
  have HYl := hide (fun hx => ans_length (code := code) (us := us) hM hx)
  have HYh := hide (fun hx => ans_head (code := code) (us := us) hM hx)
  have HYc := hide (fun hx => ans_cases (code := code) (us := us) hM hx)
  have hul : us.length = m := by rw [← iv_length]; exact h2.1
  have HU := hide hul
  clear hul
  have HS := hide (fun W => small3_any 5 a c t an o A n k W)
  rw [show decide (n ≤ 2100) = true from by simpa using hn] at HS
  have qm : decide (2100 < (m : Int)) = false := by simp; omega
  have H0 := hide h
  have H2 := hide h2
  have HB := hide (fun W (b : Below w.heap.size w W) => pbytes_ok 5 a c t an o A n k vs W (H0.out.keep b) (by omega) hM)
  have hhd := lay_head hM
  have hlen := lay_length hM
  have hvl : vs.length = n := by rw [← iv_length]; exact h.1
  rw [hvl] at hlen
  rw [show sizeOfRq 5 n = 5 from rfl] at hlen
  clear h h2 hvl
  generalize layL 5 a c vs t an o = X at *
  rw [hlen] at HB
  obtain ⟨x, hx⟩ : ∃ x, X[0]? = some x := ⟨X[0]'(by omega), List.getElem?_eq_getElem (by omega)⟩
  rw [hx] at hhd
  have hhd2 : (x.toNat : Int) = 5 := hhd
  have Hx := hide hx
  clear hx hhd hlen hM
  go_enter Try.func9, Try.ntmps9
  go_wp2_with fail
  generalize hW : (w.alloc (.cells #[.int .i64 5, .int .i64 a, .int .i64 c, .slice A n k, .int .i64 t, .int .i64 an, .int .i64 o] 24)).alloc (.cells #[.slice B m d, .int .i64 code] 40) = W
  obtain ⟨hB1, hB2, hBel, _⟩ := two_boxes w [.int .i64 5, .int .i64 a, .int .i64 c, .slice A n k, .int .i64 t, .int .i64 an, .int .i64 o] [.slice B m d, .int .i64 code] 24 40 W hW.symm
  clear hW
  refine (HS.out _).mono ?_
  rintro e w1 ⟨rfl, b1⟩
  have K := hide (hB1.keep b1)
  have J := hide (hB2.keep b1)
  have L := hide (below_on hBel b1)
  clear hB1 hB2 hBel b1
  obtain ⟨k0, k1, k2, k3, k4, k5, k6⟩ := K.out.seven
  obtain ⟨j0, j1⟩ := J.out.two
  go_wp2_with fail
  refine (HB.out _ L.out).mono ?_
  rintro e w2 ⟨C, kC, rfl, lC, rC, b2⟩
  obtain ⟨bC, oC, rfl, hbC, hcC⟩ := rC.at_ (k := 0) (by omega)
  have cx := hcC 0 (.int .u8 x.toNat) (by rw [bv, List.getElem?_map, Hx.out]; rfl)
  rw [Nat.add_zero, hhd2] at cx
  clear rC hcC hbC hhd2
  have K' := hide (K.out.keep b2)
  have J' := hide (J.out.keep b2)
  have L' := hide (below_on L.out b2)
  clear k0 k1 k2 k3 k4 k5 k6 j0 j1 b2
  clear K J L
  have K := K'
  have J := J'
  have L := L'
  clear K' J' L'
  obtain ⟨k0, k1, k2, k3, k4, k5, k6⟩ := K.out.seven
  obtain ⟨j0, j1⟩ := J.out.two
  go_wp2_with fail
  go_quiet (fail)
  have b3 : Below w2.heap.size w2 (w2.drewN nq) := below_drewN (Below.refl _ _) nq
  generalize w2.drewN nq = w3 at *
  clear cx
  have K' := hide (K.out.keep b3)
  have J' := hide (J.out.keep b3)
  have L' := hide (below_on L.out b3)
  clear k0 k1 k2 k3 k4 k5 k6 j0 j1 b3
  clear K J L
  have K := K'
  have J := J'
  have L := L'
  clear K' J' L'
  obtain ⟨k0, k1, k2, k3, k4, k5, k6⟩ := K.out.seven
  obtain ⟨j0, j1⟩ := J.out.two
  cases hx : ansMayB 5 c code us
  · have HB2 := hide (HAn.out hx)
    clear hx HAn HAy HYl HYh HYc
    go_wp2_with fail
    refine (HB2.out _ L.out).mono ?_
    rintro e w7 ⟨E, kE, rfl, _, _, b7⟩
    have K' := hide (K.out.keep b7)
    have J' := hide (J.out.keep b7)
    have L' := hide (below_on L.out b7)
    clear k0 k1 k2 k3 k4 k5 k6 j0 j1 b7
    clear K J L
    have K := K'
    have J := J'
    have L := L'
    clear K' J' L'
    obtain ⟨k0, k1, k2, k3, k4, k5, k6⟩ := K.out.seven
    obtain ⟨j0, j1⟩ := J.out.two
    go_wp2_with fail
    refine (awake3_any _).mono ?_
    rintro e w8 ⟨rfl, b8⟩
    have K' := hide (K.out.keep b8)
    have J' := hide (J.out.keep b8)
    have L' := hide (below_on L.out b8)
    clear k0 k1 k2 k3 k4 k5 k6 j0 j1 b8
    clear K J L
    have K := K'
    have J := J'
    have L := L'
    clear K' J' L'
    obtain ⟨k0, k1, k2, k3, k4, k5, k6⟩ := K.out.seven
    obtain ⟨j0, j1⟩ := J.out.two
    go_wp2
    go_ret
    exact ⟨rfl, L.out⟩
  · have HB2 := hide (HAy.out hx)
    have hYl := HYl.out hx
    have hYh := HYh.out hx
    have hYc := HYc.out hx
    rw [HU.out] at hYl
    clear hx HAn HAy HYl HYh HYc
    by_cases h0 : code = 0
    · subst h0
      rw [show sizeOfAn 5 0 vs.length m = 5 from rfl] at hYl
      rw [if_pos rfl] at hYh
      generalize ansL 5 a c vs t an o 0 us = Y at *
      rw [hYl] at HB2
      obtain ⟨y, hy⟩ : ∃ y, Y[0]? = some y := ⟨Y[0]'(by omega), List.getElem?_eq_getElem (by omega)⟩
      rw [hy] at hYh
      have hYh2 : (y.toNat : Int) = 5 := hYh
      have Hy := hide hy
      clear hy hYh hYl hYc
      go_wp2_with fail
      refine (HB2.out _ L.out).mono ?_
      rintro e w7 ⟨E, kE, rfl, lE, rE, b7⟩
      obtain ⟨bE, oE, rfl, hbE, _⟩ := rE.at_ (k := 0) (by omega)
      have cE := rE.on 0 (.int .u8 y.toNat) (by rw [bv, List.getElem?_map, Hy.out]; rfl)
      rw [Nat.add_zero, hYh2] at cE
      clear rE hbE hYh2
      have K' := hide (K.out.keep b7)
      have J' := hide (J.out.keep b7)
      have L' := hide (below_on L.out b7)
      clear k0 k1 k2 k3 k4 k5 k6 j0 j1 b7
      clear K J L
      have K := K'
      have J := J'
      have L := L'
      clear K' J' L'
      obtain ⟨k0, k1, k2, k3, k4, k5, k6⟩ := K.out.seven
      obtain ⟨j0, j1⟩ := J.out.two
      go_wp2_with fail
      have cf := K.out.on 0 _ rfl
      clear k0 k1 k2 k3 k4 k5 k6 j0 j1
      have qw : IntKind.i64.wrap 5 = 5 := by decide
      skip
      refine wp_region_held_drew (S := fun w' => Below w7.heap.size w7 w') (by kernel_rfl) ?_ (fun hHeld => ?_)
      · exact (Below.refl _ _).drew
      refine wpAnyH_ready (rs := [0]) (by kernel_rfl) (by simp) (AllReadyH.cons (o := { dst := some 134, op := _, type := _, pos := _, after := _, guard := _ }) rfl (fun K hK => ?_) AllReadyH.nil)
      go_simp
      refine (awake3_any _).mono ?_
      rintro e w8 ⟨rfl, b8⟩
      have s8 := below_on hHeld b8
      go_wp2_with fail
      refine hK.out _ _ ?_ (fun hHeld => ?_)
      · exact s8
      clear hK K
      try simp only [Act.put, List.setIfInBounds_toArray, List.set_cons_zero, List.set_cons_succ]
      refine wpAnyH_take (i := 1) (oi := { dst := some 135, op := _, type := _, pos := _, after := _, guard := _ }) (v := ?v1x2) rfl (by kernel_rfl) (by kernel_rfl) (by kernel_rfl) (fun _ _ _ h => h) (Or.inl ⟨by rfl, ?hy1x2⟩) hHeld ?rest1x2
      case hy1x2 => (intro w hSw; go_simp <;> with_reducible rfl)
      try simp only [Act.put, List.setIfInBounds_toArray, List.set_cons_zero, List.set_cons_succ]
      refine wpAnyH_take (i := 2) (oi := { dst := some 136, op := _, type := _, pos := _, after := _, guard := _ }) (v := ?v1x3) rfl (by kernel_rfl) (by kernel_rfl) (by kernel_rfl) (fun _ _ _ h => h) (Or.inl ⟨by rfl, ?hy1x3⟩) hHeld ?rest1x3
      case hy1x3 => (intro w hSw; go_simp <;> with_reducible rfl)
      try simp only [Act.put, List.setIfInBounds_toArray, List.set_cons_zero, List.set_cons_succ]
      refine wpAnyH_take (i := 3) (oi := { dst := some 137, op := _, type := _, pos := _, after := _, guard := _ }) (v := ?v1x4) rfl (by kernel_rfl) (by kernel_rfl) (by kernel_rfl) (fun _ _ _ h => h) (Or.inl ⟨by rfl, ?hy1x4⟩) hHeld ?rest1x4
      case hy1x4 => (intro w hSw; go_simp <;> with_reducible rfl)
      try simp only [Act.put, List.setIfInBounds_toArray, List.set_cons_zero, List.set_cons_succ]
      refine wpAnyH_take (i := 4) (oi := { dst := some 138, op := _, type := _, pos := _, after := _, guard := _ }) (v := ?v1x5) rfl (by kernel_rfl) (by kernel_rfl) (by kernel_rfl) (fun _ _ _ h => h) (Or.inl ⟨by rfl, ?hy1x5⟩) hHeld ?rest1x5
      case hy1x5 => (intro w hSw; go_simp <;> with_reducible rfl)
      try simp only [Act.put, List.setIfInBounds_toArray, List.set_cons_zero, List.set_cons_succ]
      refine wpAnyH_take (i := 5) (oi := { dst := some 139, op := _, type := _, pos := _, after := _, guard := _ }) (v := ?v1x6) rfl (by kernel_rfl) (by kernel_rfl) (by kernel_rfl) (fun _ _ _ h => h) (Or.inl ⟨by rfl, ?hy1x6⟩) hHeld ?rest1x6
      case hy1x6 => (intro w hSw; go_simp <;> with_reducible rfl)
      try simp only [Act.put, List.setIfInBounds_toArray, List.set_cons_zero, List.set_cons_succ]
      refine wpAnyH_take (i := 6) (oi := { dst := some 140, op := _, type := _, pos := _, after := _, guard := _ }) (v := ?v1x7) rfl (by kernel_rfl) (by kernel_rfl) (by kernel_rfl) (fun _ _ _ h => h) (Or.inl ⟨by rfl, ?hy1x7⟩) hHeld ?rest1x7
      case hy1x7 => (intro w hSw; go_simp <;> with_reducible rfl)
      try simp only [Act.put, List.setIfInBounds_toArray, List.set_cons_zero, List.set_cons_succ]
      refine wpAnyH_take (i := 7) (oi := { dst := some 141, op := _, type := _, pos := _, after := _, guard := _ }) (v := ?v1x8) rfl (by kernel_rfl) (by kernel_rfl) (by kernel_rfl) (fun _ _ _ h => h) (Or.inl ⟨by rfl, ?hy1x8⟩) hHeld ?rest1x8
      case hy1x8 => (intro w hSw; go_simp <;> with_reducible rfl)
      try simp only [Act.put, List.setIfInBounds_toArray, List.set_cons_zero, List.set_cons_succ]
      refine wpAnyH_take (i := 8) (oi := { dst := some 142, op := _, type := _, pos := _, after := _, guard := _ }) (v := ?v1x9) rfl (by kernel_rfl) (by kernel_rfl) (by kernel_rfl) (fun _ _ _ h => h) (Or.inl ⟨by rfl, ?hy1x9⟩) hHeld ?rest1x9
      case hy1x9 => (intro w hSw; go_simp <;> with_reducible rfl)
      try simp only [Act.put, List.setIfInBounds_toArray, List.set_cons_zero, List.set_cons_succ]
      refine wpAnyH_take (i := 9) (oi := { dst := some 143, op := _, type := _, pos := _, after := _, guard := _ }) (v := ?v1x10) rfl (by kernel_rfl) (by kernel_rfl) (by kernel_rfl) (fun _ _ _ h => h) (Or.inl ⟨by rfl, ?hy1x10⟩) hHeld ?rest1x10
      case hy1x10 => (intro w hSw; go_simp <;> with_reducible rfl)
      try simp only [Act.put, List.setIfInBounds_toArray, List.set_cons_zero, List.set_cons_succ]
      refine wpAnyH_take (i := 10) (oi := { dst := some 144, op := _, type := _, pos := _, after := _, guard := _ }) (v := ?v1x11) rfl (by kernel_rfl) (by kernel_rfl) (by kernel_rfl) (fun _ _ _ h => h) (Or.inl ⟨by rfl, ?hy1x11⟩) hHeld ?rest1x11
      case hy1x11 => (intro w hSw; go_simp <;> with_reducible rfl)
      try simp only [Act.put, List.setIfInBounds_toArray, List.set_cons_zero, List.set_cons_succ]
      refine wpAnyH_take (i := 11) (oi := { dst := some 145, op := _, type := _, pos := _, after := _, guard := _ }) (v := ?v1x12) rfl (by kernel_rfl) (by kernel_rfl) (by kernel_rfl) (fun _ _ _ h => h) (Or.inl ⟨by rfl, ?hy1x12⟩) hHeld ?rest1x12
      case hy1x12 => (intro w hSw; go_simp <;> with_reducible rfl)
      try simp only [Act.put, List.setIfInBounds_toArray, List.set_cons_zero, List.set_cons_succ]
      refine wpAnyH_take (i := 12) (oi := { dst := some 146, op := _, type := _, pos := _, after := _, guard := _ }) (v := ?v1x13) rfl (by kernel_rfl) (by kernel_rfl) (by kernel_rfl) (fun _ _ _ h => h) (Or.inl ⟨by rfl, ?hy1x13⟩) hHeld ?rest1x13
      case hy1x13 => (intro w hSw; go_simp <;> with_reducible rfl)
      try simp only [Act.put, List.setIfInBounds_toArray, List.set_cons_zero, List.set_cons_succ]
      refine wpAnyH_take (i := 13) (oi := { dst := some 147, op := _, type := _, pos := _, after := _, guard := _ }) (v := ?v1x14) rfl (by kernel_rfl) (by kernel_rfl) (by kernel_rfl) (fun _ _ _ h => h) (Or.inl ⟨by rfl, ?hy1x14⟩) hHeld ?rest1x14
      case hy1x14 => (intro w hSw; go_simp <;> with_reducible rfl)
      try simp only [Act.put, List.setIfInBounds_toArray, List.set_cons_zero, List.set_cons_succ]
      refine wpAnyH_take (i := 14) (oi := { dst := some 148, op := _, type := _, pos := _, after := _, guard := _ }) (v := ?v1x15) rfl (by kernel_rfl) (by kernel_rfl) (by kernel_rfl) (fun _ _ _ h => h) (Or.inl ⟨by rfl, ?hy1x15⟩) hHeld ?rest1x15
      case hy1x15 => (intro w hSw; go_simp <;> with_reducible rfl)
      try simp only [Act.put, List.setIfInBounds_toArray, List.set_cons_zero, List.set_cons_succ]
      refine wpAnyH_take (i := 15) (oi := { dst := some 149, op := _, type := _, pos := _, after := _, guard := _ }) (v := ?v1x16) rfl (by kernel_rfl) (by kernel_rfl) (by kernel_rfl) (fun _ _ _ h => h) (Or.inl ⟨by rfl, ?hy1x16⟩) hHeld ?rest1x16
      case hy1x16 => (intro w hSw; go_simp <;> with_reducible rfl)
      try simp only [Act.put, List.setIfInBounds_toArray, List.set_cons_zero, List.set_cons_succ]
      refine wpAnyH_take (i := 16) (oi := { dst := some 4, op := _, type := _, pos := _, after := _, guard := _ }) (v := ?v1x17) rfl (by kernel_rfl) (by kernel_rfl) (by kernel_rfl) (fun _ _ _ h => h) (Or.inl ⟨by rfl, ?hy1x17⟩) hHeld ?rest1x17
      case hy1x17 => (intro w hSw; go_simp <;> with_reducible rfl)
      try simp only [Act.put, List.setIfInBounds_toArray, List.set_cons_zero, List.set_cons_succ]
      refine wpAnyH_done (by kernel_rfl) ?_ _
      have L8 := hide (below_on L.out s8)
      clear s8 b8 hHeld cE cf
      go_wp2
      go_ret
      exact ⟨by simp, L8.out⟩
    · have q0 : (code != 0) = true := ne_bne h0
      have hY : ansL 5 a c vs t an o code us = [UInt8.ofNat (5 + 128), UInt8.ofNat code.toNat] := by simp [ansL, h0]
      rw [hY] at HB2
      have hcd : 1 ≤ code ∧ code ≤ 255 := by rcases hYc with h | h | h | h | h <;> omega
      have hv : ((UInt8.ofNat code.toNat).toNat : Int) = code := by simp only [UInt8.toNat_ofNat']; omega
      clear hY hYl hYh hYc h0
      go_wp2_with fail
      refine (HB2.out _ L.out).mono ?_
      rintro e w7 ⟨E, kE, rfl, lE, rE, b7⟩
      obtain ⟨bE, oE, rfl, hbE, _⟩ := rE.at_ (k := 0) (by simp)
      have cE := rE.on 0 (.int .u8 (5 + 128)) rfl
      have cF := rE.on 1 (.int .u8 code) (by rw [bv, List.map_cons, List.map_cons, hv]; rfl)
      rw [Nat.add_zero] at cE
      clear rE hbE hv
      have K' := hide (K.out.keep b7)
      have J' := hide (J.out.keep b7)
      have L' := hide (below_on L.out b7)
      clear k0 k1 k2 k3 k4 k5 k6 j0 j1 b7
      clear K J L
      have K := K'
      have J := J'
      have L := L'
      clear K' J' L'
      obtain ⟨k0, k1, k2, k3, k4, k5, k6⟩ := K.out.seven
      obtain ⟨j0, j1⟩ := J.out.two
      go_wp2_with fail
      have cf := K.out.on 0 _ rfl
      have cg := J.out.on 1 _ rfl
      clear k0 k1 k2 k3 k4 k5 k6 j0 j1
      have qw : IntKind.i64.wrap (5 + 128) = 5 + 128 := by decide
      have qc : IntKind.i64.wrap code = code := by rw [IntKind.wrap_i64]; omega
      refine wp_region_held_drew (S := fun w' => Below w7.heap.size w7 w') (by kernel_rfl) ?_ (fun hHeld => ?_)
      · exact (Below.refl _ _).drew
      refine wpAnyH_ready (rs := [0]) (by kernel_rfl) (by simp) (AllReadyH.cons (o := { dst := some 87, op := _, type := _, pos := _, after := _, guard := _ }) rfl (fun K hK => ?_) AllReadyH.nil)
      go_simp
      refine (awake3_any _).mono ?_
      rintro e w8 ⟨rfl, b8⟩
      have s8 := below_on hHeld b8
      go_wp2_with fail
      refine hK.out _ _ ?_ (fun hHeld => ?_)
      · exact s8
      clear hK K
      try simp only [Act.put, List.setIfInBounds_toArray, List.set_cons_zero, List.set_cons_succ]
      refine wpAnyH_take (i := 1) (oi := { dst := some 88, op := _, type := _, pos := _, after := _, guard := _ }) (v := ?v2x2) rfl (by kernel_rfl) (by kernel_rfl) (by kernel_rfl) (fun _ _ _ h => h) (Or.inl ⟨by rfl, ?hy2x2⟩) hHeld ?rest2x2
      case hy2x2 => (intro w hSw; go_simp <;> with_reducible rfl)
      try simp only [Act.put, List.setIfInBounds_toArray, List.set_cons_zero, List.set_cons_succ]
      refine wpAnyH_take (i := 2) (oi := { dst := some 89, op := _, type := _, pos := _, after := _, guard := _ }) (v := ?v2x3) rfl (by kernel_rfl) (by kernel_rfl) (by kernel_rfl) (fun _ _ _ h => h) (Or.inl ⟨by rfl, ?hy2x3⟩) hHeld ?rest2x3
      case hy2x3 => (intro w hSw; go_simp <;> with_reducible rfl)
      try simp only [Act.put, List.setIfInBounds_toArray, List.set_cons_zero, List.set_cons_succ]
      refine wpAnyH_take (i := 3) (oi := { dst := some 90, op := _, type := _, pos := _, after := _, guard := _ }) (v := ?v2x4) rfl (by kernel_rfl) (by kernel_rfl) (by kernel_rfl) (fun _ _ _ h => h) (Or.inl ⟨by rfl, ?hy2x4⟩) hHeld ?rest2x4
      case hy2x4 => (intro w hSw; go_simp <;> with_reducible rfl)
      try simp only [Act.put, List.setIfInBounds_toArray, List.set_cons_zero, List.set_cons_succ]
      refine wpAnyH_take (i := 4) (oi := { dst := some 91, op := _, type := _, pos := _, after := _, guard := _ }) (v := ?v2x5) rfl (by kernel_rfl) (by kernel_rfl) (by kernel_rfl) (fun _ _ _ h => h) (Or.inl ⟨by rfl, ?hy2x5⟩) hHeld ?rest2x5
      case hy2x5 => (intro w hSw; go_simp <;> with_reducible rfl)
      try simp only [Act.put, List.setIfInBounds_toArray, List.set_cons_zero, List.set_cons_succ]
      refine wpAnyH_take (i := 5) (oi := { dst := some 92, op := _, type := _, pos := _, after := _, guard := _ }) (v := ?v2x6) rfl (by kernel_rfl) (by kernel_rfl) (by kernel_rfl) (fun _ _ _ h => h) (Or.inl ⟨by rfl, ?hy2x6⟩) hHeld ?rest2x6
      case hy2x6 => (intro w hSw; go_simp <;> with_reducible rfl)
      try simp only [Act.put, List.setIfInBounds_toArray, List.set_cons_zero, List.set_cons_succ]
      refine wpAnyH_take (i := 6) (oi := { dst := some 93, op := _, type := _, pos := _, after := _, guard := _ }) (v := ?v2x7) rfl (by kernel_rfl) (by kernel_rfl) (by kernel_rfl) (fun _ _ _ h => h) (Or.inl ⟨by rfl, ?hy2x7⟩) hHeld ?rest2x7
      case hy2x7 => (intro w hSw; go_simp <;> with_reducible rfl)
      try simp only [Act.put, List.setIfInBounds_toArray, List.set_cons_zero, List.set_cons_succ]
      refine wpAnyH_take (i := 7) (oi := { dst := some 94, op := _, type := _, pos := _, after := _, guard := _ }) (v := ?v2x8) rfl (by kernel_rfl) (by kernel_rfl) (by kernel_rfl) (fun _ _ _ h => h) (Or.inl ⟨by rfl, ?hy2x8⟩) hHeld ?rest2x8
      case hy2x8 => (intro w hSw; go_simp <;> with_reducible rfl)
      try simp only [Act.put, List.setIfInBounds_toArray, List.set_cons_zero, List.set_cons_succ]
      refine wpAnyH_take (i := 8) (oi := { dst := some 95, op := _, type := _, pos := _, after := _, guard := _ }) (v := ?v2x9) rfl (by kernel_rfl) (by kernel_rfl) (by kernel_rfl) (fun _ _ _ h => h) (Or.inl ⟨by rfl, ?hy2x9⟩) hHeld ?rest2x9
      case hy2x9 => (intro w hSw; go_simp <;> with_reducible rfl)
      try simp only [Act.put, List.setIfInBounds_toArray, List.set_cons_zero, List.set_cons_succ]
      refine wpAnyH_take (i := 9) (oi := { dst := some 96, op := _, type := _, pos := _, after := _, guard := _ }) (v := ?v2x10) rfl (by kernel_rfl) (by kernel_rfl) (by kernel_rfl) (fun _ _ _ h => h) (Or.inl ⟨by rfl, ?hy2x10⟩) hHeld ?rest2x10
      case hy2x10 => (intro w hSw; go_simp <;> with_reducible rfl)
      try simp only [Act.put, List.setIfInBounds_toArray, List.set_cons_zero, List.set_cons_succ]
      refine wpAnyH_take (i := 10) (oi := { dst := some 97, op := _, type := _, pos := _, after := _, guard := _ }) (v := ?v2x11) rfl (by kernel_rfl) (by kernel_rfl) (by kernel_rfl) (fun _ _ _ h => h) (Or.inl ⟨by rfl, ?hy2x11⟩) hHeld ?rest2x11
      case hy2x11 => (intro w hSw; go_simp <;> with_reducible rfl)
      try simp only [Act.put, List.setIfInBounds_toArray, List.set_cons_zero, List.set_cons_succ]
      refine wpAnyH_take (i := 11) (oi := { dst := some 98, op := _, type := _, pos := _, after := _, guard := _ }) (v := ?v2x12) rfl (by kernel_rfl) (by kernel_rfl) (by kernel_rfl) (fun _ _ _ h => h) (Or.inl ⟨by rfl, ?hy2x12⟩) hHeld ?rest2x12
      case hy2x12 => (intro w hSw; go_simp <;> with_reducible rfl)
      try simp only [Act.put, List.setIfInBounds_toArray, List.set_cons_zero, List.set_cons_succ]
      refine wpAnyH_take (i := 12) (oi := { dst := some 99, op := _, type := _, pos := _, after := _, guard := _ }) (v := ?v2x13) rfl (by kernel_rfl) (by kernel_rfl) (by kernel_rfl) (fun _ _ _ h => h) (Or.inl ⟨by rfl, ?hy2x13⟩) hHeld ?rest2x13
      case hy2x13 => (intro w hSw; go_simp <;> with_reducible rfl)
      try simp only [Act.put, List.setIfInBounds_toArray, List.set_cons_zero, List.set_cons_succ]
      refine wpAnyH_take (i := 13) (oi := { dst := some 100, op := _, type := _, pos := _, after := _, guard := _ }) (v := ?v2x14) rfl (by kernel_rfl) (by kernel_rfl) (by kernel_rfl) (fun _ _ _ h => h) (Or.inl ⟨by rfl, ?hy2x14⟩) hHeld ?rest2x14
      case hy2x14 => (intro w hSw; go_simp <;> with_reducible rfl)
      try simp only [Act.put, List.setIfInBounds_toArray, List.set_cons_zero, List.set_cons_succ]
      refine wpAnyH_take (i := 14) (oi := { dst := some 101, op := _, type := _, pos := _, after := _, guard := _ }) (v := ?v2x15) rfl (by kernel_rfl) (by kernel_rfl) (by kernel_rfl) (fun _ _ _ h => h) (Or.inl ⟨by rfl, ?hy2x15⟩) hHeld ?rest2x15
      case hy2x15 => (intro w hSw; go_simp <;> with_reducible rfl)
      try simp only [Act.put, List.setIfInBounds_toArray, List.set_cons_zero, List.set_cons_succ]
      refine wpAnyH_take (i := 15) (oi := { dst := some 102, op := _, type := _, pos := _, after := _, guard := _ }) (v := ?v2x16) rfl (by kernel_rfl) (by kernel_rfl) (by kernel_rfl) (fun _ _ _ h => h) (Or.inl ⟨by rfl, ?hy2x16⟩) hHeld ?rest2x16
      case hy2x16 => (intro w hSw; go_simp <;> with_reducible rfl)
      try simp only [Act.put, List.setIfInBounds_toArray, List.set_cons_zero, List.set_cons_succ]
      refine wpAnyH_take (i := 16) (oi := { dst := some 103, op := _, type := _, pos := _, after := _, guard := _ }) (v := ?v2x17) rfl (by kernel_rfl) (by kernel_rfl) (by kernel_rfl) (fun _ _ _ h => h) (Or.inl ⟨by rfl, ?hy2x17⟩) hHeld ?rest2x17
      case hy2x17 => (intro w hSw; go_simp <;> with_reducible rfl)
      try simp only [Act.put, List.setIfInBounds_toArray, List.set_cons_zero, List.set_cons_succ]
      refine wpAnyH_take (i := 17) (oi := { dst := some 104, op := _, type := _, pos := _, after := _, guard := _ }) (v := ?v2x18) rfl (by kernel_rfl) (by kernel_rfl) (by kernel_rfl) (fun _ _ _ h => h) (Or.inl ⟨by rfl, ?hy2x18⟩) hHeld ?rest2x18
      case hy2x18 => (intro w hSw; go_simp <;> with_reducible rfl)
      try simp only [Act.put, List.setIfInBounds_toArray, List.set_cons_zero, List.set_cons_succ]
      refine wpAnyH_take (i := 18) (oi := { dst := some 105, op := _, type := _, pos := _, after := _, guard := _ }) (v := ?v2x19) rfl (by kernel_rfl) (by kernel_rfl) (by kernel_rfl) (fun _ _ _ h => h) (Or.inl ⟨by rfl, ?hy2x19⟩) hHeld ?rest2x19
      case hy2x19 => (intro w hSw; go_simp <;> with_reducible rfl)
      try simp only [Act.put, List.setIfInBounds_toArray, List.set_cons_zero, List.set_cons_succ]
      refine wpAnyH_take (i := 19) (oi := { dst := some 106, op := _, type := _, pos := _, after := _, guard := _ }) (v := ?v2x20) rfl (by kernel_rfl) (by kernel_rfl) (by kernel_rfl) (fun _ _ _ h => h) (Or.inl ⟨by rfl, ?hy2x20⟩) hHeld ?rest2x20
      case hy2x20 => (intro w hSw; go_simp <;> with_reducible rfl)
      try simp only [Act.put, List.setIfInBounds_toArray, List.set_cons_zero, List.set_cons_succ]
      refine wpAnyH_take (i := 20) (oi := { dst := some 107, op := _, type := _, pos := _, after := _, guard := _ }) (v := ?v2x21) rfl (by kernel_rfl) (by kernel_rfl) (by kernel_rfl) (fun _ _ _ h => h) (Or.inl ⟨by rfl, ?hy2x21⟩) hHeld ?rest2x21
      case hy2x21 => (intro w hSw; go_simp <;> with_reducible rfl)
      try simp only [Act.put, List.setIfInBounds_toArray, List.set_cons_zero, List.set_cons_succ]
      refine wpAnyH_take (i := 21) (oi := { dst := some 108, op := _, type := _, pos := _, after := _, guard := _ }) (v := ?v2x22) rfl (by kernel_rfl) (by kernel_rfl) (by kernel_rfl) (fun _ _ _ h => h) (Or.inl ⟨by rfl, ?hy2x22⟩) hHeld ?rest2x22
      case hy2x22 => (intro w hSw; go_simp <;> with_reducible rfl)
      try simp only [Act.put, List.setIfInBounds_toArray, List.set_cons_zero, List.set_cons_succ]
      refine wpAnyH_take (i := 22) (oi := { dst := some 109, op := _, type := _, pos := _, after := _, guard := _ }) (v := ?v2x23) rfl (by kernel_rfl) (by kernel_rfl) (by kernel_rfl) (fun _ _ _ h => h) (Or.inl ⟨by rfl, ?hy2x23⟩) hHeld ?rest2x23
      case hy2x23 => (intro w hSw; go_simp <;> with_reducible rfl)
      try simp only [Act.put, List.setIfInBounds_toArray, List.set_cons_zero, List.set_cons_succ]
      refine wpAnyH_take (i := 23) (oi := { dst := some 110, op := _, type := _, pos := _, after := _, guard := _ }) (v := ?v2x24) rfl (by kernel_rfl) (by kernel_rfl) (by kernel_rfl) (fun _ _ _ h => h) (Or.inl ⟨by rfl, ?hy2x24⟩) hHeld ?rest2x24
      case hy2x24 => (intro w hSw; go_simp <;> with_reducible rfl)
      try simp only [Act.put, List.setIfInBounds_toArray, List.set_cons_zero, List.set_cons_succ]
      refine wpAnyH_take (i := 24) (oi := { dst := some 111, op := _, type := _, pos := _, after := _, guard := _ }) (v := ?v2x25) rfl (by kernel_rfl) (by kernel_rfl) (by kernel_rfl) (fun _ _ _ h => h) (Or.inl ⟨by rfl, ?hy2x25⟩) hHeld ?rest2x25
      case hy2x25 => (intro w hSw; go_simp <;> with_reducible rfl)
      try simp only [Act.put, List.setIfInBounds_toArray, List.set_cons_zero, List.set_cons_succ]
      refine wpAnyH_take (i := 25) (oi := { dst := some 4, op := _, type := _, pos := _, after := _, guard := _ }) (v := ?v2x26) rfl (by kernel_rfl) (by kernel_rfl) (by kernel_rfl) (fun _ _ _ h => h) (Or.inl ⟨by rfl, ?hy2x26⟩) hHeld ?rest2x26
      case hy2x26 => (intro w hSw; go_simp <;> with_reducible rfl)
      try simp only [Act.put, List.setIfInBounds_toArray, List.set_cons_zero, List.set_cons_succ]
      refine wpAnyH_done (by kernel_rfl) ?_ _
      have L8 := hide (below_on L.out s8)
      clear s8 b8 hHeld cE cf
      go_wp2
      go_ret
      exact ⟨by simp, L8.out⟩
set_option maxRecDepth 100000 in
set_option maxHeartbeats 1000000 in
theorem sizes_6 (a c t an o code : Int) (A B : Option Addr) (n k m d : Nat) (vs us : List Int) (w : World) (h : Rd w A n (iv vs)) (h2 : Rd w B m (iv us)) (hn : n ≤ 2100) (hm : m ≤ 2100) (hM : mayB 6 a c vs t an o = true) :
    Calls Try.prog 9 #[.agg #[.int .i64 6, .int .i64 a, .int .i64 c, .slice A n k, .int .i64 t, .int .i64 an, .int .i64 o], .agg #[.slice B m d, .int .i64 code]] w fun e w' => e = .returned (.bool true) ∧ Below w.heap.size w w' := by
  have HAn := hide (fun hx W (b : Below w.heap.size w W) => pansB_no 6 a c t an o code A B n k m d vs us W (h.keep b) (h2.keep b) (by omega) (by omega) (Or.inr hx))
  have HAy := hide (fun hx W (b : Below w.heap.size w W) => pansB_ok 6 a c t an o code A B n k m d vs us W (h.keep b) (h2.keep b) (by omega) (by omega) hM hx)
  have HYl := hide (fun hx => ans_length (code := code) (us := us) hM hx)
  have HYh := hide (fun hx => ans_head (code := code) (us := us) hM hx)
  have HYc := hide (fun hx => ans_cases (code := code) (us := us) hM hx)
  have hul : us.length = m := by rw [← iv_length]; exact h2.1
  have HU := hide hul
  clear hul
  have HS := hide (fun W => small3_any 6 a c t an o A n k W)
  rw [show decide (n ≤ 2100) = true from by simpa using hn] at HS
  have qm : decide (2100 < (m : Int)) = false := by simp; omega
  have H0 := hide h
  have H2 := hide h2
  have HB := hide (fun W (b : Below w.heap.size w W) => pbytes_ok 6 a c t an o A n k vs W (H0.out.keep b) (by omega) hM)
  have hhd := lay_head hM
  have hlen := lay_length hM
  have hvl : vs.length = n := by rw [← iv_length]; exact h.1
  rw [hvl] at hlen
  rw [show sizeOfRq 6 n = 5 from rfl] at hlen
  clear h h2 hvl
  generalize layL 6 a c vs t an o = X at *
  rw [hlen] at HB
  obtain ⟨x, hx⟩ : ∃ x, X[0]? = some x := ⟨X[0]'(by omega), List.getElem?_eq_getElem (by omega)⟩
  rw [hx] at hhd
  have hhd2 : (x.toNat : Int) = 6 := hhd
  have Hx := hide hx
  clear hx hhd hlen hM
  go_enter Try.func9, Try.ntmps9
  go_wp2_with fail
  generalize hW : (w.alloc (.cells #[.int .i64 6, .int .i64 a, .int .i64 c, .slice A n k, .int .i64 t, .int .i64 an, .int .i64 o] 24)).alloc (.cells #[.slice B m d, .int .i64 code] 40) = W
  obtain ⟨hB1, hB2, hBel, _⟩ := two_boxes w [.int .i64 6, .int .i64 a, .int .i64 c, .slice A n k, .int .i64 t, .int .i64 an, .int .i64 o] [.slice B m d, .int .i64 code] 24 40 W hW.symm
  clear hW
  refine (HS.out _).mono ?_
  rintro e w1 ⟨rfl, b1⟩
  have K := hide (hB1.keep b1)
  have J := hide (hB2.keep b1)
  have L := hide (below_on hBel b1)
  clear hB1 hB2 hBel b1
  obtain ⟨k0, k1, k2, k3, k4, k5, k6⟩ := K.out.seven
  obtain ⟨j0, j1⟩ := J.out.two
  go_wp2_with fail
  refine (HB.out _ L.out).mono ?_
  rintro e w2 ⟨C, kC, rfl, lC, rC, b2⟩
  obtain ⟨bC, oC, rfl, hbC, hcC⟩ := rC.at_ (k := 0) (by omega)
  have cx := hcC 0 (.int .u8 x.toNat) (by rw [bv, List.getElem?_map, Hx.out]; rfl)
  rw [Nat.add_zero, hhd2] at cx
  clear rC hcC hbC hhd2
  have K' := hide (K.out.keep b2)
  have J' := hide (J.out.keep b2)
  have L' := hide (below_on L.out b2)
  clear k0 k1 k2 k3 k4 k5 k6 j0 j1 b2
  clear K J L
  have K := K'
  have J := J'
  have L := L'
  clear K' J' L'
  obtain ⟨k0, k1, k2, k3, k4, k5, k6⟩ := K.out.seven
  obtain ⟨j0, j1⟩ := J.out.two
  go_wp2_with fail
  go_quiet (fail)
  have b3 : Below w2.heap.size w2 (w2.drewN nq) := below_drewN (Below.refl _ _) nq
  generalize w2.drewN nq = w3 at *
  clear cx
  have K' := hide (K.out.keep b3)
  have J' := hide (J.out.keep b3)
  have L' := hide (below_on L.out b3)
  clear k0 k1 k2 k3 k4 k5 k6 j0 j1 b3
  clear K J L
  have K := K'
  have J := J'
  have L := L'
  clear K' J' L'
  obtain ⟨k0, k1, k2, k3, k4, k5, k6⟩ := K.out.seven
  obtain ⟨j0, j1⟩ := J.out.two
  cases hx : ansMayB 6 c code us
  · have HB2 := hide (HAn.out hx)
    clear hx HAn HAy HYl HYh HYc
    go_wp2_with fail
    refine (HB2.out _ L.out).mono ?_
    rintro e w7 ⟨E, kE, rfl, _, _, b7⟩
    have K' := hide (K.out.keep b7)
    have J' := hide (J.out.keep b7)
    have L' := hide (below_on L.out b7)
    clear k0 k1 k2 k3 k4 k5 k6 j0 j1 b7
    clear K J L
    have K := K'
    have J := J'
    have L := L'
    clear K' J' L'
    obtain ⟨k0, k1, k2, k3, k4, k5, k6⟩ := K.out.seven
    obtain ⟨j0, j1⟩ := J.out.two
    go_wp2_with fail
    refine (awake3_any _).mono ?_
    rintro e w8 ⟨rfl, b8⟩
    have K' := hide (K.out.keep b8)
    have J' := hide (J.out.keep b8)
    have L' := hide (below_on L.out b8)
    clear k0 k1 k2 k3 k4 k5 k6 j0 j1 b8
    clear K J L
    have K := K'
    have J := J'
    have L := L'
    clear K' J' L'
    obtain ⟨k0, k1, k2, k3, k4, k5, k6⟩ := K.out.seven
    obtain ⟨j0, j1⟩ := J.out.two
    go_wp2
    go_ret
    exact ⟨rfl, L.out⟩
  · have HB2 := hide (HAy.out hx)
    have hYl := HYl.out hx
    have hYh := HYh.out hx
    have hYc := HYc.out hx
    rw [HU.out] at hYl
    clear hx HAn HAy HYl HYh HYc
    by_cases h0 : code = 0
    · subst h0
      rw [show sizeOfAn 6 0 vs.length m = 5 from rfl] at hYl
      rw [if_pos rfl] at hYh
      generalize ansL 6 a c vs t an o 0 us = Y at *
      rw [hYl] at HB2
      obtain ⟨y, hy⟩ : ∃ y, Y[0]? = some y := ⟨Y[0]'(by omega), List.getElem?_eq_getElem (by omega)⟩
      rw [hy] at hYh
      have hYh2 : (y.toNat : Int) = 6 := hYh
      have Hy := hide hy
      clear hy hYh hYl hYc
      go_wp2_with fail
      refine (HB2.out _ L.out).mono ?_
      rintro e w7 ⟨E, kE, rfl, lE, rE, b7⟩
      obtain ⟨bE, oE, rfl, hbE, _⟩ := rE.at_ (k := 0) (by omega)
      have cE := rE.on 0 (.int .u8 y.toNat) (by rw [bv, List.getElem?_map, Hy.out]; rfl)
      rw [Nat.add_zero, hYh2] at cE
      clear rE hbE hYh2
      have K' := hide (K.out.keep b7)
      have J' := hide (J.out.keep b7)
      have L' := hide (below_on L.out b7)
      clear k0 k1 k2 k3 k4 k5 k6 j0 j1 b7
      clear K J L
      have K := K'
      have J := J'
      have L := L'
      clear K' J' L'
      obtain ⟨k0, k1, k2, k3, k4, k5, k6⟩ := K.out.seven
      obtain ⟨j0, j1⟩ := J.out.two
      go_wp2_with fail
      have cf := K.out.on 0 _ rfl
      clear k0 k1 k2 k3 k4 k5 k6 j0 j1
      have qw : IntKind.i64.wrap 6 = 6 := by decide
      skip
      refine wp_region_held_drew (S := fun w' => Below w7.heap.size w7 w') (by kernel_rfl) ?_ (fun hHeld => ?_)
      · exact (Below.refl _ _).drew
      refine wpAnyH_ready (rs := [0]) (by kernel_rfl) (by simp) (AllReadyH.cons (o := { dst := some 134, op := _, type := _, pos := _, after := _, guard := _ }) rfl (fun K hK => ?_) AllReadyH.nil)
      go_simp
      refine (awake3_any _).mono ?_
      rintro e w8 ⟨rfl, b8⟩
      have s8 := below_on hHeld b8
      go_wp2_with fail
      refine hK.out _ _ ?_ (fun hHeld => ?_)
      · exact s8
      clear hK K
      try simp only [Act.put, List.setIfInBounds_toArray, List.set_cons_zero, List.set_cons_succ]
      refine wpAnyH_take (i := 1) (oi := { dst := some 135, op := _, type := _, pos := _, after := _, guard := _ }) (v := ?v3x2) rfl (by kernel_rfl) (by kernel_rfl) (by kernel_rfl) (fun _ _ _ h => h) (Or.inl ⟨by rfl, ?hy3x2⟩) hHeld ?rest3x2
      case hy3x2 => (intro w hSw; go_simp <;> with_reducible rfl)
      try simp only [Act.put, List.setIfInBounds_toArray, List.set_cons_zero, List.set_cons_succ]
      refine wpAnyH_take (i := 2) (oi := { dst := some 136, op := _, type := _, pos := _, after := _, guard := _ }) (v := ?v3x3) rfl (by kernel_rfl) (by kernel_rfl) (by kernel_rfl) (fun _ _ _ h => h) (Or.inl ⟨by rfl, ?hy3x3⟩) hHeld ?rest3x3
      case hy3x3 => (intro w hSw; go_simp <;> with_reducible rfl)
      try simp only [Act.put, List.setIfInBounds_toArray, List.set_cons_zero, List.set_cons_succ]
      refine wpAnyH_take (i := 3) (oi := { dst := some 137, op := _, type := _, pos := _, after := _, guard := _ }) (v := ?v3x4) rfl (by kernel_rfl) (by kernel_rfl) (by kernel_rfl) (fun _ _ _ h => h) (Or.inl ⟨by rfl, ?hy3x4⟩) hHeld ?rest3x4
      case hy3x4 => (intro w hSw; go_simp <;> with_reducible rfl)
      try simp only [Act.put, List.setIfInBounds_toArray, List.set_cons_zero, List.set_cons_succ]
      refine wpAnyH_take (i := 4) (oi := { dst := some 138, op := _, type := _, pos := _, after := _, guard := _ }) (v := ?v3x5) rfl (by kernel_rfl) (by kernel_rfl) (by kernel_rfl) (fun _ _ _ h => h) (Or.inl ⟨by rfl, ?hy3x5⟩) hHeld ?rest3x5
      case hy3x5 => (intro w hSw; go_simp <;> with_reducible rfl)
      try simp only [Act.put, List.setIfInBounds_toArray, List.set_cons_zero, List.set_cons_succ]
      refine wpAnyH_take (i := 5) (oi := { dst := some 139, op := _, type := _, pos := _, after := _, guard := _ }) (v := ?v3x6) rfl (by kernel_rfl) (by kernel_rfl) (by kernel_rfl) (fun _ _ _ h => h) (Or.inl ⟨by rfl, ?hy3x6⟩) hHeld ?rest3x6
      case hy3x6 => (intro w hSw; go_simp <;> with_reducible rfl)
      try simp only [Act.put, List.setIfInBounds_toArray, List.set_cons_zero, List.set_cons_succ]
      refine wpAnyH_take (i := 6) (oi := { dst := some 140, op := _, type := _, pos := _, after := _, guard := _ }) (v := ?v3x7) rfl (by kernel_rfl) (by kernel_rfl) (by kernel_rfl) (fun _ _ _ h => h) (Or.inl ⟨by rfl, ?hy3x7⟩) hHeld ?rest3x7
      case hy3x7 => (intro w hSw; go_simp <;> with_reducible rfl)
      try simp only [Act.put, List.setIfInBounds_toArray, List.set_cons_zero, List.set_cons_succ]
      refine wpAnyH_take (i := 7) (oi := { dst := some 141, op := _, type := _, pos := _, after := _, guard := _ }) (v := ?v3x8) rfl (by kernel_rfl) (by kernel_rfl) (by kernel_rfl) (fun _ _ _ h => h) (Or.inl ⟨by rfl, ?hy3x8⟩) hHeld ?rest3x8
      case hy3x8 => (intro w hSw; go_simp <;> with_reducible rfl)
      try simp only [Act.put, List.setIfInBounds_toArray, List.set_cons_zero, List.set_cons_succ]
      refine wpAnyH_take (i := 8) (oi := { dst := some 142, op := _, type := _, pos := _, after := _, guard := _ }) (v := ?v3x9) rfl (by kernel_rfl) (by kernel_rfl) (by kernel_rfl) (fun _ _ _ h => h) (Or.inl ⟨by rfl, ?hy3x9⟩) hHeld ?rest3x9
      case hy3x9 => (intro w hSw; go_simp <;> with_reducible rfl)
      try simp only [Act.put, List.setIfInBounds_toArray, List.set_cons_zero, List.set_cons_succ]
      refine wpAnyH_take (i := 9) (oi := { dst := some 143, op := _, type := _, pos := _, after := _, guard := _ }) (v := ?v3x10) rfl (by kernel_rfl) (by kernel_rfl) (by kernel_rfl) (fun _ _ _ h => h) (Or.inl ⟨by rfl, ?hy3x10⟩) hHeld ?rest3x10
      case hy3x10 => (intro w hSw; go_simp <;> with_reducible rfl)
      try simp only [Act.put, List.setIfInBounds_toArray, List.set_cons_zero, List.set_cons_succ]
      refine wpAnyH_take (i := 10) (oi := { dst := some 144, op := _, type := _, pos := _, after := _, guard := _ }) (v := ?v3x11) rfl (by kernel_rfl) (by kernel_rfl) (by kernel_rfl) (fun _ _ _ h => h) (Or.inl ⟨by rfl, ?hy3x11⟩) hHeld ?rest3x11
      case hy3x11 => (intro w hSw; go_simp <;> with_reducible rfl)
      try simp only [Act.put, List.setIfInBounds_toArray, List.set_cons_zero, List.set_cons_succ]
      refine wpAnyH_take (i := 11) (oi := { dst := some 145, op := _, type := _, pos := _, after := _, guard := _ }) (v := ?v3x12) rfl (by kernel_rfl) (by kernel_rfl) (by kernel_rfl) (fun _ _ _ h => h) (Or.inl ⟨by rfl, ?hy3x12⟩) hHeld ?rest3x12
      case hy3x12 => (intro w hSw; go_simp <;> with_reducible rfl)
      try simp only [Act.put, List.setIfInBounds_toArray, List.set_cons_zero, List.set_cons_succ]
      refine wpAnyH_take (i := 12) (oi := { dst := some 146, op := _, type := _, pos := _, after := _, guard := _ }) (v := ?v3x13) rfl (by kernel_rfl) (by kernel_rfl) (by kernel_rfl) (fun _ _ _ h => h) (Or.inl ⟨by rfl, ?hy3x13⟩) hHeld ?rest3x13
      case hy3x13 => (intro w hSw; go_simp <;> with_reducible rfl)
      try simp only [Act.put, List.setIfInBounds_toArray, List.set_cons_zero, List.set_cons_succ]
      refine wpAnyH_take (i := 13) (oi := { dst := some 147, op := _, type := _, pos := _, after := _, guard := _ }) (v := ?v3x14) rfl (by kernel_rfl) (by kernel_rfl) (by kernel_rfl) (fun _ _ _ h => h) (Or.inl ⟨by rfl, ?hy3x14⟩) hHeld ?rest3x14
      case hy3x14 => (intro w hSw; go_simp <;> with_reducible rfl)
      try simp only [Act.put, List.setIfInBounds_toArray, List.set_cons_zero, List.set_cons_succ]
      refine wpAnyH_take (i := 14) (oi := { dst := some 148, op := _, type := _, pos := _, after := _, guard := _ }) (v := ?v3x15) rfl (by kernel_rfl) (by kernel_rfl) (by kernel_rfl) (fun _ _ _ h => h) (Or.inl ⟨by rfl, ?hy3x15⟩) hHeld ?rest3x15
      case hy3x15 => (intro w hSw; go_simp <;> with_reducible rfl)
      try simp only [Act.put, List.setIfInBounds_toArray, List.set_cons_zero, List.set_cons_succ]
      refine wpAnyH_take (i := 15) (oi := { dst := some 149, op := _, type := _, pos := _, after := _, guard := _ }) (v := ?v3x16) rfl (by kernel_rfl) (by kernel_rfl) (by kernel_rfl) (fun _ _ _ h => h) (Or.inl ⟨by rfl, ?hy3x16⟩) hHeld ?rest3x16
      case hy3x16 => (intro w hSw; go_simp <;> with_reducible rfl)
      try simp only [Act.put, List.setIfInBounds_toArray, List.set_cons_zero, List.set_cons_succ]
      refine wpAnyH_take (i := 16) (oi := { dst := some 4, op := _, type := _, pos := _, after := _, guard := _ }) (v := ?v3x17) rfl (by kernel_rfl) (by kernel_rfl) (by kernel_rfl) (fun _ _ _ h => h) (Or.inl ⟨by rfl, ?hy3x17⟩) hHeld ?rest3x17
      case hy3x17 => (intro w hSw; go_simp <;> with_reducible rfl)
      try simp only [Act.put, List.setIfInBounds_toArray, List.set_cons_zero, List.set_cons_succ]
      refine wpAnyH_done (by kernel_rfl) ?_ _
      have L8 := hide (below_on L.out s8)
      clear s8 b8 hHeld cE cf
      go_wp2
      go_ret
      exact ⟨by simp, L8.out⟩
    · have q0 : (code != 0) = true := ne_bne h0
      have hY : ansL 6 a c vs t an o code us = [UInt8.ofNat (6 + 128), UInt8.ofNat code.toNat] := by simp [ansL, h0]
      rw [hY] at HB2
      have hcd : 1 ≤ code ∧ code ≤ 255 := by rcases hYc with h | h | h | h | h <;> omega
      have hv : ((UInt8.ofNat code.toNat).toNat : Int) = code := by simp only [UInt8.toNat_ofNat']; omega
      clear hY hYl hYh hYc h0
      go_wp2_with fail
      refine (HB2.out _ L.out).mono ?_
      rintro e w7 ⟨E, kE, rfl, lE, rE, b7⟩
      obtain ⟨bE, oE, rfl, hbE, _⟩ := rE.at_ (k := 0) (by simp)
      have cE := rE.on 0 (.int .u8 (6 + 128)) rfl
      have cF := rE.on 1 (.int .u8 code) (by rw [bv, List.map_cons, List.map_cons, hv]; rfl)
      rw [Nat.add_zero] at cE
      clear rE hbE hv
      have K' := hide (K.out.keep b7)
      have J' := hide (J.out.keep b7)
      have L' := hide (below_on L.out b7)
      clear k0 k1 k2 k3 k4 k5 k6 j0 j1 b7
      clear K J L
      have K := K'
      have J := J'
      have L := L'
      clear K' J' L'
      obtain ⟨k0, k1, k2, k3, k4, k5, k6⟩ := K.out.seven
      obtain ⟨j0, j1⟩ := J.out.two
      go_wp2_with fail
      have cf := K.out.on 0 _ rfl
      have cg := J.out.on 1 _ rfl
      clear k0 k1 k2 k3 k4 k5 k6 j0 j1
      have qw : IntKind.i64.wrap (6 + 128) = 6 + 128 := by decide
      have qc : IntKind.i64.wrap code = code := by rw [IntKind.wrap_i64]; omega
      refine wp_region_held_drew (S := fun w' => Below w7.heap.size w7 w') (by kernel_rfl) ?_ (fun hHeld => ?_)
      · exact (Below.refl _ _).drew
      refine wpAnyH_ready (rs := [0]) (by kernel_rfl) (by simp) (AllReadyH.cons (o := { dst := some 87, op := _, type := _, pos := _, after := _, guard := _ }) rfl (fun K hK => ?_) AllReadyH.nil)
      go_simp
      refine (awake3_any _).mono ?_
      rintro e w8 ⟨rfl, b8⟩
      have s8 := below_on hHeld b8
      go_wp2_with fail
      refine hK.out _ _ ?_ (fun hHeld => ?_)
      · exact s8
      clear hK K
      try simp only [Act.put, List.setIfInBounds_toArray, List.set_cons_zero, List.set_cons_succ]
      refine wpAnyH_take (i := 1) (oi := { dst := some 88, op := _, type := _, pos := _, after := _, guard := _ }) (v := ?v4x2) rfl (by kernel_rfl) (by kernel_rfl) (by kernel_rfl) (fun _ _ _ h => h) (Or.inl ⟨by rfl, ?hy4x2⟩) hHeld ?rest4x2
      case hy4x2 => (intro w hSw; go_simp <;> with_reducible rfl)
      try simp only [Act.put, List.setIfInBounds_toArray, List.set_cons_zero, List.set_cons_succ]
      refine wpAnyH_take (i := 2) (oi := { dst := some 89, op := _, type := _, pos := _, after := _, guard := _ }) (v := ?v4x3) rfl (by kernel_rfl) (by kernel_rfl) (by kernel_rfl) (fun _ _ _ h => h) (Or.inl ⟨by rfl, ?hy4x3⟩) hHeld ?rest4x3
      case hy4x3 => (intro w hSw; go_simp <;> with_reducible rfl)
      try simp only [Act.put, List.setIfInBounds_toArray, List.set_cons_zero, List.set_cons_succ]
      refine wpAnyH_take (i := 3) (oi := { dst := some 90, op := _, type := _, pos := _, after := _, guard := _ }) (v := ?v4x4) rfl (by kernel_rfl) (by kernel_rfl) (by kernel_rfl) (fun _ _ _ h => h) (Or.inl ⟨by rfl, ?hy4x4⟩) hHeld ?rest4x4
      case hy4x4 => (intro w hSw; go_simp <;> with_reducible rfl)
      try simp only [Act.put, List.setIfInBounds_toArray, List.set_cons_zero, List.set_cons_succ]
      refine wpAnyH_take (i := 4) (oi := { dst := some 91, op := _, type := _, pos := _, after := _, guard := _ }) (v := ?v4x5) rfl (by kernel_rfl) (by kernel_rfl) (by kernel_rfl) (fun _ _ _ h => h) (Or.inl ⟨by rfl, ?hy4x5⟩) hHeld ?rest4x5
      case hy4x5 => (intro w hSw; go_simp <;> with_reducible rfl)
      try simp only [Act.put, List.setIfInBounds_toArray, List.set_cons_zero, List.set_cons_succ]
      refine wpAnyH_take (i := 5) (oi := { dst := some 92, op := _, type := _, pos := _, after := _, guard := _ }) (v := ?v4x6) rfl (by kernel_rfl) (by kernel_rfl) (by kernel_rfl) (fun _ _ _ h => h) (Or.inl ⟨by rfl, ?hy4x6⟩) hHeld ?rest4x6
      case hy4x6 => (intro w hSw; go_simp <;> with_reducible rfl)
      try simp only [Act.put, List.setIfInBounds_toArray, List.set_cons_zero, List.set_cons_succ]
      refine wpAnyH_take (i := 6) (oi := { dst := some 93, op := _, type := _, pos := _, after := _, guard := _ }) (v := ?v4x7) rfl (by kernel_rfl) (by kernel_rfl) (by kernel_rfl) (fun _ _ _ h => h) (Or.inl ⟨by rfl, ?hy4x7⟩) hHeld ?rest4x7
      case hy4x7 => (intro w hSw; go_simp <;> with_reducible rfl)
      try simp only [Act.put, List.setIfInBounds_toArray, List.set_cons_zero, List.set_cons_succ]
      refine wpAnyH_take (i := 7) (oi := { dst := some 94, op := _, type := _, pos := _, after := _, guard := _ }) (v := ?v4x8) rfl (by kernel_rfl) (by kernel_rfl) (by kernel_rfl) (fun _ _ _ h => h) (Or.inl ⟨by rfl, ?hy4x8⟩) hHeld ?rest4x8
      case hy4x8 => (intro w hSw; go_simp <;> with_reducible rfl)
      try simp only [Act.put, List.setIfInBounds_toArray, List.set_cons_zero, List.set_cons_succ]
      refine wpAnyH_take (i := 8) (oi := { dst := some 95, op := _, type := _, pos := _, after := _, guard := _ }) (v := ?v4x9) rfl (by kernel_rfl) (by kernel_rfl) (by kernel_rfl) (fun _ _ _ h => h) (Or.inl ⟨by rfl, ?hy4x9⟩) hHeld ?rest4x9
      case hy4x9 => (intro w hSw; go_simp <;> with_reducible rfl)
      try simp only [Act.put, List.setIfInBounds_toArray, List.set_cons_zero, List.set_cons_succ]
      refine wpAnyH_take (i := 9) (oi := { dst := some 96, op := _, type := _, pos := _, after := _, guard := _ }) (v := ?v4x10) rfl (by kernel_rfl) (by kernel_rfl) (by kernel_rfl) (fun _ _ _ h => h) (Or.inl ⟨by rfl, ?hy4x10⟩) hHeld ?rest4x10
      case hy4x10 => (intro w hSw; go_simp <;> with_reducible rfl)
      try simp only [Act.put, List.setIfInBounds_toArray, List.set_cons_zero, List.set_cons_succ]
      refine wpAnyH_take (i := 10) (oi := { dst := some 97, op := _, type := _, pos := _, after := _, guard := _ }) (v := ?v4x11) rfl (by kernel_rfl) (by kernel_rfl) (by kernel_rfl) (fun _ _ _ h => h) (Or.inl ⟨by rfl, ?hy4x11⟩) hHeld ?rest4x11
      case hy4x11 => (intro w hSw; go_simp <;> with_reducible rfl)
      try simp only [Act.put, List.setIfInBounds_toArray, List.set_cons_zero, List.set_cons_succ]
      refine wpAnyH_take (i := 11) (oi := { dst := some 98, op := _, type := _, pos := _, after := _, guard := _ }) (v := ?v4x12) rfl (by kernel_rfl) (by kernel_rfl) (by kernel_rfl) (fun _ _ _ h => h) (Or.inl ⟨by rfl, ?hy4x12⟩) hHeld ?rest4x12
      case hy4x12 => (intro w hSw; go_simp <;> with_reducible rfl)
      try simp only [Act.put, List.setIfInBounds_toArray, List.set_cons_zero, List.set_cons_succ]
      refine wpAnyH_take (i := 12) (oi := { dst := some 99, op := _, type := _, pos := _, after := _, guard := _ }) (v := ?v4x13) rfl (by kernel_rfl) (by kernel_rfl) (by kernel_rfl) (fun _ _ _ h => h) (Or.inl ⟨by rfl, ?hy4x13⟩) hHeld ?rest4x13
      case hy4x13 => (intro w hSw; go_simp <;> with_reducible rfl)
      try simp only [Act.put, List.setIfInBounds_toArray, List.set_cons_zero, List.set_cons_succ]
      refine wpAnyH_take (i := 13) (oi := { dst := some 100, op := _, type := _, pos := _, after := _, guard := _ }) (v := ?v4x14) rfl (by kernel_rfl) (by kernel_rfl) (by kernel_rfl) (fun _ _ _ h => h) (Or.inl ⟨by rfl, ?hy4x14⟩) hHeld ?rest4x14
      case hy4x14 => (intro w hSw; go_simp <;> with_reducible rfl)
      try simp only [Act.put, List.setIfInBounds_toArray, List.set_cons_zero, List.set_cons_succ]
      refine wpAnyH_take (i := 14) (oi := { dst := some 101, op := _, type := _, pos := _, after := _, guard := _ }) (v := ?v4x15) rfl (by kernel_rfl) (by kernel_rfl) (by kernel_rfl) (fun _ _ _ h => h) (Or.inl ⟨by rfl, ?hy4x15⟩) hHeld ?rest4x15
      case hy4x15 => (intro w hSw; go_simp <;> with_reducible rfl)
      try simp only [Act.put, List.setIfInBounds_toArray, List.set_cons_zero, List.set_cons_succ]
      refine wpAnyH_take (i := 15) (oi := { dst := some 102, op := _, type := _, pos := _, after := _, guard := _ }) (v := ?v4x16) rfl (by kernel_rfl) (by kernel_rfl) (by kernel_rfl) (fun _ _ _ h => h) (Or.inl ⟨by rfl, ?hy4x16⟩) hHeld ?rest4x16
      case hy4x16 => (intro w hSw; go_simp <;> with_reducible rfl)
      try simp only [Act.put, List.setIfInBounds_toArray, List.set_cons_zero, List.set_cons_succ]
      refine wpAnyH_take (i := 16) (oi := { dst := some 103, op := _, type := _, pos := _, after := _, guard := _ }) (v := ?v4x17) rfl (by kernel_rfl) (by kernel_rfl) (by kernel_rfl) (fun _ _ _ h => h) (Or.inl ⟨by rfl, ?hy4x17⟩) hHeld ?rest4x17
      case hy4x17 => (intro w hSw; go_simp <;> with_reducible rfl)
      try simp only [Act.put, List.setIfInBounds_toArray, List.set_cons_zero, List.set_cons_succ]
      refine wpAnyH_take (i := 17) (oi := { dst := some 104, op := _, type := _, pos := _, after := _, guard := _ }) (v := ?v4x18) rfl (by kernel_rfl) (by kernel_rfl) (by kernel_rfl) (fun _ _ _ h => h) (Or.inl ⟨by rfl, ?hy4x18⟩) hHeld ?rest4x18
      case hy4x18 => (intro w hSw; go_simp <;> with_reducible rfl)
      try simp only [Act.put, List.setIfInBounds_toArray, List.set_cons_zero, List.set_cons_succ]
      refine wpAnyH_take (i := 18) (oi := { dst := some 105, op := _, type := _, pos := _, after := _, guard := _ }) (v := ?v4x19) rfl (by kernel_rfl) (by kernel_rfl) (by kernel_rfl) (fun _ _ _ h => h) (Or.inl ⟨by rfl, ?hy4x19⟩) hHeld ?rest4x19
      case hy4x19 => (intro w hSw; go_simp <;> with_reducible rfl)
      try simp only [Act.put, List.setIfInBounds_toArray, List.set_cons_zero, List.set_cons_succ]
      refine wpAnyH_take (i := 19) (oi := { dst := some 106, op := _, type := _, pos := _, after := _, guard := _ }) (v := ?v4x20) rfl (by kernel_rfl) (by kernel_rfl) (by kernel_rfl) (fun _ _ _ h => h) (Or.inl ⟨by rfl, ?hy4x20⟩) hHeld ?rest4x20
      case hy4x20 => (intro w hSw; go_simp <;> with_reducible rfl)
      try simp only [Act.put, List.setIfInBounds_toArray, List.set_cons_zero, List.set_cons_succ]
      refine wpAnyH_take (i := 20) (oi := { dst := some 107, op := _, type := _, pos := _, after := _, guard := _ }) (v := ?v4x21) rfl (by kernel_rfl) (by kernel_rfl) (by kernel_rfl) (fun _ _ _ h => h) (Or.inl ⟨by rfl, ?hy4x21⟩) hHeld ?rest4x21
      case hy4x21 => (intro w hSw; go_simp <;> with_reducible rfl)
      try simp only [Act.put, List.setIfInBounds_toArray, List.set_cons_zero, List.set_cons_succ]
      refine wpAnyH_take (i := 21) (oi := { dst := some 108, op := _, type := _, pos := _, after := _, guard := _ }) (v := ?v4x22) rfl (by kernel_rfl) (by kernel_rfl) (by kernel_rfl) (fun _ _ _ h => h) (Or.inl ⟨by rfl, ?hy4x22⟩) hHeld ?rest4x22
      case hy4x22 => (intro w hSw; go_simp <;> with_reducible rfl)
      try simp only [Act.put, List.setIfInBounds_toArray, List.set_cons_zero, List.set_cons_succ]
      refine wpAnyH_take (i := 22) (oi := { dst := some 109, op := _, type := _, pos := _, after := _, guard := _ }) (v := ?v4x23) rfl (by kernel_rfl) (by kernel_rfl) (by kernel_rfl) (fun _ _ _ h => h) (Or.inl ⟨by rfl, ?hy4x23⟩) hHeld ?rest4x23
      case hy4x23 => (intro w hSw; go_simp <;> with_reducible rfl)
      try simp only [Act.put, List.setIfInBounds_toArray, List.set_cons_zero, List.set_cons_succ]
      refine wpAnyH_take (i := 23) (oi := { dst := some 110, op := _, type := _, pos := _, after := _, guard := _ }) (v := ?v4x24) rfl (by kernel_rfl) (by kernel_rfl) (by kernel_rfl) (fun _ _ _ h => h) (Or.inl ⟨by rfl, ?hy4x24⟩) hHeld ?rest4x24
      case hy4x24 => (intro w hSw; go_simp <;> with_reducible rfl)
      try simp only [Act.put, List.setIfInBounds_toArray, List.set_cons_zero, List.set_cons_succ]
      refine wpAnyH_take (i := 24) (oi := { dst := some 111, op := _, type := _, pos := _, after := _, guard := _ }) (v := ?v4x25) rfl (by kernel_rfl) (by kernel_rfl) (by kernel_rfl) (fun _ _ _ h => h) (Or.inl ⟨by rfl, ?hy4x25⟩) hHeld ?rest4x25
      case hy4x25 => (intro w hSw; go_simp <;> with_reducible rfl)
      try simp only [Act.put, List.setIfInBounds_toArray, List.set_cons_zero, List.set_cons_succ]
      refine wpAnyH_take (i := 25) (oi := { dst := some 4, op := _, type := _, pos := _, after := _, guard := _ }) (v := ?v4x26) rfl (by kernel_rfl) (by kernel_rfl) (by kernel_rfl) (fun _ _ _ h => h) (Or.inl ⟨by rfl, ?hy4x26⟩) hHeld ?rest4x26
      case hy4x26 => (intro w hSw; go_simp <;> with_reducible rfl)
      try simp only [Act.put, List.setIfInBounds_toArray, List.set_cons_zero, List.set_cons_succ]
      refine wpAnyH_done (by kernel_rfl) ?_ _
      have L8 := hide (below_on L.out s8)
      clear s8 b8 hHeld cE cf
      go_wp2
      go_ret
      exact ⟨by simp, L8.out⟩

end Go.Proofs.Ytemlfhoejelgbaa
