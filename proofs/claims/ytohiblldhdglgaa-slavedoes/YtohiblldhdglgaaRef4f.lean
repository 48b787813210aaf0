/-
  What is proved here: what the document's own Do of layer 4 does for a request that masks. Conditions: a slave that lies in memory, its rows words; a request that may be.
-/
import Derived.Test.YtohiblldhdglgaaRef4e
namespace Go.Proofs.Ytohiblldhdglgaa
set_option linter.unusedVariables false
set_option linter.unusedSimpArgs false
open Go.RowKit

set_option maxRecDepth 100000 in
set_option maxHeartbeats 2000000 in
theorem rDo_22 (lo hi g : Nat) (b : Nat → Nat) (R : Nat → List Int) (a t an o : Int) (A : Option Addr) (k : Nat) (vs : List Int) (w : World) (h : SlA 50 lo hi w g b R) (hw : wellR R) (hv : Rd w A 0 (iv vs)) (hM : mayB 22 a 0 vs t an o = true) :
    Calls Try.prog 14 #[.pointer (some ⟨g, 0, none⟩), .agg #[.int .i64 22, .int .i64 a, .int .i64 0, .slice A 0 k, .int .i64 t, .int .i64 an, .int .i64 o]] w (RetRDo lo hi g b R 22 a 0 vs t an o w) := by
  have hl : vs.length = 0 := by rw [← iv_length]; exact hv.1
  have HL := hide hl
  have hG := goes_wr (R := R) hl hM (by omega)
  obtain ⟨ha, han, ho⟩ := may_mask hM
  obtain ⟨at_, rfl⟩ : ∃ m : Nat, a = (m : Int) := ⟨a.toNat, by omega⟩
  obtain ⟨an, rfl⟩ : ∃ m : Nat, an = (m : Int) := ⟨an.toNat, by omega⟩
  obtain ⟨o, rfl⟩ : ∃ m : Nat, o = (m : Int) := ⟨o.toNat, by omega⟩
  have hat : at_ ≤ 65535 := by omega
  have H1 := hide h
  have HM := hide hM
  rw [show max 0 1 = 1 by omega] at hG
  simp at hG
  have HHn := hide (fun W (h : SlA 50 lo hi W g b R) => rHas_any lo hi g b R 3 (at_ : Int) W h)
  cases hB : hasB R 3 (at_ : Int) 1
  · rw [hB] at hG HHn
    have HG := hide hG
    clear hG hB h hv hM hl
    go_enter Try.func14, Try.ntmps14
    go_wp2_with fail
    generalize hV : (w.alloc (.cells #[.int .i64 22, .int .i64 (at_ : Int), .int .i64 0, .slice A 0 k, .int .i64 t, .int .i64 an, .int .i64 o] 34)).alloc (.cells #[.slice none 0 0, .int .i64 0] 38) = V
    obtain ⟨hB1, hB2, hBel, hsz⟩ := two_boxes w [.int .i64 22, .int .i64 (at_ : Int), .int .i64 0, .slice A 0 k, .int .i64 t, .int .i64 an, .int .i64 o] [.slice none 0 0, .int .i64 0] 34 38 V hV.symm
    clear hV
    have K1 := hide hB1
    have J1 := hide hB2
    have L1 := hide hBel
    have S1 := hide (H1.out.keep hBel)
    clear hB1 hB2 hBel hsz
    refine (HHn.out _ S1.out).mono ?_
    rintro e w1 ⟨rfl, rfl⟩
    obtain ⟨j0, j1⟩ := J1.out.two
    have jf := J1.out.frozen
    have hz := J1.out.lt
    go_wp2_with fail
    (try simp only [Exit.inBlock, Exit.then])
    refine bodyPost_ret (results_cell (a := 4) rfl rfl (J1.out.set2 (.slice none 0 0) (.int .i64 2)) Try.underlying38 rfl (by kernel_rfl)) rfl ?_
    refine RetRDo.no (by rw [HL.out]; exact HG.out) (S1.out.out ((Oth.setCell (g := w.heap.size + 1) _ _).trans (Oth.setCell _ _)) (Or.inl (by have := H1.out.hi; omega))) ?_
    exact ((Oth.ofBelow L1.out lo hi).setNew (by omega)).setNew (by omega)
  · rw [hB] at hG HHn
    have hy := hasB_yes hB
    rw [show rowL R 3 = R 2 from rowL_kind R 2 (by omega)] at hy
    have HG := hide hG
    have hlt : at_ < (R 2).length := by omega
    have hx := (hw 2 (by omega)).2 _ (List.getElem_mem hlt)
    obtain ⟨x, ex⟩ : ∃ x : Nat, (R 2)[at_] = (x : Int) := ⟨((R 2)[at_]).toNat, by omega⟩
    have HX := hide ex
    have hx2 : x ≤ 65535 := by omega
    have HMk := hide (fun W => rMask_any x an o hx2 (by omega) (by omega) W)
    have HW : Hid (∀ (G : Nat) W, SlA 50 lo hi W g b R → Blk W G 3 [.int .i64 (maskI x an o)] → hi ≤ G → Calls Try.prog 33 #[.pointer (some ⟨g, 0, none⟩), .int .i64 3, .int .i64 (at_ : Int), .slice (some ⟨G, 0, none⟩) 1 1] W fun e w' =>
      e = .returned (.tuple #[]) ∧ SlA 50 lo hi w' g b (upd R 2 (over (R 2) at_ [maskI x an o])) ∧ Oth lo hi W w') := hide (fun G W h hr hG => rWrite_any lo hi g b R 2 at_ (by omega) (some ⟨G, 0, none⟩) 1 1 [maskI x an o] W h hr.rd (fun b' o' e' => by injection e' with e'; injection e' with e1 _ _; omega) (by omega) (hw 2 (by omega)).1)
    have HN : Hid (nextR R 22 (at_ : Int) vs t (an : Int) (o : Int) = upd R 2 (over (R 2) at_ [maskI x an o])) := by
      show _ = _
      have r2 : rowL R 3 = R 2 := rowL_kind R 2 (by omega)
      simp [nextR, newV, r2, List.getElem?_eq_getElem hlt, HX.out]
    have hhi := H1.out.hi
    have hL := (hw 2 (by omega)).1
    have HLT := hide hlt
    generalize maskI x an o = y at *
    clear hG hB h hv hM hl hy ex hx
    go_enter Try.func14, Try.ntmps14
    go_wp2_with fail
    generalize hV : (w.alloc (.cells #[.int .i64 22, .int .i64 (at_ : Int), .int .i64 0, .slice A 0 k, .int .i64 t, .int .i64 an, .int .i64 o] 34)).alloc (.cells #[.slice none 0 0, .int .i64 0] 38) = V
    obtain ⟨hB1, hB2, hBel, hsz⟩ := two_boxes w [.int .i64 22, .int .i64 (at_ : Int), .int .i64 0, .slice A 0 k, .int .i64 t, .int .i64 an, .int .i64 o] [.slice none 0 0, .int .i64 0] 34 38 V hV.symm
    clear hV
    have K1 := hide hB1
    have J1 := hide hB2
    have L1 := hide hBel
    have S1 := hide (H1.out.keep hBel)
    clear hB1 hB2 hBel hsz
    refine (HHn.out _ S1.out).mono ?_
    rintro e w1 ⟨rfl, rfl⟩
    obtain ⟨k0, k1, k2, k3, k4, k5, k6⟩ := K1.out.seven
    go_wp2_with fail
    clear k0 k1 k2 k3 k4 k5 k6
    have c0 : ∀ w', Below V.heap.size V w' → w'.cell? ⟨g, 2, none⟩ = some (.slice (some ⟨b 2, 0, none⟩) (R 2).length (R 2).length) := fun w' bl => (S1.out.keep bl).cellk 2 (by omega)
    have c1 : ∀ w', Below V.heap.size V w' → w'.cell? ⟨b 2, at_, none⟩ = some (.int .i64 (x : Int)) := fun w' bl => by rw [((S1.out.keep bl).row 2 (by omega)).cell, iv_get _ _ HLT.out, HX.out]
    have k5 : ∀ w', Below V.heap.size V w' → w'.cell? ⟨w.heap.size, 5, none⟩ = some (.int .i64 (an : Int)) := fun w' bl => (K1.out.keep bl).cell 5
    have k6 : ∀ w', Below V.heap.size V w' → w'.cell? ⟨w.heap.size, 6, none⟩ = some (.int .i64 (o : Int)) := fun w' bl => (K1.out.keep bl).cell 6
    have qb : (at_ : Int) < ((R 2).length : Int) := by have := HLT.out; omega
    refine wp_region_held_drew (S := fun w' => Below V.heap.size V w') (by kernel_rfl) ?_ (fun hHeld => ?_)
    · exact (Below.refl _ _).drew
    refine wpAnyH_take (i := 0) (oi := { dst := some 67, op := _, type := _, pos := _, after := _, guard := _ }) (v := ?v1x1) rfl (by kernel_rfl) (by kernel_rfl) (by kernel_rfl) (fun _ _ _ h => h) (Or.inl ⟨by rfl, ?hy1x1⟩) hHeld ?rest1x1
    case hy1x1 => (intro w hSw; go_simp <;> with_reducible rfl)
    try simp only [Act.put, List.setIfInBounds_toArray, List.set_cons_zero, List.set_cons_succ]
    refine wpAnyH_take (i := 1) (oi := { dst := some 68, op := _, type := _, pos := _, after := _, guard := _ }) (v := ?v1x2) rfl (by kernel_rfl) (by kernel_rfl) (by kernel_rfl) (fun _ _ _ h => h) (Or.inl ⟨by rfl, ?hy1x2⟩) hHeld ?rest1x2
    case hy1x2 => (intro w hSw; go_simp <;> with_reducible rfl)
    try simp only [Act.put, List.setIfInBounds_toArray, List.set_cons_zero, List.set_cons_succ]
    refine wpAnyH_take (i := 2) (oi := { dst := some 69, op := _, type := _, pos := _, after := _, guard := _ }) (v := ?v1x3) rfl (by kernel_rfl) (by kernel_rfl) (by kernel_rfl) (fun _ _ _ h => h) (Or.inl ⟨by rfl, ?hy1x3⟩) hHeld ?rest1x3
    case hy1x3 => (intro w hSw; go_simp <;> with_reducible rfl)
    try simp only [Act.put, List.setIfInBounds_toArray, List.set_cons_zero, List.set_cons_succ]
    refine wpAnyH_take (i := 3) (oi := { dst := some 70, op := _, type := _, pos := _, after := _, guard := _ }) (v := ?v1x4) rfl (by kernel_rfl) (by kernel_rfl) (by kernel_rfl) (fun _ _ _ h => h) (Or.inl ⟨by rfl, ?hy1x4⟩) hHeld ?rest1x4
    case hy1x4 => (intro w hSw; go_simp <;> with_reducible rfl)
    try simp only [Act.put, List.setIfInBounds_toArray, List.set_cons_zero, List.set_cons_succ]
    refine wpAnyH_take (i := 4) (oi := { dst := some 71, op := _, type := _, pos := _, after := _, guard := _ }) (v := ?v1x5) rfl (by kernel_rfl) (by kernel_rfl) (by kernel_rfl) (fun _ _ _ h => h) (Or.inl ⟨by rfl, ?hy1x5⟩) hHeld ?rest1x5
    case hy1x5 => (intro w hSw; go_simp <;> with_reducible rfl)
    try simp only [Act.put, List.setIfInBounds_toArray, List.set_cons_zero, List.set_cons_succ]
    refine wpAnyH_take (i := 5) (oi := { dst := some 72, op := _, type := _, pos := _, after := _, guard := _ }) (v := ?v1x6) rfl (by kernel_rfl) (by kernel_rfl) (by kernel_rfl) (fun _ _ _ h => h) (Or.inl ⟨by rfl, ?hy1x6⟩) hHeld ?rest1x6
    case hy1x6 => (intro w hSw; go_simp <;> with_reducible rfl)
    try simp only [Act.put, List.setIfInBounds_toArray, List.set_cons_zero, List.set_cons_succ]
    refine wpAnyH_take (i := 6) (oi := { dst := some 73, op := _, type := _, pos := _, after := _, guard := _ }) (v := ?v1x7) rfl (by kernel_rfl) (by kernel_rfl) (by kernel_rfl) (fun _ _ _ h => h) (Or.inl ⟨by rfl, ?hy1x7⟩) hHeld ?rest1x7
    case hy1x7 => (intro w hSw; go_simp <;> with_reducible rfl)
    try simp only [Act.put, List.setIfInBounds_toArray, List.set_cons_zero, List.set_cons_succ]
    refine wpAnyH_take (i := 7) (oi := { dst := some 74, op := _, type := _, pos := _, after := _, guard := _ }) (v := ?v1x8) rfl (by kernel_rfl) (by kernel_rfl) (by kernel_rfl) (fun _ _ _ h => h) (Or.inl ⟨by rfl, ?hy1x8⟩) hHeld ?rest1x8
    case hy1x8 => (intro w hSw; go_simp <;> with_reducible rfl)
    try simp only [Act.put, List.setIfInBounds_toArray, List.set_cons_zero, List.set_cons_succ]
    refine wpAnyH_take (i := 8) (oi := { dst := some 75, op := _, type := _, pos := _, after := _, guard := _ }) (v := ?v1x9) rfl (by kernel_rfl) (by kernel_rfl) (by kernel_rfl) (fun _ _ _ h => h) (Or.inl ⟨by rfl, ?hy1x9⟩) hHeld ?rest1x9
    case hy1x9 => (intro w hSw; go_simp <;> with_reducible rfl)
    try simp only [Act.put, List.setIfInBounds_toArray, List.set_cons_zero, List.set_cons_succ]
    refine wpAnyH_take (i := 9) (oi := { dst := some 76, op := _, type := _, pos := _, after := _, guard := _ }) (v := ?v1x10) rfl (by kernel_rfl) (by kernel_rfl) (by kernel_rfl) (fun _ _ _ h => h) (Or.inl ⟨by rfl, ?hy1x10⟩) hHeld ?rest1x10
    case hy1x10 => (intro w hSw; go_simp <;> with_reducible rfl)
    try simp only [Act.put, List.setIfInBounds_toArray, List.set_cons_zero, List.set_cons_succ]
    refine wpAnyH_take (i := 10) (oi := { dst := some 77, op := _, type := _, pos := _, after := _, guard := _ }) (v := ?v1x11) rfl (by kernel_rfl) (by kernel_rfl) (by kernel_rfl) (fun _ _ _ h => h) (Or.inl ⟨by rfl, ?hy1x11⟩) hHeld ?rest1x11
    case hy1x11 => (intro w hSw; go_simp <;> with_reducible rfl)
    try simp only [Act.put, List.setIfInBounds_toArray, List.set_cons_zero, List.set_cons_succ]
    refine wpAnyH_take (i := 11) (oi := { dst := some 78, op := _, type := _, pos := _, after := _, guard := _ }) (v := ?v1x12) rfl (by kernel_rfl) (by kernel_rfl) (by kernel_rfl) (fun _ _ _ h => h) (Or.inl ⟨by rfl, ?hy1x12⟩) hHeld ?rest1x12
    case hy1x12 => (intro w hSw; go_simp <;> with_reducible rfl)
    try simp only [Act.put, List.setIfInBounds_toArray, List.set_cons_zero, List.set_cons_succ]
    refine wpAnyH_ready (rs := [12]) (by kernel_rfl) (by simp) (AllReadyH.cons (o := { dst := some 79, op := _, type := _, pos := _, after := _, guard := _ }) rfl (fun K hK => ?_) AllReadyH.nil)
    go_simp
    refine (HMk.out _).mono ?_
    rintro e U ⟨rfl, bU⟩
    have B1 := hide (below_on hHeld bU)
    clear bU
    go_wp2_with fail
    refine hK.out _ _ ?_ (fun hHeld => ?_)
    · exact B1.out
    clear hK K
    try simp only [Act.put, List.setIfInBounds_toArray, List.set_cons_zero, List.set_cons_succ]
    refine wpAnyH_ready (rs := [13]) (by kernel_rfl) (by simp) (AllReadyH.cons (o := { dst := some 80, op := _, type := _, pos := _, after := _, guard := _ }) rfl (fun K hK => ?_) AllReadyH.nil)
    go_simp
    go_wp2_with fail
    refine hK.out _ _ ?_ (fun hHeld => ?_)
    · exact hHeld.alloc hHeld.size _
    clear hK K
    try simp only [Act.put, List.setIfInBounds_toArray, List.set_cons_zero, List.set_cons_succ]
    refine wpAnyH_take (i := 14) (oi := { dst := some 8, op := _, type := _, pos := _, after := _, guard := _ }) (v := ?v1x15) rfl (by kernel_rfl) (by kernel_rfl) (by kernel_rfl) (fun _ _ _ h => h) (Or.inl ⟨by rfl, ?hy1x15⟩) hHeld ?rest1x15
    case hy1x15 => (intro w hSw; go_simp <;> with_reducible rfl)
    try simp only [Act.put, List.setIfInBounds_toArray, List.set_cons_zero, List.set_cons_succ]
    refine wpAnyH_done (by kernel_rfl) ?_ _
    clear c0 c1 k5 k6
    have gU := hide (Nat.le_trans hhi (Nat.le_trans L1.out.size B1.out.size))
    go_wp2_with fail
    generalize hV : U.alloc _ = V2
    obtain ⟨zV, bV⟩ := box1 U 3 [.int .i64 y] V2 hV.symm
    have L2 := hide (below_on B1.out bV)
    have Zy := hide zV
    clear hV zV bV hHeld
    refine (HW.out U.heap.size V2 (S1.out.keep L2.out) Zy.out gU.out).mono ?_
    rintro e w2 ⟨rfl, s2, o2⟩
    have S2 := hide s2
    have K2 := hide ((K1.out.keep L2.out).out o2 (Or.inr hhi))
    have J2 := hide ((J1.out.keep L2.out).out o2 (Or.inr (by omega)))
    have O2 := hide (Oth.after (below_on L1.out L2.out) o2)
    clear s2 o2 K1 J1 L1 S1 L2 Zy
    go_wp2_with fail
    generalize hV : w2.alloc _ = V3
    obtain ⟨zV, bV⟩ := box2 w2 _ _ _ V3 hV.symm
    have Z3 := hide zV
    have S3 := hide (S2.out.keep bV)
    have K3 := hide (K2.out.keep bV)
    have J3 := hide (J2.out.keep bV)
    have O3 := hide (O2.out.on bV)
    have G3 := hide (show w.heap.size + 1 < w2.heap.size from J2.out.lt)
    clear hV zV bV
    go_loopw [10] (fun x wr => x = .int .i64 0 ∧ wr = V3) (fun _ _ => 0)
    case atStart => exact ⟨rfl, rfl⟩
    case round =>
      obtain ⟨rfl, rfl⟩ := hrel
      obtain ⟨k0, k1, k2, k3, k4, k5, k6⟩ := K3.out.seven
      obtain ⟨j0, j1⟩ := J3.out.two
      obtain ⟨z0, z1⟩ := Z3.out.two
      have jf := J3.out.frozen
      have hz := J3.out.lt
      have hne := G3.out
      go_wp2_with fail
      (try simp only [Exit.inBlock, Exit.then])
      refine bodyPost_ret (results_cell (a := 4) rfl rfl (J3.out.set2 (.slice none 0 0) (.int .i64 0)) Try.underlying38 rfl (by kernel_rfl)) rfl ?_
      refine RetRDo.wr (by rw [HL.out]; exact HG.out) (by omega) ?_ ?_
      · rw [HN.out]
        exact S3.out.out ((Oth.setCell (g := w.heap.size + 1) (i := 0) wr (.slice none 0 0)).trans (Oth.setCell (i := 1) _ (.int .i64 0))) (Or.inl (by omega))
      · exact (O3.out.setNew (by omega)).setNew (by omega)

end Go.Proofs.Ytohiblldhdglgaa
