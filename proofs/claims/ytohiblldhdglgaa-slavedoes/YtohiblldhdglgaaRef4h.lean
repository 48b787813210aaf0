/-
  What is proved here: what the document's own Do of layer 4 does for requests that write and read, and for any that may be. Conditions: a slave that lies in memory, its rows words; a request that may be, its values elsewhere.
-/
import Derived.Test.YtohiblldhdglgaaRef4g
namespace Go.Proofs.Ytohiblldhdglgaa
set_option linter.unusedVariables false
set_option linter.unusedSimpArgs false
open Go.RowKit


set_option maxRecDepth 100000 in
set_option maxHeartbeats 4000000 in
theorem rDo_23 (lo hi g : Nat) (b : Nat → Nat) (R : Nat → List Int) (a c t an o : Int) (A : Option Addr) (n k : Nat) (vs : List Int) (w : World) (h : SlA 50 lo hi w g b R) (hw : wellR R) (hv : Rd w A n (iv vs)) (hA : OutA lo hi A) (hn : n ≤ 1000000) (hM : mayB 23 a c vs t an o = true) :
    Calls Try.prog 14 #[.pointer (some ⟨g, 0, none⟩), .agg #[.int .i64 23, .int .i64 a, .int .i64 c, .slice A n k, .int .i64 t, .int .i64 an, .int .i64 o]] w (RetRDo lo hi g b R 23 a c vs t an o w) := by
  have hl : vs.length = n := by rw [← iv_length]; exact hv.1
  have HL := hide hl
  have ha := may_addr hM
  have hat2 := ha.2.2 rfl
  have hc := (may_count hM).1 (by omega)
  have h1 := may_one hM (by omega) (by omega)
  obtain ⟨at_, rfl⟩ : ∃ m : Nat, a = (m : Int) := ⟨a.toNat, by omega⟩
  obtain ⟨cnt, rfl⟩ : ∃ m : Nat, c = (m : Int) := ⟨c.toNat, by omega⟩
  obtain ⟨to_, rfl⟩ : ∃ m : Nat, t = (m : Int) := ⟨t.toNat, by omega⟩
  have hat : at_ ≤ 65535 := by omega
  have hto : to_ ≤ 65535 := by omega
  have hcn : 1 ≤ cnt ∧ cnt ≤ 2000 := by omega
  have hn1 : 1 ≤ n := by omega
  have qm : ¬ ((n : Int) < 1) := by omega
  have HGE : Hid (goesB R 23 (at_ : Int) (cnt : Int) ((vs.length : Nat) : Int) (to_ : Int) = (hasB R 3 ((at_ : Int) + (cnt : Int) - 1) 1 && hasB R 3 ((to_ : Int) + (n : Int) - 1) 1)) := by
    show _ = _
    rw [has_end R _ _ _ (by omega) (by omega), has_end R _ _ _ (by omega) (by omega)]
    unfold goesB
    rw [hl]
    simp [rdS, wrS]
  have HN : Hid (nextR R 23 (at_ : Int) vs (to_ : Int) an o = upd R 2 (over (R 2) to_ vs)) := by
    show _ = _
    simp [nextR]
  have HVL : Hid (valsL (upd R 2 (over (R 2) to_ vs)) 23 (at_ : Int) (cnt : Int) = (((upd R 2 (over (R 2) to_ vs)) 2).drop at_).take cnt) := by
    show _ = _
    unfold valsL
    have e1 : rdS 23 (at_ : Int) (cnt : Int) = (3, (at_ : Int), (cnt : Int)) := by simp [rdS]
    rw [e1]
    simp only [show rowL (upd R 2 (over (R 2) to_ vs)) 3 = (upd R 2 (over (R 2) to_ vs)) 2 from rowL_kind _ 2 (by omega), Int.toNat_natCast]
  have H1 := hide h
  have HV := hide hv
  have HA := hide hA
  have hhi := h.hi
  have HH1 := hide (fun W (h : SlA 50 lo hi W g b R) => rHas_any lo hi g b R 3 ((at_ : Int) + (cnt : Int) - 1) W h)
  have HH2 := hide (fun W (h : SlA 50 lo hi W g b R) => rHas_any lo hi g b R 3 ((to_ : Int) + (n : Int) - 1) W h)
  cases hB : hasB R 3 ((at_ : Int) + (cnt : Int) - 1) 1
  · rw [hB] at HGE HH1
    rw [Bool.false_and] at HGE
    clear hB h hv hM hl hA h1 HH2
    go_enter Try.func14, Try.ntmps14
    go_wp2_with fail
    generalize hV : (w.alloc (.cells #[.int .i64 23, .int .i64 (at_ : Int), .int .i64 (cnt : Int), .slice A n k, .int .i64 (to_ : Int), .int .i64 an, .int .i64 o] 34)).alloc (.cells #[.slice none 0 0, .int .i64 0] 38) = V
    obtain ⟨hB1, hB2, hBel, hsz⟩ := two_boxes w [.int .i64 23, .int .i64 (at_ : Int), .int .i64 (cnt : Int), .slice A n k, .int .i64 (to_ : Int), .int .i64 an, .int .i64 o] [.slice none 0 0, .int .i64 0] 34 38 V hV.symm
    clear hV
    have K1 := hide hB1
    have J1 := hide hB2
    have L1 := hide hBel
    have S1 := hide (H1.out.keep hBel)
    clear hB1 hB2 hBel hsz
    refine (HH1.out _ S1.out).mono ?_
    rintro e w1 ⟨rfl, rfl⟩
    obtain ⟨j0, j1⟩ := J1.out.two
    obtain ⟨k0, k1, k2, k3, k4, k5, k6⟩ := K1.out.seven
    have jf := J1.out.frozen
    have hz := J1.out.lt
    go_wp2_with fail
    (try simp only [Exit.inBlock, Exit.then])
    refine bodyPost_ret (results_cell (a := 4) rfl rfl (J1.out.set2 (.slice none 0 0) (.int .i64 2)) Try.underlying38 rfl (by kernel_rfl)) rfl ?_
    refine RetRDo.no HGE.out (S1.out.out ((Oth.setCell (g := w.heap.size + 1) _ _).trans (Oth.setCell _ _)) (Or.inl (by omega))) ?_
    exact ((Oth.ofBelow L1.out lo hi).setNew (by omega)).setNew (by omega)
  rw [hB] at HGE HH1
  cases hB2 : hasB R 3 ((to_ : Int) + (n : Int) - 1) 1
  · rw [hB2] at HGE HH2
    clear hB hB2 h hv hM hl hA h1
    go_enter Try.func14, Try.ntmps14
    go_wp2_with fail
    generalize hV : (w.alloc (.cells #[.int .i64 23, .int .i64 (at_ : Int), .int .i64 (cnt : Int), .slice A n k, .int .i64 (to_ : Int), .int .i64 an, .int .i64 o] 34)).alloc (.cells #[.slice none 0 0, .int .i64 0] 38) = V
    obtain ⟨hB1, hB2, hBel, hsz⟩ := two_boxes w [.int .i64 23, .int .i64 (at_ : Int), .int .i64 (cnt : Int), .slice A n k, .int .i64 (to_ : Int), .int .i64 an, .int .i64 o] [.slice none 0 0, .int .i64 0] 34 38 V hV.symm
    clear hV
    have K1 := hide hB1
    have J1 := hide hB2
    have L1 := hide hBel
    have S1 := hide (H1.out.keep hBel)
    clear hB1 hB2 hBel hsz
    refine (HH1.out _ S1.out).mono ?_
    rintro e w1 ⟨rfl, rfl⟩
    obtain ⟨j0, j1⟩ := J1.out.two
    obtain ⟨k0, k1, k2, k3, k4, k5, k6⟩ := K1.out.seven
    have jf := J1.out.frozen
    have hz := J1.out.lt
    go_wp2_with fail
    refine (HH2.out _ S1.out).mono ?_
    rintro e w1 ⟨rfl, rfl⟩
    go_wp2_with fail
    (try simp only [Exit.inBlock, Exit.then])
    refine bodyPost_ret (results_cell (a := 4) rfl rfl (J1.out.set2 (.slice none 0 0) (.int .i64 2)) Try.underlying38 rfl (by kernel_rfl)) rfl ?_
    refine RetRDo.no HGE.out (S1.out.out ((Oth.setCell (g := w.heap.size + 1) _ _).trans (Oth.setCell _ _)) (Or.inl (by omega))) ?_
    exact ((Oth.ofBelow L1.out lo hi).setNew (by omega)).setNew (by omega)
  · rw [hB2] at HGE HH2
    have hy := hasB_yes hB
    have hy2 := hasB_yes hB2
    rw [show rowL R 3 = R 2 from rowL_kind R 2 (by omega)] at hy hy2
    have hlen : ((upd R 2 (over (R 2) to_ vs)) 2).length = (R 2).length := by rw [upd_same, over_length _ _ _ (by omega)]
    have hfit : at_ + cnt ≤ ((upd R 2 (over (R 2) to_ vs)) 2).length := by rw [hlen]; omega
    have hLR2 : ((upd R 2 (over (R 2) to_ vs)) 2).length ≤ 65536 := by rw [hlen]; exact (hw 2 (by omega)).1
    have HG : Hid (goesB R 23 (at_ : Int) (cnt : Int) ((vs.length : Nat) : Int) (to_ : Int) = true) := HGE.out
    have HW : Hid (∀ W, SlA 50 lo hi W g b R → Rd W A n (iv vs) → Calls Try.prog 33 #[.pointer (some ⟨g, 0, none⟩), .int .i64 3, .int .i64 (to_ : Int), .slice A n k] W fun e w' =>
      e = .returned (.tuple #[]) ∧ SlA 50 lo hi w' g b (upd R 2 (over (R 2) to_ vs)) ∧ Oth lo hi W w') := hide (fun W h hr => rWrite_any lo hi g b R 2 to_ (by omega) A n k vs W h hr HA.out (by omega) (hw 2 (by omega)).1)
    generalize hRR : upd R 2 (over (R 2) to_ vs) = RR at *
    clear hB hB2 h hv hM hl hA h1 hy hy2 hlen hRR
    go_enter Try.func14, Try.ntmps14
    go_wp2_with fail
    generalize hV : (w.alloc (.cells #[.int .i64 23, .int .i64 (at_ : Int), .int .i64 (cnt : Int), .slice A n k, .int .i64 (to_ : Int), .int .i64 an, .int .i64 o] 34)).alloc (.cells #[.slice none 0 0, .int .i64 0] 38) = V
    obtain ⟨hB1, hB2, hBel, hsz⟩ := two_boxes w [.int .i64 23, .int .i64 (at_ : Int), .int .i64 (cnt : Int), .slice A n k, .int .i64 (to_ : Int), .int .i64 an, .int .i64 o] [.slice none 0 0, .int .i64 0] 34 38 V hV.symm
    clear hV
    have K1 := hide hB1
    have J1 := hide hB2
    have L1 := hide hBel
    have S1 := hide (H1.out.keep hBel)
    clear hB1 hB2 hBel hsz
    refine (HH1.out _ S1.out).mono ?_
    rintro e w1 ⟨rfl, rfl⟩
    obtain ⟨j0, j1⟩ := J1.out.two
    obtain ⟨k0, k1, k2, k3, k4, k5, k6⟩ := K1.out.seven
    have jf := J1.out.frozen
    have hz := J1.out.lt
    go_wp2_with fail
    refine (HH2.out _ S1.out).mono ?_
    rintro e w1 ⟨rfl, rfl⟩
    go_wp2_with fail
    refine (HW.out _ S1.out (HV.out.keep L1.out)).mono ?_
    rintro e w2 ⟨rfl, s2, o2⟩
    have S2 := hide s2
    have K2 := hide (K1.out.out o2 (Or.inr hhi))
    have J2 := hide (J1.out.out o2 (Or.inr (by omega)))
    have O2 := hide (Oth.after L1.out o2)
    clear s2 o2 k0 k1 k2 k3 k4 k5 k6 j0 j1 jf hz K1 J1 L1 S1
    go_wp2_with fail
    have q0 : decide (0 < (cnt : Int)) = true := by simp; omega
    have HX := hide (show (((RR 2).drop at_).take cnt).length = cnt by simp; omega)
    generalize hV : w2.alloc _ = V3
    have hRL : RL lo hi g b RR w [.int .i64 23, .int .i64 (at_ : Int), .int .i64 (cnt : Int), .slice A n k, .int .i64 (to_ : Int), .int .i64 an, .int .i64 o] w2.heap.size (w2.heap.size + 1) (((RR 2).drop at_).take cnt) 0 none 0 V3 := by
      obtain ⟨zV, bV⟩ := box2 w2 _ _ _ V3 hV.symm
      exact ⟨zV, World.ownsRow_nil _ _ _ _, S2.out.keep bV, O2.out.on bV, K2.out.keep bV, J2.out.keep bV, zV.lt⟩
    have HRL := hide hRL
    have GW := hide (show w.heap.size + 1 < w2.heap.size from J2.out.lt)
    generalize w2.heap.size = G at *
    clear hV hRL
    go_loopw [10] (fun x wr => ∃ (j : Nat) (C : Option Addr) (m : Nat), j ≤ cnt ∧ x = .int .i64 (j : Int) ∧ RL lo hi g b RR w [.int .i64 23, .int .i64 (at_ : Int), .int .i64 (cnt : Int), .slice A n k, .int .i64 (to_ : Int), .int .i64 an, .int .i64 o] G (G + 1) (((RR 2).drop at_).take cnt) j C m wr) (fun x _ => cnt - (intOf x).toNat)
    case atStart => exact ⟨0, none, 0, by omega, rfl, HRL.out⟩
    case round =>
      obtain ⟨j, C, m, hj, rfl, hrl⟩ := hrel
      have HR := hide hrl
      have HFT := hide (show at_ + cnt ≤ (RR 2).length by omega)
      have hLR : (RR 2).length ≤ 65536 := hLR2
      clear hrl HRL
      by_cases hlj : j < cnt
      · have q : (j : Int) < (cnt : Int) := by omega
        have hlt : at_ + j < (RR 2).length := by have := HFT.out; omega
        have c9 : wr.cell? ⟨G, 0, none⟩ = some (.slice C j m) := HR.out.box.cell 0
        have glt : G < wr.heap.size := HR.out.box.lt
        have cg : ∀ w', Below G wr w' → w'.cell? ⟨g, 2, none⟩ = some (.slice (some ⟨b 2, 0, none⟩) (RR 2).length (RR 2).length) := fun w' bl => (HR.out.sl.keepB bl (by have := GW.out; omega)).cellk 2 (by omega)
        have ck : ∀ w', Below G wr w' → w'.cell? ⟨w.heap.size, 1, none⟩ = some (.int .i64 (at_ : Int)) := fun w' bl => (HR.out.req.keepL bl (by have := GW.out; omega)).cell 1
        have cv : ∀ w', Below G wr w' → w'.cell? ⟨b 2, at_ + j, none⟩ = some (.int .i64 ((RR 2)[at_ + j])) := fun w' bl => by rw [((HR.out.sl.keepB bl (by have := GW.out; omega)).row 2 (by omega)).cell]; exact iv_get _ _ _
        have Htk : Hid (iv ((((RR 2).drop at_).take cnt).take (j + 1)) = iv ((((RR 2).drop at_).take cnt).take j) ++ [.int .i64 ((RR 2)[at_ + j])]) := by
          show _ = _
          have hlX : j < (((RR 2).drop at_).take cnt).length := by rw [HX.out]; exact hlj
          rw [List.take_succ_eq_append_getElem hlX, iv_append]
          congr 1
          simp [iv]
        generalize (RR 2)[at_ + j] = y at *
        have e1 : IntKind.i64.wrap 2 = 2 := wrap_nat 2 (by omega)
        have e2 : IntKind.i64.wrap ((at_ : Int) + (j : Int)) = (at_ : Int) + (j : Int) := by rw [IntKind.wrap_i64]; omega
        have e3 : (at_ : Int) + (j : Int) < ((RR 2).length : Int) := by omega
        have e4 : 0 ≤ (at_ : Int) + (j : Int) := by omega
        have e5 : ((at_ : Int) + (j : Int)).toNat = at_ + j := by omega
        obtain ⟨k0, k1, k2, k3, k4, k5, k6⟩ := HR.out.req.seven
        go_wp2_with fail
        clear k0 k1 k2 k3 k4 k5 k6
        have hcj : j ≤ 65536 := by omega
        clear hlt q
        refine wp_region_held_drew (S := fun w' => Below G wr w') (by kernel_rfl) ?_ (fun hHeld => ?_)
        · exact (Below.refl _ _).drew
        refine wpAnyH_take (i := 0) (oi := { dst := some 96, op := _, type := _, pos := _, after := _, guard := _ }) (v := ?v1x1) rfl (by kernel_rfl) (by kernel_rfl) (by kernel_rfl) (fun _ _ _ h => h) (Or.inl ⟨by rfl, ?hy1x1⟩) hHeld ?rest1x1
        case hy1x1 => (intro w hSw; go_simp <;> with_reducible rfl)
        try simp only [Act.put, List.setIfInBounds_toArray, List.set_cons_zero, List.set_cons_succ]
        refine wpAnyH_take (i := 2) (oi := { dst := some 98, op := _, type := _, pos := _, after := _, guard := _ }) (v := ?v1x2) rfl (by kernel_rfl) (by kernel_rfl) (by kernel_rfl) (fun _ _ _ h => h) (Or.inl ⟨by rfl, ?hy1x2⟩) hHeld ?rest1x2
        case hy1x2 => (intro w hSw; go_simp <;> with_reducible rfl)
        try simp only [Act.put, List.setIfInBounds_toArray, List.set_cons_zero, List.set_cons_succ]
        refine wpAnyH_take (i := 3) (oi := { dst := some 99, op := _, type := _, pos := _, after := _, guard := _ }) (v := ?v1x3) rfl (by kernel_rfl) (by kernel_rfl) (by kernel_rfl) (fun _ _ _ h => h) (Or.inl ⟨by rfl, ?hy1x3⟩) hHeld ?rest1x3
        case hy1x3 => (intro w hSw; go_simp <;> with_reducible rfl)
        try simp only [Act.put, List.setIfInBounds_toArray, List.set_cons_zero, List.set_cons_succ]
        refine wpAnyH_take (i := 4) (oi := { dst := some 100, op := _, type := _, pos := _, after := _, guard := _ }) (v := ?v1x4) rfl (by kernel_rfl) (by kernel_rfl) (by kernel_rfl) (fun _ _ _ h => h) (Or.inl ⟨by rfl, ?hy1x4⟩) hHeld ?rest1x4
        case hy1x4 => (intro w hSw; go_simp <;> with_reducible rfl)
        try simp only [Act.put, List.setIfInBounds_toArray, List.set_cons_zero, List.set_cons_succ]
        refine wpAnyH_take (i := 5) (oi := { dst := some 101, op := _, type := _, pos := _, after := _, guard := _ }) (v := ?v1x5) rfl (by kernel_rfl) (by kernel_rfl) (by kernel_rfl) (fun _ _ _ h => h) (Or.inl ⟨by rfl, ?hy1x5⟩) hHeld ?rest1x5
        case hy1x5 => (intro w hSw; go_simp <;> with_reducible rfl)
        try simp only [Act.put, List.setIfInBounds_toArray, List.set_cons_zero, List.set_cons_succ]
        refine wpAnyH_take (i := 6) (oi := { dst := some 102, op := _, type := _, pos := _, after := _, guard := _ }) (v := ?v1x6) rfl (by kernel_rfl) (by kernel_rfl) (by kernel_rfl) (fun _ _ _ h => h) (Or.inl ⟨by rfl, ?hy1x6⟩) hHeld ?rest1x6
        case hy1x6 => (intro w hSw; go_simp <;> with_reducible rfl)
        try simp only [Act.put, List.setIfInBounds_toArray, List.set_cons_zero, List.set_cons_succ]
        refine wpAnyH_take (i := 7) (oi := { dst := some 103, op := _, type := _, pos := _, after := _, guard := _ }) (v := ?v1x7) rfl (by kernel_rfl) (by kernel_rfl) (by kernel_rfl) (fun _ _ _ h => h) (Or.inl ⟨by rfl, ?hy1x7⟩) hHeld ?rest1x7
        case hy1x7 => (intro w hSw; go_simp <;> with_reducible rfl)
        try simp only [Act.put, List.setIfInBounds_toArray, List.set_cons_zero, List.set_cons_succ]
        refine wpAnyH_take (i := 8) (oi := { dst := some 104, op := _, type := _, pos := _, after := _, guard := _ }) (v := ?v1x8) rfl (by kernel_rfl) (by kernel_rfl) (by kernel_rfl) (fun _ _ _ h => h) (Or.inl ⟨by rfl, ?hy1x8⟩) hHeld ?rest1x8
        case hy1x8 => (intro w hSw; go_simp <;> with_reducible rfl)
        try simp only [Act.put, List.setIfInBounds_toArray, List.set_cons_zero, List.set_cons_succ]
        refine wpAnyH_take (i := 9) (oi := { dst := some 105, op := _, type := _, pos := _, after := _, guard := _ }) (v := ?v1x9) rfl (by kernel_rfl) (by kernel_rfl) (by kernel_rfl) (fun _ _ _ h => h) (Or.inl ⟨by rfl, ?hy1x9⟩) hHeld ?rest1x9
        case hy1x9 => (intro w hSw; go_simp <;> with_reducible rfl)
        try simp only [Act.put, List.setIfInBounds_toArray, List.set_cons_zero, List.set_cons_succ]
        refine wpAnyH_take (i := 10) (oi := { dst := some 106, op := _, type := _, pos := _, after := _, guard := _ }) (v := ?v1x10) rfl (by kernel_rfl) (by kernel_rfl) (by kernel_rfl) (fun _ _ _ h => h) (Or.inl ⟨by rfl, ?hy1x10⟩) hHeld ?rest1x10
        case hy1x10 => (intro w hSw; go_simp <;> with_reducible rfl)
        try simp only [Act.put, List.setIfInBounds_toArray, List.set_cons_zero, List.set_cons_succ]
        refine wpAnyH_take (i := 11) (oi := { dst := some 107, op := _, type := _, pos := _, after := _, guard := _ }) (v := ?v1x11) rfl (by kernel_rfl) (by kernel_rfl) (by kernel_rfl) (fun _ _ _ h => h) (Or.inl ⟨by rfl, ?hy1x11⟩) hHeld ?rest1x11
        case hy1x11 => (intro w hSw; go_simp <;> with_reducible rfl)
        try simp only [Act.put, List.setIfInBounds_toArray, List.set_cons_zero, List.set_cons_succ]
        refine wpAnyH_take (i := 12) (oi := { dst := some 108, op := _, type := _, pos := _, after := _, guard := _ }) (v := ?v1x12) rfl (by kernel_rfl) (by kernel_rfl) (by kernel_rfl) (fun _ _ _ h => h) (Or.inl ⟨by rfl, ?hy1x12⟩) hHeld ?rest1x12
        case hy1x12 => (intro w hSw; go_simp <;> with_reducible rfl)
        try simp only [Act.put, List.setIfInBounds_toArray, List.set_cons_zero, List.set_cons_succ]
        refine wpAnyH_take (i := 13) (oi := { dst := some 109, op := _, type := _, pos := _, after := _, guard := _ }) (v := ?v1x13) rfl (by kernel_rfl) (by kernel_rfl) (by kernel_rfl) (fun _ _ _ h => h) (Or.inl ⟨by rfl, ?hy1x13⟩) hHeld ?rest1x13
        case hy1x13 => (intro w hSw; go_simp <;> with_reducible rfl)
        try simp only [Act.put, List.setIfInBounds_toArray, List.set_cons_zero, List.set_cons_succ]
        refine wpAnyH_take (i := 14) (oi := { dst := some 110, op := _, type := _, pos := _, after := _, guard := _ }) (v := ?v1x14) rfl (by kernel_rfl) (by kernel_rfl) (by kernel_rfl) (fun _ _ _ h => h) (Or.inl ⟨by rfl, ?hy1x14⟩) hHeld ?rest1x14
        case hy1x14 => (intro w hSw; go_simp <;> with_reducible rfl)
        try simp only [Act.put, List.setIfInBounds_toArray, List.set_cons_zero, List.set_cons_succ]
        refine wpAnyH_ready (rs := [1, 15]) (by kernel_rfl) (by simp) (AllReadyH.cons (o := { dst := some 97, op := _, type := _, pos := _, after := _, guard := _ }) rfl (fun K hK => ?way1x15x1) (AllReadyH.cons (o := { dst := some 111, op := _, type := _, pos := _, after := _, guard := _ }) rfl (fun K hK => ?way1x15x15) AllReadyH.nil))
        case' way1x15x1 =>
          go_simp
          go_wp2_with fail
          refine hK.out _ _ ?_ (fun hHeld => ?_)
          · exact hHeld
          clear hK K
          try simp only [Act.put, List.setIfInBounds_toArray, List.set_cons_zero, List.set_cons_succ]
          refine wpAnyH_ready (rs := [15]) (by kernel_rfl) (by simp) (AllReadyH.cons (o := { dst := some 111, op := _, type := _, pos := _, after := _, guard := _ }) rfl (fun K hK => ?_) AllReadyH.nil)
          go_simp
          go_wp2_with fail
          refine hK.out _ _ ?_ (fun hHeld => ?_)
          · exact hHeld.alloc (by have := HR.out.sz; simp; omega) _
          clear hK K
          try simp only [Act.put, List.setIfInBounds_toArray, List.set_cons_zero, List.set_cons_succ]
          refine wpAnyH_ready (rs := [16]) (by kernel_rfl) (by simp) (AllReadyH.cons (o := { dst := some 112, op := _, type := _, pos := _, after := _, guard := _ }) rfl (fun K hK => ?_) AllReadyH.nil)
          rw [if_pos (by rfl)]
          refine op_app (.tmp 97) (.tmp 111) 32 rfl 3 _ _ Try.underlying32 int_info rfl (G + 1) C j m _ rfl (World.ownsRow.alloc (w := wr.drew) HR.out.own _) _ 1 1 [.int .i64 y] rfl (rd_one _ _ _) (by intro u hu; simp at hu; subst hu; rfl) (by unfold maxLen; omega) (by omega) (by have := HR.out.sz; simp; omega) ?_
          intro A3 c3 w3 o3 g3 b3
          rw [← Htk.out] at o3
          have O3 := hide o3
          have B3 : Hid (Below (G + 1) wr w3) := hide ((((Below.refl _ _).drew).alloc HR.out.sz _).trans b3)
          have cz := (HR.out.box.keepL B3.out (by omega)).cell 0
          have cf := (HR.out.box.keepL B3.out (by omega)).frozen 0
          clear o3 g3 b3
          refine hK.out _ _ ?_ (fun hHeld => ?_)
          · exact B3.out.mono (Nat.le_succ _)
          clear hK K
          try simp only [Act.put, List.setIfInBounds_toArray, List.set_cons_zero, List.set_cons_succ]
          refine wpAnyH_take (i := 17) (oi := { dst := some 113, op := _, type := _, pos := _, after := _, guard := _ }) (v := ?v1x18) rfl (by kernel_rfl) (by kernel_rfl) (by kernel_rfl) (fun _ _ _ h => h) (Or.inl ⟨by rfl, ?hy1x18⟩) hHeld ?rest1x18
          case hy1x18 => (intro w hSw; go_simp <;> with_reducible rfl)
          try simp only [Act.put, List.setIfInBounds_toArray, List.set_cons_zero, List.set_cons_succ]
          refine wpAnyH_ready (rs := [18]) (by kernel_rfl) (by simp) (AllReadyH.cons (o := { dst := none, op := _, type := _, pos := _, after := _, guard := _ }) rfl (fun K hK => ?_) AllReadyH.nil)
          go_simp
          go_wp2_with fail
          refine hK.out _ _ ?_ (fun hHeld => ?_)
          · exact hHeld.setCell (Nat.le_refl _) _
          clear hK K
          try simp only [Act.put, List.setIfInBounds_toArray, List.set_cons_zero, List.set_cons_succ]
          refine wpAnyH_done (by kernel_rfl) ?_ _
        case' way1x15x15 =>
          go_simp
          go_wp2_with fail
          refine hK.out _ _ ?_ (fun hHeld => ?_)
          · exact hHeld.alloc (by have := HR.out.sz; simp; omega) _
          clear hK K
          try simp only [Act.put, List.setIfInBounds_toArray, List.set_cons_zero, List.set_cons_succ]
          refine wpAnyH_ready (rs := [1]) (by kernel_rfl) (by simp) (AllReadyH.cons (o := { dst := some 97, op := _, type := _, pos := _, after := _, guard := _ }) rfl (fun K hK => ?_) AllReadyH.nil)
          go_simp
          go_wp2_with fail
          refine hK.out _ _ ?_ (fun hHeld => ?_)
          · exact hHeld
          clear hK K
          try simp only [Act.put, List.setIfInBounds_toArray, List.set_cons_zero, List.set_cons_succ]
          refine wpAnyH_ready (rs := [16]) (by kernel_rfl) (by simp) (AllReadyH.cons (o := { dst := some 112, op := _, type := _, pos := _, after := _, guard := _ }) rfl (fun K hK => ?_) AllReadyH.nil)
          rw [if_pos (by rfl)]
          refine op_app (.tmp 97) (.tmp 111) 32 rfl 3 _ _ Try.underlying32 int_info rfl (G + 1) C j m _ rfl (World.ownsRow.alloc (w := wr.drew) HR.out.own _) _ 1 1 [.int .i64 y] rfl (rd_one _ _ _) (by intro u hu; simp at hu; subst hu; rfl) (by unfold maxLen; omega) (by omega) (by have := HR.out.sz; simp; omega) ?_
          intro A3 c3 w3 o3 g3 b3
          rw [← Htk.out] at o3
          have O3 := hide o3
          have B3 : Hid (Below (G + 1) wr w3) := hide ((((Below.refl _ _).drew).alloc HR.out.sz _).trans b3)
          have cz := (HR.out.box.keepL B3.out (by omega)).cell 0
          have cf := (HR.out.box.keepL B3.out (by omega)).frozen 0
          clear o3 g3 b3
          refine hK.out _ _ ?_ (fun hHeld => ?_)
          · exact B3.out.mono (Nat.le_succ _)
          clear hK K
          try simp only [Act.put, List.setIfInBounds_toArray, List.set_cons_zero, List.set_cons_succ]
          refine wpAnyH_take (i := 17) (oi := { dst := some 113, op := _, type := _, pos := _, after := _, guard := _ }) (v := ?v1x22) rfl (by kernel_rfl) (by kernel_rfl) (by kernel_rfl) (fun _ _ _ h => h) (Or.inl ⟨by rfl, ?hy1x22⟩) hHeld ?rest1x22
          case hy1x22 => (intro w hSw; go_simp <;> with_reducible rfl)
          try simp only [Act.put, List.setIfInBounds_toArray, List.set_cons_zero, List.set_cons_succ]
          refine wpAnyH_ready (rs := [18]) (by kernel_rfl) (by simp) (AllReadyH.cons (o := { dst := none, op := _, type := _, pos := _, after := _, guard := _ }) rfl (fun K hK => ?_) AllReadyH.nil)
          go_simp
          go_wp2_with fail
          refine hK.out _ _ ?_ (fun hHeld => ?_)
          · exact hHeld.setCell (Nat.le_refl _) _
          clear hK K
          try simp only [Act.put, List.setIfInBounds_toArray, List.set_cons_zero, List.set_cons_succ]
          refine wpAnyH_done (by kernel_rfl) ?_ _
        all_goals
          go_wp2_with fail
          go_roundw
          case rel => exact ⟨j + 1, A3, c3, by omega, by go_num, HR.out.next (by omega) GW.out hhi B3.out O3.out⟩
          case measure => simp [intOf]; omega
      · obtain rfl : j = cnt := by omega
        have q : ¬ (j : Int) < (j : Int) := by omega
        obtain ⟨k0, k1, k2, k3, k4, k5, k6⟩ := HR.out.req.seven
        obtain ⟨j0, j1⟩ := HR.out.res.two
        obtain ⟨z0, z1⟩ := HR.out.box.two
        have jf := HR.out.res.frozen
        have hz := HR.out.res.lt
        have hne := GW.out
        have hrd := own_rd HR.out.own
        rw [List.take_of_length_le (by rw [HX.out]; exact Nat.le_refl _)] at hrd
        have HRD := hide hrd
        clear hrd
        go_wp2_with fail
        (try simp only [Exit.inBlock, Exit.then])
        refine bodyPost_ret (results_cell (a := 4) rfl rfl (HR.out.res.set2 (.slice C j m) (.int .i64 0)) Try.underlying38 rfl (by kernel_rfl)) rfl ?_
        refine RetRDo.yes HG.out C m j (by rw [HN.out, HVL.out]; exact HX.out) (own_cap HR.out.own) ?_ ?_ ?_ ?_
        · rw [HN.out, HVL.out]
          exact HRD.out.set2 (fun b' o' e' => by have := own_new HR.out.own b' o' e'; omega) _ _
        · exact fun b' o' e' => by have := own_new HR.out.own b' o' e'; omega
        · rw [HN.out]
          exact HR.out.sl.out ((Oth.setCell (g := w.heap.size + 1) (i := 0) wr (.slice C j m)).trans (Oth.setCell (i := 1) _ (.int .i64 0))) (Or.inl (by omega))
        · exact (HR.out.oth.setNew (by omega)).setNew (by omega)

/-- The document's Do, of any request that may be. -/
theorem rDo_any (lo hi g : Nat) (b : Nat → Nat) (R : Nat → List Int) (f a c t an o : Int) (A : Option Addr) (n k : Nat) (vs : List Int) (w : World) (h : SlA 50 lo hi w g b R) (hw : wellR R) (hv : Rd w A n (iv vs)) (hA : 0 < n → OutA lo hi A) (hn : n ≤ 1000000) (hM : mayB f a c vs t an o = true) :
    Calls Try.prog 14 #[.pointer (some ⟨g, 0, none⟩), .agg #[.int .i64 f, .int .i64 a, .int .i64 c, .slice A n k, .int .i64 t, .int .i64 an, .int .i64 o]] w (RetRDo lo hi g b R f a c vs t an o w) := by
  have hl : vs.length = n := by rw [← iv_length]; exact hv.1
  have hc := may_count hM
  have h0 := may_read hM
  have h1 := may_one hM
  rcases may_f hM with rfl | rfl | rfl | rfl | rfl | rfl | rfl | rfl | rfl | rfl
  · obtain rfl : n = 0 := by have := h0 (by omega); omega
    exact rDo_r lo hi g b R 0 (by omega) a c t an o A k vs w h hw hv hM
  · obtain rfl : n = 0 := by have := h0 (by omega); omega
    exact rDo_r lo hi g b R 1 (by omega) a c t an o A k vs w h hw hv hM
  · obtain rfl : n = 0 := by have := h0 (by omega); omega
    exact rDo_r lo hi g b R 2 (by omega) a c t an o A k vs w h hw hv hM
  · obtain rfl : n = 0 := by have := h0 (by omega); omega
    exact rDo_r lo hi g b R 3 (by omega) a c t an o A k vs w h hw hv hM
  · obtain rfl : c = 0 := hc.2.1 (by omega)
    exact rDo_5 lo hi g b R a t an o A n k vs w h hw hv (hA (by have := h1 (by omega) (by omega); omega)) hn hM
  · obtain rfl : c = 0 := hc.2.1 (by omega)
    exact rDo_6 lo hi g b R a t an o A n k vs w h hw hv (hA (by have := h1 (by omega) (by omega); omega)) hn hM
  · obtain rfl : c = (n : Int) := by have := hc.2.2 (by omega); omega
    exact rDo_15 lo hi g b R a t an o A n k vs w h hw hv (hA (by have := h1 (by omega) (by omega); omega)) hn hM
  · obtain rfl : c = (n : Int) := by have := hc.2.2 (by omega); omega
    exact rDo_16 lo hi g b R a t an o A n k vs w h hw hv (hA (by have := h1 (by omega) (by omega); omega)) hn hM
  · obtain rfl : c = 0 := hc.2.1 (by omega)
    obtain rfl : n = 0 := by have := h0 (by omega); omega
    exact rDo_22 lo hi g b R a t an o A k vs w h hw hv hM
  · exact rDo_23 lo hi g b R a c t an o A n k vs w h hw hv (hA (by have := h1 (by omega) (by omega); omega)) hn hM

end Go.Proofs.Ytohiblldhdglgaa
