/-
  What is proved here: the law CrcLinear returns true for every three slices of bytes, and writes nothing that was there. No condition.
-/
import Derived.Test.YtpolcahpbajiaaaAwake2
import Derived.Test.YtpolcahpbajiaaaRef2
namespace Go.Proofs.Ytpolcahpbajiaaa
set_option linter.unusedVariables false
set_option linter.unusedSimpArgs false
open Go.RowKit

theorem xor3_lt (x y : Nat) (hx : x < 256) (hy : y < 256) : x ^^^ y < 256 := Nat.xor_lt_two_pow (n := 8) (by omega) (by omega)
theorem wrap8 (n : Nat) (h : n < 256) : IntKind.u8.wrap (n : Int) = (n : Int) := by
  rw [IntKind.wrap_u8]
  omega
theorem unl_bv (a b c : List UInt8) (k X Y Z U V : Nat) (hX : (a[k]?.getD 0).toNat = X) (hY : (b[k]?.getD 0).toNat = Y) (hZ : (c[k]?.getD 0).toNat = Z) (hV : X ^^^ Y = V) (hU : V ^^^ Z = U) :
    bv (unl a b c (k + 1)) = bv (unl a b c k) ++ [.int .u8 (U : Int)] := by
  rw [unl, bv_append]
  congr 1
  simp only [bv, List.map_cons, List.map_nil, xor3_nat, hX, hY, hZ, hV, hU]

set_option maxHeartbeats 4000000 in
set_option maxRecDepth 100000 in
theorem linear2_walk (A : Option Addr) (l c : Nat) (xs : List UInt8) (B : Option Addr) (m d : Nat) (ys : List UInt8) (D : Option Addr) (n f : Nat) (zs : List UInt8) (w : World)
    (h : Rd w A l (bv xs)) (g : Rd w B m (bv ys)) (k : Rd w D n (bv zs)) :
    Calls Try.prog 7 #[.slice A l c, .slice B m d, .slice D n f] w fun e w' => e = .returned (.bool true) ∧ Below w.heap.size w w' := by
  have hx : xs.length = l := by rw [← bv_length]; exact h.1
  have hy : ys.length = m := by rw [← bv_length]; exact g.1
  have hz : zs.length = n := by rw [← bv_length]; exact k.1
  have Hh := hide h
  have Hg := hide g
  have Hk := hide k
  have Hx := hide hx
  have Hy := hide hy
  have Hz := hide hz
  clear h g k hx hy hz
  by_cases hs : l ≤ 600
  · have hsm : decide (l ≤ 600) = true := by simpa using hs
    by_cases hlm : l = m
    · subst hlm
      have q1 : ((l : Int) != (l : Int)) = false := by simp
      by_cases hln : l = n
      · subst hln
        go_enter Try.func7, Try.ntmps7
        go_wp2_with (go_at_call 9; refine (small2_any A l c w).mono ?_; rintro e w' ⟨rfl, rfl⟩; rw [hsm])
        go_loopw [7, 8] (fun v i wr => ∃ (j : Nat) (C : Option Addr) (kk : Nat), j ≤ l ∧ i = .int .i64 (j : Int) ∧ v = .slice C j kk ∧ wr.ownsRow w.heap.size 5 1 (.slice C j kk) j (bv (unl xs ys zs j)) ∧ Below w.heap.size w wr) (fun _ i _ => l - (intOf i).toNat)
        case atStart => exact ⟨0, none, 0, by omega, rfl, rfl, World.ownsRow_nil _ _ _ _, Below.refl _ _⟩
        case round =>
          obtain ⟨j, C, kk, hj, rfl, rfl, hown, hbel⟩ := hrel
          have Hown := hide hown
          have Hbel := hide hbel
          clear hown hbel
          by_cases hlt : j < l
          · have l1 : j < xs.length := by rw [Hx.out]; exact hlt
            have l2 : j < ys.length := by rw [Hy.out]; exact hlt
            have l3 : j < zs.length := by rw [Hz.out]; exact hlt
            obtain ⟨b1, o1, rfl, hb1, hc1⟩ := Hh.out.at_ hlt
            obtain ⟨b2, o2, rfl, hb2, hc2⟩ := Hg.out.at_ hlt
            obtain ⟨b3, o3, rfl, hb3, hc3⟩ := Hk.out.at_ hlt
            have d1 : ∀ w', Below w.heap.size w w' → w'.cell? ⟨b1, o1 + j, none⟩ = some (.int .u8 xs[j].toNat) := fun w' b => (b.cell (p := ⟨b1, o1 + j, none⟩) hb1).trans (hc1 j _ (bv_get xs j l1))
            have d2 : ∀ w', Below w.heap.size w w' → w'.cell? ⟨b2, o2 + j, none⟩ = some (.int .u8 ys[j].toNat) := fun w' b => (b.cell (p := ⟨b2, o2 + j, none⟩) hb2).trans (hc2 j _ (bv_get ys j l2))
            have d3 : ∀ w', Below w.heap.size w w' → w'.cell? ⟨b3, o3 + j, none⟩ = some (.int .u8 zs[j].toNat) := fun w' b => (b.cell (p := ⟨b3, o3 + j, none⟩) hb3).trans (hc3 j _ (bv_get zs j l3))
            have x1 := xs[j].toNat_lt
            have x2 := ys[j].toNat_lt
            have x3 := zs[j].toNat_lt
            have HU := fun U V => hide (unl_bv xs ys zs j xs[j].toNat ys[j].toNat zs[j].toNat U V (by simp [l1]) (by simp [l2]) (by simp [l3]))
            have q : (j : Int) < (l : Int) := by omega
            clear hc1 hc2 hc3
            generalize xs[j].toNat = X at *
            generalize ys[j].toNat = Y at *
            generalize zs[j].toNat = Z at *
            obtain ⟨V, hV⟩ : ∃ V, X ^^^ Y = V := ⟨_, rfl⟩
            obtain ⟨U, hU⟩ : ∃ U, V ^^^ Z = U := ⟨_, rfl⟩
            have hV8 : V < 256 := by rw [← hV]; exact xor3_lt X Y (by omega) (by omega)
            have hU8 : U < 256 := by rw [← hU]; exact xor3_lt V Z (by omega) (by omega)
            have X1 := fun W => xor_any X Y (by omega) (by omega) W
            have X2 := fun W => xor_any V Z (by omega) (by omega) W
            rw [hV] at X1
            rw [hU] at X2
            have HX1 := fun W => hide (X1 W)
            have HX2 := fun W => hide (X2 W)
            have HUs := hide ((HU U V).out hV hU)
            have hw8 := wrap8 U hU8
            have y1 := wrap_nat X (by omega)
            have y2 := wrap_nat Y (by omega)
            have y3 := wrap_nat Z (by omega)
            clear X1 X2 HU hV hU
            go_wp2_with fail
            refine wp_region_held_drew (S := fun w' => Below w.heap.size w w') (by kernel_rfl) ?_ (fun hHeld => ?_)
            · exact Hbel.out.drew
            refine wpAnyH_take (i := 0) (oi := { dst := some 33, op := _, type := _, pos := _, after := _, guard := _ }) (v := ?v1x0) rfl (by kernel_rfl) (by kernel_rfl) (by kernel_rfl) (fun _ _ _ h => h) (Or.inl ⟨by rfl, ?hy1x0⟩) hHeld ?rest1x0
            case hy1x0 => (intro w hSw; go_simp <;> with_reducible rfl)
            try simp only [Act.put, List.setIfInBounds_toArray, List.set_cons_zero, List.set_cons_succ]
            refine wpAnyH_take (i := 1) (oi := { dst := some 34, op := _, type := _, pos := _, after := _, guard := _ }) (v := ?v1x1) rfl (by kernel_rfl) (by kernel_rfl) (by kernel_rfl) (fun _ _ _ h => h) (Or.inl ⟨by rfl, ?hy1x1⟩) hHeld ?rest1x1
            case hy1x1 => (intro w hSw; go_simp <;> with_reducible rfl)
            try simp only [Act.put, List.setIfInBounds_toArray, List.set_cons_zero, List.set_cons_succ]
            refine wpAnyH_take (i := 2) (oi := { dst := some 35, op := _, type := _, pos := _, after := _, guard := _ }) (v := ?v1x2) rfl (by kernel_rfl) (by kernel_rfl) (by kernel_rfl) (fun _ _ _ h => h) (Or.inl ⟨by rfl, ?hy1x2⟩) hHeld ?rest1x2
            case hy1x2 => (intro w hSw; go_simp <;> with_reducible rfl)
            try simp only [Act.put, List.setIfInBounds_toArray, List.set_cons_zero, List.set_cons_succ]
            refine wpAnyH_take (i := 3) (oi := { dst := some 36, op := _, type := _, pos := _, after := _, guard := _ }) (v := ?v1x3) rfl (by kernel_rfl) (by kernel_rfl) (by kernel_rfl) (fun _ _ _ h => h) (Or.inl ⟨by rfl, ?hy1x3⟩) hHeld ?rest1x3
            case hy1x3 => (intro w hSw; go_simp <;> with_reducible rfl)
            try simp only [Act.put, List.setIfInBounds_toArray, List.set_cons_zero, List.set_cons_succ]
            refine wpAnyH_take (i := 4) (oi := { dst := some 37, op := _, type := _, pos := _, after := _, guard := _ }) (v := ?v1x4) rfl (by kernel_rfl) (by kernel_rfl) (by kernel_rfl) (fun _ _ _ h => h) (Or.inl ⟨by rfl, ?hy1x4⟩) hHeld ?rest1x4
            case hy1x4 => (intro w hSw; go_simp <;> with_reducible rfl)
            try simp only [Act.put, List.setIfInBounds_toArray, List.set_cons_zero, List.set_cons_succ]
            refine wpAnyH_take (i := 5) (oi := { dst := some 38, op := _, type := _, pos := _, after := _, guard := _ }) (v := ?v1x5) rfl (by kernel_rfl) (by kernel_rfl) (by kernel_rfl) (fun _ _ _ h => h) (Or.inl ⟨by rfl, ?hy1x5⟩) hHeld ?rest1x5
            case hy1x5 => (intro w hSw; go_simp <;> with_reducible rfl)
            try simp only [Act.put, List.setIfInBounds_toArray, List.set_cons_zero, List.set_cons_succ]
            refine wpAnyH_take (i := 6) (oi := { dst := some 39, op := _, type := _, pos := _, after := _, guard := _ }) (v := ?v1x6) rfl (by kernel_rfl) (by kernel_rfl) (by kernel_rfl) (fun _ _ _ h => h) (Or.inl ⟨by rfl, ?hy1x6⟩) hHeld ?rest1x6
            case hy1x6 => (intro w hSw; go_simp <;> with_reducible rfl)
            try simp only [Act.put, List.setIfInBounds_toArray, List.set_cons_zero, List.set_cons_succ]
            refine wpAnyH_take (i := 7) (oi := { dst := some 40, op := _, type := _, pos := _, after := _, guard := _ }) (v := ?v1x7) rfl (by kernel_rfl) (by kernel_rfl) (by kernel_rfl) (fun _ _ _ h => h) (Or.inl ⟨by rfl, ?hy1x7⟩) hHeld ?rest1x7
            case hy1x7 => (intro w hSw; go_simp <;> with_reducible rfl)
            try simp only [Act.put, List.setIfInBounds_toArray, List.set_cons_zero, List.set_cons_succ]
            refine wpAnyH_take (i := 8) (oi := { dst := some 41, op := _, type := _, pos := _, after := _, guard := _ }) (v := ?v1x8) rfl (by kernel_rfl) (by kernel_rfl) (by kernel_rfl) (fun _ _ _ h => h) (Or.inl ⟨by rfl, ?hy1x8⟩) hHeld ?rest1x8
            case hy1x8 => (intro w hSw; go_simp <;> with_reducible rfl)
            try simp only [Act.put, List.setIfInBounds_toArray, List.set_cons_zero, List.set_cons_succ]
            refine wpAnyH_take (i := 9) (oi := { dst := some 42, op := _, type := _, pos := _, after := _, guard := _ }) (v := ?v1x9) rfl (by kernel_rfl) (by kernel_rfl) (by kernel_rfl) (fun _ _ _ h => h) (Or.inl ⟨by rfl, ?hy1x9⟩) hHeld ?rest1x9
            case hy1x9 => (intro w hSw; go_simp <;> with_reducible rfl)
            try simp only [Act.put, List.setIfInBounds_toArray, List.set_cons_zero, List.set_cons_succ]
            refine wpAnyH_take (i := 10) (oi := { dst := some 43, op := _, type := _, pos := _, after := _, guard := _ }) (v := ?v1x10) rfl (by kernel_rfl) (by kernel_rfl) (by kernel_rfl) (fun _ _ _ h => h) (Or.inl ⟨by rfl, ?hy1x10⟩) hHeld ?rest1x10
            case hy1x10 => (intro w hSw; go_simp <;> with_reducible rfl)
            try simp only [Act.put, List.setIfInBounds_toArray, List.set_cons_zero, List.set_cons_succ]
            refine wpAnyH_take (i := 12) (oi := { dst := some 45, op := _, type := _, pos := _, after := _, guard := _ }) (v := ?v1x12) rfl (by kernel_rfl) (by kernel_rfl) (by kernel_rfl) (fun _ _ _ h => h) (Or.inl ⟨by rfl, ?hy1x12⟩) hHeld ?rest1x12
            case hy1x12 => (intro w hSw; go_simp <;> with_reducible rfl)
            try simp only [Act.put, List.setIfInBounds_toArray, List.set_cons_zero, List.set_cons_succ]
            refine wpAnyH_take (i := 13) (oi := { dst := some 46, op := _, type := _, pos := _, after := _, guard := _ }) (v := ?v1x13) rfl (by kernel_rfl) (by kernel_rfl) (by kernel_rfl) (fun _ _ _ h => h) (Or.inl ⟨by rfl, ?hy1x13⟩) hHeld ?rest1x13
            case hy1x13 => (intro w hSw; go_simp <;> with_reducible rfl)
            try simp only [Act.put, List.setIfInBounds_toArray, List.set_cons_zero, List.set_cons_succ]
            refine wpAnyH_take (i := 14) (oi := { dst := some 47, op := _, type := _, pos := _, after := _, guard := _ }) (v := ?v1x14) rfl (by kernel_rfl) (by kernel_rfl) (by kernel_rfl) (fun _ _ _ h => h) (Or.inl ⟨by rfl, ?hy1x14⟩) hHeld ?rest1x14
            case hy1x14 => (intro w hSw; go_simp <;> with_reducible rfl)
            try simp only [Act.put, List.setIfInBounds_toArray, List.set_cons_zero, List.set_cons_succ]
            refine wpAnyH_take (i := 15) (oi := { dst := some 48, op := _, type := _, pos := _, after := _, guard := _ }) (v := ?v1x15) rfl (by kernel_rfl) (by kernel_rfl) (by kernel_rfl) (fun _ _ _ h => h) (Or.inl ⟨by rfl, ?hy1x15⟩) hHeld ?rest1x15
            case hy1x15 => (intro w hSw; go_simp <;> with_reducible rfl)
            try simp only [Act.put, List.setIfInBounds_toArray, List.set_cons_zero, List.set_cons_succ]
            refine wpAnyH_take (i := 16) (oi := { dst := some 49, op := _, type := _, pos := _, after := _, guard := _ }) (v := ?v1x16) rfl (by kernel_rfl) (by kernel_rfl) (by kernel_rfl) (fun _ _ _ h => h) (Or.inl ⟨by rfl, ?hy1x16⟩) hHeld ?rest1x16
            case hy1x16 => (intro w hSw; go_simp <;> with_reducible rfl)
            try simp only [Act.put, List.setIfInBounds_toArray, List.set_cons_zero, List.set_cons_succ]
            refine wpAnyH_ready (rs := [11]) (by kernel_rfl) (by simp) (AllReadyH.cons (o := { dst := some 44, op := _, type := _, pos := _, after := _, guard := _ }) rfl (fun K hK => ?_) AllReadyH.nil)
            go_simp
            refine (HX1 _).out.mono ?_
            rintro e w' ⟨rfl, rfl⟩
            go_wp2_with fail
            refine hK.out _ _ ?_ (fun hHeld => ?_)
            · exact hHeld
            clear hK K
            try simp only [Act.put, List.setIfInBounds_toArray, List.set_cons_zero, List.set_cons_succ]
            refine wpAnyH_ready (rs := [17]) (by kernel_rfl) (by simp) (AllReadyH.cons (o := { dst := some 50, op := _, type := _, pos := _, after := _, guard := _ }) rfl (fun K hK => ?_) AllReadyH.nil)
            go_simp
            refine (HX2 _).out.mono ?_
            rintro e w' ⟨rfl, rfl⟩
            go_wp2_with fail
            refine hK.out _ _ ?_ (fun hHeld => ?_)
            · exact hHeld
            clear hK K
            try simp only [Act.put, List.setIfInBounds_toArray, List.set_cons_zero, List.set_cons_succ]
            refine wpAnyH_take (i := 18) (oi := { dst := some 51, op := _, type := _, pos := _, after := _, guard := _ }) (v := ?v1x18) rfl (by kernel_rfl) (by kernel_rfl) (by kernel_rfl) (fun _ _ _ h => h) (Or.inl ⟨by rfl, ?hy1x18⟩) hHeld ?rest1x18
            case hy1x18 => (intro w hSw; go_simp <;> with_reducible rfl)
            try simp only [Act.put, List.setIfInBounds_toArray, List.set_cons_zero, List.set_cons_succ]
            refine wpAnyH_ready (rs := [19]) (by kernel_rfl) (by simp) (AllReadyH.cons (o := { dst := some 52, op := _, type := _, pos := _, after := _, guard := _ }) rfl (fun K hK => ?_) AllReadyH.nil)
            go_simp
            go_wp2_with fail
            refine hK.out _ _ ?_ (fun hHeld => ?_)
            · exact hHeld.alloc hHeld.size _
            clear hK K
            try simp only [Act.put, List.setIfInBounds_toArray, List.set_cons_zero, List.set_cons_succ]
            refine wpAnyH_ready (rs := [20]) (by kernel_rfl) (by simp) (AllReadyH.cons (o := { dst := some 53, op := _, type := _, pos := _, after := _, guard := _ }) rfl (fun K hK => ?_) AllReadyH.nil)
            rw [if_pos (by rfl)]
            refine op_app (.tmp 33) (.tmp 52) 22 rfl 5 _ _ Try.underlying22 u8_info rfl w.heap.size C j kk _ rfl ((own_keep Hown.out (Below.refl _ _).drew).alloc _) _ 1 1 [.int .u8 (U : Int)] rfl (rd_one _ _ _) (by intro u hu; simp at hu; subst hu; rfl) (by unfold maxLen; omega) (by omega) (by have := Hbel.out.size; simp; omega) ?_
            intro A3 c3 w3 o3 g3 b3
            rw [← HUs.out] at o3
            refine hK.out _ _ ?_ (fun hHeld => ?_)
            · exact hHeld.trans b3
            clear hK K
            try simp only [Act.put, List.setIfInBounds_toArray, List.set_cons_zero, List.set_cons_succ]
            refine wpAnyH_take (i := 21) (oi := { dst := some 7, op := _, type := _, pos := _, after := _, guard := _ }) (v := ?v1x21) rfl (by kernel_rfl) (by kernel_rfl) (by kernel_rfl) (fun _ _ _ h => h) (Or.inl ⟨by rfl, ?hy1x21⟩) hHeld ?rest1x21
            case hy1x21 => (intro w hSw; go_simp <;> with_reducible rfl)
            try simp only [Act.put, List.setIfInBounds_toArray, List.set_cons_zero, List.set_cons_succ]
            refine wpAnyH_done (by kernel_rfl) ?_ _
            go_wp2_with fail
            exact ⟨⟨j + 1, A3, c3, by omega, by go_num, rfl, o3, hHeld⟩, by simp [intOf]; omega⟩
          · obtain rfl : j = l := by omega
            have q : ¬ (j : Int) < (j : Int) := by omega
            have e1 := unl_sum xs ys zs j (by rw [Hx.out]; exact Nat.le_refl _) (by rw [Hy.out]; exact Nat.le_refl _) (by rw [Hz.out]; exact Nat.le_refl _)
            rw [List.take_of_length_le (by rw [Hx.out]; exact Nat.le_refl _), List.take_of_length_le (by rw [Hy.out]; exact Nat.le_refl _), List.take_of_length_le (by rw [Hz.out]; exact Nat.le_refl _)] at e1
            have z1 := sumN_lt xs
            have z2 := sumN_lt ys
            have z3 := sumN_lt zs
            have S1 := hide (sum_any A j c xs wr (Hh.out.keep Hbel.out) (by omega))
            have S2 := hide (sum_any B j d ys wr (Hg.out.keep Hbel.out) (by omega))
            have S3 := hide (sum_any D j f zs wr (Hk.out.keep Hbel.out) (by omega))
            have S4 := fun W hW => hide (sum_any C j kk (unl xs ys zs j) W hW (by omega))
            rw [e1] at S4
            clear e1
            generalize sumN xs = X at *
            generalize sumN ys = Y at *
            generalize sumN zs = Z at *
            have z4 : X ^^^ Y < 65536 := Nat.xor_lt_two_pow (n := 16) (by omega) (by omega)
            have X1 := hide (xor_any X Y z1 z2 wr)
            have X2 := hide (xor_any (X ^^^ Y) Z z4 z3 wr)
            have Hro := hide (own_rd Hown.out)
            generalize X ^^^ Y = V at *
            generalize V ^^^ Z = U at *
            clear z1 z2 z3 z4
            go_wp2_with fail
            refine S1.out.mono ?_
            rintro e w' ⟨rfl, rfl⟩
            go_wp2_with fail
            refine S2.out.mono ?_
            rintro e w' ⟨rfl, rfl⟩
            go_wp2_with fail
            refine X1.out.mono ?_
            rintro e w' ⟨rfl, rfl⟩
            go_wp2_with fail
            refine S3.out.mono ?_
            rintro e w' ⟨rfl, rfl⟩
            go_wp2_with fail
            refine X2.out.mono ?_
            rintro e w' ⟨rfl, rfl⟩
            go_wp2_with fail
            refine (awake2_any _).mono ?_
            rintro e w2 ⟨rfl, b2⟩
            go_wp2_with fail
            refine (S4 _ (Hro.out.keep b2)).out.mono ?_
            rintro e w' ⟨rfl, rfl⟩
            go_wp2_with fail
            go_ret
            exact ⟨rfl, below_on Hbel.out b2⟩
      · have q2 : ((l : Int) != (n : Int)) = true := by rw [bne_iff_ne]; omega
        go_enter Try.func7, Try.ntmps7
        go_wp2_with (go_at_call 9; refine (small2_any A l c w).mono ?_; rintro e w' ⟨rfl, rfl⟩; rw [hsm])
        go_ret
        exact ⟨rfl, Below.refl _ _⟩
    · have q1 : ((l : Int) != (m : Int)) = true := by rw [bne_iff_ne]; omega
      go_enter Try.func7, Try.ntmps7
      go_wp2_with (go_at_call 9; refine (small2_any A l c w).mono ?_; rintro e w' ⟨rfl, rfl⟩; rw [hsm])
      go_ret
      exact ⟨rfl, Below.refl _ _⟩
  · have hsm : decide (l ≤ 600) = false := by simpa using hs
    go_enter Try.func7, Try.ntmps7
    go_wp2_with (go_at_call 9; refine (small2_any A l c w).mono ?_; rintro e w' ⟨rfl, rfl⟩; rw [hsm])
    go_ret
    exact ⟨rfl, Below.refl _ _⟩

end Go.Proofs.Ytpolcahpbajiaaa
