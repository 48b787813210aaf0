/-
  What is proved here: what slave's New does. No condition of its own.
-/
import Derived.Test.YtohiblldhdglgaaSlave7
namespace Go.Proofs.Ytohiblldhdglgaa
set_option linter.unusedVariables false
set_option linter.unusedSimpArgs false
open Go.RowKit


set_option maxHeartbeats 2000000 in
theorem sNew_ok (bits words : Int) (nb nw : Nat) (hb : bits = (nb : Int)) (hw : words = (nw : Int)) (hnb : nb ≤ 65536) (hnw : nw ≤ 65536) (w : World) :
    Calls Try.prog 8 #[.int .i64 bits, .int .i64 words] w (RetNew 58 nb nw w) := by
  subst hb hw
  have HU1 := hide (fun W => sUpTo_any (nb : Int) 65536 W)
  have HU2 := hide (fun W => sUpTo_any (nw : Int) 65536 W)
  rw [show (decide (0 ≤ (nb : Int)) && decide ((nb : Int) ≤ 65536)) = true by simp; omega] at HU1
  rw [show (decide (0 ≤ (nw : Int)) && decide ((nw : Int) ≤ 65536)) = true by simp; omega] at HU2
  go_enter Try.func8, Try.ntmps8
  go_wp2_with fail
  refine (HU1.out _).mono ?_
  rintro e w1 ⟨rfl, rfl⟩
  go_wp2_with fail
  refine (HU2.out _).mono ?_
  rintro e w1 ⟨rfl, rfl⟩
  go_wp2_with fail
  refine wp_region_held_drew (S := fun w' => Below w.heap.size w w') (by kernel_rfl) ?_ (fun hHeld => ?_)
  · exact (Below.refl _ _).drew
  refine wpAnyH_take (i := 0) (oi := { dst := some 14, op := _, type := _, pos := _, after := _, guard := _ }) (v := ?v1x1) rfl (by kernel_rfl) (by kernel_rfl) (by kernel_rfl) (fun _ _ _ h => h) (Or.inl ⟨by rfl, ?hy1x1⟩) hHeld ?rest1x1
  case hy1x1 => (intro w hSw; go_simp <;> with_reducible rfl)
  try simp only [Act.put, List.setIfInBounds_toArray, List.set_cons_zero, List.set_cons_succ]
  refine wpAnyH_take (i := 2) (oi := { dst := some 16, op := _, type := _, pos := _, after := _, guard := _ }) (v := ?v1x2) rfl (by kernel_rfl) (by kernel_rfl) (by kernel_rfl) (fun _ _ _ h => h) (Or.inl ⟨by rfl, ?hy1x2⟩) hHeld ?rest1x2
  case hy1x2 => (intro w hSw; go_simp <;> with_reducible rfl)
  try simp only [Act.put, List.setIfInBounds_toArray, List.set_cons_zero, List.set_cons_succ]
  refine wpAnyH_take (i := 4) (oi := { dst := some 18, op := _, type := _, pos := _, after := _, guard := _ }) (v := ?v1x3) rfl (by kernel_rfl) (by kernel_rfl) (by kernel_rfl) (fun _ _ _ h => h) (Or.inl ⟨by rfl, ?hy1x3⟩) hHeld ?rest1x3
  case hy1x3 => (intro w hSw; go_simp <;> with_reducible rfl)
  try simp only [Act.put, List.setIfInBounds_toArray, List.set_cons_zero, List.set_cons_succ]
  refine wpAnyH_take (i := 6) (oi := { dst := some 20, op := _, type := _, pos := _, after := _, guard := _ }) (v := ?v1x4) rfl (by kernel_rfl) (by kernel_rfl) (by kernel_rfl) (fun _ _ _ h => h) (Or.inl ⟨by rfl, ?hy1x4⟩) hHeld ?rest1x4
  case hy1x4 => (intro w hSw; go_simp <;> with_reducible rfl)
  try simp only [Act.put, List.setIfInBounds_toArray, List.set_cons_zero, List.set_cons_succ]
  refine wpAnyH_ready (rs := [1, 3, 5, 7]) (by kernel_rfl) (by simp) (AllReadyH.cons (o := { dst := some 15, op := _, type := _, pos := _, after := _, guard := _ }) rfl (fun K hK => ?way1x5x1) (AllReadyH.cons (o := { dst := some 17, op := _, type := _, pos := _, after := _, guard := _ }) rfl (fun K hK => ?way1x5x3) (AllReadyH.cons (o := { dst := some 19, op := _, type := _, pos := _, after := _, guard := _ }) rfl (fun K hK => ?way1x5x5) (AllReadyH.cons (o := { dst := some 21, op := _, type := _, pos := _, after := _, guard := _ }) rfl (fun K hK => ?way1x5x7) AllReadyH.nil))))
  case' way1x5x1 =>
    rw [if_pos (by rfl)]
    refine op_mk 32 3 (.tmp 14) (.tmp 14) (.int .i64 0) 8 rfl Try.underlying32 int_info rfl nb rfl rfl (by omega) (by omega) ?_
    intro U g1 z1 ge1 bU
    have Gl1 := hide (Nat.le_trans hHeld.size ge1)
    (try (have L11 := hide (show g1 < g1 from Nat.lt_of_lt_of_le Z1.out.lt ge1)))
    (try (have L21 := hide (show g2 < g1 from Nat.lt_of_lt_of_le Z2.out.lt ge1)))
    (try (have L31 := hide (show g3 < g1 from Nat.lt_of_lt_of_le Z3.out.lt ge1)))
    (try (have L41 := hide (show g4 < g1 from Nat.lt_of_lt_of_le Z4.out.lt ge1)))
    (try (replace Z1 := hide (Z1.out.keep bU)))
    (try (replace Z2 := hide (Z2.out.keep bU)))
    (try (replace Z3 := hide (Z3.out.keep bU)))
    (try (replace Z4 := hide (Z4.out.keep bU)))
    have Z1 := hide z1
    clear z1 ge1
    refine hK.out _ _ ?_ (fun hHeld => ?_)
    · exact below_on hHeld bU
    clear hK K
    try simp only [Act.put, List.setIfInBounds_toArray, List.set_cons_zero, List.set_cons_succ]
    refine wpAnyH_ready (rs := [3, 5, 7]) (by kernel_rfl) (by simp) (AllReadyH.cons (o := { dst := some 17, op := _, type := _, pos := _, after := _, guard := _ }) rfl (fun K hK => ?way1x6x3) (AllReadyH.cons (o := { dst := some 19, op := _, type := _, pos := _, after := _, guard := _ }) rfl (fun K hK => ?way1x6x5) (AllReadyH.cons (o := { dst := some 21, op := _, type := _, pos := _, after := _, guard := _ }) rfl (fun K hK => ?way1x6x7) AllReadyH.nil)))
    case' way1x6x3 =>
      rw [if_pos (by rfl)]
      refine op_mk 32 3 (.tmp 16) (.tmp 16) (.int .i64 0) 8 rfl Try.underlying32 int_info rfl nb rfl rfl (by omega) (by omega) ?_
      intro U g2 z2 ge2 bU
      have Gl2 := hide (Nat.le_trans hHeld.size ge2)
      (try (have L12 := hide (show g1 < g2 from Nat.lt_of_lt_of_le Z1.out.lt ge2)))
      (try (have L22 := hide (show g2 < g2 from Nat.lt_of_lt_of_le Z2.out.lt ge2)))
      (try (have L32 := hide (show g3 < g2 from Nat.lt_of_lt_of_le Z3.out.lt ge2)))
      (try (have L42 := hide (show g4 < g2 from Nat.lt_of_lt_of_le Z4.out.lt ge2)))
      (try (replace Z1 := hide (Z1.out.keep bU)))
      (try (replace Z2 := hide (Z2.out.keep bU)))
      (try (replace Z3 := hide (Z3.out.keep bU)))
      (try (replace Z4 := hide (Z4.out.keep bU)))
      have Z2 := hide z2
      clear z2 ge2
      refine hK.out _ _ ?_ (fun hHeld => ?_)
      · exact below_on hHeld bU
      clear hK K
      try simp only [Act.put, List.setIfInBounds_toArray, List.set_cons_zero, List.set_cons_succ]
      refine wpAnyH_ready (rs := [5, 7]) (by kernel_rfl) (by simp) (AllReadyH.cons (o := { dst := some 19, op := _, type := _, pos := _, after := _, guard := _ }) rfl (fun K hK => ?way1x7x5) (AllReadyH.cons (o := { dst := some 21, op := _, type := _, pos := _, after := _, guard := _ }) rfl (fun K hK => ?way1x7x7) AllReadyH.nil))
      case' way1x7x5 =>
        rw [if_pos (by rfl)]
        refine op_mk 32 3 (.tmp 18) (.tmp 18) (.int .i64 0) 8 rfl Try.underlying32 int_info rfl nw rfl rfl (by omega) (by omega) ?_
        intro U g3 z3 ge3 bU
        have Gl3 := hide (Nat.le_trans hHeld.size ge3)
        (try (have L13 := hide (show g1 < g3 from Nat.lt_of_lt_of_le Z1.out.lt ge3)))
        (try (have L23 := hide (show g2 < g3 from Nat.lt_of_lt_of_le Z2.out.lt ge3)))
        (try (have L33 := hide (show g3 < g3 from Nat.lt_of_lt_of_le Z3.out.lt ge3)))
        (try (have L43 := hide (show g4 < g3 from Nat.lt_of_lt_of_le Z4.out.lt ge3)))
        (try (replace Z1 := hide (Z1.out.keep bU)))
        (try (replace Z2 := hide (Z2.out.keep bU)))
        (try (replace Z3 := hide (Z3.out.keep bU)))
        (try (replace Z4 := hide (Z4.out.keep bU)))
        have Z3 := hide z3
        clear z3 ge3
        refine hK.out _ _ ?_ (fun hHeld => ?_)
        · exact below_on hHeld bU
        clear hK K
        try simp only [Act.put, List.setIfInBounds_toArray, List.set_cons_zero, List.set_cons_succ]
        refine wpAnyH_ready (rs := [7]) (by kernel_rfl) (by simp) (AllReadyH.cons (o := { dst := some 21, op := _, type := _, pos := _, after := _, guard := _ }) rfl (fun K hK => ?_) AllReadyH.nil)
        rw [if_pos (by rfl)]
        refine op_mk 32 3 (.tmp 20) (.tmp 20) (.int .i64 0) 8 rfl Try.underlying32 int_info rfl nw rfl rfl (by omega) (by omega) ?_
        intro U g4 z4 ge4 bU
        have Gl4 := hide (Nat.le_trans hHeld.size ge4)
        (try (have L14 := hide (show g1 < g4 from Nat.lt_of_lt_of_le Z1.out.lt ge4)))
        (try (have L24 := hide (show g2 < g4 from Nat.lt_of_lt_of_le Z2.out.lt ge4)))
        (try (have L34 := hide (show g3 < g4 from Nat.lt_of_lt_of_le Z3.out.lt ge4)))
        (try (have L44 := hide (show g4 < g4 from Nat.lt_of_lt_of_le Z4.out.lt ge4)))
        (try (replace Z1 := hide (Z1.out.keep bU)))
        (try (replace Z2 := hide (Z2.out.keep bU)))
        (try (replace Z3 := hide (Z3.out.keep bU)))
        (try (replace Z4 := hide (Z4.out.keep bU)))
        have Z4 := hide z4
        clear z4 ge4
        refine hK.out _ _ ?_ (fun hHeld => ?_)
        · exact below_on hHeld bU
        clear hK K
        try simp only [Act.put, List.setIfInBounds_toArray, List.set_cons_zero, List.set_cons_succ]
        refine wpAnyH_take (i := 8) (oi := { dst := some 22, op := _, type := _, pos := _, after := _, guard := _ }) (v := ?v1x9) rfl (by kernel_rfl) (by kernel_rfl) (by kernel_rfl) (fun _ _ _ h => h) (Or.inl ⟨by rfl, ?hy1x9⟩) hHeld ?rest1x9
        case hy1x9 => (intro w hSw; go_simp <;> with_reducible rfl)
        try simp only [Act.put, List.setIfInBounds_toArray, List.set_cons_zero, List.set_cons_succ]
        refine wpAnyH_take (i := 9) (oi := { dst := some 23, op := _, type := _, pos := _, after := _, guard := _ }) (v := ?v1x10) rfl (by kernel_rfl) (by kernel_rfl) (by kernel_rfl) (fun _ _ _ h => h) (Or.inl ⟨by rfl, ?hy1x10⟩) hHeld ?rest1x10
        case hy1x10 => (intro w hSw; go_simp <;> with_reducible rfl)
        try simp only [Act.put, List.setIfInBounds_toArray, List.set_cons_zero, List.set_cons_succ]
        refine wpAnyH_ready (rs := [10]) (by kernel_rfl) (by simp) (AllReadyH.cons (o := { dst := some 24, op := _, type := _, pos := _, after := _, guard := _ }) rfl (fun K hK => ?_) AllReadyH.nil)
        go_simp
        go_wp2_with fail
        refine hK.out _ _ ?_ (fun hHeld => ?_)
        · exact hHeld.alloc hHeld.size _
        clear hK K
        try simp only [Act.put, List.setIfInBounds_toArray, List.set_cons_zero, List.set_cons_succ]
        refine wpAnyH_take (i := 11) (oi := { dst := some 4, op := _, type := _, pos := _, after := _, guard := _ }) (v := ?v1x12) rfl (by kernel_rfl) (by kernel_rfl) (by kernel_rfl) (fun _ _ _ h => h) (Or.inl ⟨by rfl, ?hy1x12⟩) hHeld ?rest1x12
        case hy1x12 => (intro w hSw; go_simp <;> with_reducible rfl)
        try simp only [Act.put, List.setIfInBounds_toArray, List.set_cons_zero, List.set_cons_succ]
        refine wpAnyH_take (i := 12) (oi := { dst := some 5, op := _, type := _, pos := _, after := _, guard := _ }) (v := ?v1x13) rfl (by kernel_rfl) (by kernel_rfl) (by kernel_rfl) (fun _ _ _ h => h) (Or.inl ⟨by rfl, ?hy1x13⟩) hHeld ?rest1x13
        case hy1x13 => (intro w hSw; go_simp <;> with_reducible rfl)
        try simp only [Act.put, List.setIfInBounds_toArray, List.set_cons_zero, List.set_cons_succ]
        refine wpAnyH_done (by kernel_rfl) ?_ _
      case' way1x7x7 =>
        rw [if_pos (by rfl)]
        refine op_mk 32 3 (.tmp 20) (.tmp 20) (.int .i64 0) 8 rfl Try.underlying32 int_info rfl nw rfl rfl (by omega) (by omega) ?_
        intro U g4 z4 ge4 bU
        have Gl4 := hide (Nat.le_trans hHeld.size ge4)
        (try (have L14 := hide (show g1 < g4 from Nat.lt_of_lt_of_le Z1.out.lt ge4)))
        (try (have L24 := hide (show g2 < g4 from Nat.lt_of_lt_of_le Z2.out.lt ge4)))
        (try (have L34 := hide (show g3 < g4 from Nat.lt_of_lt_of_le Z3.out.lt ge4)))
        (try (have L44 := hide (show g4 < g4 from Nat.lt_of_lt_of_le Z4.out.lt ge4)))
        (try (replace Z1 := hide (Z1.out.keep bU)))
        (try (replace Z2 := hide (Z2.out.keep bU)))
        (try (replace Z3 := hide (Z3.out.keep bU)))
        (try (replace Z4 := hide (Z4.out.keep bU)))
        have Z4 := hide z4
        clear z4 ge4
        refine hK.out _ _ ?_ (fun hHeld => ?_)
        · exact below_on hHeld bU
        clear hK K
        try simp only [Act.put, List.setIfInBounds_toArray, List.set_cons_zero, List.set_cons_succ]
        refine wpAnyH_ready (rs := [5]) (by kernel_rfl) (by simp) (AllReadyH.cons (o := { dst := some 19, op := _, type := _, pos := _, after := _, guard := _ }) rfl (fun K hK => ?_) AllReadyH.nil)
        rw [if_pos (by rfl)]
        refine op_mk 32 3 (.tmp 18) (.tmp 18) (.int .i64 0) 8 rfl Try.underlying32 int_info rfl nw rfl rfl (by omega) (by omega) ?_
        intro U g3 z3 ge3 bU
        have Gl3 := hide (Nat.le_trans hHeld.size ge3)
        (try (have L13 := hide (show g1 < g3 from Nat.lt_of_lt_of_le Z1.out.lt ge3)))
        (try (have L23 := hide (show g2 < g3 from Nat.lt_of_lt_of_le Z2.out.lt ge3)))
        (try (have L33 := hide (show g3 < g3 from Nat.lt_of_lt_of_le Z3.out.lt ge3)))
        (try (have L43 := hide (show g4 < g3 from Nat.lt_of_lt_of_le Z4.out.lt ge3)))
        (try (replace Z1 := hide (Z1.out.keep bU)))
        (try (replace Z2 := hide (Z2.out.keep bU)))
        (try (replace Z3 := hide (Z3.out.keep bU)))
        (try (replace Z4 := hide (Z4.out.keep bU)))
        have Z3 := hide z3
        clear z3 ge3
        refine hK.out _ _ ?_ (fun hHeld => ?_)
        · exact below_on hHeld bU
        clear hK K
        try simp only [Act.put, List.setIfInBounds_toArray, List.set_cons_zero, List.set_cons_succ]
        refine wpAnyH_take (i := 8) (oi := { dst := some 22, op := _, type := _, pos := _, after := _, guard := _ }) (v := ?v1x15) rfl (by kernel_rfl) (by kernel_rfl) (by kernel_rfl) (fun _ _ _ h => h) (Or.inl ⟨by rfl, ?hy1x15⟩) hHeld ?rest1x15
        case hy1x15 => (intro w hSw; go_simp <;> with_reducible rfl)
        try simp only [Act.put, List.setIfInBounds_toArray, List.set_cons_zero, List.set_cons_succ]
        refine wpAnyH_take (i := 9) (oi := { dst := some 23, op := _, type := _, pos := _, after := _, guard := _ }) (v := ?v1x16) rfl (by kernel_rfl) (by kernel_rfl) (by kernel_rfl) (fun _ _ _ h => h) (Or.inl ⟨by rfl, ?hy1x16⟩) hHeld ?rest1x16
        case hy1x16 => (intro w hSw; go_simp <;> with_reducible rfl)
        try simp only [Act.put, List.setIfInBounds_toArray, List.set_cons_zero, List.set_cons_succ]
        refine wpAnyH_ready (rs := [10]) (by kernel_rfl) (by simp) (AllReadyH.cons (o := { dst := some 24, op := _, type := _, pos := _, after := _, guard := _ }) rfl (fun K hK => ?_) AllReadyH.nil)
        go_simp
        go_wp2_with fail
        refine hK.out _ _ ?_ (fun hHeld => ?_)
        · exact hHeld.alloc hHeld.size _
        clear hK K
        try simp only [Act.put, List.setIfInBounds_toArray, List.set_cons_zero, List.set_cons_succ]
        refine wpAnyH_take (i := 11) (oi := { dst := some 4, op := _, type := _, pos := _, after := _, guard := _ }) (v := ?v1x18) rfl (by kernel_rfl) (by kernel_rfl) (by kernel_rfl) (fun _ _ _ h => h) (Or.inl ⟨by rfl, ?hy1x18⟩) hHeld ?rest1x18
        case hy1x18 => (intro w hSw; go_simp <;> with_reducible rfl)
        try simp only [Act.put, List.setIfInBounds_toArray, List.set_cons_zero, List.set_cons_succ]
        refine wpAnyH_take (i := 12) (oi := { dst := some 5, op := _, type := _, pos := _, after := _, guard := _ }) (v := ?v1x19) rfl (by kernel_rfl) (by kernel_rfl) (by kernel_rfl) (fun _ _ _ h => h) (Or.inl ⟨by rfl, ?hy1x19⟩) hHeld ?rest1x19
        case hy1x19 => (intro w hSw; go_simp <;> with_reducible rfl)
        try simp only [Act.put, List.setIfInBounds_toArray, List.set_cons_zero, List.set_cons_succ]
        refine wpAnyH_done (by kernel_rfl) ?_ _
    case' way1x6x5 =>
      rw [if_pos (by rfl)]
      refine op_mk 32 3 (.tmp 18) (.tmp 18) (.int .i64 0) 8 rfl Try.underlying32 int_info rfl nw rfl rfl (by omega) (by omega) ?_
      intro U g3 z3 ge3 bU
      have Gl3 := hide (Nat.le_trans hHeld.size ge3)
      (try (have L13 := hide (show g1 < g3 from Nat.lt_of_lt_of_le Z1.out.lt ge3)))
      (try (have L23 := hide (show g2 < g3 from Nat.lt_of_lt_of_le Z2.out.lt ge3)))
      (try (have L33 := hide (show g3 < g3 from Nat.lt_of_lt_of_le Z3.out.lt ge3)))
      (try (have L43 := hide (show g4 < g3 from Nat.lt_of_lt_of_le Z4.out.lt ge3)))
      (try (replace Z1 := hide (Z1.out.keep bU)))
      (try (replace Z2 := hide (Z2.out.keep bU)))
      (try (replace Z3 := hide (Z3.out.keep bU)))
      (try (replace Z4 := hide (Z4.out.keep bU)))
      have Z3 := hide z3
      clear z3 ge3
      refine hK.out _ _ ?_ (fun hHeld => ?_)
      · exact below_on hHeld bU
      clear hK K
      try simp only [Act.put, List.setIfInBounds_toArray, List.set_cons_zero, List.set_cons_succ]
      refine wpAnyH_ready (rs := [3, 7]) (by kernel_rfl) (by simp) (AllReadyH.cons (o := { dst := some 17, op := _, type := _, pos := _, after := _, guard := _ }) rfl (fun K hK => ?way1x20x3) (AllReadyH.cons (o := { dst := some 21, op := _, type := _, pos := _, after := _, guard := _ }) rfl (fun K hK => ?way1x20x7) AllReadyH.nil))
      case' way1x20x3 =>
        rw [if_pos (by rfl)]
        refine op_mk 32 3 (.tmp 16) (.tmp 16) (.int .i64 0) 8 rfl Try.underlying32 int_info rfl nb rfl rfl (by omega) (by omega) ?_
        intro U g2 z2 ge2 bU
        have Gl2 := hide (Nat.le_trans hHeld.size ge2)
        (try (have L12 := hide (show g1 < g2 from Nat.lt_of_lt_of_le Z1.out.lt ge2)))
        (try (have L22 := hide (show g2 < g2 from Nat.lt_of_lt_of_le Z2.out.lt ge2)))
        (try (have L32 := hide (show g3 < g2 from Nat.lt_of_lt_of_le Z3.out.lt ge2)))
        (try (have L42 := hide (show g4 < g2 from Nat.lt_of_lt_of_le Z4.out.lt ge2)))
        (try (replace Z1 := hide (Z1.out.keep bU)))
        (try (replace Z2 := hide (Z2.out.keep bU)))
        (try (replace Z3 := hide (Z3.out.keep bU)))
        (try (replace Z4 := hide (Z4.out.keep bU)))
        have Z2 := hide z2
        clear z2 ge2
        refine hK.out _ _ ?_ (fun hHeld => ?_)
        · exact below_on hHeld bU
        clear hK K
        try simp only [Act.put, List.setIfInBounds_toArray, List.set_cons_zero, List.set_cons_succ]
        refine wpAnyH_ready (rs := [7]) (by kernel_rfl) (by simp) (AllReadyH.cons (o := { dst := some 21, op := _, type := _, pos := _, after := _, guard := _ }) rfl (fun K hK => ?_) AllReadyH.nil)
        rw [if_pos (by rfl)]
        refine op_mk 32 3 (.tmp 20) (.tmp 20) (.int .i64 0) 8 rfl Try.underlying32 int_info rfl nw rfl rfl (by omega) (by omega) ?_
        intro U g4 z4 ge4 bU
        have Gl4 := hide (Nat.le_trans hHeld.size ge4)
        (try (have L14 := hide (show g1 < g4 from Nat.lt_of_lt_of_le Z1.out.lt ge4)))
        (try (have L24 := hide (show g2 < g4 from Nat.lt_of_lt_of_le Z2.out.lt ge4)))
        (try (have L34 := hide (show g3 < g4 from Nat.lt_of_lt_of_le Z3.out.lt ge4)))
        (try (have L44 := hide (show g4 < g4 from Nat.lt_of_lt_of_le Z4.out.lt ge4)))
        (try (replace Z1 := hide (Z1.out.keep bU)))
        (try (replace Z2 := hide (Z2.out.keep bU)))
        (try (replace Z3 := hide (Z3.out.keep bU)))
        (try (replace Z4 := hide (Z4.out.keep bU)))
        have Z4 := hide z4
        clear z4 ge4
        refine hK.out _ _ ?_ (fun hHeld => ?_)
        · exact below_on hHeld bU
        clear hK K
        try simp only [Act.put, List.setIfInBounds_toArray, List.set_cons_zero, List.set_cons_succ]
        refine wpAnyH_take (i := 8) (oi := { dst := some 22, op := _, type := _, pos := _, after := _, guard := _ }) (v := ?v1x22) rfl (by kernel_rfl) (by kernel_rfl) (by kernel_rfl) (fun _ _ _ h => h) (Or.inl ⟨by rfl, ?hy1x22⟩) hHeld ?rest1x22
        case hy1x22 => (intro w hSw; go_simp <;> with_reducible rfl)
        try simp only [Act.put, List.setIfInBounds_toArray, List.set_cons_zero, List.set_cons_succ]
        refine wpAnyH_take (i := 9) (oi := { dst := some 23, op := _, type := _, pos := _, after := _, guard := _ }) (v := ?v1x23) rfl (by kernel_rfl) (by kernel_rfl) (by kernel_rfl) (fun _ _ _ h => h) (Or.inl ⟨by rfl, ?hy1x23⟩) hHeld ?rest1x23
        case hy1x23 => (intro w hSw; go_simp <;> with_reducible rfl)
        try simp only [Act.put, List.setIfInBounds_toArray, List.set_cons_zero, List.set_cons_succ]
        refine wpAnyH_ready (rs := [10]) (by kernel_rfl) (by simp) (AllReadyH.cons (o := { dst := some 24, op := _, type := _, pos := _, after := _, guard := _ }) rfl (fun K hK => ?_) AllReadyH.nil)
        go_simp
        go_wp2_with fail
        refine hK.out _ _ ?_ (fun hHeld => ?_)
        · exact hHeld.alloc hHeld.size _
        clear hK K
        try simp only [Act.put, List.setIfInBounds_toArray, List.set_cons_zero, List.set_cons_succ]
        refine wpAnyH_take (i := 11) (oi := { dst := some 4, op := _, type := _, pos := _, after := _, guard := _ }) (v := ?v1x25) rfl (by kernel_rfl) (by kernel_rfl) (by kernel_rfl) (fun _ _ _ h => h) (Or.inl ⟨by rfl, ?hy1x25⟩) hHeld ?rest1x25
        case hy1x25 => (intro w hSw; go_simp <;> with_reducible rfl)
        try simp only [Act.put, List.setIfInBounds_toArray, List.set_cons_zero, List.set_cons_succ]
        refine wpAnyH_take (i := 12) (oi := { dst := some 5, op := _, type := _, pos := _, after := _, guard := _ }) (v := ?v1x26) rfl (by kernel_rfl) (by kernel_rfl) (by kernel_rfl) (fun _ _ _ h => h) (Or.inl ⟨by rfl, ?hy1x26⟩) hHeld ?rest1x26
        case hy1x26 => (intro w hSw; go_simp <;> with_reducible rfl)
        try simp only [Act.put, List.setIfInBounds_toArray, List.set_cons_zero, List.set_cons_succ]
        refine wpAnyH_done (by kernel_rfl) ?_ _
      case' way1x20x7 =>
        rw [if_pos (by rfl)]
        refine op_mk 32 3 (.tmp 20) (.tmp 20) (.int .i64 0) 8 rfl Try.underlying32 int_info rfl nw rfl rfl (by omega) (by omega) ?_
        intro U g4 z4 ge4 bU
        have Gl4 := hide (Nat.le_trans hHeld.size ge4)
        (try (have L14 := hide (show g1 < g4 from Nat.lt_of_lt_of_le Z1.out.lt ge4)))
        (try (have L24 := hide (show g2 < g4 from Nat.lt_of_lt_of_le Z2.out.lt ge4)))
        (try (have L34 := hide (show g3 < g4 from Nat.lt_of_lt_of_le Z3.out.lt ge4)))
        (try (have L44 := hide (show g4 < g4 from Nat.lt_of_lt_of_le Z4.out.lt ge4)))
        (try (replace Z1 := hide (Z1.out.keep bU)))
        (try (replace Z2 := hide (Z2.out.keep bU)))
        (try (replace Z3 := hide (Z3.out.keep bU)))
        (try (replace Z4 := hide (Z4.out.keep bU)))
        have Z4 := hide z4
        clear z4 ge4
        refine hK.out _ _ ?_ (fun hHeld => ?_)
        · exact below_on hHeld bU
        clear hK K
        try simp only [Act.put, List.setIfInBounds_toArray, List.set_cons_zero, List.set_cons_succ]
        refine wpAnyH_ready (rs := [3]) (by kernel_rfl) (by simp) (AllReadyH.cons (o := { dst := some 17, op := _, type := _, pos := _, after := _, guard := _ }) rfl (fun K hK => ?_) AllReadyH.nil)
        rw [if_pos (by rfl)]
        refine op_mk 32 3 (.tmp 16) (.tmp 16) (.int .i64 0) 8 rfl Try.underlying32 int_info rfl nb rfl rfl (by omega) (by omega) ?_
        intro U g2 z2 ge2 bU
        have Gl2 := hide (Nat.le_trans hHeld.size ge2)
        (try (have L12 := hide (show g1 < g2 from Nat.lt_of_lt_of_le Z1.out.lt ge2)))
        (try (have L22 := hide (show g2 < g2 from Nat.lt_of_lt_of_le Z2.out.lt ge2)))
        (try (have L32 := hide (show g3 < g2 from Nat.lt_of_lt_of_le Z3.out.lt ge2)))
        (try (have L42 := hide (show g4 < g2 from Nat.lt_of_lt_of_le Z4.out.lt ge2)))
        (try (replace Z1 := hide (Z1.out.keep bU)))
        (try (replace Z2 := hide (Z2.out.keep bU)))
        (try (replace Z3 := hide (Z3.out.keep bU)))
        (try (replace Z4 := hide (Z4.out.keep bU)))
        have Z2 := hide z2
        clear z2 ge2
        refine hK.out _ _ ?_ (fun hHeld => ?_)
        · exact below_on hHeld bU
        clear hK K
        try simp only [Act.put, List.setIfInBounds_toArray, List.set_cons_zero, List.set_cons_succ]
        refine wpAnyH_take (i := 8) (oi := { dst := some 22, op := _, type := _, pos := _, after := _, guard := _ }) (v := ?v1x28) rfl (by kernel_rfl) (by kernel_rfl) (by kernel_rfl) (fun _ _ _ h => h) (Or.inl ⟨by rfl, ?hy1x28⟩) hHeld ?rest1x28
        case hy1x28 => (intro w hSw; go_simp <;> with_reducible rfl)
        try simp only [Act.put, List.setIfInBounds_toArray, List.set_cons_zero, List.set_cons_succ]
        refine wpAnyH_take (i := 9) (oi := { dst := some 23, op := _, type := _, pos := _, after := _, guard := _ }) (v := ?v1x29) rfl (by kernel_rfl) (by kernel_rfl) (by kernel_rfl) (fun _ _ _ h => h) (Or.inl ⟨by rfl, ?hy1x29⟩) hHeld ?rest1x29
        case hy1x29 => (intro w hSw; go_simp <;> with_reducible rfl)
        try simp only [Act.put, List.setIfInBounds_toArray, List.set_cons_zero, List.set_cons_succ]
        refine wpAnyH_ready (rs := [10]) (by kernel_rfl) (by simp) (AllReadyH.cons (o := { dst := some 24, op := _, type := _, pos := _, after := _, guard := _ }) rfl (fun K hK => ?_) AllReadyH.nil)
        go_simp
        go_wp2_with fail
        refine hK.out _ _ ?_ (fun hHeld => ?_)
        · exact hHeld.alloc hHeld.size _
        clear hK K
        try simp only [Act.put, List.setIfInBounds_toArray, List.set_cons_zero, List.set_cons_succ]
        refine wpAnyH_take (i := 11) (oi := { dst := some 4, op := _, type := _, pos := _, after := _, guard := _ }) (v := ?v1x31) rfl (by kernel_rfl) (by kernel_rfl) (by kernel_rfl) (fun _ _ _ h => h) (Or.inl ⟨by rfl, ?hy1x31⟩) hHeld ?rest1x31
        case hy1x31 => (intro w hSw; go_simp <;> with_reducible rfl)
        try simp only [Act.put, List.setIfInBounds_toArray, List.set_cons_zero, List.set_cons_succ]
        refine wpAnyH_take (i := 12) (oi := { dst := some 5, op := _, type := _, pos := _, after := _, guard := _ }) (v := ?v1x32) rfl (by kernel_rfl) (by kernel_rfl) (by kernel_rfl) (fun _ _ _ h => h) (Or.inl ⟨by rfl, ?hy1x32⟩) hHeld ?rest1x32
        case hy1x32 => (intro w hSw; go_simp <;> with_reducible rfl)
        try simp only [Act.put, List.setIfInBounds_toArray, List.set_cons_zero, List.set_cons_succ]
        refine wpAnyH_done (by kernel_rfl) ?_ _
    case' way1x6x7 =>
      rw [if_pos (by rfl)]
      refine op_mk 32 3 (.tmp 20) (.tmp 20) (.int .i64 0) 8 rfl Try.underlying32 int_info rfl nw rfl rfl (by omega) (by omega) ?_
      intro U g4 z4 ge4 bU
      have Gl4 := hide (Nat.le_trans hHeld.size ge4)
      (try (have L14 := hide (show g1 < g4 from Nat.lt_of_lt_of_le Z1.out.lt ge4)))
      (try (have L24 := hide (show g2 < g4 from Nat.lt_of_lt_of_le Z2.out.lt ge4)))
      (try (have L34 := hide (show g3 < g4 from Nat.lt_of_lt_of_le Z3.out.lt ge4)))
      (try (have L44 := hide (show g4 < g4 from Nat.lt_of_lt_of_le Z4.out.lt ge4)))
      (try (replace Z1 := hide (Z1.out.keep bU)))
      (try (replace Z2 := hide (Z2.out.keep bU)))
      (try (replace Z3 := hide (Z3.out.keep bU)))
      (try (replace Z4 := hide (Z4.out.keep bU)))
      have Z4 := hide z4
      clear z4 ge4
      refine hK.out _ _ ?_ (fun hHeld => ?_)
      · exact below_on hHeld bU
      clear hK K
      try simp only [Act.put, List.setIfInBounds_toArray, List.set_cons_zero, List.set_cons_succ]
      refine wpAnyH_ready (rs := [3, 5]) (by kernel_rfl) (by simp) (AllReadyH.cons (o := { dst := some 17, op := _, type := _, pos := _, after := _, guard := _ }) rfl (fun K hK => ?way1x33x3) (AllReadyH.cons (o := { dst := some 19, op := _, type := _, pos := _, after := _, guard := _ }) rfl (fun K hK => ?way1x33x5) AllReadyH.nil))
      case' way1x33x3 =>
        rw [if_pos (by rfl)]
        refine op_mk 32 3 (.tmp 16) (.tmp 16) (.int .i64 0) 8 rfl Try.underlying32 int_info rfl nb rfl rfl (by omega) (by omega) ?_
        intro U g2 z2 ge2 bU
        have Gl2 := hide (Nat.le_trans hHeld.size ge2)
        (try (have L12 := hide (show g1 < g2 from Nat.lt_of_lt_of_le Z1.out.lt ge2)))
        (try (have L22 := hide (show g2 < g2 from Nat.lt_of_lt_of_le Z2.out.lt ge2)))
        (try (have L32 := hide (show g3 < g2 from Nat.lt_of_lt_of_le Z3.out.lt ge2)))
        (try (have L42 := hide (show g4 < g2 from Nat.lt_of_lt_of_le Z4.out.lt ge2)))
        (try (replace Z1 := hide (Z1.out.keep bU)))
        (try (replace Z2 := hide (Z2.out.keep bU)))
        (try (replace Z3 := hide (Z3.out.keep bU)))
        (try (replace Z4 := hide (Z4.out.keep bU)))
        have Z2 := hide z2
        clear z2 ge2
        refine hK.out _ _ ?_ (fun hHeld => ?_)
        · exact below_on hHeld bU
        clear hK K
        try simp only [Act.put, List.setIfInBounds_toArray, List.set_cons_zero, List.set_cons_succ]
        refine wpAnyH_ready (rs := [5]) (by kernel_rfl) (by simp) (AllReadyH.cons (o := { dst := some 19, op := _, type := _, pos := _, after := _, guard := _ }) rfl (fun K hK => ?_) AllReadyH.nil)
        rw [if_pos (by rfl)]
        refine op_mk 32 3 (.tmp 18) (.tmp 18) (.int .i64 0) 8 rfl Try.underlying32 int_info rfl nw rfl rfl (by omega) (by omega) ?_
        intro U g3 z3 ge3 bU
        have Gl3 := hide (Nat.le_trans hHeld.size ge3)
        (try (have L13 := hide (show g1 < g3 from Nat.lt_of_lt_of_le Z1.out.lt ge3)))
        (try (have L23 := hide (show g2 < g3 from Nat.lt_of_lt_of_le Z2.out.lt ge3)))
        (try (have L33 := hide (show g3 < g3 from Nat.lt_of_lt_of_le Z3.out.lt ge3)))
        (try (have L43 := hide (show g4 < g3 from Nat.lt_of_lt_of_le Z4.out.lt ge3)))
        (try (replace Z1 := hide (Z1.out.keep bU)))
        (try (replace Z2 := hide (Z2.out.keep bU)))
        (try (replace Z3 := hide (Z3.out.keep bU)))
        (try (replace Z4 := hide (Z4.out.keep bU)))
        have Z3 := hide z3
        clear z3 ge3
        refine hK.out _ _ ?_ (fun hHeld => ?_)
        · exact below_on hHeld bU
        clear hK K
        try simp only [Act.put, List.setIfInBounds_toArray, List.set_cons_zero, List.set_cons_succ]
        refine wpAnyH_take (i := 8) (oi := { dst := some 22, op := _, type := _, pos := _, after := _, guard := _ }) (v := ?v1x35) rfl (by kernel_rfl) (by kernel_rfl) (by kernel_rfl) (fun _ _ _ h => h) (Or.inl ⟨by rfl, ?hy1x35⟩) hHeld ?rest1x35
        case hy1x35 => (intro w hSw; go_simp <;> with_reducible rfl)
        try simp only [Act.put, List.setIfInBounds_toArray, List.set_cons_zero, List.set_cons_succ]
        refine wpAnyH_take (i := 9) (oi := { dst := some 23, op := _, type := _, pos := _, after := _, guard := _ }) (v := ?v1x36) rfl (by kernel_rfl) (by kernel_rfl) (by kernel_rfl) (fun _ _ _ h => h) (Or.inl ⟨by rfl, ?hy1x36⟩) hHeld ?rest1x36
        case hy1x36 => (intro w hSw; go_simp <;> with_reducible rfl)
        try simp only [Act.put, List.setIfInBounds_toArray, List.set_cons_zero, List.set_cons_succ]
        refine wpAnyH_ready (rs := [10]) (by kernel_rfl) (by simp) (AllReadyH.cons (o := { dst := some 24, op := _, type := _, pos := _, after := _, guard := _ }) rfl (fun K hK => ?_) AllReadyH.nil)
        go_simp
        go_wp2_with fail
        refine hK.out _ _ ?_ (fun hHeld => ?_)
        · exact hHeld.alloc hHeld.size _
        clear hK K
        try simp only [Act.put, List.setIfInBounds_toArray, List.set_cons_zero, List.set_cons_succ]
        refine wpAnyH_take (i := 11) (oi := { dst := some 4, op := _, type := _, pos := _, after := _, guard := _ }) (v := ?v1x38) rfl (by kernel_rfl) (by kernel_rfl) (by kernel_rfl) (fun _ _ _ h => h) (Or.inl ⟨by rfl, ?hy1x38⟩) hHeld ?rest1x38
        case hy1x38 => (intro w hSw; go_simp <;> with_reducible rfl)
        try simp only [Act.put, List.setIfInBounds_toArray, List.set_cons_zero, List.set_cons_succ]
        refine wpAnyH_take (i := 12) (oi := { dst := some 5, op := _, type := _, pos := _, after := _, guard := _ }) (v := ?v1x39) rfl (by kernel_rfl) (by kernel_rfl) (by kernel_rfl) (fun _ _ _ h => h) (Or.inl ⟨by rfl, ?hy1x39⟩) hHeld ?rest1x39
        case hy1x39 => (intro w hSw; go_simp <;> with_reducible rfl)
        try simp only [Act.put, List.setIfInBounds_toArray, List.set_cons_zero, List.set_cons_succ]
        refine wpAnyH_done (by kernel_rfl) ?_ _
      case' way1x33x5 =>
        rw [if_pos (by rfl)]
        refine op_mk 32 3 (.tmp 18) (.tmp 18) (.int .i64 0) 8 rfl Try.underlying32 int_info rfl nw rfl rfl (by omega) (by omega) ?_
        intro U g3 z3 ge3 bU
        have Gl3 := hide (Nat.le_trans hHeld.size ge3)
        (try (have L13 := hide (show g1 < g3 from Nat.lt_of_lt_of_le Z1.out.lt ge3)))
        (try (have L23 := hide (show g2 < g3 from Nat.lt_of_lt_of_le Z2.out.lt ge3)))
        (try (have L33 := hide (show g3 < g3 from Nat.lt_of_lt_of_le Z3.out.lt ge3)))
        (try (have L43 := hide (show g4 < g3 from Nat.lt_of_lt_of_le Z4.out.lt ge3)))
        (try (replace Z1 := hide (Z1.out.keep bU)))
        (try (replace Z2 := hide (Z2.out.keep bU)))
        (try (replace Z3 := hide (Z3.out.keep bU)))
        (try (replace Z4 := hide (Z4.out.keep bU)))
        have Z3 := hide z3
        clear z3 ge3
        refine hK.out _ _ ?_ (fun hHeld => ?_)
        · exact below_on hHeld bU
        clear hK K
        try simp only [Act.put, List.setIfInBounds_toArray, List.set_cons_zero, List.set_cons_succ]
        refine wpAnyH_ready (rs := [3]) (by kernel_rfl) (by simp) (AllReadyH.cons (o := { dst := some 17, op := _, type := _, pos := _, after := _, guard := _ }) rfl (fun K hK => ?_) AllReadyH.nil)
        rw [if_pos (by rfl)]
        refine op_mk 32 3 (.tmp 16) (.tmp 16) (.int .i64 0) 8 rfl Try.underlying32 int_info rfl nb rfl rfl (by omega) (by omega) ?_
        intro U g2 z2 ge2 bU
        have Gl2 := hide (Nat.le_trans hHeld.size ge2)
        (try (have L12 := hide (show g1 < g2 from Nat.lt_of_lt_of_le Z1.out.lt ge2)))
        (try (have L22 := hide (show g2 < g2 from Nat.lt_of_lt_of_le Z2.out.lt ge2)))
        (try (have L32 := hide (show g3 < g2 from Nat.lt_of_lt_of_le Z3.out.lt ge2)))
        (try (have L42 := hide (show g4 < g2 from Nat.lt_of_lt_of_le Z4.out.lt ge2)))
        (try (replace Z1 := hide (Z1.out.keep bU)))
        (try (replace Z2 := hide (Z2.out.keep bU)))
        (try (replace Z3 := hide (Z3.out.keep bU)))
        (try (replace Z4 := hide (Z4.out.keep bU)))
        have Z2 := hide z2
        clear z2 ge2
        refine hK.out _ _ ?_ (fun hHeld => ?_)
        · exact below_on hHeld bU
        clear hK K
        try simp only [Act.put, List.setIfInBounds_toArray, List.set_cons_zero, List.set_cons_succ]
        refine wpAnyH_take (i := 8) (oi := { dst := some 22, op := _, type := _, pos := _, after := _, guard := _ }) (v := ?v1x41) rfl (by kernel_rfl) (by kernel_rfl) (by kernel_rfl) (fun _ _ _ h => h) (Or.inl ⟨by rfl, ?hy1x41⟩) hHeld ?rest1x41
        case hy1x41 => (intro w hSw; go_simp <;> with_reducible rfl)
        try simp only [Act.put, List.setIfInBounds_toArray, List.set_cons_zero, List.set_cons_succ]
        refine wpAnyH_take (i := 9) (oi := { dst := some 23, op := _, type := _, pos := _, after := _, guard := _ }) (v := ?v1x42) rfl (by kernel_rfl) (by kernel_rfl) (by kernel_rfl) (fun _ _ _ h => h) (Or.inl ⟨by rfl, ?hy1x42⟩) hHeld ?rest1x42
        case hy1x42 => (intro w hSw; go_simp <;> with_reducible rfl)
        try simp only [Act.put, List.setIfInBounds_toArray, List.set_cons_zero, List.set_cons_succ]
        refine wpAnyH_ready (rs := [10]) (by kernel_rfl) (by simp) (AllReadyH.cons (o := { dst := some 24, op := _, type := _, pos := _, after := _, guard := _ }) rfl (fun K hK => ?_) AllReadyH.nil)
        go_simp
        go_wp2_with fail
        refine hK.out _ _ ?_ (fun hHeld => ?_)
        · exact hHeld.alloc hHeld.size _
        clear hK K
        try simp only [Act.put, List.setIfInBounds_toArray, List.set_cons_zero, List.set_cons_succ]
        refine wpAnyH_take (i := 11) (oi := { dst := some 4, op := _, type := _, pos := _, after := _, guard := _ }) (v := ?v1x44) rfl (by kernel_rfl) (by kernel_rfl) (by kernel_rfl) (fun _ _ _ h => h) (Or.inl ⟨by rfl, ?hy1x44⟩) hHeld ?rest1x44
        case hy1x44 => (intro w hSw; go_simp <;> with_reducible rfl)
        try simp only [Act.put, List.setIfInBounds_toArray, List.set_cons_zero, List.set_cons_succ]
        refine wpAnyH_take (i := 12) (oi := { dst := some 5, op := _, type := _, pos := _, after := _, guard := _ }) (v := ?v1x45) rfl (by kernel_rfl) (by kernel_rfl) (by kernel_rfl) (fun _ _ _ h => h) (Or.inl ⟨by rfl, ?hy1x45⟩) hHeld ?rest1x45
        case hy1x45 => (intro w hSw; go_simp <;> with_reducible rfl)
        try simp only [Act.put, List.setIfInBounds_toArray, List.set_cons_zero, List.set_cons_succ]
        refine wpAnyH_done (by kernel_rfl) ?_ _
  case' way1x5x3 =>
    rw [if_pos (by rfl)]
    refine op_mk 32 3 (.tmp 16) (.tmp 16) (.int .i64 0) 8 rfl Try.underlying32 int_info rfl nb rfl rfl (by omega) (by omega) ?_
    intro U g2 z2 ge2 bU
    have Gl2 := hide (Nat.le_trans hHeld.size ge2)
    (try (have L12 := hide (show g1 < g2 from Nat.lt_of_lt_of_le Z1.out.lt ge2)))
    (try (have L22 := hide (show g2 < g2 from Nat.lt_of_lt_of_le Z2.out.lt ge2)))
    (try (have L32 := hide (show g3 < g2 from Nat.lt_of_lt_of_le Z3.out.lt ge2)))
    (try (have L42 := hide (show g4 < g2 from Nat.lt_of_lt_of_le Z4.out.lt ge2)))
    (try (replace Z1 := hide (Z1.out.keep bU)))
    (try (replace Z2 := hide (Z2.out.keep bU)))
    (try (replace Z3 := hide (Z3.out.keep bU)))
    (try (replace Z4 := hide (Z4.out.keep bU)))
    have Z2 := hide z2
    clear z2 ge2
    refine hK.out _ _ ?_ (fun hHeld => ?_)
    · exact below_on hHeld bU
    clear hK K
    try simp only [Act.put, List.setIfInBounds_toArray, List.set_cons_zero, List.set_cons_succ]
    refine wpAnyH_ready (rs := [1, 5, 7]) (by kernel_rfl) (by simp) (AllReadyH.cons (o := { dst := some 15, op := _, type := _, pos := _, after := _, guard := _ }) rfl (fun K hK => ?way1x46x1) (AllReadyH.cons (o := { dst := some 19, op := _, type := _, pos := _, after := _, guard := _ }) rfl (fun K hK => ?way1x46x5) (AllReadyH.cons (o := { dst := some 21, op := _, type := _, pos := _, after := _, guard := _ }) rfl (fun K hK => ?way1x46x7) AllReadyH.nil)))
    case' way1x46x1 =>
      rw [if_pos (by rfl)]
      refine op_mk 32 3 (.tmp 14) (.tmp 14) (.int .i64 0) 8 rfl Try.underlying32 int_info rfl nb rfl rfl (by omega) (by omega) ?_
      intro U g1 z1 ge1 bU
      have Gl1 := hide (Nat.le_trans hHeld.size ge1)
      (try (have L11 := hide (show g1 < g1 from Nat.lt_of_lt_of_le Z1.out.lt ge1)))
      (try (have L21 := hide (show g2 < g1 from Nat.lt_of_lt_of_le Z2.out.lt ge1)))
      (try (have L31 := hide (show g3 < g1 from Nat.lt_of_lt_of_le Z3.out.lt ge1)))
      (try (have L41 := hide (show g4 < g1 from Nat.lt_of_lt_of_le Z4.out.lt ge1)))
      (try (replace Z1 := hide (Z1.out.keep bU)))
      (try (replace Z2 := hide (Z2.out.keep bU)))
      (try (replace Z3 := hide (Z3.out.keep bU)))
      (try (replace Z4 := hide (Z4.out.keep bU)))
      have Z1 := hide z1
      clear z1 ge1
      refine hK.out _ _ ?_ (fun hHeld => ?_)
      · exact below_on hHeld bU
      clear hK K
      try simp only [Act.put, List.setIfInBounds_toArray, List.set_cons_zero, List.set_cons_succ]
      refine wpAnyH_ready (rs := [5, 7]) (by kernel_rfl) (by simp) (AllReadyH.cons (o := { dst := some 19, op := _, type := _, pos := _, after := _, guard := _ }) rfl (fun K hK => ?way1x47x5) (AllReadyH.cons (o := { dst := some 21, op := _, type := _, pos := _, after := _, guard := _ }) rfl (fun K hK => ?way1x47x7) AllReadyH.nil))
      case' way1x47x5 =>
        rw [if_pos (by rfl)]
        refine op_mk 32 3 (.tmp 18) (.tmp 18) (.int .i64 0) 8 rfl Try.underlying32 int_info rfl nw rfl rfl (by omega) (by omega) ?_
        intro U g3 z3 ge3 bU
        have Gl3 := hide (Nat.le_trans hHeld.size ge3)
        (try (have L13 := hide (show g1 < g3 from Nat.lt_of_lt_of_le Z1.out.lt ge3)))
        (try (have L23 := hide (show g2 < g3 from Nat.lt_of_lt_of_le Z2.out.lt ge3)))
        (try (have L33 := hide (show g3 < g3 from Nat.lt_of_lt_of_le Z3.out.lt ge3)))
        (try (have L43 := hide (show g4 < g3 from Nat.lt_of_lt_of_le Z4.out.lt ge3)))
        (try (replace Z1 := hide (Z1.out.keep bU)))
        (try (replace Z2 := hide (Z2.out.keep bU)))
        (try (replace Z3 := hide (Z3.out.keep bU)))
        (try (replace Z4 := hide (Z4.out.keep bU)))
        have Z3 := hide z3
        clear z3 ge3
        refine hK.out _ _ ?_ (fun hHeld => ?_)
        · exact below_on hHeld bU
        clear hK K
        try simp only [Act.put, List.setIfInBounds_toArray, List.set_cons_zero, List.set_cons_succ]
        refine wpAnyH_ready (rs := [7]) (by kernel_rfl) (by simp) (AllReadyH.cons (o := { dst := some 21, op := _, type := _, pos := _, after := _, guard := _ }) rfl (fun K hK => ?_) AllReadyH.nil)
        rw [if_pos (by rfl)]
        refine op_mk 32 3 (.tmp 20) (.tmp 20) (.int .i64 0) 8 rfl Try.underlying32 int_info rfl nw rfl rfl (by omega) (by omega) ?_
        intro U g4 z4 ge4 bU
        have Gl4 := hide (Nat.le_trans hHeld.size ge4)
        (try (have L14 := hide (show g1 < g4 from Nat.lt_of_lt_of_le Z1.out.lt ge4)))
        (try (have L24 := hide (show g2 < g4 from Nat.lt_of_lt_of_le Z2.out.lt ge4)))
        (try (have L34 := hide (show g3 < g4 from Nat.lt_of_lt_of_le Z3.out.lt ge4)))
        (try (have L44 := hide (show g4 < g4 from Nat.lt_of_lt_of_le Z4.out.lt ge4)))
        (try (replace Z1 := hide (Z1.out.keep bU)))
        (try (replace Z2 := hide (Z2.out.keep bU)))
        (try (replace Z3 := hide (Z3.out.keep bU)))
        (try (replace Z4 := hide (Z4.out.keep bU)))
        have Z4 := hide z4
        clear z4 ge4
        refine hK.out _ _ ?_ (fun hHeld => ?_)
        · exact below_on hHeld bU
        clear hK K
        try simp only [Act.put, List.setIfInBounds_toArray, List.set_cons_zero, List.set_cons_succ]
        refine wpAnyH_take (i := 8) (oi := { dst := some 22, op := _, type := _, pos := _, after := _, guard := _ }) (v := ?v1x49) rfl (by kernel_rfl) (by kernel_rfl) (by kernel_rfl) (fun _ _ _ h => h) (Or.inl ⟨by rfl, ?hy1x49⟩) hHeld ?rest1x49
        case hy1x49 => (intro w hSw; go_simp <;> with_reducible rfl)
        try simp only [Act.put, List.setIfInBounds_toArray, List.set_cons_zero, List.set_cons_succ]
        refine wpAnyH_take (i := 9) (oi := { dst := some 23, op := _, type := _, pos := _, after := _, guard := _ }) (v := ?v1x50) rfl (by kernel_rfl) (by kernel_rfl) (by kernel_rfl) (fun _ _ _ h => h) (Or.inl ⟨by rfl, ?hy1x50⟩) hHeld ?rest1x50
        case hy1x50 => (intro w hSw; go_simp <;> with_reducible rfl)
        try simp only [Act.put, List.setIfInBounds_toArray, List.set_cons_zero, List.set_cons_succ]
        refine wpAnyH_ready (rs := [10]) (by kernel_rfl) (by simp) (AllReadyH.cons (o := { dst := some 24, op := _, type := _, pos := _, after := _, guard := _ }) rfl (fun K hK => ?_) AllReadyH.nil)
        go_simp
        go_wp2_with fail
        refine hK.out _ _ ?_ (fun hHeld => ?_)
        · exact hHeld.alloc hHeld.size _
        clear hK K
        try simp only [Act.put, List.setIfInBounds_toArray, List.set_cons_zero, List.set_cons_succ]
        refine wpAnyH_take (i := 11) (oi := { dst := some 4, op := _, type := _, pos := _, after := _, guard := _ }) (v := ?v1x52) rfl (by kernel_rfl) (by kernel_rfl) (by kernel_rfl) (fun _ _ _ h => h) (Or.inl ⟨by rfl, ?hy1x52⟩) hHeld ?rest1x52
        case hy1x52 => (intro w hSw; go_simp <;> with_reducible rfl)
        try simp only [Act.put, List.setIfInBounds_toArray, List.set_cons_zero, List.set_cons_succ]
        refine wpAnyH_take (i := 12) (oi := { dst := some 5, op := _, type := _, pos := _, after := _, guard := _ }) (v := ?v1x53) rfl (by kernel_rfl) (by kernel_rfl) (by kernel_rfl) (fun _ _ _ h => h) (Or.inl ⟨by rfl, ?hy1x53⟩) hHeld ?rest1x53
        case hy1x53 => (intro w hSw; go_simp <;> with_reducible rfl)
        try simp only [Act.put, List.setIfInBounds_toArray, List.set_cons_zero, List.set_cons_succ]
        refine wpAnyH_done (by kernel_rfl) ?_ _
      case' way1x47x7 =>
        rw [if_pos (by rfl)]
        refine op_mk 32 3 (.tmp 20) (.tmp 20) (.int .i64 0) 8 rfl Try.underlying32 int_info rfl nw rfl rfl (by omega) (by omega) ?_
        intro U g4 z4 ge4 bU
        have Gl4 := hide (Nat.le_trans hHeld.size ge4)
        (try (have L14 := hide (show g1 < g4 from Nat.lt_of_lt_of_le Z1.out.lt ge4)))
        (try (have L24 := hide (show g2 < g4 from Nat.lt_of_lt_of_le Z2.out.lt ge4)))
        (try (have L34 := hide (show g3 < g4 from Nat.lt_of_lt_of_le Z3.out.lt ge4)))
        (try (have L44 := hide (show g4 < g4 from Nat.lt_of_lt_of_le Z4.out.lt ge4)))
        (try (replace Z1 := hide (Z1.out.keep bU)))
        (try (replace Z2 := hide (Z2.out.keep bU)))
        (try (replace Z3 := hide (Z3.out.keep bU)))
        (try (replace Z4 := hide (Z4.out.keep bU)))
        have Z4 := hide z4
        clear z4 ge4
        refine hK.out _ _ ?_ (fun hHeld => ?_)
        · exact below_on hHeld bU
        clear hK K
        try simp only [Act.put, List.setIfInBounds_toArray, List.set_cons_zero, List.set_cons_succ]
        refine wpAnyH_ready (rs := [5]) (by kernel_rfl) (by simp) (AllReadyH.cons (o := { dst := some 19, op := _, type := _, pos := _, after := _, guard := _ }) rfl (fun K hK => ?_) AllReadyH.nil)
        rw [if_pos (by rfl)]
        refine op_mk 32 3 (.tmp 18) (.tmp 18) (.int .i64 0) 8 rfl Try.underlying32 int_info rfl nw rfl rfl (by omega) (by omega) ?_
        intro U g3 z3 ge3 bU
        have Gl3 := hide (Nat.le_trans hHeld.size ge3)
        (try (have L13 := hide (show g1 < g3 from Nat.lt_of_lt_of_le Z1.out.lt ge3)))
        (try (have L23 := hide (show g2 < g3 from Nat.lt_of_lt_of_le Z2.out.lt ge3)))
        (try (have L33 := hide (show g3 < g3 from Nat.lt_of_lt_of_le Z3.out.lt ge3)))
        (try (have L43 := hide (show g4 < g3 from Nat.lt_of_lt_of_le Z4.out.lt ge3)))
        (try (replace Z1 := hide (Z1.out.keep bU)))
        (try (replace Z2 := hide (Z2.out.keep bU)))
        (try (replace Z3 := hide (Z3.out.keep bU)))
        (try (replace Z4 := hide (Z4.out.keep bU)))
        have Z3 := hide z3
        clear z3 ge3
        refine hK.out _ _ ?_ (fun hHeld => ?_)
        · exact below_on hHeld bU
        clear hK K
        try simp only [Act.put, List.setIfInBounds_toArray, List.set_cons_zero, List.set_cons_succ]
        refine wpAnyH_take (i := 8) (oi := { dst := some 22, op := _, type := _, pos := _, after := _, guard := _ }) (v := ?v1x55) rfl (by kernel_rfl) (by kernel_rfl) (by kernel_rfl) (fun _ _ _ h => h) (Or.inl ⟨by rfl, ?hy1x55⟩) hHeld ?rest1x55
        case hy1x55 => (intro w hSw; go_simp <;> with_reducible rfl)
        try simp only [Act.put, List.setIfInBounds_toArray, List.set_cons_zero, List.set_cons_succ]
        refine wpAnyH_take (i := 9) (oi := { dst := some 23, op := _, type := _, pos := _, after := _, guard := _ }) (v := ?v1x56) rfl (by kernel_rfl) (by kernel_rfl) (by kernel_rfl) (fun _ _ _ h => h) (Or.inl ⟨by rfl, ?hy1x56⟩) hHeld ?rest1x56
        case hy1x56 => (intro w hSw; go_simp <;> with_reducible rfl)
        try simp only [Act.put, List.setIfInBounds_toArray, List.set_cons_zero, List.set_cons_succ]
        refine wpAnyH_ready (rs := [10]) (by kernel_rfl) (by simp) (AllReadyH.cons (o := { dst := some 24, op := _, type := _, pos := _, after := _, guard := _ }) rfl (fun K hK => ?_) AllReadyH.nil)
        go_simp
        go_wp2_with fail
        refine hK.out _ _ ?_ (fun hHeld => ?_)
        · exact hHeld.alloc hHeld.size _
        clear hK K
        try simp only [Act.put, List.setIfInBounds_toArray, List.set_cons_zero, List.set_cons_succ]
        refine wpAnyH_take (i := 11) (oi := { dst := some 4, op := _, type := _, pos := _, after := _, guard := _ }) (v := ?v1x58) rfl (by kernel_rfl) (by kernel_rfl) (by kernel_rfl) (fun _ _ _ h => h) (Or.inl ⟨by rfl, ?hy1x58⟩) hHeld ?rest1x58
        case hy1x58 => (intro w hSw; go_simp <;> with_reducible rfl)
        try simp only [Act.put, List.setIfInBounds_toArray, List.set_cons_zero, List.set_cons_succ]
        refine wpAnyH_take (i := 12) (oi := { dst := some 5, op := _, type := _, pos := _, after := _, guard := _ }) (v := ?v1x59) rfl (by kernel_rfl) (by kernel_rfl) (by kernel_rfl) (fun _ _ _ h => h) (Or.inl ⟨by rfl, ?hy1x59⟩) hHeld ?rest1x59
        case hy1x59 => (intro w hSw; go_simp <;> with_reducible rfl)
        try simp only [Act.put, List.setIfInBounds_toArray, List.set_cons_zero, List.set_cons_succ]
        refine wpAnyH_done (by kernel_rfl) ?_ _
    case' way1x46x5 =>
      rw [if_pos (by rfl)]
      refine op_mk 32 3 (.tmp 18) (.tmp 18) (.int .i64 0) 8 rfl Try.underlying32 int_info rfl nw rfl rfl (by omega) (by omega) ?_
      intro U g3 z3 ge3 bU
      have Gl3 := hide (Nat.le_trans hHeld.size ge3)
      (try (have L13 := hide (show g1 < g3 from Nat.lt_of_lt_of_le Z1.out.lt ge3)))
      (try (have L23 := hide (show g2 < g3 from Nat.lt_of_lt_of_le Z2.out.lt ge3)))
      (try (have L33 := hide (show g3 < g3 from Nat.lt_of_lt_of_le Z3.out.lt ge3)))
      (try (have L43 := hide (show g4 < g3 from Nat.lt_of_lt_of_le Z4.out.lt ge3)))
      (try (replace Z1 := hide (Z1.out.keep bU)))
      (try (replace Z2 := hide (Z2.out.keep bU)))
      (try (replace Z3 := hide (Z3.out.keep bU)))
      (try (replace Z4 := hide (Z4.out.keep bU)))
      have Z3 := hide z3
      clear z3 ge3
      refine hK.out _ _ ?_ (fun hHeld => ?_)
      · exact below_on hHeld bU
      clear hK K
      try simp only [Act.put, List.setIfInBounds_toArray, List.set_cons_zero, List.set_cons_succ]
      refine wpAnyH_ready (rs := [1, 7]) (by kernel_rfl) (by simp) (AllReadyH.cons (o := { dst := some 15, op := _, type := _, pos := _, after := _, guard := _ }) rfl (fun K hK => ?way1x60x1) (AllReadyH.cons (o := { dst := some 21, op := _, type := _, pos := _, after := _, guard := _ }) rfl (fun K hK => ?way1x60x7) AllReadyH.nil))
      case' way1x60x1 =>
        rw [if_pos (by rfl)]
        refine op_mk 32 3 (.tmp 14) (.tmp 14) (.int .i64 0) 8 rfl Try.underlying32 int_info rfl nb rfl rfl (by omega) (by omega) ?_
        intro U g1 z1 ge1 bU
        have Gl1 := hide (Nat.le_trans hHeld.size ge1)
        (try (have L11 := hide (show g1 < g1 from Nat.lt_of_lt_of_le Z1.out.lt ge1)))
        (try (have L21 := hide (show g2 < g1 from Nat.lt_of_lt_of_le Z2.out.lt ge1)))
        (try (have L31 := hide (show g3 < g1 from Nat.lt_of_lt_of_le Z3.out.lt ge1)))
        (try (have L41 := hide (show g4 < g1 from Nat.lt_of_lt_of_le Z4.out.lt ge1)))
        (try (replace Z1 := hide (Z1.out.keep bU)))
        (try (replace Z2 := hide (Z2.out.keep bU)))
        (try (replace Z3 := hide (Z3.out.keep bU)))
        (try (replace Z4 := hide (Z4.out.keep bU)))
        have Z1 := hide z1
        clear z1 ge1
        refine hK.out _ _ ?_ (fun hHeld => ?_)
        · exact below_on hHeld bU
        clear hK K
        try simp only [Act.put, List.setIfInBounds_toArray, List.set_cons_zero, List.set_cons_succ]
        refine wpAnyH_ready (rs := [7]) (by kernel_rfl) (by simp) (AllReadyH.cons (o := { dst := some 21, op := _, type := _, pos := _, after := _, guard := _ }) rfl (fun K hK => ?_) AllReadyH.nil)
        rw [if_pos (by rfl)]
        refine op_mk 32 3 (.tmp 20) (.tmp 20) (.int .i64 0) 8 rfl Try.underlying32 int_info rfl nw rfl rfl (by omega) (by omega) ?_
        intro U g4 z4 ge4 bU
        have Gl4 := hide (Nat.le_trans hHeld.size ge4)
        (try (have L14 := hide (show g1 < g4 from Nat.lt_of_lt_of_le Z1.out.lt ge4)))
        (try (have L24 := hide (show g2 < g4 from Nat.lt_of_lt_of_le Z2.out.lt ge4)))
        (try (have L34 := hide (show g3 < g4 from Nat.lt_of_lt_of_le Z3.out.lt ge4)))
        (try (have L44 := hide (show g4 < g4 from Nat.lt_of_lt_of_le Z4.out.lt ge4)))
        (try (replace Z1 := hide (Z1.out.keep bU)))
        (try (replace Z2 := hide (Z2.out.keep bU)))
        (try (replace Z3 := hide (Z3.out.keep bU)))
        (try (replace Z4 := hide (Z4.out.keep bU)))
        have Z4 := hide z4
        clear z4 ge4
        refine hK.out _ _ ?_ (fun hHeld => ?_)
        · exact below_on hHeld bU
        clear hK K
        try simp only [Act.put, List.setIfInBounds_toArray, List.set_cons_zero, List.set_cons_succ]
        refine wpAnyH_take (i := 8) (oi := { dst := some 22, op := _, type := _, pos := _, after := _, guard := _ }) (v := ?v1x62) rfl (by kernel_rfl) (by kernel_rfl) (by kernel_rfl) (fun _ _ _ h => h) (Or.inl ⟨by rfl, ?hy1x62⟩) hHeld ?rest1x62
        case hy1x62 => (intro w hSw; go_simp <;> with_reducible rfl)
        try simp only [Act.put, List.setIfInBounds_toArray, List.set_cons_zero, List.set_cons_succ]
        refine wpAnyH_take (i := 9) (oi := { dst := some 23, op := _, type := _, pos := _, after := _, guard := _ }) (v := ?v1x63) rfl (by kernel_rfl) (by kernel_rfl) (by kernel_rfl) (fun _ _ _ h => h) (Or.inl ⟨by rfl, ?hy1x63⟩) hHeld ?rest1x63
        case hy1x63 => (intro w hSw; go_simp <;> with_reducible rfl)
        try simp only [Act.put, List.setIfInBounds_toArray, List.set_cons_zero, List.set_cons_succ]
        refine wpAnyH_ready (rs := [10]) (by kernel_rfl) (by simp) (AllReadyH.cons (o := { dst := some 24, op := _, type := _, pos := _, after := _, guard := _ }) rfl (fun K hK => ?_) AllReadyH.nil)
        go_simp
        go_wp2_with fail
        refine hK.out _ _ ?_ (fun hHeld => ?_)
        · exact hHeld.alloc hHeld.size _
        clear hK K
        try simp only [Act.put, List.setIfInBounds_toArray, List.set_cons_zero, List.set_cons_succ]
        refine wpAnyH_take (i := 11) (oi := { dst := some 4, op := _, type := _, pos := _, after := _, guard := _ }) (v := ?v1x65) rfl (by kernel_rfl) (by kernel_rfl) (by kernel_rfl) (fun _ _ _ h => h) (Or.inl ⟨by rfl, ?hy1x65⟩) hHeld ?rest1x65
        case hy1x65 => (intro w hSw; go_simp <;> with_reducible rfl)
        try simp only [Act.put, List.setIfInBounds_toArray, List.set_cons_zero, List.set_cons_succ]
        refine wpAnyH_take (i := 12) (oi := { dst := some 5, op := _, type := _, pos := _, after := _, guard := _ }) (v := ?v1x66) rfl (by kernel_rfl) (by kernel_rfl) (by kernel_rfl) (fun _ _ _ h => h) (Or.inl ⟨by rfl, ?hy1x66⟩) hHeld ?rest1x66
        case hy1x66 => (intro w hSw; go_simp <;> with_reducible rfl)
        try simp only [Act.put, List.setIfInBounds_toArray, List.set_cons_zero, List.set_cons_succ]
        refine wpAnyH_done (by kernel_rfl) ?_ _
      case' way1x60x7 =>
        rw [if_pos (by rfl)]
        refine op_mk 32 3 (.tmp 20) (.tmp 20) (.int .i64 0) 8 rfl Try.underlying32 int_info rfl nw rfl rfl (by omega) (by omega) ?_
        intro U g4 z4 ge4 bU
        have Gl4 := hide (Nat.le_trans hHeld.size ge4)
        (try (have L14 := hide (show g1 < g4 from Nat.lt_of_lt_of_le Z1.out.lt ge4)))
        (try (have L24 := hide (show g2 < g4 from Nat.lt_of_lt_of_le Z2.out.lt ge4)))
        (try (have L34 := hide (show g3 < g4 from Nat.lt_of_lt_of_le Z3.out.lt ge4)))
        (try (have L44 := hide (show g4 < g4 from Nat.lt_of_lt_of_le Z4.out.lt ge4)))
        (try (replace Z1 := hide (Z1.out.keep bU)))
        (try (replace Z2 := hide (Z2.out.keep bU)))
        (try (replace Z3 := hide (Z3.out.keep bU)))
        (try (replace Z4 := hide (Z4.out.keep bU)))
        have Z4 := hide z4
        clear z4 ge4
        refine hK.out _ _ ?_ (fun hHeld => ?_)
        · exact below_on hHeld bU
        clear hK K
        try simp only [Act.put, List.setIfInBounds_toArray, List.set_cons_zero, List.set_cons_succ]
        refine wpAnyH_ready (rs := [1]) (by kernel_rfl) (by simp) (AllReadyH.cons (o := { dst := some 15, op := _, type := _, pos := _, after := _, guard := _ }) rfl (fun K hK => ?_) AllReadyH.nil)
        rw [if_pos (by rfl)]
        refine op_mk 32 3 (.tmp 14) (.tmp 14) (.int .i64 0) 8 rfl Try.underlying32 int_info rfl nb rfl rfl (by omega) (by omega) ?_
        intro U g1 z1 ge1 bU
        have Gl1 := hide (Nat.le_trans hHeld.size ge1)
        (try (have L11 := hide (show g1 < g1 from Nat.lt_of_lt_of_le Z1.out.lt ge1)))
        (try (have L21 := hide (show g2 < g1 from Nat.lt_of_lt_of_le Z2.out.lt ge1)))
        (try (have L31 := hide (show g3 < g1 from Nat.lt_of_lt_of_le Z3.out.lt ge1)))
        (try (have L41 := hide (show g4 < g1 from Nat.lt_of_lt_of_le Z4.out.lt ge1)))
        (try (replace Z1 := hide (Z1.out.keep bU)))
        (try (replace Z2 := hide (Z2.out.keep bU)))
        (try (replace Z3 := hide (Z3.out.keep bU)))
        (try (replace Z4 := hide (Z4.out.keep bU)))
        have Z1 := hide z1
        clear z1 ge1
        refine hK.out _ _ ?_ (fun hHeld => ?_)
        · exact below_on hHeld bU
        clear hK K
        try simp only [Act.put, List.setIfInBounds_toArray, List.set_cons_zero, List.set_cons_succ]
        refine wpAnyH_take (i := 8) (oi := { dst := some 22, op := _, type := _, pos := _, after := _, guard := _ }) (v := ?v1x68) rfl (by kernel_rfl) (by kernel_rfl) (by kernel_rfl) (fun _ _ _ h => h) (Or.inl ⟨by rfl, ?hy1x68⟩) hHeld ?rest1x68
        case hy1x68 => (intro w hSw; go_simp <;> with_reducible rfl)
        try simp only [Act.put, List.setIfInBounds_toArray, List.set_cons_zero, List.set_cons_succ]
        refine wpAnyH_take (i := 9) (oi := { dst := some 23, op := _, type := _, pos := _, after := _, guard := _ }) (v := ?v1x69) rfl (by kernel_rfl) (by kernel_rfl) (by kernel_rfl) (fun _ _ _ h => h) (Or.inl ⟨by rfl, ?hy1x69⟩) hHeld ?rest1x69
        case hy1x69 => (intro w hSw; go_simp <;> with_reducible rfl)
        try simp only [Act.put, List.setIfInBounds_toArray, List.set_cons_zero, List.set_cons_succ]
        refine wpAnyH_ready (rs := [10]) (by kernel_rfl) (by simp) (AllReadyH.cons (o := { dst := some 24, op := _, type := _, pos := _, after := _, guard := _ }) rfl (fun K hK => ?_) AllReadyH.nil)
        go_simp
        go_wp2_with fail
        refine hK.out _ _ ?_ (fun hHeld => ?_)
        · exact hHeld.alloc hHeld.size _
        clear hK K
        try simp only [Act.put, List.setIfInBounds_toArray, List.set_cons_zero, List.set_cons_succ]
        refine wpAnyH_take (i := 11) (oi := { dst := some 4, op := _, type := _, pos := _, after := _, guard := _ }) (v := ?v1x71) rfl (by kernel_rfl) (by kernel_rfl) (by kernel_rfl) (fun _ _ _ h => h) (Or.inl ⟨by rfl, ?hy1x71⟩) hHeld ?rest1x71
        case hy1x71 => (intro w hSw; go_simp <;> with_reducible rfl)
        try simp only [Act.put, List.setIfInBounds_toArray, List.set_cons_zero, List.set_cons_succ]
        refine wpAnyH_take (i := 12) (oi := { dst := some 5, op := _, type := _, pos := _, after := _, guard := _ }) (v := ?v1x72) rfl (by kernel_rfl) (by kernel_rfl) (by kernel_rfl) (fun _ _ _ h => h) (Or.inl ⟨by rfl, ?hy1x72⟩) hHeld ?rest1x72
        case hy1x72 => (intro w hSw; go_simp <;> with_reducible rfl)
        try simp only [Act.put, List.setIfInBounds_toArray, List.set_cons_zero, List.set_cons_succ]
        refine wpAnyH_done (by kernel_rfl) ?_ _
    case' way1x46x7 =>
      rw [if_pos (by rfl)]
      refine op_mk 32 3 (.tmp 20) (.tmp 20) (.int .i64 0) 8 rfl Try.underlying32 int_info rfl nw rfl rfl (by omega) (by omega) ?_
      intro U g4 z4 ge4 bU
      have Gl4 := hide (Nat.le_trans hHeld.size ge4)
      (try (have L14 := hide (show g1 < g4 from Nat.lt_of_lt_of_le Z1.out.lt ge4)))
      (try (have L24 := hide (show g2 < g4 from Nat.lt_of_lt_of_le Z2.out.lt ge4)))
      (try (have L34 := hide (show g3 < g4 from Nat.lt_of_lt_of_le Z3.out.lt ge4)))
      (try (have L44 := hide (show g4 < g4 from Nat.lt_of_lt_of_le Z4.out.lt ge4)))
      (try (replace Z1 := hide (Z1.out.keep bU)))
      (try (replace Z2 := hide (Z2.out.keep bU)))
      (try (replace Z3 := hide (Z3.out.keep bU)))
      (try (replace Z4 := hide (Z4.out.keep bU)))
      have Z4 := hide z4
      clear z4 ge4
      refine hK.out _ _ ?_ (fun hHeld => ?_)
      · exact below_on hHeld bU
      clear hK K
      try simp only [Act.put, List.setIfInBounds_toArray, List.set_cons_zero, List.set_cons_succ]
      refine wpAnyH_ready (rs := [1, 5]) (by kernel_rfl) (by simp) (AllReadyH.cons (o := { dst := some 15, op := _, type := _, pos := _, after := _, guard := _ }) rfl (fun K hK => ?way1x73x1) (AllReadyH.cons (o := { dst := some 19, op := _, type := _, pos := _, after := _, guard := _ }) rfl (fun K hK => ?way1x73x5) AllReadyH.nil))
      case' way1x73x1 =>
        rw [if_pos (by rfl)]
        refine op_mk 32 3 (.tmp 14) (.tmp 14) (.int .i64 0) 8 rfl Try.underlying32 int_info rfl nb rfl rfl (by omega) (by omega) ?_
        intro U g1 z1 ge1 bU
        have Gl1 := hide (Nat.le_trans hHeld.size ge1)
        (try (have L11 := hide (show g1 < g1 from Nat.lt_of_lt_of_le Z1.out.lt ge1)))
        (try (have L21 := hide (show g2 < g1 from Nat.lt_of_lt_of_le Z2.out.lt ge1)))
        (try (have L31 := hide (show g3 < g1 from Nat.lt_of_lt_of_le Z3.out.lt ge1)))
        (try (have L41 := hide (show g4 < g1 from Nat.lt_of_lt_of_le Z4.out.lt ge1)))
        (try (replace Z1 := hide (Z1.out.keep bU)))
        (try (replace Z2 := hide (Z2.out.keep bU)))
        (try (replace Z3 := hide (Z3.out.keep bU)))
        (try (replace Z4 := hide (Z4.out.keep bU)))
        have Z1 := hide z1
        clear z1 ge1
        refine hK.out _ _ ?_ (fun hHeld => ?_)
        · exact below_on hHeld bU
        clear hK K
        try simp only [Act.put, List.setIfInBounds_toArray, List.set_cons_zero, List.set_cons_succ]
        refine wpAnyH_ready (rs := [5]) (by kernel_rfl) (by simp) (AllReadyH.cons (o := { dst := some 19, op := _, type := _, pos := _, after := _, guard := _ }) rfl (fun K hK => ?_) AllReadyH.nil)
        rw [if_pos (by rfl)]
        refine op_mk 32 3 (.tmp 18) (.tmp 18) (.int .i64 0) 8 rfl Try.underlying32 int_info rfl nw rfl rfl (by omega) (by omega) ?_
        intro U g3 z3 ge3 bU
        have Gl3 := hide (Nat.le_trans hHeld.size ge3)
        (try (have L13 := hide (show g1 < g3 from Nat.lt_of_lt_of_le Z1.out.lt ge3)))
        (try (have L23 := hide (show g2 < g3 from Nat.lt_of_lt_of_le Z2.out.lt ge3)))
        (try (have L33 := hide (show g3 < g3 from Nat.lt_of_lt_of_le Z3.out.lt ge3)))
        (try (have L43 := hide (show g4 < g3 from Nat.lt_of_lt_of_le Z4.out.lt ge3)))
        (try (replace Z1 := hide (Z1.out.keep bU)))
        (try (replace Z2 := hide (Z2.out.keep bU)))
        (try (replace Z3 := hide (Z3.out.keep bU)))
        (try (replace Z4 := hide (Z4.out.keep bU)))
        have Z3 := hide z3
        clear z3 ge3
        refine hK.out _ _ ?_ (fun hHeld => ?_)
        · exact below_on hHeld bU
        clear hK K
        try simp only [Act.put, List.setIfInBounds_toArray, List.set_cons_zero, List.set_cons_succ]
        refine wpAnyH_take (i := 8) (oi := { dst := some 22, op := _, type := _, pos := _, after := _, guard := _ }) (v := ?v1x75) rfl (by kernel_rfl) (by kernel_rfl) (by kernel_rfl) (fun _ _ _ h => h) (Or.inl ⟨by rfl, ?hy1x75⟩) hHeld ?rest1x75
        case hy1x75 => (intro w hSw; go_simp <;> with_reducible rfl)
        try simp only [Act.put, List.setIfInBounds_toArray, List.set_cons_zero, List.set_cons_succ]
        refine wpAnyH_take (i := 9) (oi := { dst := some 23, op := _, type := _, pos := _, after := _, guard := _ }) (v := ?v1x76) rfl (by kernel_rfl) (by kernel_rfl) (by kernel_rfl) (fun _ _ _ h => h) (Or.inl ⟨by rfl, ?hy1x76⟩) hHeld ?rest1x76
        case hy1x76 => (intro w hSw; go_simp <;> with_reducible rfl)
        try simp only [Act.put, List.setIfInBounds_toArray, List.set_cons_zero, List.set_cons_succ]
        refine wpAnyH_ready (rs := [10]) (by kernel_rfl) (by simp) (AllReadyH.cons (o := { dst := some 24, op := _, type := _, pos := _, after := _, guard := _ }) rfl (fun K hK => ?_) AllReadyH.nil)
        go_simp
        go_wp2_with fail
        refine hK.out _ _ ?_ (fun hHeld => ?_)
        · exact hHeld.alloc hHeld.size _
        clear hK K
        try simp only [Act.put, List.setIfInBounds_toArray, List.set_cons_zero, List.set_cons_succ]
        refine wpAnyH_take (i := 11) (oi := { dst := some 4, op := _, type := _, pos := _, after := _, guard := _ }) (v := ?v1x78) rfl (by kernel_rfl) (by kernel_rfl) (by kernel_rfl) (fun _ _ _ h => h) (Or.inl ⟨by rfl, ?hy1x78⟩) hHeld ?rest1x78
        case hy1x78 => (intro w hSw; go_simp <;> with_reducible rfl)
        try simp only [Act.put, List.setIfInBounds_toArray, List.set_cons_zero, List.set_cons_succ]
        refine wpAnyH_take (i := 12) (oi := { dst := some 5, op := _, type := _, pos := _, after := _, guard := _ }) (v := ?v1x79) rfl (by kernel_rfl) (by kernel_rfl) (by kernel_rfl) (fun _ _ _ h => h) (Or.inl ⟨by rfl, ?hy1x79⟩) hHeld ?rest1x79
        case hy1x79 => (intro w hSw; go_simp <;> with_reducible rfl)
        try simp only [Act.put, List.setIfInBounds_toArray, List.set_cons_zero, List.set_cons_succ]
        refine wpAnyH_done (by kernel_rfl) ?_ _
      case' way1x73x5 =>
        rw [if_pos (by rfl)]
        refine op_mk 32 3 (.tmp 18) (.tmp 18) (.int .i64 0) 8 rfl Try.underlying32 int_info rfl nw rfl rfl (by omega) (by omega) ?_
        intro U g3 z3 ge3 bU
        have Gl3 := hide (Nat.le_trans hHeld.size ge3)
        (try (have L13 := hide (show g1 < g3 from Nat.lt_of_lt_of_le Z1.out.lt ge3)))
        (try (have L23 := hide (show g2 < g3 from Nat.lt_of_lt_of_le Z2.out.lt ge3)))
        (try (have L33 := hide (show g3 < g3 from Nat.lt_of_lt_of_le Z3.out.lt ge3)))
        (try (have L43 := hide (show g4 < g3 from Nat.lt_of_lt_of_le Z4.out.lt ge3)))
        (try (replace Z1 := hide (Z1.out.keep bU)))
        (try (replace Z2 := hide (Z2.out.keep bU)))
        (try (replace Z3 := hide (Z3.out.keep bU)))
        (try (replace Z4 := hide (Z4.out.keep bU)))
        have Z3 := hide z3
        clear z3 ge3
        refine hK.out _ _ ?_ (fun hHeld => ?_)
        · exact below_on hHeld bU
        clear hK K
        try simp only [Act.put, List.setIfInBounds_toArray, List.set_cons_zero, List.set_cons_succ]
        refine wpAnyH_ready (rs := [1]) (by kernel_rfl) (by simp) (AllReadyH.cons (o := { dst := some 15, op := _, type := _, pos := _, after := _, guard := _ }) rfl (fun K hK => ?_) AllReadyH.nil)
        rw [if_pos (by rfl)]
        refine op_mk 32 3 (.tmp 14) (.tmp 14) (.int .i64 0) 8 rfl Try.underlying32 int_info rfl nb rfl rfl (by omega) (by omega) ?_
        intro U g1 z1 ge1 bU
        have Gl1 := hide (Nat.le_trans hHeld.size ge1)
        (try (have L11 := hide (show g1 < g1 from Nat.lt_of_lt_of_le Z1.out.lt ge1)))
        (try (have L21 := hide (show g2 < g1 from Nat.lt_of_lt_of_le Z2.out.lt ge1)))
        (try (have L31 := hide (show g3 < g1 from Nat.lt_of_lt_of_le Z3.out.lt ge1)))
        (try (have L41 := hide (show g4 < g1 from Nat.lt_of_lt_of_le Z4.out.lt ge1)))
        (try (replace Z1 := hide (Z1.out.keep bU)))
        (try (replace Z2 := hide (Z2.out.keep bU)))
        (try (replace Z3 := hide (Z3.out.keep bU)))
        (try (replace Z4 := hide (Z4.out.keep bU)))
        have Z1 := hide z1
        clear z1 ge1
        refine hK.out _ _ ?_ (fun hHeld => ?_)
        · exact below_on hHeld bU
        clear hK K
        try simp only [Act.put, List.setIfInBounds_toArray, List.set_cons_zero, List.set_cons_succ]
        refine wpAnyH_take (i := 8) (oi := { dst := some 22, op := _, type := _, pos := _, after := _, guard := _ }) (v := ?v1x81) rfl (by kernel_rfl) (by kernel_rfl) (by kernel_rfl) (fun _ _ _ h => h) (Or.inl ⟨by rfl, ?hy1x81⟩) hHeld ?rest1x81
        case hy1x81 => (intro w hSw; go_simp <;> with_reducible rfl)
        try simp only [Act.put, List.setIfInBounds_toArray, List.set_cons_zero, List.set_cons_succ]
        refine wpAnyH_take (i := 9) (oi := { dst := some 23, op := _, type := _, pos := _, after := _, guard := _ }) (v := ?v1x82) rfl (by kernel_rfl) (by kernel_rfl) (by kernel_rfl) (fun _ _ _ h => h) (Or.inl ⟨by rfl, ?hy1x82⟩) hHeld ?rest1x82
        case hy1x82 => (intro w hSw; go_simp <;> with_reducible rfl)
        try simp only [Act.put, List.setIfInBounds_toArray, List.set_cons_zero, List.set_cons_succ]
        refine wpAnyH_ready (rs := [10]) (by kernel_rfl) (by simp) (AllReadyH.cons (o := { dst := some 24, op := _, type := _, pos := _, after := _, guard := _ }) rfl (fun K hK => ?_) AllReadyH.nil)
        go_simp
        go_wp2_with fail
        refine hK.out _ _ ?_ (fun hHeld => ?_)
        · exact hHeld.alloc hHeld.size _
        clear hK K
        try simp only [Act.put, List.setIfInBounds_toArray, List.set_cons_zero, List.set_cons_succ]
        refine wpAnyH_take (i := 11) (oi := { dst := some 4, op := _, type := _, pos := _, after := _, guard := _ }) (v := ?v1x84) rfl (by kernel_rfl) (by kernel_rfl) (by kernel_rfl) (fun _ _ _ h => h) (Or.inl ⟨by rfl, ?hy1x84⟩) hHeld ?rest1x84
        case hy1x84 => (intro w hSw; go_simp <;> with_reducible rfl)
        try simp only [Act.put, List.setIfInBounds_toArray, List.set_cons_zero, List.set_cons_succ]
        refine wpAnyH_take (i := 12) (oi := { dst := some 5, op := _, type := _, pos := _, after := _, guard := _ }) (v := ?v1x85) rfl (by kernel_rfl) (by kernel_rfl) (by kernel_rfl) (fun _ _ _ h => h) (Or.inl ⟨by rfl, ?hy1x85⟩) hHeld ?rest1x85
        case hy1x85 => (intro w hSw; go_simp <;> with_reducible rfl)
        try simp only [Act.put, List.setIfInBounds_toArray, List.set_cons_zero, List.set_cons_succ]
        refine wpAnyH_done (by kernel_rfl) ?_ _
  case' way1x5x5 =>
    rw [if_pos (by rfl)]
    refine op_mk 32 3 (.tmp 18) (.tmp 18) (.int .i64 0) 8 rfl Try.underlying32 int_info rfl nw rfl rfl (by omega) (by omega) ?_
    intro U g3 z3 ge3 bU
    have Gl3 := hide (Nat.le_trans hHeld.size ge3)
    (try (have L13 := hide (show g1 < g3 from Nat.lt_of_lt_of_le Z1.out.lt ge3)))
    (try (have L23 := hide (show g2 < g3 from Nat.lt_of_lt_of_le Z2.out.lt ge3)))
    (try (have L33 := hide (show g3 < g3 from Nat.lt_of_lt_of_le Z3.out.lt ge3)))
    (try (have L43 := hide (show g4 < g3 from Nat.lt_of_lt_of_le Z4.out.lt ge3)))
    (try (replace Z1 := hide (Z1.out.keep bU)))
    (try (replace Z2 := hide (Z2.out.keep bU)))
    (try (replace Z3 := hide (Z3.out.keep bU)))
    (try (replace Z4 := hide (Z4.out.keep bU)))
    have Z3 := hide z3
    clear z3 ge3
    refine hK.out _ _ ?_ (fun hHeld => ?_)
    · exact below_on hHeld bU
    clear hK K
    try simp only [Act.put, List.setIfInBounds_toArray, List.set_cons_zero, List.set_cons_succ]
    refine wpAnyH_ready (rs := [1, 3, 7]) (by kernel_rfl) (by simp) (AllReadyH.cons (o := { dst := some 15, op := _, type := _, pos := _, after := _, guard := _ }) rfl (fun K hK => ?way1x86x1) (AllReadyH.cons (o := { dst := some 17, op := _, type := _, pos := _, after := _, guard := _ }) rfl (fun K hK => ?way1x86x3) (AllReadyH.cons (o := { dst := some 21, op := _, type := _, pos := _, after := _, guard := _ }) rfl (fun K hK => ?way1x86x7) AllReadyH.nil)))
    case' way1x86x1 =>
      rw [if_pos (by rfl)]
      refine op_mk 32 3 (.tmp 14) (.tmp 14) (.int .i64 0) 8 rfl Try.underlying32 int_info rfl nb rfl rfl (by omega) (by omega) ?_
      intro U g1 z1 ge1 bU
      have Gl1 := hide (Nat.le_trans hHeld.size ge1)
      (try (have L11 := hide (show g1 < g1 from Nat.lt_of_lt_of_le Z1.out.lt ge1)))
      (try (have L21 := hide (show g2 < g1 from Nat.lt_of_lt_of_le Z2.out.lt ge1)))
      (try (have L31 := hide (show g3 < g1 from Nat.lt_of_lt_of_le Z3.out.lt ge1)))
      (try (have L41 := hide (show g4 < g1 from Nat.lt_of_lt_of_le Z4.out.lt ge1)))
      (try (replace Z1 := hide (Z1.out.keep bU)))
      (try (replace Z2 := hide (Z2.out.keep bU)))
      (try (replace Z3 := hide (Z3.out.keep bU)))
      (try (replace Z4 := hide (Z4.out.keep bU)))
      have Z1 := hide z1
      clear z1 ge1
      refine hK.out _ _ ?_ (fun hHeld => ?_)
      · exact below_on hHeld bU
      clear hK K
      try simp only [Act.put, List.setIfInBounds_toArray, List.set_cons_zero, List.set_cons_succ]
      refine wpAnyH_ready (rs := [3, 7]) (by kernel_rfl) (by simp) (AllReadyH.cons (o := { dst := some 17, op := _, type := _, pos := _, after := _, guard := _ }) rfl (fun K hK => ?way1x87x3) (AllReadyH.cons (o := { dst := some 21, op := _, type := _, pos := _, after := _, guard := _ }) rfl (fun K hK => ?way1x87x7) AllReadyH.nil))
      case' way1x87x3 =>
        rw [if_pos (by rfl)]
        refine op_mk 32 3 (.tmp 16) (.tmp 16) (.int .i64 0) 8 rfl Try.underlying32 int_info rfl nb rfl rfl (by omega) (by omega) ?_
        intro U g2 z2 ge2 bU
        have Gl2 := hide (Nat.le_trans hHeld.size ge2)
        (try (have L12 := hide (show g1 < g2 from Nat.lt_of_lt_of_le Z1.out.lt ge2)))
        (try (have L22 := hide (show g2 < g2 from Nat.lt_of_lt_of_le Z2.out.lt ge2)))
        (try (have L32 := hide (show g3 < g2 from Nat.lt_of_lt_of_le Z3.out.lt ge2)))
        (try (have L42 := hide (show g4 < g2 from Nat.lt_of_lt_of_le Z4.out.lt ge2)))
        (try (replace Z1 := hide (Z1.out.keep bU)))
        (try (replace Z2 := hide (Z2.out.keep bU)))
        (try (replace Z3 := hide (Z3.out.keep bU)))
        (try (replace Z4 := hide (Z4.out.keep bU)))
        have Z2 := hide z2
        clear z2 ge2
        refine hK.out _ _ ?_ (fun hHeld => ?_)
        · exact below_on hHeld bU
        clear hK K
        try simp only [Act.put, List.setIfInBounds_toArray, List.set_cons_zero, List.set_cons_succ]
        refine wpAnyH_ready (rs := [7]) (by kernel_rfl) (by simp) (AllReadyH.cons (o := { dst := some 21, op := _, type := _, pos := _, after := _, guard := _ }) rfl (fun K hK => ?_) AllReadyH.nil)
        rw [if_pos (by rfl)]
        refine op_mk 32 3 (.tmp 20) (.tmp 20) (.int .i64 0) 8 rfl Try.underlying32 int_info rfl nw rfl rfl (by omega) (by omega) ?_
        intro U g4 z4 ge4 bU
        have Gl4 := hide (Nat.le_trans hHeld.size ge4)
        (try (have L14 := hide (show g1 < g4 from Nat.lt_of_lt_of_le Z1.out.lt ge4)))
        (try (have L24 := hide (show g2 < g4 from Nat.lt_of_lt_of_le Z2.out.lt ge4)))
        (try (have L34 := hide (show g3 < g4 from Nat.lt_of_lt_of_le Z3.out.lt ge4)))
        (try (have L44 := hide (show g4 < g4 from Nat.lt_of_lt_of_le Z4.out.lt ge4)))
        (try (replace Z1 := hide (Z1.out.keep bU)))
        (try (replace Z2 := hide (Z2.out.keep bU)))
        (try (replace Z3 := hide (Z3.out.keep bU)))
        (try (replace Z4 := hide (Z4.out.keep bU)))
        have Z4 := hide z4
        clear z4 ge4
        refine hK.out _ _ ?_ (fun hHeld => ?_)
        · exact below_on hHeld bU
        clear hK K
        try simp only [Act.put, List.setIfInBounds_toArray, List.set_cons_zero, List.set_cons_succ]
        refine wpAnyH_take (i := 8) (oi := { dst := some 22, op := _, type := _, pos := _, after := _, guard := _ }) (v := ?v1x89) rfl (by kernel_rfl) (by kernel_rfl) (by kernel_rfl) (fun _ _ _ h => h) (Or.inl ⟨by rfl, ?hy1x89⟩) hHeld ?rest1x89
        case hy1x89 => (intro w hSw; go_simp <;> with_reducible rfl)
        try simp only [Act.put, List.setIfInBounds_toArray, List.set_cons_zero, List.set_cons_succ]
        refine wpAnyH_take (i := 9) (oi := { dst := some 23, op := _, type := _, pos := _, after := _, guard := _ }) (v := ?v1x90) rfl (by kernel_rfl) (by kernel_rfl) (by kernel_rfl) (fun _ _ _ h => h) (Or.inl ⟨by rfl, ?hy1x90⟩) hHeld ?rest1x90
        case hy1x90 => (intro w hSw; go_simp <;> with_reducible rfl)
        try simp only [Act.put, List.setIfInBounds_toArray, List.set_cons_zero, List.set_cons_succ]
        refine wpAnyH_ready (rs := [10]) (by kernel_rfl) (by simp) (AllReadyH.cons (o := { dst := some 24, op := _, type := _, pos := _, after := _, guard := _ }) rfl (fun K hK => ?_) AllReadyH.nil)
        go_simp
        go_wp2_with fail
        refine hK.out _ _ ?_ (fun hHeld => ?_)
        · exact hHeld.alloc hHeld.size _
        clear hK K
        try simp only [Act.put, List.setIfInBounds_toArray, List.set_cons_zero, List.set_cons_succ]
        refine wpAnyH_take (i := 11) (oi := { dst := some 4, op := _, type := _, pos := _, after := _, guard := _ }) (v := ?v1x92) rfl (by kernel_rfl) (by kernel_rfl) (by kernel_rfl) (fun _ _ _ h => h) (Or.inl ⟨by rfl, ?hy1x92⟩) hHeld ?rest1x92
        case hy1x92 => (intro w hSw; go_simp <;> with_reducible rfl)
        try simp only [Act.put, List.setIfInBounds_toArray, List.set_cons_zero, List.set_cons_succ]
        refine wpAnyH_take (i := 12) (oi := { dst := some 5, op := _, type := _, pos := _, after := _, guard := _ }) (v := ?v1x93) rfl (by kernel_rfl) (by kernel_rfl) (by kernel_rfl) (fun _ _ _ h => h) (Or.inl ⟨by rfl, ?hy1x93⟩) hHeld ?rest1x93
        case hy1x93 => (intro w hSw; go_simp <;> with_reducible rfl)
        try simp only [Act.put, List.setIfInBounds_toArray, List.set_cons_zero, List.set_cons_succ]
        refine wpAnyH_done (by kernel_rfl) ?_ _
      case' way1x87x7 =>
        rw [if_pos (by rfl)]
        refine op_mk 32 3 (.tmp 20) (.tmp 20) (.int .i64 0) 8 rfl Try.underlying32 int_info rfl nw rfl rfl (by omega) (by omega) ?_
        intro U g4 z4 ge4 bU
        have Gl4 := hide (Nat.le_trans hHeld.size ge4)
        (try (have L14 := hide (show g1 < g4 from Nat.lt_of_lt_of_le Z1.out.lt ge4)))
        (try (have L24 := hide (show g2 < g4 from Nat.lt_of_lt_of_le Z2.out.lt ge4)))
        (try (have L34 := hide (show g3 < g4 from Nat.lt_of_lt_of_le Z3.out.lt ge4)))
        (try (have L44 := hide (show g4 < g4 from Nat.lt_of_lt_of_le Z4.out.lt ge4)))
        (try (replace Z1 := hide (Z1.out.keep bU)))
        (try (replace Z2 := hide (Z2.out.keep bU)))
        (try (replace Z3 := hide (Z3.out.keep bU)))
        (try (replace Z4 := hide (Z4.out.keep bU)))
        have Z4 := hide z4
        clear z4 ge4
        refine hK.out _ _ ?_ (fun hHeld => ?_)
        · exact below_on hHeld bU
        clear hK K
        try simp only [Act.put, List.setIfInBounds_toArray, List.set_cons_zero, List.set_cons_succ]
        refine wpAnyH_ready (rs := [3]) (by kernel_rfl) (by simp) (AllReadyH.cons (o := { dst := some 17, op := _, type := _, pos := _, after := _, guard := _ }) rfl (fun K hK => ?_) AllReadyH.nil)
        rw [if_pos (by rfl)]
        refine op_mk 32 3 (.tmp 16) (.tmp 16) (.int .i64 0) 8 rfl Try.underlying32 int_info rfl nb rfl rfl (by omega) (by omega) ?_
        intro U g2 z2 ge2 bU
        have Gl2 := hide (Nat.le_trans hHeld.size ge2)
        (try (have L12 := hide (show g1 < g2 from Nat.lt_of_lt_of_le Z1.out.lt ge2)))
        (try (have L22 := hide (show g2 < g2 from Nat.lt_of_lt_of_le Z2.out.lt ge2)))
        (try (have L32 := hide (show g3 < g2 from Nat.lt_of_lt_of_le Z3.out.lt ge2)))
        (try (have L42 := hide (show g4 < g2 from Nat.lt_of_lt_of_le Z4.out.lt ge2)))
        (try (replace Z1 := hide (Z1.out.keep bU)))
        (try (replace Z2 := hide (Z2.out.keep bU)))
        (try (replace Z3 := hide (Z3.out.keep bU)))
        (try (replace Z4 := hide (Z4.out.keep bU)))
        have Z2 := hide z2
        clear z2 ge2
        refine hK.out _ _ ?_ (fun hHeld => ?_)
        · exact below_on hHeld bU
        clear hK K
        try simp only [Act.put, List.setIfInBounds_toArray, List.set_cons_zero, List.set_cons_succ]
        refine wpAnyH_take (i := 8) (oi := { dst := some 22, op := _, type := _, pos := _, after := _, guard := _ }) (v := ?v1x95) rfl (by kernel_rfl) (by kernel_rfl) (by kernel_rfl) (fun _ _ _ h => h) (Or.inl ⟨by rfl, ?hy1x95⟩) hHeld ?rest1x95
        case hy1x95 => (intro w hSw; go_simp <;> with_reducible rfl)
        try simp only [Act.put, List.setIfInBounds_toArray, List.set_cons_zero, List.set_cons_succ]
        refine wpAnyH_take (i := 9) (oi := { dst := some 23, op := _, type := _, pos := _, after := _, guard := _ }) (v := ?v1x96) rfl (by kernel_rfl) (by kernel_rfl) (by kernel_rfl) (fun _ _ _ h => h) (Or.inl ⟨by rfl, ?hy1x96⟩) hHeld ?rest1x96
        case hy1x96 => (intro w hSw; go_simp <;> with_reducible rfl)
        try simp only [Act.put, List.setIfInBounds_toArray, List.set_cons_zero, List.set_cons_succ]
        refine wpAnyH_ready (rs := [10]) (by kernel_rfl) (by simp) (AllReadyH.cons (o := { dst := some 24, op := _, type := _, pos := _, after := _, guard := _ }) rfl (fun K hK => ?_) AllReadyH.nil)
        go_simp
        go_wp2_with fail
        refine hK.out _ _ ?_ (fun hHeld => ?_)
        · exact hHeld.alloc hHeld.size _
        clear hK K
        try simp only [Act.put, List.setIfInBounds_toArray, List.set_cons_zero, List.set_cons_succ]
        refine wpAnyH_take (i := 11) (oi := { dst := some 4, op := _, type := _, pos := _, after := _, guard := _ }) (v := ?v1x98) rfl (by kernel_rfl) (by kernel_rfl) (by kernel_rfl) (fun _ _ _ h => h) (Or.inl ⟨by rfl, ?hy1x98⟩) hHeld ?rest1x98
        case hy1x98 => (intro w hSw; go_simp <;> with_reducible rfl)
        try simp only [Act.put, List.setIfInBounds_toArray, List.set_cons_zero, List.set_cons_succ]
        refine wpAnyH_take (i := 12) (oi := { dst := some 5, op := _, type := _, pos := _, after := _, guard := _ }) (v := ?v1x99) rfl (by kernel_rfl) (by kernel_rfl) (by kernel_rfl) (fun _ _ _ h => h) (Or.inl ⟨by rfl, ?hy1x99⟩) hHeld ?rest1x99
        case hy1x99 => (intro w hSw; go_simp <;> with_reducible rfl)
        try simp only [Act.put, List.setIfInBounds_toArray, List.set_cons_zero, List.set_cons_succ]
        refine wpAnyH_done (by kernel_rfl) ?_ _
    case' way1x86x3 =>
      rw [if_pos (by rfl)]
      refine op_mk 32 3 (.tmp 16) (.tmp 16) (.int .i64 0) 8 rfl Try.underlying32 int_info rfl nb rfl rfl (by omega) (by omega) ?_
      intro U g2 z2 ge2 bU
      have Gl2 := hide (Nat.le_trans hHeld.size ge2)
      (try (have L12 := hide (show g1 < g2 from Nat.lt_of_lt_of_le Z1.out.lt ge2)))
      (try (have L22 := hide (show g2 < g2 from Nat.lt_of_lt_of_le Z2.out.lt ge2)))
      (try (have L32 := hide (show g3 < g2 from Nat.lt_of_lt_of_le Z3.out.lt ge2)))
      (try (have L42 := hide (show g4 < g2 from Nat.lt_of_lt_of_le Z4.out.lt ge2)))
      (try (replace Z1 := hide (Z1.out.keep bU)))
      (try (replace Z2 := hide (Z2.out.keep bU)))
      (try (replace Z3 := hide (Z3.out.keep bU)))
      (try (replace Z4 := hide (Z4.out.keep bU)))
      have Z2 := hide z2
      clear z2 ge2
      refine hK.out _ _ ?_ (fun hHeld => ?_)
      · exact below_on hHeld bU
      clear hK K
      try simp only [Act.put, List.setIfInBounds_toArray, List.set_cons_zero, List.set_cons_succ]
      refine wpAnyH_ready (rs := [1, 7]) (by kernel_rfl) (by simp) (AllReadyH.cons (o := { dst := some 15, op := _, type := _, pos := _, after := _, guard := _ }) rfl (fun K hK => ?way1x100x1) (AllReadyH.cons (o := { dst := some 21, op := _, type := _, pos := _, after := _, guard := _ }) rfl (fun K hK => ?way1x100x7) AllReadyH.nil))
      case' way1x100x1 =>
        rw [if_pos (by rfl)]
        refine op_mk 32 3 (.tmp 14) (.tmp 14) (.int .i64 0) 8 rfl Try.underlying32 int_info rfl nb rfl rfl (by omega) (by omega) ?_
        intro U g1 z1 ge1 bU
        have Gl1 := hide (Nat.le_trans hHeld.size ge1)
        (try (have L11 := hide (show g1 < g1 from Nat.lt_of_lt_of_le Z1.out.lt ge1)))
        (try (have L21 := hide (show g2 < g1 from Nat.lt_of_lt_of_le Z2.out.lt ge1)))
        (try (have L31 := hide (show g3 < g1 from Nat.lt_of_lt_of_le Z3.out.lt ge1)))
        (try (have L41 := hide (show g4 < g1 from Nat.lt_of_lt_of_le Z4.out.lt ge1)))
        (try (replace Z1 := hide (Z1.out.keep bU)))
        (try (replace Z2 := hide (Z2.out.keep bU)))
        (try (replace Z3 := hide (Z3.out.keep bU)))
        (try (replace Z4 := hide (Z4.out.keep bU)))
        have Z1 := hide z1
        clear z1 ge1
        refine hK.out _ _ ?_ (fun hHeld => ?_)
        · exact below_on hHeld bU
        clear hK K
        try simp only [Act.put, List.setIfInBounds_toArray, List.set_cons_zero, List.set_cons_succ]
        refine wpAnyH_ready (rs := [7]) (by kernel_rfl) (by simp) (AllReadyH.cons (o := { dst := some 21, op := _, type := _, pos := _, after := _, guard := _ }) rfl (fun K hK => ?_) AllReadyH.nil)
        rw [if_pos (by rfl)]
        refine op_mk 32 3 (.tmp 20) (.tmp 20) (.int .i64 0) 8 rfl Try.underlying32 int_info rfl nw rfl rfl (by omega) (by omega) ?_
        intro U g4 z4 ge4 bU
        have Gl4 := hide (Nat.le_trans hHeld.size ge4)
        (try (have L14 := hide (show g1 < g4 from Nat.lt_of_lt_of_le Z1.out.lt ge4)))
        (try (have L24 := hide (show g2 < g4 from Nat.lt_of_lt_of_le Z2.out.lt ge4)))
        (try (have L34 := hide (show g3 < g4 from Nat.lt_of_lt_of_le Z3.out.lt ge4)))
        (try (have L44 := hide (show g4 < g4 from Nat.lt_of_lt_of_le Z4.out.lt ge4)))
        (try (replace Z1 := hide (Z1.out.keep bU)))
        (try (replace Z2 := hide (Z2.out.keep bU)))
        (try (replace Z3 := hide (Z3.out.keep bU)))
        (try (replace Z4 := hide (Z4.out.keep bU)))
        have Z4 := hide z4
        clear z4 ge4
        refine hK.out _ _ ?_ (fun hHeld => ?_)
        · exact below_on hHeld bU
        clear hK K
        try simp only [Act.put, List.setIfInBounds_toArray, List.set_cons_zero, List.set_cons_succ]
        refine wpAnyH_take (i := 8) (oi := { dst := some 22, op := _, type := _, pos := _, after := _, guard := _ }) (v := ?v1x102) rfl (by kernel_rfl) (by kernel_rfl) (by kernel_rfl) (fun _ _ _ h => h) (Or.inl ⟨by rfl, ?hy1x102⟩) hHeld ?rest1x102
        case hy1x102 => (intro w hSw; go_simp <;> with_reducible rfl)
        try simp only [Act.put, List.setIfInBounds_toArray, List.set_cons_zero, List.set_cons_succ]
        refine wpAnyH_take (i := 9) (oi := { dst := some 23, op := _, type := _, pos := _, after := _, guard := _ }) (v := ?v1x103) rfl (by kernel_rfl) (by kernel_rfl) (by kernel_rfl) (fun _ _ _ h => h) (Or.inl ⟨by rfl, ?hy1x103⟩) hHeld ?rest1x103
        case hy1x103 => (intro w hSw; go_simp <;> with_reducible rfl)
        try simp only [Act.put, List.setIfInBounds_toArray, List.set_cons_zero, List.set_cons_succ]
        refine wpAnyH_ready (rs := [10]) (by kernel_rfl) (by simp) (AllReadyH.cons (o := { dst := some 24, op := _, type := _, pos := _, after := _, guard := _ }) rfl (fun K hK => ?_) AllReadyH.nil)
        go_simp
        go_wp2_with fail
        refine hK.out _ _ ?_ (fun hHeld => ?_)
        · exact hHeld.alloc hHeld.size _
        clear hK K
        try simp only [Act.put, List.setIfInBounds_toArray, List.set_cons_zero, List.set_cons_succ]
        refine wpAnyH_take (i := 11) (oi := { dst := some 4, op := _, type := _, pos := _, after := _, guard := _ }) (v := ?v1x105) rfl (by kernel_rfl) (by kernel_rfl) (by kernel_rfl) (fun _ _ _ h => h) (Or.inl ⟨by rfl, ?hy1x105⟩) hHeld ?rest1x105
        case hy1x105 => (intro w hSw; go_simp <;> with_reducible rfl)
        try simp only [Act.put, List.setIfInBounds_toArray, List.set_cons_zero, List.set_cons_succ]
        refine wpAnyH_take (i := 12) (oi := { dst := some 5, op := _, type := _, pos := _, after := _, guard := _ }) (v := ?v1x106) rfl (by kernel_rfl) (by kernel_rfl) (by kernel_rfl) (fun _ _ _ h => h) (Or.inl ⟨by rfl, ?hy1x106⟩) hHeld ?rest1x106
        case hy1x106 => (intro w hSw; go_simp <;> with_reducible rfl)
        try simp only [Act.put, List.setIfInBounds_toArray, List.set_cons_zero, List.set_cons_succ]
        refine wpAnyH_done (by kernel_rfl) ?_ _
      case' way1x100x7 =>
        rw [if_pos (by rfl)]
        refine op_mk 32 3 (.tmp 20) (.tmp 20) (.int .i64 0) 8 rfl Try.underlying32 int_info rfl nw rfl rfl (by omega) (by omega) ?_
        intro U g4 z4 ge4 bU
        have Gl4 := hide (Nat.le_trans hHeld.size ge4)
        (try (have L14 := hide (show g1 < g4 from Nat.lt_of_lt_of_le Z1.out.lt ge4)))
        (try (have L24 := hide (show g2 < g4 from Nat.lt_of_lt_of_le Z2.out.lt ge4)))
        (try (have L34 := hide (show g3 < g4 from Nat.lt_of_lt_of_le Z3.out.lt ge4)))
        (try (have L44 := hide (show g4 < g4 from Nat.lt_of_lt_of_le Z4.out.lt ge4)))
        (try (replace Z1 := hide (Z1.out.keep bU)))
        (try (replace Z2 := hide (Z2.out.keep bU)))
        (try (replace Z3 := hide (Z3.out.keep bU)))
        (try (replace Z4 := hide (Z4.out.keep bU)))
        have Z4 := hide z4
        clear z4 ge4
        refine hK.out _ _ ?_ (fun hHeld => ?_)
        · exact below_on hHeld bU
        clear hK K
        try simp only [Act.put, List.setIfInBounds_toArray, List.set_cons_zero, List.set_cons_succ]
        refine wpAnyH_ready (rs := [1]) (by kernel_rfl) (by simp) (AllReadyH.cons (o := { dst := some 15, op := _, type := _, pos := _, after := _, guard := _ }) rfl (fun K hK => ?_) AllReadyH.nil)
        rw [if_pos (by rfl)]
        refine op_mk 32 3 (.tmp 14) (.tmp 14) (.int .i64 0) 8 rfl Try.underlying32 int_info rfl nb rfl rfl (by omega) (by omega) ?_
        intro U g1 z1 ge1 bU
        have Gl1 := hide (Nat.le_trans hHeld.size ge1)
        (try (have L11 := hide (show g1 < g1 from Nat.lt_of_lt_of_le Z1.out.lt ge1)))
        (try (have L21 := hide (show g2 < g1 from Nat.lt_of_lt_of_le Z2.out.lt ge1)))
        (try (have L31 := hide (show g3 < g1 from Nat.lt_of_lt_of_le Z3.out.lt ge1)))
        (try (have L41 := hide (show g4 < g1 from Nat.lt_of_lt_of_le Z4.out.lt ge1)))
        (try (replace Z1 := hide (Z1.out.keep bU)))
        (try (replace Z2 := hide (Z2.out.keep bU)))
        (try (replace Z3 := hide (Z3.out.keep bU)))
        (try (replace Z4 := hide (Z4.out.keep bU)))
        have Z1 := hide z1
        clear z1 ge1
        refine hK.out _ _ ?_ (fun hHeld => ?_)
        · exact below_on hHeld bU
        clear hK K
        try simp only [Act.put, List.setIfInBounds_toArray, List.set_cons_zero, List.set_cons_succ]
        refine wpAnyH_take (i := 8) (oi := { dst := some 22, op := _, type := _, pos := _, after := _, guard := _ }) (v := ?v1x108) rfl (by kernel_rfl) (by kernel_rfl) (by kernel_rfl) (fun _ _ _ h => h) (Or.inl ⟨by rfl, ?hy1x108⟩) hHeld ?rest1x108
        case hy1x108 => (intro w hSw; go_simp <;> with_reducible rfl)
        try simp only [Act.put, List.setIfInBounds_toArray, List.set_cons_zero, List.set_cons_succ]
        refine wpAnyH_take (i := 9) (oi := { dst := some 23, op := _, type := _, pos := _, after := _, guard := _ }) (v := ?v1x109) rfl (by kernel_rfl) (by kernel_rfl) (by kernel_rfl) (fun _ _ _ h => h) (Or.inl ⟨by rfl, ?hy1x109⟩) hHeld ?rest1x109
        case hy1x109 => (intro w hSw; go_simp <;> with_reducible rfl)
        try simp only [Act.put, List.setIfInBounds_toArray, List.set_cons_zero, List.set_cons_succ]
        refine wpAnyH_ready (rs := [10]) (by kernel_rfl) (by simp) (AllReadyH.cons (o := { dst := some 24, op := _, type := _, pos := _, after := _, guard := _ }) rfl (fun K hK => ?_) AllReadyH.nil)
        go_simp
        go_wp2_with fail
        refine hK.out _ _ ?_ (fun hHeld => ?_)
        · exact hHeld.alloc hHeld.size _
        clear hK K
        try simp only [Act.put, List.setIfInBounds_toArray, List.set_cons_zero, List.set_cons_succ]
        refine wpAnyH_take (i := 11) (oi := { dst := some 4, op := _, type := _, pos := _, after := _, guard := _ }) (v := ?v1x111) rfl (by kernel_rfl) (by kernel_rfl) (by kernel_rfl) (fun _ _ _ h => h) (Or.inl ⟨by rfl, ?hy1x111⟩) hHeld ?rest1x111
        case hy1x111 => (intro w hSw; go_simp <;> with_reducible rfl)
        try simp only [Act.put, List.setIfInBounds_toArray, List.set_cons_zero, List.set_cons_succ]
        refine wpAnyH_take (i := 12) (oi := { dst := some 5, op := _, type := _, pos := _, after := _, guard := _ }) (v := ?v1x112) rfl (by kernel_rfl) (by kernel_rfl) (by kernel_rfl) (fun _ _ _ h => h) (Or.inl ⟨by rfl, ?hy1x112⟩) hHeld ?rest1x112
        case hy1x112 => (intro w hSw; go_simp <;> with_reducible rfl)
        try simp only [Act.put, List.setIfInBounds_toArray, List.set_cons_zero, List.set_cons_succ]
        refine wpAnyH_done (by kernel_rfl) ?_ _
    case' way1x86x7 =>
      rw [if_pos (by rfl)]
      refine op_mk 32 3 (.tmp 20) (.tmp 20) (.int .i64 0) 8 rfl Try.underlying32 int_info rfl nw rfl rfl (by omega) (by omega) ?_
      intro U g4 z4 ge4 bU
      have Gl4 := hide (Nat.le_trans hHeld.size ge4)
      (try (have L14 := hide (show g1 < g4 from Nat.lt_of_lt_of_le Z1.out.lt ge4)))
      (try (have L24 := hide (show g2 < g4 from Nat.lt_of_lt_of_le Z2.out.lt ge4)))
      (try (have L34 := hide (show g3 < g4 from Nat.lt_of_lt_of_le Z3.out.lt ge4)))
      (try (have L44 := hide (show g4 < g4 from Nat.lt_of_lt_of_le Z4.out.lt ge4)))
      (try (replace Z1 := hide (Z1.out.keep bU)))
      (try (replace Z2 := hide (Z2.out.keep bU)))
      (try (replace Z3 := hide (Z3.out.keep bU)))
      (try (replace Z4 := hide (Z4.out.keep bU)))
      have Z4 := hide z4
      clear z4 ge4
      refine hK.out _ _ ?_ (fun hHeld => ?_)
      · exact below_on hHeld bU
      clear hK K
      try simp only [Act.put, List.setIfInBounds_toArray, List.set_cons_zero, List.set_cons_succ]
      refine wpAnyH_ready (rs := [1, 3]) (by kernel_rfl) (by simp) (AllReadyH.cons (o := { dst := some 15, op := _, type := _, pos := _, after := _, guard := _ }) rfl (fun K hK => ?way1x113x1) (AllReadyH.cons (o := { dst := some 17, op := _, type := _, pos := _, after := _, guard := _ }) rfl (fun K hK => ?way1x113x3) AllReadyH.nil))
      case' way1x113x1 =>
        rw [if_pos (by rfl)]
        refine op_mk 32 3 (.tmp 14) (.tmp 14) (.int .i64 0) 8 rfl Try.underlying32 int_info rfl nb rfl rfl (by omega) (by omega) ?_
        intro U g1 z1 ge1 bU
        have Gl1 := hide (Nat.le_trans hHeld.size ge1)
        (try (have L11 := hide (show g1 < g1 from Nat.lt_of_lt_of_le Z1.out.lt ge1)))
        (try (have L21 := hide (show g2 < g1 from Nat.lt_of_lt_of_le Z2.out.lt ge1)))
        (try (have L31 := hide (show g3 < g1 from Nat.lt_of_lt_of_le Z3.out.lt ge1)))
        (try (have L41 := hide (show g4 < g1 from Nat.lt_of_lt_of_le Z4.out.lt ge1)))
        (try (replace Z1 := hide (Z1.out.keep bU)))
        (try (replace Z2 := hide (Z2.out.keep bU)))
        (try (replace Z3 := hide (Z3.out.keep bU)))
        (try (replace Z4 := hide (Z4.out.keep bU)))
        have Z1 := hide z1
        clear z1 ge1
        refine hK.out _ _ ?_ (fun hHeld => ?_)
        · exact below_on hHeld bU
        clear hK K
        try simp only [Act.put, List.setIfInBounds_toArray, List.set_cons_zero, List.set_cons_succ]
        refine wpAnyH_ready (rs := [3]) (by kernel_rfl) (by simp) (AllReadyH.cons (o := { dst := some 17, op := _, type := _, pos := _, after := _, guard := _ }) rfl (fun K hK => ?_) AllReadyH.nil)
        rw [if_pos (by rfl)]
        refine op_mk 32 3 (.tmp 16) (.tmp 16) (.int .i64 0) 8 rfl Try.underlying32 int_info rfl nb rfl rfl (by omega) (by omega) ?_
        intro U g2 z2 ge2 bU
        have Gl2 := hide (Nat.le_trans hHeld.size ge2)
        (try (have L12 := hide (show g1 < g2 from Nat.lt_of_lt_of_le Z1.out.lt ge2)))
        (try (have L22 := hide (show g2 < g2 from Nat.lt_of_lt_of_le Z2.out.lt ge2)))
        (try (have L32 := hide (show g3 < g2 from Nat.lt_of_lt_of_le Z3.out.lt ge2)))
        (try (have L42 := hide (show g4 < g2 from Nat.lt_of_lt_of_le Z4.out.lt ge2)))
        (try (replace Z1 := hide (Z1.out.keep bU)))
        (try (replace Z2 := hide (Z2.out.keep bU)))
        (try (replace Z3 := hide (Z3.out.keep bU)))
        (try (replace Z4 := hide (Z4.out.keep bU)))
        have Z2 := hide z2
        clear z2 ge2
        refine hK.out _ _ ?_ (fun hHeld => ?_)
        · exact below_on hHeld bU
        clear hK K
        try simp only [Act.put, List.setIfInBounds_toArray, List.set_cons_zero, List.set_cons_succ]
        refine wpAnyH_take (i := 8) (oi := { dst := some 22, op := _, type := _, pos := _, after := _, guard := _ }) (v := ?v1x115) rfl (by kernel_rfl) (by kernel_rfl) (by kernel_rfl) (fun _ _ _ h => h) (Or.inl ⟨by rfl, ?hy1x115⟩) hHeld ?rest1x115
        case hy1x115 => (intro w hSw; go_simp <;> with_reducible rfl)
        try simp only [Act.put, List.setIfInBounds_toArray, List.set_cons_zero, List.set_cons_succ]
        refine wpAnyH_take (i := 9) (oi := { dst := some 23, op := _, type := _, pos := _, after := _, guard := _ }) (v := ?v1x116) rfl (by kernel_rfl) (by kernel_rfl) (by kernel_rfl) (fun _ _ _ h => h) (Or.inl ⟨by rfl, ?hy1x116⟩) hHeld ?rest1x116
        case hy1x116 => (intro w hSw; go_simp <;> with_reducible rfl)
        try simp only [Act.put, List.setIfInBounds_toArray, List.set_cons_zero, List.set_cons_succ]
        refine wpAnyH_ready (rs := [10]) (by kernel_rfl) (by simp) (AllReadyH.cons (o := { dst := some 24, op := _, type := _, pos := _, after := _, guard := _ }) rfl (fun K hK => ?_) AllReadyH.nil)
        go_simp
        go_wp2_with fail
        refine hK.out _ _ ?_ (fun hHeld => ?_)
        · exact hHeld.alloc hHeld.size _
        clear hK K
        try simp only [Act.put, List.setIfInBounds_toArray, List.set_cons_zero, List.set_cons_succ]
        refine wpAnyH_take (i := 11) (oi := { dst := some 4, op := _, type := _, pos := _, after := _, guard := _ }) (v := ?v1x118) rfl (by kernel_rfl) (by kernel_rfl) (by kernel_rfl) (fun _ _ _ h => h) (Or.inl ⟨by rfl, ?hy1x118⟩) hHeld ?rest1x118
        case hy1x118 => (intro w hSw; go_simp <;> with_reducible rfl)
        try simp only [Act.put, List.setIfInBounds_toArray, List.set_cons_zero, List.set_cons_succ]
        refine wpAnyH_take (i := 12) (oi := { dst := some 5, op := _, type := _, pos := _, after := _, guard := _ }) (v := ?v1x119) rfl (by kernel_rfl) (by kernel_rfl) (by kernel_rfl) (fun _ _ _ h => h) (Or.inl ⟨by rfl, ?hy1x119⟩) hHeld ?rest1x119
        case hy1x119 => (intro w hSw; go_simp <;> with_reducible rfl)
        try simp only [Act.put, List.setIfInBounds_toArray, List.set_cons_zero, List.set_cons_succ]
        refine wpAnyH_done (by kernel_rfl) ?_ _
      case' way1x113x3 =>
        rw [if_pos (by rfl)]
        refine op_mk 32 3 (.tmp 16) (.tmp 16) (.int .i64 0) 8 rfl Try.underlying32 int_info rfl nb rfl rfl (by omega) (by omega) ?_
        intro U g2 z2 ge2 bU
        have Gl2 := hide (Nat.le_trans hHeld.size ge2)
        (try (have L12 := hide (show g1 < g2 from Nat.lt_of_lt_of_le Z1.out.lt ge2)))
        (try (have L22 := hide (show g2 < g2 from Nat.lt_of_lt_of_le Z2.out.lt ge2)))
        (try (have L32 := hide (show g3 < g2 from Nat.lt_of_lt_of_le Z3.out.lt ge2)))
        (try (have L42 := hide (show g4 < g2 from Nat.lt_of_lt_of_le Z4.out.lt ge2)))
        (try (replace Z1 := hide (Z1.out.keep bU)))
        (try (replace Z2 := hide (Z2.out.keep bU)))
        (try (replace Z3 := hide (Z3.out.keep bU)))
        (try (replace Z4 := hide (Z4.out.keep bU)))
        have Z2 := hide z2
        clear z2 ge2
        refine hK.out _ _ ?_ (fun hHeld => ?_)
        · exact below_on hHeld bU
        clear hK K
        try simp only [Act.put, List.setIfInBounds_toArray, List.set_cons_zero, List.set_cons_succ]
        refine wpAnyH_ready (rs := [1]) (by kernel_rfl) (by simp) (AllReadyH.cons (o := { dst := some 15, op := _, type := _, pos := _, after := _, guard := _ }) rfl (fun K hK => ?_) AllReadyH.nil)
        rw [if_pos (by rfl)]
        refine op_mk 32 3 (.tmp 14) (.tmp 14) (.int .i64 0) 8 rfl Try.underlying32 int_info rfl nb rfl rfl (by omega) (by omega) ?_
        intro U g1 z1 ge1 bU
        have Gl1 := hide (Nat.le_trans hHeld.size ge1)
        (try (have L11 := hide (show g1 < g1 from Nat.lt_of_lt_of_le Z1.out.lt ge1)))
        (try (have L21 := hide (show g2 < g1 from Nat.lt_of_lt_of_le Z2.out.lt ge1)))
        (try (have L31 := hide (show g3 < g1 from Nat.lt_of_lt_of_le Z3.out.lt ge1)))
        (try (have L41 := hide (show g4 < g1 from Nat.lt_of_lt_of_le Z4.out.lt ge1)))
        (try (replace Z1 := hide (Z1.out.keep bU)))
        (try (replace Z2 := hide (Z2.out.keep bU)))
        (try (replace Z3 := hide (Z3.out.keep bU)))
        (try (replace Z4 := hide (Z4.out.keep bU)))
        have Z1 := hide z1
        clear z1 ge1
        refine hK.out _ _ ?_ (fun hHeld => ?_)
        · exact below_on hHeld bU
        clear hK K
        try simp only [Act.put, List.setIfInBounds_toArray, List.set_cons_zero, List.set_cons_succ]
        refine wpAnyH_take (i := 8) (oi := { dst := some 22, op := _, type := _, pos := _, after := _, guard := _ }) (v := ?v1x121) rfl (by kernel_rfl) (by kernel_rfl) (by kernel_rfl) (fun _ _ _ h => h) (Or.inl ⟨by rfl, ?hy1x121⟩) hHeld ?rest1x121
        case hy1x121 => (intro w hSw; go_simp <;> with_reducible rfl)
        try simp only [Act.put, List.setIfInBounds_toArray, List.set_cons_zero, List.set_cons_succ]
        refine wpAnyH_take (i := 9) (oi := { dst := some 23, op := _, type := _, pos := _, after := _, guard := _ }) (v := ?v1x122) rfl (by kernel_rfl) (by kernel_rfl) (by kernel_rfl) (fun _ _ _ h => h) (Or.inl ⟨by rfl, ?hy1x122⟩) hHeld ?rest1x122
        case hy1x122 => (intro w hSw; go_simp <;> with_reducible rfl)
        try simp only [Act.put, List.setIfInBounds_toArray, List.set_cons_zero, List.set_cons_succ]
        refine wpAnyH_ready (rs := [10]) (by kernel_rfl) (by simp) (AllReadyH.cons (o := { dst := some 24, op := _, type := _, pos := _, after := _, guard := _ }) rfl (fun K hK => ?_) AllReadyH.nil)
        go_simp
        go_wp2_with fail
        refine hK.out _ _ ?_ (fun hHeld => ?_)
        · exact hHeld.alloc hHeld.size _
        clear hK K
        try simp only [Act.put, List.setIfInBounds_toArray, List.set_cons_zero, List.set_cons_succ]
        refine wpAnyH_take (i := 11) (oi := { dst := some 4, op := _, type := _, pos := _, after := _, guard := _ }) (v := ?v1x124) rfl (by kernel_rfl) (by kernel_rfl) (by kernel_rfl) (fun _ _ _ h => h) (Or.inl ⟨by rfl, ?hy1x124⟩) hHeld ?rest1x124
        case hy1x124 => (intro w hSw; go_simp <;> with_reducible rfl)
        try simp only [Act.put, List.setIfInBounds_toArray, List.set_cons_zero, List.set_cons_succ]
        refine wpAnyH_take (i := 12) (oi := { dst := some 5, op := _, type := _, pos := _, after := _, guard := _ }) (v := ?v1x125) rfl (by kernel_rfl) (by kernel_rfl) (by kernel_rfl) (fun _ _ _ h => h) (Or.inl ⟨by rfl, ?hy1x125⟩) hHeld ?rest1x125
        case hy1x125 => (intro w hSw; go_simp <;> with_reducible rfl)
        try simp only [Act.put, List.setIfInBounds_toArray, List.set_cons_zero, List.set_cons_succ]
        refine wpAnyH_done (by kernel_rfl) ?_ _
  case' way1x5x7 =>
    rw [if_pos (by rfl)]
    refine op_mk 32 3 (.tmp 20) (.tmp 20) (.int .i64 0) 8 rfl Try.underlying32 int_info rfl nw rfl rfl (by omega) (by omega) ?_
    intro U g4 z4 ge4 bU
    have Gl4 := hide (Nat.le_trans hHeld.size ge4)
    (try (have L14 := hide (show g1 < g4 from Nat.lt_of_lt_of_le Z1.out.lt ge4)))
    (try (have L24 := hide (show g2 < g4 from Nat.lt_of_lt_of_le Z2.out.lt ge4)))
    (try (have L34 := hide (show g3 < g4 from Nat.lt_of_lt_of_le Z3.out.lt ge4)))
    (try (have L44 := hide (show g4 < g4 from Nat.lt_of_lt_of_le Z4.out.lt ge4)))
    (try (replace Z1 := hide (Z1.out.keep bU)))
    (try (replace Z2 := hide (Z2.out.keep bU)))
    (try (replace Z3 := hide (Z3.out.keep bU)))
    (try (replace Z4 := hide (Z4.out.keep bU)))
    have Z4 := hide z4
    clear z4 ge4
    refine hK.out _ _ ?_ (fun hHeld => ?_)
    · exact below_on hHeld bU
    clear hK K
    try simp only [Act.put, List.setIfInBounds_toArray, List.set_cons_zero, List.set_cons_succ]
    refine wpAnyH_ready (rs := [1, 3, 5]) (by kernel_rfl) (by simp) (AllReadyH.cons (o := { dst := some 15, op := _, type := _, pos := _, after := _, guard := _ }) rfl (fun K hK => ?way1x126x1) (AllReadyH.cons (o := { dst := some 17, op := _, type := _, pos := _, after := _, guard := _ }) rfl (fun K hK => ?way1x126x3) (AllReadyH.cons (o := { dst := some 19, op := _, type := _, pos := _, after := _, guard := _ }) rfl (fun K hK => ?way1x126x5) AllReadyH.nil)))
    case' way1x126x1 =>
      rw [if_pos (by rfl)]
      refine op_mk 32 3 (.tmp 14) (.tmp 14) (.int .i64 0) 8 rfl Try.underlying32 int_info rfl nb rfl rfl (by omega) (by omega) ?_
      intro U g1 z1 ge1 bU
      have Gl1 := hide (Nat.le_trans hHeld.size ge1)
      (try (have L11 := hide (show g1 < g1 from Nat.lt_of_lt_of_le Z1.out.lt ge1)))
      (try (have L21 := hide (show g2 < g1 from Nat.lt_of_lt_of_le Z2.out.lt ge1)))
      (try (have L31 := hide (show g3 < g1 from Nat.lt_of_lt_of_le Z3.out.lt ge1)))
      (try (have L41 := hide (show g4 < g1 from Nat.lt_of_lt_of_le Z4.out.lt ge1)))
      (try (replace Z1 := hide (Z1.out.keep bU)))
      (try (replace Z2 := hide (Z2.out.keep bU)))
      (try (replace Z3 := hide (Z3.out.keep bU)))
      (try (replace Z4 := hide (Z4.out.keep bU)))
      have Z1 := hide z1
      clear z1 ge1
      refine hK.out _ _ ?_ (fun hHeld => ?_)
      · exact below_on hHeld bU
      clear hK K
      try simp only [Act.put, List.setIfInBounds_toArray, List.set_cons_zero, List.set_cons_succ]
      refine wpAnyH_ready (rs := [3, 5]) (by kernel_rfl) (by simp) (AllReadyH.cons (o := { dst := some 17, op := _, type := _, pos := _, after := _, guard := _ }) rfl (fun K hK => ?way1x127x3) (AllReadyH.cons (o := { dst := some 19, op := _, type := _, pos := _, after := _, guard := _ }) rfl (fun K hK => ?way1x127x5) AllReadyH.nil))
      case' way1x127x3 =>
        rw [if_pos (by rfl)]
        refine op_mk 32 3 (.tmp 16) (.tmp 16) (.int .i64 0) 8 rfl Try.underlying32 int_info rfl nb rfl rfl (by omega) (by omega) ?_
        intro U g2 z2 ge2 bU
        have Gl2 := hide (Nat.le_trans hHeld.size ge2)
        (try (have L12 := hide (show g1 < g2 from Nat.lt_of_lt_of_le Z1.out.lt ge2)))
        (try (have L22 := hide (show g2 < g2 from Nat.lt_of_lt_of_le Z2.out.lt ge2)))
        (try (have L32 := hide (show g3 < g2 from Nat.lt_of_lt_of_le Z3.out.lt ge2)))
        (try (have L42 := hide (show g4 < g2 from Nat.lt_of_lt_of_le Z4.out.lt ge2)))
        (try (replace Z1 := hide (Z1.out.keep bU)))
        (try (replace Z2 := hide (Z2.out.keep bU)))
        (try (replace Z3 := hide (Z3.out.keep bU)))
        (try (replace Z4 := hide (Z4.out.keep bU)))
        have Z2 := hide z2
        clear z2 ge2
        refine hK.out _ _ ?_ (fun hHeld => ?_)
        · exact below_on hHeld bU
        clear hK K
        try simp only [Act.put, List.setIfInBounds_toArray, List.set_cons_zero, List.set_cons_succ]
        refine wpAnyH_ready (rs := [5]) (by kernel_rfl) (by simp) (AllReadyH.cons (o := { dst := some 19, op := _, type := _, pos := _, after := _, guard := _ }) rfl (fun K hK => ?_) AllReadyH.nil)
        rw [if_pos (by rfl)]
        refine op_mk 32 3 (.tmp 18) (.tmp 18) (.int .i64 0) 8 rfl Try.underlying32 int_info rfl nw rfl rfl (by omega) (by omega) ?_
        intro U g3 z3 ge3 bU
        have Gl3 := hide (Nat.le_trans hHeld.size ge3)
        (try (have L13 := hide (show g1 < g3 from Nat.lt_of_lt_of_le Z1.out.lt ge3)))
        (try (have L23 := hide (show g2 < g3 from Nat.lt_of_lt_of_le Z2.out.lt ge3)))
        (try (have L33 := hide (show g3 < g3 from Nat.lt_of_lt_of_le Z3.out.lt ge3)))
        (try (have L43 := hide (show g4 < g3 from Nat.lt_of_lt_of_le Z4.out.lt ge3)))
        (try (replace Z1 := hide (Z1.out.keep bU)))
        (try (replace Z2 := hide (Z2.out.keep bU)))
        (try (replace Z3 := hide (Z3.out.keep bU)))
        (try (replace Z4 := hide (Z4.out.keep bU)))
        have Z3 := hide z3
        clear z3 ge3
        refine hK.out _ _ ?_ (fun hHeld => ?_)
        · exact below_on hHeld bU
        clear hK K
        try simp only [Act.put, List.setIfInBounds_toArray, List.set_cons_zero, List.set_cons_succ]
        refine wpAnyH_take (i := 8) (oi := { dst := some 22, op := _, type := _, pos := _, after := _, guard := _ }) (v := ?v1x129) rfl (by kernel_rfl) (by kernel_rfl) (by kernel_rfl) (fun _ _ _ h => h) (Or.inl ⟨by rfl, ?hy1x129⟩) hHeld ?rest1x129
        case hy1x129 => (intro w hSw; go_simp <;> with_reducible rfl)
        try simp only [Act.put, List.setIfInBounds_toArray, List.set_cons_zero, List.set_cons_succ]
        refine wpAnyH_take (i := 9) (oi := { dst := some 23, op := _, type := _, pos := _, after := _, guard := _ }) (v := ?v1x130) rfl (by kernel_rfl) (by kernel_rfl) (by kernel_rfl) (fun _ _ _ h => h) (Or.inl ⟨by rfl, ?hy1x130⟩) hHeld ?rest1x130
        case hy1x130 => (intro w hSw; go_simp <;> with_reducible rfl)
        try simp only [Act.put, List.setIfInBounds_toArray, List.set_cons_zero, List.set_cons_succ]
        refine wpAnyH_ready (rs := [10]) (by kernel_rfl) (by simp) (AllReadyH.cons (o := { dst := some 24, op := _, type := _, pos := _, after := _, guard := _ }) rfl (fun K hK => ?_) AllReadyH.nil)
        go_simp
        go_wp2_with fail
        refine hK.out _ _ ?_ (fun hHeld => ?_)
        · exact hHeld.alloc hHeld.size _
        clear hK K
        try simp only [Act.put, List.setIfInBounds_toArray, List.set_cons_zero, List.set_cons_succ]
        refine wpAnyH_take (i := 11) (oi := { dst := some 4, op := _, type := _, pos := _, after := _, guard := _ }) (v := ?v1x132) rfl (by kernel_rfl) (by kernel_rfl) (by kernel_rfl) (fun _ _ _ h => h) (Or.inl ⟨by rfl, ?hy1x132⟩) hHeld ?rest1x132
        case hy1x132 => (intro w hSw; go_simp <;> with_reducible rfl)
        try simp only [Act.put, List.setIfInBounds_toArray, List.set_cons_zero, List.set_cons_succ]
        refine wpAnyH_take (i := 12) (oi := { dst := some 5, op := _, type := _, pos := _, after := _, guard := _ }) (v := ?v1x133) rfl (by kernel_rfl) (by kernel_rfl) (by kernel_rfl) (fun _ _ _ h => h) (Or.inl ⟨by rfl, ?hy1x133⟩) hHeld ?rest1x133
        case hy1x133 => (intro w hSw; go_simp <;> with_reducible rfl)
        try simp only [Act.put, List.setIfInBounds_toArray, List.set_cons_zero, List.set_cons_succ]
        refine wpAnyH_done (by kernel_rfl) ?_ _
      case' way1x127x5 =>
        rw [if_pos (by rfl)]
        refine op_mk 32 3 (.tmp 18) (.tmp 18) (.int .i64 0) 8 rfl Try.underlying32 int_info rfl nw rfl rfl (by omega) (by omega) ?_
        intro U g3 z3 ge3 bU
        have Gl3 := hide (Nat.le_trans hHeld.size ge3)
        (try (have L13 := hide (show g1 < g3 from Nat.lt_of_lt_of_le Z1.out.lt ge3)))
        (try (have L23 := hide (show g2 < g3 from Nat.lt_of_lt_of_le Z2.out.lt ge3)))
        (try (have L33 := hide (show g3 < g3 from Nat.lt_of_lt_of_le Z3.out.lt ge3)))
        (try (have L43 := hide (show g4 < g3 from Nat.lt_of_lt_of_le Z4.out.lt ge3)))
        (try (replace Z1 := hide (Z1.out.keep bU)))
        (try (replace Z2 := hide (Z2.out.keep bU)))
        (try (replace Z3 := hide (Z3.out.keep bU)))
        (try (replace Z4 := hide (Z4.out.keep bU)))
        have Z3 := hide z3
        clear z3 ge3
        refine hK.out _ _ ?_ (fun hHeld => ?_)
        · exact below_on hHeld bU
        clear hK K
        try simp only [Act.put, List.setIfInBounds_toArray, List.set_cons_zero, List.set_cons_succ]
        refine wpAnyH_ready (rs := [3]) (by kernel_rfl) (by simp) (AllReadyH.cons (o := { dst := some 17, op := _, type := _, pos := _, after := _, guard := _ }) rfl (fun K hK => ?_) AllReadyH.nil)
        rw [if_pos (by rfl)]
        refine op_mk 32 3 (.tmp 16) (.tmp 16) (.int .i64 0) 8 rfl Try.underlying32 int_info rfl nb rfl rfl (by omega) (by omega) ?_
        intro U g2 z2 ge2 bU
        have Gl2 := hide (Nat.le_trans hHeld.size ge2)
        (try (have L12 := hide (show g1 < g2 from Nat.lt_of_lt_of_le Z1.out.lt ge2)))
        (try (have L22 := hide (show g2 < g2 from Nat.lt_of_lt_of_le Z2.out.lt ge2)))
        (try (have L32 := hide (show g3 < g2 from Nat.lt_of_lt_of_le Z3.out.lt ge2)))
        (try (have L42 := hide (show g4 < g2 from Nat.lt_of_lt_of_le Z4.out.lt ge2)))
        (try (replace Z1 := hide (Z1.out.keep bU)))
        (try (replace Z2 := hide (Z2.out.keep bU)))
        (try (replace Z3 := hide (Z3.out.keep bU)))
        (try (replace Z4 := hide (Z4.out.keep bU)))
        have Z2 := hide z2
        clear z2 ge2
        refine hK.out _ _ ?_ (fun hHeld => ?_)
        · exact below_on hHeld bU
        clear hK K
        try simp only [Act.put, List.setIfInBounds_toArray, List.set_cons_zero, List.set_cons_succ]
        refine wpAnyH_take (i := 8) (oi := { dst := some 22, op := _, type := _, pos := _, after := _, guard := _ }) (v := ?v1x135) rfl (by kernel_rfl) (by kernel_rfl) (by kernel_rfl) (fun _ _ _ h => h) (Or.inl ⟨by rfl, ?hy1x135⟩) hHeld ?rest1x135
        case hy1x135 => (intro w hSw; go_simp <;> with_reducible rfl)
        try simp only [Act.put, List.setIfInBounds_toArray, List.set_cons_zero, List.set_cons_succ]
        refine wpAnyH_take (i := 9) (oi := { dst := some 23, op := _, type := _, pos := _, after := _, guard := _ }) (v := ?v1x136) rfl (by kernel_rfl) (by kernel_rfl) (by kernel_rfl) (fun _ _ _ h => h) (Or.inl ⟨by rfl, ?hy1x136⟩) hHeld ?rest1x136
        case hy1x136 => (intro w hSw; go_simp <;> with_reducible rfl)
        try simp only [Act.put, List.setIfInBounds_toArray, List.set_cons_zero, List.set_cons_succ]
        refine wpAnyH_ready (rs := [10]) (by kernel_rfl) (by simp) (AllReadyH.cons (o := { dst := some 24, op := _, type := _, pos := _, after := _, guard := _ }) rfl (fun K hK => ?_) AllReadyH.nil)
        go_simp
        go_wp2_with fail
        refine hK.out _ _ ?_ (fun hHeld => ?_)
        · exact hHeld.alloc hHeld.size _
        clear hK K
        try simp only [Act.put, List.setIfInBounds_toArray, List.set_cons_zero, List.set_cons_succ]
        refine wpAnyH_take (i := 11) (oi := { dst := some 4, op := _, type := _, pos := _, after := _, guard := _ }) (v := ?v1x138) rfl (by kernel_rfl) (by kernel_rfl) (by kernel_rfl) (fun _ _ _ h => h) (Or.inl ⟨by rfl, ?hy1x138⟩) hHeld ?rest1x138
        case hy1x138 => (intro w hSw; go_simp <;> with_reducible rfl)
        try simp only [Act.put, List.setIfInBounds_toArray, List.set_cons_zero, List.set_cons_succ]
        refine wpAnyH_take (i := 12) (oi := { dst := some 5, op := _, type := _, pos := _, after := _, guard := _ }) (v := ?v1x139) rfl (by kernel_rfl) (by kernel_rfl) (by kernel_rfl) (fun _ _ _ h => h) (Or.inl ⟨by rfl, ?hy1x139⟩) hHeld ?rest1x139
        case hy1x139 => (intro w hSw; go_simp <;> with_reducible rfl)
        try simp only [Act.put, List.setIfInBounds_toArray, List.set_cons_zero, List.set_cons_succ]
        refine wpAnyH_done (by kernel_rfl) ?_ _
    case' way1x126x3 =>
      rw [if_pos (by rfl)]
      refine op_mk 32 3 (.tmp 16) (.tmp 16) (.int .i64 0) 8 rfl Try.underlying32 int_info rfl nb rfl rfl (by omega) (by omega) ?_
      intro U g2 z2 ge2 bU
      have Gl2 := hide (Nat.le_trans hHeld.size ge2)
      (try (have L12 := hide (show g1 < g2 from Nat.lt_of_lt_of_le Z1.out.lt ge2)))
      (try (have L22 := hide (show g2 < g2 from Nat.lt_of_lt_of_le Z2.out.lt ge2)))
      (try (have L32 := hide (show g3 < g2 from Nat.lt_of_lt_of_le Z3.out.lt ge2)))
      (try (have L42 := hide (show g4 < g2 from Nat.lt_of_lt_of_le Z4.out.lt ge2)))
      (try (replace Z1 := hide (Z1.out.keep bU)))
      (try (replace Z2 := hide (Z2.out.keep bU)))
      (try (replace Z3 := hide (Z3.out.keep bU)))
      (try (replace Z4 := hide (Z4.out.keep bU)))
      have Z2 := hide z2
      clear z2 ge2
      refine hK.out _ _ ?_ (fun hHeld => ?_)
      · exact below_on hHeld bU
      clear hK K
      try simp only [Act.put, List.setIfInBounds_toArray, List.set_cons_zero, List.set_cons_succ]
      refine wpAnyH_ready (rs := [1, 5]) (by kernel_rfl) (by simp) (AllReadyH.cons (o := { dst := some 15, op := _, type := _, pos := _, after := _, guard := _ }) rfl (fun K hK => ?way1x140x1) (AllReadyH.cons (o := { dst := some 19, op := _, type := _, pos := _, after := _, guard := _ }) rfl (fun K hK => ?way1x140x5) AllReadyH.nil))
      case' way1x140x1 =>
        rw [if_pos (by rfl)]
        refine op_mk 32 3 (.tmp 14) (.tmp 14) (.int .i64 0) 8 rfl Try.underlying32 int_info rfl nb rfl rfl (by omega) (by omega) ?_
        intro U g1 z1 ge1 bU
        have Gl1 := hide (Nat.le_trans hHeld.size ge1)
        (try (have L11 := hide (show g1 < g1 from Nat.lt_of_lt_of_le Z1.out.lt ge1)))
        (try (have L21 := hide (show g2 < g1 from Nat.lt_of_lt_of_le Z2.out.lt ge1)))
        (try (have L31 := hide (show g3 < g1 from Nat.lt_of_lt_of_le Z3.out.lt ge1)))
        (try (have L41 := hide (show g4 < g1 from Nat.lt_of_lt_of_le Z4.out.lt ge1)))
        (try (replace Z1 := hide (Z1.out.keep bU)))
        (try (replace Z2 := hide (Z2.out.keep bU)))
        (try (replace Z3 := hide (Z3.out.keep bU)))
        (try (replace Z4 := hide (Z4.out.keep bU)))
        have Z1 := hide z1
        clear z1 ge1
        refine hK.out _ _ ?_ (fun hHeld => ?_)
        · exact below_on hHeld bU
        clear hK K
        try simp only [Act.put, List.setIfInBounds_toArray, List.set_cons_zero, List.set_cons_succ]
        refine wpAnyH_ready (rs := [5]) (by kernel_rfl) (by simp) (AllReadyH.cons (o := { dst := some 19, op := _, type := _, pos := _, after := _, guard := _ }) rfl (fun K hK => ?_) AllReadyH.nil)
        rw [if_pos (by rfl)]
        refine op_mk 32 3 (.tmp 18) (.tmp 18) (.int .i64 0) 8 rfl Try.underlying32 int_info rfl nw rfl rfl (by omega) (by omega) ?_
        intro U g3 z3 ge3 bU
        have Gl3 := hide (Nat.le_trans hHeld.size ge3)
        (try (have L13 := hide (show g1 < g3 from Nat.lt_of_lt_of_le Z1.out.lt ge3)))
        (try (have L23 := hide (show g2 < g3 from Nat.lt_of_lt_of_le Z2.out.lt ge3)))
        (try (have L33 := hide (show g3 < g3 from Nat.lt_of_lt_of_le Z3.out.lt ge3)))
        (try (have L43 := hide (show g4 < g3 from Nat.lt_of_lt_of_le Z4.out.lt ge3)))
        (try (replace Z1 := hide (Z1.out.keep bU)))
        (try (replace Z2 := hide (Z2.out.keep bU)))
        (try (replace Z3 := hide (Z3.out.keep bU)))
        (try (replace Z4 := hide (Z4.out.keep bU)))
        have Z3 := hide z3
        clear z3 ge3
        refine hK.out _ _ ?_ (fun hHeld => ?_)
        · exact below_on hHeld bU
        clear hK K
        try simp only [Act.put, List.setIfInBounds_toArray, List.set_cons_zero, List.set_cons_succ]
        refine wpAnyH_take (i := 8) (oi := { dst := some 22, op := _, type := _, pos := _, after := _, guard := _ }) (v := ?v1x142) rfl (by kernel_rfl) (by kernel_rfl) (by kernel_rfl) (fun _ _ _ h => h) (Or.inl ⟨by rfl, ?hy1x142⟩) hHeld ?rest1x142
        case hy1x142 => (intro w hSw; go_simp <;> with_reducible rfl)
        try simp only [Act.put, List.setIfInBounds_toArray, List.set_cons_zero, List.set_cons_succ]
        refine wpAnyH_take (i := 9) (oi := { dst := some 23, op := _, type := _, pos := _, after := _, guard := _ }) (v := ?v1x143) rfl (by kernel_rfl) (by kernel_rfl) (by kernel_rfl) (fun _ _ _ h => h) (Or.inl ⟨by rfl, ?hy1x143⟩) hHeld ?rest1x143
        case hy1x143 => (intro w hSw; go_simp <;> with_reducible rfl)
        try simp only [Act.put, List.setIfInBounds_toArray, List.set_cons_zero, List.set_cons_succ]
        refine wpAnyH_ready (rs := [10]) (by kernel_rfl) (by simp) (AllReadyH.cons (o := { dst := some 24, op := _, type := _, pos := _, after := _, guard := _ }) rfl (fun K hK => ?_) AllReadyH.nil)
        go_simp
        go_wp2_with fail
        refine hK.out _ _ ?_ (fun hHeld => ?_)
        · exact hHeld.alloc hHeld.size _
        clear hK K
        try simp only [Act.put, List.setIfInBounds_toArray, List.set_cons_zero, List.set_cons_succ]
        refine wpAnyH_take (i := 11) (oi := { dst := some 4, op := _, type := _, pos := _, after := _, guard := _ }) (v := ?v1x145) rfl (by kernel_rfl) (by kernel_rfl) (by kernel_rfl) (fun _ _ _ h => h) (Or.inl ⟨by rfl, ?hy1x145⟩) hHeld ?rest1x145
        case hy1x145 => (intro w hSw; go_simp <;> with_reducible rfl)
        try simp only [Act.put, List.setIfInBounds_toArray, List.set_cons_zero, List.set_cons_succ]
        refine wpAnyH_take (i := 12) (oi := { dst := some 5, op := _, type := _, pos := _, after := _, guard := _ }) (v := ?v1x146) rfl (by kernel_rfl) (by kernel_rfl) (by kernel_rfl) (fun _ _ _ h => h) (Or.inl ⟨by rfl, ?hy1x146⟩) hHeld ?rest1x146
        case hy1x146 => (intro w hSw; go_simp <;> with_reducible rfl)
        try simp only [Act.put, List.setIfInBounds_toArray, List.set_cons_zero, List.set_cons_succ]
        refine wpAnyH_done (by kernel_rfl) ?_ _
      case' way1x140x5 =>
        rw [if_pos (by rfl)]
        refine op_mk 32 3 (.tmp 18) (.tmp 18) (.int .i64 0) 8 rfl Try.underlying32 int_info rfl nw rfl rfl (by omega) (by omega) ?_
        intro U g3 z3 ge3 bU
        have Gl3 := hide (Nat.le_trans hHeld.size ge3)
        (try (have L13 := hide (show g1 < g3 from Nat.lt_of_lt_of_le Z1.out.lt ge3)))
        (try (have L23 := hide (show g2 < g3 from Nat.lt_of_lt_of_le Z2.out.lt ge3)))
        (try (have L33 := hide (show g3 < g3 from Nat.lt_of_lt_of_le Z3.out.lt ge3)))
        (try (have L43 := hide (show g4 < g3 from Nat.lt_of_lt_of_le Z4.out.lt ge3)))
        (try (replace Z1 := hide (Z1.out.keep bU)))
        (try (replace Z2 := hide (Z2.out.keep bU)))
        (try (replace Z3 := hide (Z3.out.keep bU)))
        (try (replace Z4 := hide (Z4.out.keep bU)))
        have Z3 := hide z3
        clear z3 ge3
        refine hK.out _ _ ?_ (fun hHeld => ?_)
        · exact below_on hHeld bU
        clear hK K
        try simp only [Act.put, List.setIfInBounds_toArray, List.set_cons_zero, List.set_cons_succ]
        refine wpAnyH_ready (rs := [1]) (by kernel_rfl) (by simp) (AllReadyH.cons (o := { dst := some 15, op := _, type := _, pos := _, after := _, guard := _ }) rfl (fun K hK => ?_) AllReadyH.nil)
        rw [if_pos (by rfl)]
        refine op_mk 32 3 (.tmp 14) (.tmp 14) (.int .i64 0) 8 rfl Try.underlying32 int_info rfl nb rfl rfl (by omega) (by omega) ?_
        intro U g1 z1 ge1 bU
        have Gl1 := hide (Nat.le_trans hHeld.size ge1)
        (try (have L11 := hide (show g1 < g1 from Nat.lt_of_lt_of_le Z1.out.lt ge1)))
        (try (have L21 := hide (show g2 < g1 from Nat.lt_of_lt_of_le Z2.out.lt ge1)))
        (try (have L31 := hide (show g3 < g1 from Nat.lt_of_lt_of_le Z3.out.lt ge1)))
        (try (have L41 := hide (show g4 < g1 from Nat.lt_of_lt_of_le Z4.out.lt ge1)))
        (try (replace Z1 := hide (Z1.out.keep bU)))
        (try (replace Z2 := hide (Z2.out.keep bU)))
        (try (replace Z3 := hide (Z3.out.keep bU)))
        (try (replace Z4 := hide (Z4.out.keep bU)))
        have Z1 := hide z1
        clear z1 ge1
        refine hK.out _ _ ?_ (fun hHeld => ?_)
        · exact below_on hHeld bU
        clear hK K
        try simp only [Act.put, List.setIfInBounds_toArray, List.set_cons_zero, List.set_cons_succ]
        refine wpAnyH_take (i := 8) (oi := { dst := some 22, op := _, type := _, pos := _, after := _, guard := _ }) (v := ?v1x148) rfl (by kernel_rfl) (by kernel_rfl) (by kernel_rfl) (fun _ _ _ h => h) (Or.inl ⟨by rfl, ?hy1x148⟩) hHeld ?rest1x148
        case hy1x148 => (intro w hSw; go_simp <;> with_reducible rfl)
        try simp only [Act.put, List.setIfInBounds_toArray, List.set_cons_zero, List.set_cons_succ]
        refine wpAnyH_take (i := 9) (oi := { dst := some 23, op := _, type := _, pos := _, after := _, guard := _ }) (v := ?v1x149) rfl (by kernel_rfl) (by kernel_rfl) (by kernel_rfl) (fun _ _ _ h => h) (Or.inl ⟨by rfl, ?hy1x149⟩) hHeld ?rest1x149
        case hy1x149 => (intro w hSw; go_simp <;> with_reducible rfl)
        try simp only [Act.put, List.setIfInBounds_toArray, List.set_cons_zero, List.set_cons_succ]
        refine wpAnyH_ready (rs := [10]) (by kernel_rfl) (by simp) (AllReadyH.cons (o := { dst := some 24, op := _, type := _, pos := _, after := _, guard := _ }) rfl (fun K hK => ?_) AllReadyH.nil)
        go_simp
        go_wp2_with fail
        refine hK.out _ _ ?_ (fun hHeld => ?_)
        · exact hHeld.alloc hHeld.size _
        clear hK K
        try simp only [Act.put, List.setIfInBounds_toArray, List.set_cons_zero, List.set_cons_succ]
        refine wpAnyH_take (i := 11) (oi := { dst := some 4, op := _, type := _, pos := _, after := _, guard := _ }) (v := ?v1x151) rfl (by kernel_rfl) (by kernel_rfl) (by kernel_rfl) (fun _ _ _ h => h) (Or.inl ⟨by rfl, ?hy1x151⟩) hHeld ?rest1x151
        case hy1x151 => (intro w hSw; go_simp <;> with_reducible rfl)
        try simp only [Act.put, List.setIfInBounds_toArray, List.set_cons_zero, List.set_cons_succ]
        refine wpAnyH_take (i := 12) (oi := { dst := some 5, op := _, type := _, pos := _, after := _, guard := _ }) (v := ?v1x152) rfl (by kernel_rfl) (by kernel_rfl) (by kernel_rfl) (fun _ _ _ h => h) (Or.inl ⟨by rfl, ?hy1x152⟩) hHeld ?rest1x152
        case hy1x152 => (intro w hSw; go_simp <;> with_reducible rfl)
        try simp only [Act.put, List.setIfInBounds_toArray, List.set_cons_zero, List.set_cons_succ]
        refine wpAnyH_done (by kernel_rfl) ?_ _
    case' way1x126x5 =>
      rw [if_pos (by rfl)]
      refine op_mk 32 3 (.tmp 18) (.tmp 18) (.int .i64 0) 8 rfl Try.underlying32 int_info rfl nw rfl rfl (by omega) (by omega) ?_
      intro U g3 z3 ge3 bU
      have Gl3 := hide (Nat.le_trans hHeld.size ge3)
      (try (have L13 := hide (show g1 < g3 from Nat.lt_of_lt_of_le Z1.out.lt ge3)))
      (try (have L23 := hide (show g2 < g3 from Nat.lt_of_lt_of_le Z2.out.lt ge3)))
      (try (have L33 := hide (show g3 < g3 from Nat.lt_of_lt_of_le Z3.out.lt ge3)))
      (try (have L43 := hide (show g4 < g3 from Nat.lt_of_lt_of_le Z4.out.lt ge3)))
      (try (replace Z1 := hide (Z1.out.keep bU)))
      (try (replace Z2 := hide (Z2.out.keep bU)))
      (try (replace Z3 := hide (Z3.out.keep bU)))
      (try (replace Z4 := hide (Z4.out.keep bU)))
      have Z3 := hide z3
      clear z3 ge3
      refine hK.out _ _ ?_ (fun hHeld => ?_)
      · exact below_on hHeld bU
      clear hK K
      try simp only [Act.put, List.setIfInBounds_toArray, List.set_cons_zero, List.set_cons_succ]
      refine wpAnyH_ready (rs := [1, 3]) (by kernel_rfl) (by simp) (AllReadyH.cons (o := { dst := some 15, op := _, type := _, pos := _, after := _, guard := _ }) rfl (fun K hK => ?way1x153x1) (AllReadyH.cons (o := { dst := some 17, op := _, type := _, pos := _, after := _, guard := _ }) rfl (fun K hK => ?way1x153x3) AllReadyH.nil))
      case' way1x153x1 =>
        rw [if_pos (by rfl)]
        refine op_mk 32 3 (.tmp 14) (.tmp 14) (.int .i64 0) 8 rfl Try.underlying32 int_info rfl nb rfl rfl (by omega) (by omega) ?_
        intro U g1 z1 ge1 bU
        have Gl1 := hide (Nat.le_trans hHeld.size ge1)
        (try (have L11 := hide (show g1 < g1 from Nat.lt_of_lt_of_le Z1.out.lt ge1)))
        (try (have L21 := hide (show g2 < g1 from Nat.lt_of_lt_of_le Z2.out.lt ge1)))
        (try (have L31 := hide (show g3 < g1 from Nat.lt_of_lt_of_le Z3.out.lt ge1)))
        (try (have L41 := hide (show g4 < g1 from Nat.lt_of_lt_of_le Z4.out.lt ge1)))
        (try (replace Z1 := hide (Z1.out.keep bU)))
        (try (replace Z2 := hide (Z2.out.keep bU)))
        (try (replace Z3 := hide (Z3.out.keep bU)))
        (try (replace Z4 := hide (Z4.out.keep bU)))
        have Z1 := hide z1
        clear z1 ge1
        refine hK.out _ _ ?_ (fun hHeld => ?_)
        · exact below_on hHeld bU
        clear hK K
        try simp only [Act.put, List.setIfInBounds_toArray, List.set_cons_zero, List.set_cons_succ]
        refine wpAnyH_ready (rs := [3]) (by kernel_rfl) (by simp) (AllReadyH.cons (o := { dst := some 17, op := _, type := _, pos := _, after := _, guard := _ }) rfl (fun K hK => ?_) AllReadyH.nil)
        rw [if_pos (by rfl)]
        refine op_mk 32 3 (.tmp 16) (.tmp 16) (.int .i64 0) 8 rfl Try.underlying32 int_info rfl nb rfl rfl (by omega) (by omega) ?_
        intro U g2 z2 ge2 bU
        have Gl2 := hide (Nat.le_trans hHeld.size ge2)
        (try (have L12 := hide (show g1 < g2 from Nat.lt_of_lt_of_le Z1.out.lt ge2)))
        (try (have L22 := hide (show g2 < g2 from Nat.lt_of_lt_of_le Z2.out.lt ge2)))
        (try (have L32 := hide (show g3 < g2 from Nat.lt_of_lt_of_le Z3.out.lt ge2)))
        (try (have L42 := hide (show g4 < g2 from Nat.lt_of_lt_of_le Z4.out.lt ge2)))
        (try (replace Z1 := hide (Z1.out.keep bU)))
        (try (replace Z2 := hide (Z2.out.keep bU)))
        (try (replace Z3 := hide (Z3.out.keep bU)))
        (try (replace Z4 := hide (Z4.out.keep bU)))
        have Z2 := hide z2
        clear z2 ge2
        refine hK.out _ _ ?_ (fun hHeld => ?_)
        · exact below_on hHeld bU
        clear hK K
        try simp only [Act.put, List.setIfInBounds_toArray, List.set_cons_zero, List.set_cons_succ]
        refine wpAnyH_take (i := 8) (oi := { dst := some 22, op := _, type := _, pos := _, after := _, guard := _ }) (v := ?v1x155) rfl (by kernel_rfl) (by kernel_rfl) (by kernel_rfl) (fun _ _ _ h => h) (Or.inl ⟨by rfl, ?hy1x155⟩) hHeld ?rest1x155
        case hy1x155 => (intro w hSw; go_simp <;> with_reducible rfl)
        try simp only [Act.put, List.setIfInBounds_toArray, List.set_cons_zero, List.set_cons_succ]
        refine wpAnyH_take (i := 9) (oi := { dst := some 23, op := _, type := _, pos := _, after := _, guard := _ }) (v := ?v1x156) rfl (by kernel_rfl) (by kernel_rfl) (by kernel_rfl) (fun _ _ _ h => h) (Or.inl ⟨by rfl, ?hy1x156⟩) hHeld ?rest1x156
        case hy1x156 => (intro w hSw; go_simp <;> with_reducible rfl)
        try simp only [Act.put, List.setIfInBounds_toArray, List.set_cons_zero, List.set_cons_succ]
        refine wpAnyH_ready (rs := [10]) (by kernel_rfl) (by simp) (AllReadyH.cons (o := { dst := some 24, op := _, type := _, pos := _, after := _, guard := _ }) rfl (fun K hK => ?_) AllReadyH.nil)
        go_simp
        go_wp2_with fail
        refine hK.out _ _ ?_ (fun hHeld => ?_)
        · exact hHeld.alloc hHeld.size _
        clear hK K
        try simp only [Act.put, List.setIfInBounds_toArray, List.set_cons_zero, List.set_cons_succ]
        refine wpAnyH_take (i := 11) (oi := { dst := some 4, op := _, type := _, pos := _, after := _, guard := _ }) (v := ?v1x158) rfl (by kernel_rfl) (by kernel_rfl) (by kernel_rfl) (fun _ _ _ h => h) (Or.inl ⟨by rfl, ?hy1x158⟩) hHeld ?rest1x158
        case hy1x158 => (intro w hSw; go_simp <;> with_reducible rfl)
        try simp only [Act.put, List.setIfInBounds_toArray, List.set_cons_zero, List.set_cons_succ]
        refine wpAnyH_take (i := 12) (oi := { dst := some 5, op := _, type := _, pos := _, after := _, guard := _ }) (v := ?v1x159) rfl (by kernel_rfl) (by kernel_rfl) (by kernel_rfl) (fun _ _ _ h => h) (Or.inl ⟨by rfl, ?hy1x159⟩) hHeld ?rest1x159
        case hy1x159 => (intro w hSw; go_simp <;> with_reducible rfl)
        try simp only [Act.put, List.setIfInBounds_toArray, List.set_cons_zero, List.set_cons_succ]
        refine wpAnyH_done (by kernel_rfl) ?_ _
      case' way1x153x3 =>
        rw [if_pos (by rfl)]
        refine op_mk 32 3 (.tmp 16) (.tmp 16) (.int .i64 0) 8 rfl Try.underlying32 int_info rfl nb rfl rfl (by omega) (by omega) ?_
        intro U g2 z2 ge2 bU
        have Gl2 := hide (Nat.le_trans hHeld.size ge2)
        (try (have L12 := hide (show g1 < g2 from Nat.lt_of_lt_of_le Z1.out.lt ge2)))
        (try (have L22 := hide (show g2 < g2 from Nat.lt_of_lt_of_le Z2.out.lt ge2)))
        (try (have L32 := hide (show g3 < g2 from Nat.lt_of_lt_of_le Z3.out.lt ge2)))
        (try (have L42 := hide (show g4 < g2 from Nat.lt_of_lt_of_le Z4.out.lt ge2)))
        (try (replace Z1 := hide (Z1.out.keep bU)))
        (try (replace Z2 := hide (Z2.out.keep bU)))
        (try (replace Z3 := hide (Z3.out.keep bU)))
        (try (replace Z4 := hide (Z4.out.keep bU)))
        have Z2 := hide z2
        clear z2 ge2
        refine hK.out _ _ ?_ (fun hHeld => ?_)
        · exact below_on hHeld bU
        clear hK K
        try simp only [Act.put, List.setIfInBounds_toArray, List.set_cons_zero, List.set_cons_succ]
        refine wpAnyH_ready (rs := [1]) (by kernel_rfl) (by simp) (AllReadyH.cons (o := { dst := some 15, op := _, type := _, pos := _, after := _, guard := _ }) rfl (fun K hK => ?_) AllReadyH.nil)
        rw [if_pos (by rfl)]
        refine op_mk 32 3 (.tmp 14) (.tmp 14) (.int .i64 0) 8 rfl Try.underlying32 int_info rfl nb rfl rfl (by omega) (by omega) ?_
        intro U g1 z1 ge1 bU
        have Gl1 := hide (Nat.le_trans hHeld.size ge1)
        (try (have L11 := hide (show g1 < g1 from Nat.lt_of_lt_of_le Z1.out.lt ge1)))
        (try (have L21 := hide (show g2 < g1 from Nat.lt_of_lt_of_le Z2.out.lt ge1)))
        (try (have L31 := hide (show g3 < g1 from Nat.lt_of_lt_of_le Z3.out.lt ge1)))
        (try (have L41 := hide (show g4 < g1 from Nat.lt_of_lt_of_le Z4.out.lt ge1)))
        (try (replace Z1 := hide (Z1.out.keep bU)))
        (try (replace Z2 := hide (Z2.out.keep bU)))
        (try (replace Z3 := hide (Z3.out.keep bU)))
        (try (replace Z4 := hide (Z4.out.keep bU)))
        have Z1 := hide z1
        clear z1 ge1
        refine hK.out _ _ ?_ (fun hHeld => ?_)
        · exact below_on hHeld bU
        clear hK K
        try simp only [Act.put, List.setIfInBounds_toArray, List.set_cons_zero, List.set_cons_succ]
        refine wpAnyH_take (i := 8) (oi := { dst := some 22, op := _, type := _, pos := _, after := _, guard := _ }) (v := ?v1x161) rfl (by kernel_rfl) (by kernel_rfl) (by kernel_rfl) (fun _ _ _ h => h) (Or.inl ⟨by rfl, ?hy1x161⟩) hHeld ?rest1x161
        case hy1x161 => (intro w hSw; go_simp <;> with_reducible rfl)
        try simp only [Act.put, List.setIfInBounds_toArray, List.set_cons_zero, List.set_cons_succ]
        refine wpAnyH_take (i := 9) (oi := { dst := some 23, op := _, type := _, pos := _, after := _, guard := _ }) (v := ?v1x162) rfl (by kernel_rfl) (by kernel_rfl) (by kernel_rfl) (fun _ _ _ h => h) (Or.inl ⟨by rfl, ?hy1x162⟩) hHeld ?rest1x162
        case hy1x162 => (intro w hSw; go_simp <;> with_reducible rfl)
        try simp only [Act.put, List.setIfInBounds_toArray, List.set_cons_zero, List.set_cons_succ]
        refine wpAnyH_ready (rs := [10]) (by kernel_rfl) (by simp) (AllReadyH.cons (o := { dst := some 24, op := _, type := _, pos := _, after := _, guard := _ }) rfl (fun K hK => ?_) AllReadyH.nil)
        go_simp
        go_wp2_with fail
        refine hK.out _ _ ?_ (fun hHeld => ?_)
        · exact hHeld.alloc hHeld.size _
        clear hK K
        try simp only [Act.put, List.setIfInBounds_toArray, List.set_cons_zero, List.set_cons_succ]
        refine wpAnyH_take (i := 11) (oi := { dst := some 4, op := _, type := _, pos := _, after := _, guard := _ }) (v := ?v1x164) rfl (by kernel_rfl) (by kernel_rfl) (by kernel_rfl) (fun _ _ _ h => h) (Or.inl ⟨by rfl, ?hy1x164⟩) hHeld ?rest1x164
        case hy1x164 => (intro w hSw; go_simp <;> with_reducible rfl)
        try simp only [Act.put, List.setIfInBounds_toArray, List.set_cons_zero, List.set_cons_succ]
        refine wpAnyH_take (i := 12) (oi := { dst := some 5, op := _, type := _, pos := _, after := _, guard := _ }) (v := ?v1x165) rfl (by kernel_rfl) (by kernel_rfl) (by kernel_rfl) (fun _ _ _ h => h) (Or.inl ⟨by rfl, ?hy1x165⟩) hHeld ?rest1x165
        case hy1x165 => (intro w hSw; go_simp <;> with_reducible rfl)
        try simp only [Act.put, List.setIfInBounds_toArray, List.set_cons_zero, List.set_cons_succ]
        refine wpAnyH_done (by kernel_rfl) ?_ _
  all_goals
    go_wp2
    go_ret2
    have q1 := Z1.out.lt; have q2 := Z2.out.lt; have q3 := Z3.out.lt; have q4 := Z4.out.lt
    have n12 : g1 ≠ g2 := by first | exact Nat.ne_of_lt L12.out | exact Nat.ne_of_gt L21.out
    have n13 : g1 ≠ g3 := by first | exact Nat.ne_of_lt L13.out | exact Nat.ne_of_gt L31.out
    have n14 : g1 ≠ g4 := by first | exact Nat.ne_of_lt L14.out | exact Nat.ne_of_gt L41.out
    have n23 : g2 ≠ g3 := by first | exact Nat.ne_of_lt L23.out | exact Nat.ne_of_gt L32.out
    have n24 : g2 ≠ g4 := by first | exact Nat.ne_of_lt L24.out | exact Nat.ne_of_gt L42.out
    have n34 : g3 ≠ g4 := by first | exact Nat.ne_of_lt L34.out | exact Nat.ne_of_gt L43.out
    have hUs := Nat.le_trans Gl1.out (Nat.le_of_lt q1)
    exact ⟨_, _, rfl, new_SlA 58 _ nb nw _ U.heap.size g1 g2 g3 g4 (Z1.out.al _) (Z2.out.al _) (Z3.out.al _) (Z4.out.al _) (Blk.new U _ _) Gl1.out Gl2.out Gl3.out Gl4.out hUs n12 n13 n14 n23 n24 n34 (Nat.ne_of_lt q1) (Nat.ne_of_lt q2) (Nat.ne_of_lt q3) (Nat.ne_of_lt q4), hHeld⟩

theorem sNew_no (bits words : Int) (h : ¬ (0 ≤ bits ∧ bits ≤ 65536) ∨ ¬ (0 ≤ words ∧ words ≤ 65536)) (w : World) :
    Calls Try.prog 8 #[.int .i64 bits, .int .i64 words] w fun e w' => e = .returned (.tuple #[.pointer none, .int .i64 1]) ∧ w = w' := by
  have HU1 := hide (fun W => sUpTo_any bits 65536 W)
  have HU2 := hide (fun W => sUpTo_any words 65536 W)
  cases h1 : (decide (0 ≤ bits) && decide (bits ≤ 65536))
  · rw [h1] at HU1
    clear h h1
    go_enter Try.func8, Try.ntmps8
    go_wp2_with fail
    refine (HU1.out _).mono ?_
    rintro e w1 ⟨rfl, rfl⟩
    go_wp2
    go_ret2
    exact ⟨rfl, rfl⟩
  · rw [h1] at HU1
    have h2 : (decide (0 ≤ words) && decide (words ≤ 65536)) = false := by
      simp at h1
      simp
      omega
    rw [h2] at HU2
    clear h h1 h2
    go_enter Try.func8, Try.ntmps8
    go_wp2_with fail
    refine (HU1.out _).mono ?_
    rintro e w1 ⟨rfl, rfl⟩
    go_wp2_with fail
    refine (HU2.out _).mono ?_
    rintro e w1 ⟨rfl, rfl⟩
    go_wp2
    go_ret2
    exact ⟨rfl, rfl⟩

end Go.Proofs.Ytohiblldhdglgaa
