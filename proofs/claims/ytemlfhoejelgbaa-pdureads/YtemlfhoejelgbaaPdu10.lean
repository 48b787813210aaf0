/-
  What is proved here: what pdu's guess returns, of the functions that write many, and of any bytes.
-/
import Derived.Test.YtemlfhoejelgbaaPdu9
namespace Go.Proofs.Ytemlfhoejelgbaa
set_option linter.unusedVariables false
set_option linter.unusedSimpArgs false
open Go.RowKit

theorem guess_22 (b o l c : Nat) (xs : List UInt8) (w : World) (h : Rd w (some ⟨b, o, none⟩) l (bv xs)) (cx0 : w.cell? ⟨b, o, none⟩ = some (.int .u8 22)) (hc : l ≤ c) (hl0 : 0 < l) (hl : l ≤ 253) :
    Calls Try.prog 34 #[.slice (some ⟨b, o, none⟩) l c] w (RetRq ⟨22, wAt xs 1, 0, [], 0, wAt xs 3, wAt xs 5⟩ w) := by
  have HW5 := hide (fun W (hr : Rd W (some ⟨b, o, none⟩) l (bv xs)) => wordAt_any (some ⟨b, o, none⟩) l c 5 5 rfl xs W hr (by omega) (by omega))
  generalize wAt xs 5 = a5 at *
  have hbl : b < w.heap.size := block_lt_of_cell cx0
  have q0 : (0 : Int) < (l : Int) := by omega
  have HW1 := hide (fun W (hr : Rd W (some ⟨b, o, none⟩) l (bv xs)) => wordAt_any (some ⟨b, o, none⟩) l c 1 1 rfl xs W hr (by omega) (by omega))
  have HW3 := hide (fun W (hr : Rd W (some ⟨b, o, none⟩) l (bv xs)) => wordAt_any (some ⟨b, o, none⟩) l c 3 3 rfl xs W hr (by omega) (by omega))
  have CX0 := hide cx0
  clear cx0
  have qd := quo_word (wAt xs 3) (wAt_bounds xs 3)
  generalize wAt xs 1 = a1 at *
  generalize wAt xs 3 = a3 at *
  have qw : IntKind.i64.wrap 22 = 22 := by decide
  go_enter Try.func34, Try.ntmps34
  go_wp2_with fail
  generalize hW : w.alloc _ = W
  have hBel : Below w.heap.size w W := by subst hW; exact (Below.refl _ _).alloc (Nat.le_refl _) _
  have hB0 : Blk W w.heap.size 24 [.int .i64 0, .int .i64 0, .int .i64 0, .slice none 0 0, .int .i64 0, .int .i64 0, .int .i64 0] := by subst hW; exact Blk.new _ _ _
  have cx : ∀ w', Below W.heap.size W w' → w'.cell? ⟨b, o, none⟩ = some (.int .u8 22) := fun w' hb => ((below_on hBel hb).cell (p := ⟨b, o, none⟩) hbl).trans CX0.out
  have R0 := hide (h.keep hBel)
  have HB0 := hide hB0
  have HBel := hide hBel
  have H0 := hide h
  clear hW hB0 hBel h
  refine wp_region_held_drew (S := fun w' => Below W.heap.size W w') (by kernel_rfl) ?_ (fun hHeld => ?_)
  · exact (Below.refl _ _).drew
  refine wpAnyH_take (i := 0) (oi := { dst := some 5, op := _, type := _, pos := _, after := _, guard := _ }) (v := ?v1x1) rfl (by kernel_rfl) (by kernel_rfl) (by kernel_rfl) (fun _ _ _ h => h) (Or.inl ⟨by rfl, ?hy1x1⟩) hHeld ?rest1x1
  case hy1x1 => (intro w hSw; go_simp <;> with_reducible rfl)
  try simp only [Act.put, List.setIfInBounds_toArray, List.set_cons_zero, List.set_cons_succ]
  refine wpAnyH_take (i := 1) (oi := { dst := some 6, op := _, type := _, pos := _, after := _, guard := _ }) (v := ?v1x2) rfl (by kernel_rfl) (by kernel_rfl) (by kernel_rfl) (fun _ _ _ h => h) (Or.inl ⟨by rfl, ?hy1x2⟩) hHeld ?rest1x2
  case hy1x2 => (intro w hSw; go_simp <;> with_reducible rfl)
  try simp only [Act.put, List.setIfInBounds_toArray, List.set_cons_zero, List.set_cons_succ]
  refine wpAnyH_take (i := 2) (oi := { dst := some 7, op := _, type := _, pos := _, after := _, guard := _ }) (v := ?v1x3) rfl (by kernel_rfl) (by kernel_rfl) (by kernel_rfl) (fun _ _ _ h => h) (Or.inl ⟨by rfl, ?hy1x3⟩) hHeld ?rest1x3
  case hy1x3 => (intro w hSw; go_simp <;> with_reducible rfl)
  try simp only [Act.put, List.setIfInBounds_toArray, List.set_cons_zero, List.set_cons_succ]
  refine wpAnyH_take (i := 3) (oi := { dst := some 8, op := _, type := _, pos := _, after := _, guard := _ }) (v := ?v1x4) rfl (by kernel_rfl) (by kernel_rfl) (by kernel_rfl) (fun _ _ _ h => h) (Or.inl ⟨by rfl, ?hy1x4⟩) hHeld ?rest1x4
  case hy1x4 => (intro w hSw; go_simp <;> with_reducible rfl)
  try simp only [Act.put, List.setIfInBounds_toArray, List.set_cons_zero, List.set_cons_succ]
  refine wpAnyH_take (i := 4) (oi := { dst := some 9, op := _, type := _, pos := _, after := _, guard := _ }) (v := ?v1x5) rfl (by kernel_rfl) (by kernel_rfl) (by kernel_rfl) (fun _ _ _ h => h) (Or.inl ⟨by rfl, ?hy1x5⟩) hHeld ?rest1x5
  case hy1x5 => (intro w hSw; go_simp <;> with_reducible rfl)
  try simp only [Act.put, List.setIfInBounds_toArray, List.set_cons_zero, List.set_cons_succ]
  refine wpAnyH_ready (rs := [5, 7]) (by kernel_rfl) (by simp) (AllReadyH.cons (o := { dst := some 10, op := _, type := _, pos := _, after := _, guard := _ }) rfl (fun K hK => ?way1x6x5) (AllReadyH.cons (o := { dst := some 3, op := _, type := _, pos := _, after := _, guard := _ }) rfl (fun K hK => ?way1x6x7) AllReadyH.nil))
  case' way1x6x5 =>
    go_simp
    refine (HW1.out _ (R0.out.keep hHeld)).mono ?_
    rintro e w1 ⟨rfl, nq, rfl⟩
    go_wp2_with fail
    refine hK.out _ _ ?_ (fun hHeld => ?_)
    · exact below_same hHeld rfl rfl rfl rfl
    clear hK K
    try simp only [Act.put, List.setIfInBounds_toArray, List.set_cons_zero, List.set_cons_succ]
    refine wpAnyH_take (i := 6) (oi := { dst := some 11, op := _, type := _, pos := _, after := _, guard := _ }) (v := ?v1x7) rfl (by kernel_rfl) (by kernel_rfl) (by kernel_rfl) (fun _ _ _ h => h) (Or.inl ⟨by rfl, ?hy1x7⟩) hHeld ?rest1x7
    case hy1x7 => (intro w hSw; go_simp <;> with_reducible rfl)
    try simp only [Act.put, List.setIfInBounds_toArray, List.set_cons_zero, List.set_cons_succ]
    refine wpAnyH_ready (rs := [7]) (by kernel_rfl) (by simp) (AllReadyH.cons (o := { dst := some 3, op := _, type := _, pos := _, after := _, guard := _ }) rfl (fun K hK => ?_) AllReadyH.nil)
    go_simp
    go_wp2_with fail
    refine hK.out _ _ ?_ (fun hHeld => ?_)
    · exact hHeld.alloc hHeld.size _
    clear hK K
    try simp only [Act.put, List.setIfInBounds_toArray, List.set_cons_zero, List.set_cons_succ]
    refine wpAnyH_ready (rs := [8]) (by kernel_rfl) (by simp) (AllReadyH.cons (o := { dst := none, op := _, type := _, pos := _, after := _, guard := _ }) rfl (fun K hK => ?_) AllReadyH.nil)
    rw [if_pos (by rfl)]
    refine op_storeB 24 (.tmp 3) (.tmp 11) rfl W.heap.size 24 [.int .i64 0, .int .i64 0, .int .i64 0, .slice none 0 0, .int .i64 0, .int .i64 0, .int .i64 0] [.int .i64 22, .int .i64 a1, .int .i64 0, .slice none 0 0, .int .i64 0, .int .i64 0, .int .i64 0] rfl rfl (by first | exact Blk.new (W.drewN _) _ _ | exact Blk.new W _ _) rfl (by kernel_rfl) (by intro v hv; simp at hv; rcases hv with rfl | rfl | rfl | rfl | rfl | rfl | rfl <;> rfl) ?_
    intro V kV bV
    have sV := bV _ _ (Nat.le_refl _) hHeld
    refine hK.out _ _ ?_ (fun hHeld => ?_)
    · exact sV
    clear hK K
    try simp only [Act.put, List.setIfInBounds_toArray, List.set_cons_zero, List.set_cons_succ]
    refine wpAnyH_done (by kernel_rfl) ?_ _
  case' way1x6x7 =>
    go_simp
    go_wp2_with fail
    refine hK.out _ _ ?_ (fun hHeld => ?_)
    · exact hHeld.alloc hHeld.size _
    clear hK K
    try simp only [Act.put, List.setIfInBounds_toArray, List.set_cons_zero, List.set_cons_succ]
    refine wpAnyH_ready (rs := [5]) (by kernel_rfl) (by simp) (AllReadyH.cons (o := { dst := some 10, op := _, type := _, pos := _, after := _, guard := _ }) rfl (fun K hK => ?_) AllReadyH.nil)
    go_simp
    refine (HW1.out _ (R0.out.keep hHeld)).mono ?_
    rintro e w1 ⟨rfl, nq, rfl⟩
    go_wp2_with fail
    refine hK.out _ _ ?_ (fun hHeld => ?_)
    · exact below_same hHeld rfl rfl rfl rfl
    clear hK K
    try simp only [Act.put, List.setIfInBounds_toArray, List.set_cons_zero, List.set_cons_succ]
    refine wpAnyH_take (i := 6) (oi := { dst := some 11, op := _, type := _, pos := _, after := _, guard := _ }) (v := ?v1x11) rfl (by kernel_rfl) (by kernel_rfl) (by kernel_rfl) (fun _ _ _ h => h) (Or.inl ⟨by rfl, ?hy1x11⟩) hHeld ?rest1x11
    case hy1x11 => (intro w hSw; go_simp <;> with_reducible rfl)
    try simp only [Act.put, List.setIfInBounds_toArray, List.set_cons_zero, List.set_cons_succ]
    refine wpAnyH_ready (rs := [8]) (by kernel_rfl) (by simp) (AllReadyH.cons (o := { dst := none, op := _, type := _, pos := _, after := _, guard := _ }) rfl (fun K hK => ?_) AllReadyH.nil)
    rw [if_pos (by rfl)]
    refine op_storeB 24 (.tmp 3) (.tmp 11) rfl W.heap.size 24 [.int .i64 0, .int .i64 0, .int .i64 0, .slice none 0 0, .int .i64 0, .int .i64 0, .int .i64 0] [.int .i64 22, .int .i64 a1, .int .i64 0, .slice none 0 0, .int .i64 0, .int .i64 0, .int .i64 0] rfl rfl (by first | exact Blk.new (W.drewN _) _ _ | exact Blk.new W _ _) rfl (by kernel_rfl) (by intro v hv; simp at hv; rcases hv with rfl | rfl | rfl | rfl | rfl | rfl | rfl <;> rfl) ?_
    intro V kV bV
    have sV := bV _ _ (Nat.le_refl _) hHeld
    refine hK.out _ _ ?_ (fun hHeld => ?_)
    · exact sV
    clear hK K
    try simp only [Act.put, List.setIfInBounds_toArray, List.set_cons_zero, List.set_cons_succ]
    refine wpAnyH_done (by kernel_rfl) ?_ _
  all_goals
    have RV := hide (R0.out.keep sV)
    have KV := hide kV
    have SV := hide sV
    have KW := hide (HB0.out.keep sV)
    have hne : w.heap.size < W.heap.size := HB0.out.lt
    have hltV : W.heap.size < V.heap.size := KV.out.lt
    have hltW : w.heap.size < V.heap.size := KW.out.lt
    clear R0 kV sV HB0 cx hHeld bV
    go_wp2_with fail
    refine (HW3.out _ RV.out).mono ?_
    rintro e w1 ⟨rfl, n2, rfl⟩
    have kV2 : Blk (V.drewN n2) W.heap.size 24 _ := KV.out
    have kW2 : Blk (V.drewN n2) w.heap.size 24 _ := KW.out
    have sV2 : Below W.heap.size W (V.drewN n2) := below_drewN SV.out n2
    have rV2 : Rd (V.drewN n2) (some ⟨b, o, none⟩) l (bv xs) := RV.out
    generalize V.drewN n2 = U at *
    clear KV KW RV SV hltV hltW
    clear V
    have RU := hide rV2
    have SU := hide sV2
    have hne1 : W.heap.size ≠ w.heap.size := by omega
    have hne2 : w.heap.size ≠ W.heap.size := by omega
    have hltV : W.heap.size < U.heap.size := kV2.lt
    have hltW : w.heap.size < U.heap.size := kW2.lt
    obtain ⟨k0, k1, k2, k3, k4, k5, k6⟩ := kV2.seven
    obtain ⟨j0, j1, j2, j3, j4, j5, j6⟩ := kW2.seven
    have kf := kV2.frozen
    have jf := kW2.frozen
    have KU := hide kV2
    have KW := hide kW2
    clear rV2 sV2 kV2 kW2
    go_wp2_with fail
    refine (HW5.out _ RU.out).mono ?_
    rintro e w1 ⟨rfl, n5, rfl⟩
    go_wp2_with fail
    (try simp only [Exit.inBlock, Exit.then])
    have KW5 : Blk (U.drewN n5) w.heap.size 24 _ := KW.out
    refine bodyPost_ret (results_cell rfl rfl (((KW5.oth hne1 5 _).oth hne1 6 _).set7 _ _ _ _ _ _ _) Try.underlying24 rfl (by kernel_rfl)) rfl ?_
    exact ⟨_, 0, 0, rfl, Nat.le_refl _, Rd.nil _ _, below_set7 (((below_drewN (below_on HBel.out SU.out) n5).setCell (Nat.le_of_lt hne) _).setCell (Nat.le_of_lt hne) _) (Nat.le_refl _) _ _ _ _ _ _ _, fun b o e => by cases e⟩

theorem guess_15 (b o l c : Nat) (xs : List UInt8) (w : World) (h : Rd w (some ⟨b, o, none⟩) l (bv xs)) (cx0 : w.cell? ⟨b, o, none⟩ = some (.int .u8 15)) (hc : l ≤ c) (hl0 : 0 < l) (hl : l ≤ 253) :
    Calls Try.prog 34 #[.slice (some ⟨b, o, none⟩) l c] w (RetRq ⟨15, wAt xs 1, wAt xs 3, bitsL (xs.drop 6) (wAt xs 3).toNat, 0, 0, 0⟩ w) := by
  have hb3 := wAt_bounds xs 3
  have HU6 := hide (fun W (hr : Rd W (some ⟨b, o, none⟩) l (bv xs)) => unpacked_any (some ⟨b, o, none⟩) l c 6 (wAt xs 3).toNat 6 (wAt xs 3) rfl (by omega) xs W hr hc (by omega) (by omega) (by omega))
  generalize bitsL (xs.drop 6) (wAt xs 3).toNat = us at *
  clear hb3
  have hbl : b < w.heap.size := block_lt_of_cell cx0
  have q0 : (0 : Int) < (l : Int) := by omega
  have HW1 := hide (fun W (hr : Rd W (some ⟨b, o, none⟩) l (bv xs)) => wordAt_any (some ⟨b, o, none⟩) l c 1 1 rfl xs W hr (by omega) (by omega))
  have HW3 := hide (fun W (hr : Rd W (some ⟨b, o, none⟩) l (bv xs)) => wordAt_any (some ⟨b, o, none⟩) l c 3 3 rfl xs W hr (by omega) (by omega))
  have CX0 := hide cx0
  clear cx0
  have qd := quo_word (wAt xs 3) (wAt_bounds xs 3)
  generalize wAt xs 1 = a1 at *
  generalize wAt xs 3 = a3 at *
  have qw : IntKind.i64.wrap 15 = 15 := by decide
  go_enter Try.func34, Try.ntmps34
  go_wp2_with fail
  generalize hW : w.alloc _ = W
  have hBel : Below w.heap.size w W := by subst hW; exact (Below.refl _ _).alloc (Nat.le_refl _) _
  have hB0 : Blk W w.heap.size 24 [.int .i64 0, .int .i64 0, .int .i64 0, .slice none 0 0, .int .i64 0, .int .i64 0, .int .i64 0] := by subst hW; exact Blk.new _ _ _
  have cx : ∀ w', Below W.heap.size W w' → w'.cell? ⟨b, o, none⟩ = some (.int .u8 15) := fun w' hb => ((below_on hBel hb).cell (p := ⟨b, o, none⟩) hbl).trans CX0.out
  have R0 := hide (h.keep hBel)
  have HB0 := hide hB0
  have HBel := hide hBel
  have H0 := hide h
  clear hW hB0 hBel h
  refine wp_region_held_drew (S := fun w' => Below W.heap.size W w') (by kernel_rfl) ?_ (fun hHeld => ?_)
  · exact (Below.refl _ _).drew
  refine wpAnyH_take (i := 0) (oi := { dst := some 5, op := _, type := _, pos := _, after := _, guard := _ }) (v := ?v2x1) rfl (by kernel_rfl) (by kernel_rfl) (by kernel_rfl) (fun _ _ _ h => h) (Or.inl ⟨by rfl, ?hy2x1⟩) hHeld ?rest2x1
  case hy2x1 => (intro w hSw; go_simp <;> with_reducible rfl)
  try simp only [Act.put, List.setIfInBounds_toArray, List.set_cons_zero, List.set_cons_succ]
  refine wpAnyH_take (i := 1) (oi := { dst := some 6, op := _, type := _, pos := _, after := _, guard := _ }) (v := ?v2x2) rfl (by kernel_rfl) (by kernel_rfl) (by kernel_rfl) (fun _ _ _ h => h) (Or.inl ⟨by rfl, ?hy2x2⟩) hHeld ?rest2x2
  case hy2x2 => (intro w hSw; go_simp <;> with_reducible rfl)
  try simp only [Act.put, List.setIfInBounds_toArray, List.set_cons_zero, List.set_cons_succ]
  refine wpAnyH_take (i := 2) (oi := { dst := some 7, op := _, type := _, pos := _, after := _, guard := _ }) (v := ?v2x3) rfl (by kernel_rfl) (by kernel_rfl) (by kernel_rfl) (fun _ _ _ h => h) (Or.inl ⟨by rfl, ?hy2x3⟩) hHeld ?rest2x3
  case hy2x3 => (intro w hSw; go_simp <;> with_reducible rfl)
  try simp only [Act.put, List.setIfInBounds_toArray, List.set_cons_zero, List.set_cons_succ]
  refine wpAnyH_take (i := 3) (oi := { dst := some 8, op := _, type := _, pos := _, after := _, guard := _ }) (v := ?v2x4) rfl (by kernel_rfl) (by kernel_rfl) (by kernel_rfl) (fun _ _ _ h => h) (Or.inl ⟨by rfl, ?hy2x4⟩) hHeld ?rest2x4
  case hy2x4 => (intro w hSw; go_simp <;> with_reducible rfl)
  try simp only [Act.put, List.setIfInBounds_toArray, List.set_cons_zero, List.set_cons_succ]
  refine wpAnyH_take (i := 4) (oi := { dst := some 9, op := _, type := _, pos := _, after := _, guard := _ }) (v := ?v2x5) rfl (by kernel_rfl) (by kernel_rfl) (by kernel_rfl) (fun _ _ _ h => h) (Or.inl ⟨by rfl, ?hy2x5⟩) hHeld ?rest2x5
  case hy2x5 => (intro w hSw; go_simp <;> with_reducible rfl)
  try simp only [Act.put, List.setIfInBounds_toArray, List.set_cons_zero, List.set_cons_succ]
  refine wpAnyH_ready (rs := [5, 7]) (by kernel_rfl) (by simp) (AllReadyH.cons (o := { dst := some 10, op := _, type := _, pos := _, after := _, guard := _ }) rfl (fun K hK => ?way2x6x5) (AllReadyH.cons (o := { dst := some 3, op := _, type := _, pos := _, after := _, guard := _ }) rfl (fun K hK => ?way2x6x7) AllReadyH.nil))
  case' way2x6x5 =>
    go_simp
    refine (HW1.out _ (R0.out.keep hHeld)).mono ?_
    rintro e w1 ⟨rfl, nq, rfl⟩
    go_wp2_with fail
    refine hK.out _ _ ?_ (fun hHeld => ?_)
    · exact below_same hHeld rfl rfl rfl rfl
    clear hK K
    try simp only [Act.put, List.setIfInBounds_toArray, List.set_cons_zero, List.set_cons_succ]
    refine wpAnyH_take (i := 6) (oi := { dst := some 11, op := _, type := _, pos := _, after := _, guard := _ }) (v := ?v2x7) rfl (by kernel_rfl) (by kernel_rfl) (by kernel_rfl) (fun _ _ _ h => h) (Or.inl ⟨by rfl, ?hy2x7⟩) hHeld ?rest2x7
    case hy2x7 => (intro w hSw; go_simp <;> with_reducible rfl)
    try simp only [Act.put, List.setIfInBounds_toArray, List.set_cons_zero, List.set_cons_succ]
    refine wpAnyH_ready (rs := [7]) (by kernel_rfl) (by simp) (AllReadyH.cons (o := { dst := some 3, op := _, type := _, pos := _, after := _, guard := _ }) rfl (fun K hK => ?_) AllReadyH.nil)
    go_simp
    go_wp2_with fail
    refine hK.out _ _ ?_ (fun hHeld => ?_)
    · exact hHeld.alloc hHeld.size _
    clear hK K
    try simp only [Act.put, List.setIfInBounds_toArray, List.set_cons_zero, List.set_cons_succ]
    refine wpAnyH_ready (rs := [8]) (by kernel_rfl) (by simp) (AllReadyH.cons (o := { dst := none, op := _, type := _, pos := _, after := _, guard := _ }) rfl (fun K hK => ?_) AllReadyH.nil)
    rw [if_pos (by rfl)]
    refine op_storeB 24 (.tmp 3) (.tmp 11) rfl W.heap.size 24 [.int .i64 0, .int .i64 0, .int .i64 0, .slice none 0 0, .int .i64 0, .int .i64 0, .int .i64 0] [.int .i64 15, .int .i64 a1, .int .i64 0, .slice none 0 0, .int .i64 0, .int .i64 0, .int .i64 0] rfl rfl (by first | exact Blk.new (W.drewN _) _ _ | exact Blk.new W _ _) rfl (by kernel_rfl) (by intro v hv; simp at hv; rcases hv with rfl | rfl | rfl | rfl | rfl | rfl | rfl <;> rfl) ?_
    intro V kV bV
    have sV := bV _ _ (Nat.le_refl _) hHeld
    refine hK.out _ _ ?_ (fun hHeld => ?_)
    · exact sV
    clear hK K
    try simp only [Act.put, List.setIfInBounds_toArray, List.set_cons_zero, List.set_cons_succ]
    refine wpAnyH_done (by kernel_rfl) ?_ _
  case' way2x6x7 =>
    go_simp
    go_wp2_with fail
    refine hK.out _ _ ?_ (fun hHeld => ?_)
    · exact hHeld.alloc hHeld.size _
    clear hK K
    try simp only [Act.put, List.setIfInBounds_toArray, List.set_cons_zero, List.set_cons_succ]
    refine wpAnyH_ready (rs := [5]) (by kernel_rfl) (by simp) (AllReadyH.cons (o := { dst := some 10, op := _, type := _, pos := _, after := _, guard := _ }) rfl (fun K hK => ?_) AllReadyH.nil)
    go_simp
    refine (HW1.out _ (R0.out.keep hHeld)).mono ?_
    rintro e w1 ⟨rfl, nq, rfl⟩
    go_wp2_with fail
    refine hK.out _ _ ?_ (fun hHeld => ?_)
    · exact below_same hHeld rfl rfl rfl rfl
    clear hK K
    try simp only [Act.put, List.setIfInBounds_toArray, List.set_cons_zero, List.set_cons_succ]
    refine wpAnyH_take (i := 6) (oi := { dst := some 11, op := _, type := _, pos := _, after := _, guard := _ }) (v := ?v2x11) rfl (by kernel_rfl) (by kernel_rfl) (by kernel_rfl) (fun _ _ _ h => h) (Or.inl ⟨by rfl, ?hy2x11⟩) hHeld ?rest2x11
    case hy2x11 => (intro w hSw; go_simp <;> with_reducible rfl)
    try simp only [Act.put, List.setIfInBounds_toArray, List.set_cons_zero, List.set_cons_succ]
    refine wpAnyH_ready (rs := [8]) (by kernel_rfl) (by simp) (AllReadyH.cons (o := { dst := none, op := _, type := _, pos := _, after := _, guard := _ }) rfl (fun K hK => ?_) AllReadyH.nil)
    rw [if_pos (by rfl)]
    refine op_storeB 24 (.tmp 3) (.tmp 11) rfl W.heap.size 24 [.int .i64 0, .int .i64 0, .int .i64 0, .slice none 0 0, .int .i64 0, .int .i64 0, .int .i64 0] [.int .i64 15, .int .i64 a1, .int .i64 0, .slice none 0 0, .int .i64 0, .int .i64 0, .int .i64 0] rfl rfl (by first | exact Blk.new (W.drewN _) _ _ | exact Blk.new W _ _) rfl (by kernel_rfl) (by intro v hv; simp at hv; rcases hv with rfl | rfl | rfl | rfl | rfl | rfl | rfl <;> rfl) ?_
    intro V kV bV
    have sV := bV _ _ (Nat.le_refl _) hHeld
    refine hK.out _ _ ?_ (fun hHeld => ?_)
    · exact sV
    clear hK K
    try simp only [Act.put, List.setIfInBounds_toArray, List.set_cons_zero, List.set_cons_succ]
    refine wpAnyH_done (by kernel_rfl) ?_ _
  all_goals
    have RV := hide (R0.out.keep sV)
    have KV := hide kV
    have SV := hide sV
    have KW := hide (HB0.out.keep sV)
    have hne : w.heap.size < W.heap.size := HB0.out.lt
    have hltV : W.heap.size < V.heap.size := KV.out.lt
    have hltW : w.heap.size < V.heap.size := KW.out.lt
    clear R0 kV sV HB0 cx hHeld bV
    go_wp2_with fail
    refine (HW3.out _ RV.out).mono ?_
    rintro e w1 ⟨rfl, n2, rfl⟩
    have kV2 : Blk (V.drewN n2) W.heap.size 24 _ := KV.out
    have kW2 : Blk (V.drewN n2) w.heap.size 24 _ := KW.out
    have sV2 : Below W.heap.size W (V.drewN n2) := below_drewN SV.out n2
    have rV2 : Rd (V.drewN n2) (some ⟨b, o, none⟩) l (bv xs) := RV.out
    generalize V.drewN n2 = U at *
    clear KV KW RV SV hltV hltW
    clear V
    have RU := hide rV2
    have SU := hide sV2
    have hne1 : W.heap.size ≠ w.heap.size := by omega
    have hne2 : w.heap.size ≠ W.heap.size := by omega
    have hltV : W.heap.size < U.heap.size := kV2.lt
    have hltW : w.heap.size < U.heap.size := kW2.lt
    obtain ⟨k0, k1, k2, k3, k4, k5, k6⟩ := kV2.seven
    obtain ⟨j0, j1, j2, j3, j4, j5, j6⟩ := kW2.seven
    have kf := kV2.frozen
    have jf := kW2.frozen
    have KU := hide kV2
    have KW := hide kW2
    clear rV2 sV2 kV2 kW2
    go_wp2_with fail
    refine (HU6.out _ RU.out).mono ?_
    rintro e U2 ⟨C, kC, rfl, lC, rC, b2, nC⟩
    clear k0 k1 k2 k3 k4 k5 k6 j0 j1 j2 j3 j4 j5 j6 kf jf
    have kV2 := KU.out.keep b2
    have kW2 := KW.out.keep b2
    have SU2 := hide (below_on SU.out b2)
    obtain ⟨k0, k1, k2, k3, k4, k5, k6⟩ := kV2.seven
    obtain ⟨j0, j1, j2, j3, j4, j5, j6⟩ := kW2.seven
    have kf := kV2.frozen
    have jf := kW2.frozen
    have hC1 : ∀ b o, C = some ⟨b, o, none⟩ → b ≠ W.heap.size := fun b o e => by have := nC b o e; omega
    have hC2 : ∀ b o, C = some ⟨b, o, none⟩ → b ≠ w.heap.size := fun b o e => by have := nC b o e; omega
    have hC3 : ∀ b o, C = some ⟨b, o, none⟩ → w.heap.size ≤ b := fun b o e => by have := nC b o e; omega
    have HC3 := hide hC3
    have HC1 := hide hC1
    have HC2 := hide hC2
    have KW2 := hide kW2
    have RC := hide rC
    clear kV2 kW2 hC1 hC2 hC3 nC rC b2
    go_wp2_with fail
    (try simp only [Exit.inBlock, Exit.then])
    refine bodyPost_ret (results_cell rfl rfl (((KW2.out.oth hne1 2 _).oth hne1 3 _).set7 _ _ _ _ _ _ _) Try.underlying24 rfl (by kernel_rfl)) rfl ?_
    exact ⟨C, _, kC, rfl, lC, ((RC.out.set1 HC1.out 2 _).set1 HC1.out 3 _).set7 HC2.out _ _ _ _ _ _ _, below_set7 (((below_on HBel.out SU2.out).setCell (Nat.le_of_lt hne) _).setCell (Nat.le_of_lt hne) _) (Nat.le_refl _) _ _ _ _ _ _ _, HC3.out⟩

theorem guess_16 (b o l c : Nat) (xs : List UInt8) (w : World) (h : Rd w (some ⟨b, o, none⟩) l (bv xs)) (cx0 : w.cell? ⟨b, o, none⟩ = some (.int .u8 16)) (hc : l ≤ c) (hl0 : 0 < l) (hl : l ≤ 253) :
    Calls Try.prog 34 #[.slice (some ⟨b, o, none⟩) l c] w (RetRq ⟨16, wAt xs 1, wAt xs 3, wordsL (xs.drop 6), 0, 0, 0⟩ w) := by
  have HU6 := hide (fun W (hr : Rd W (some ⟨b, o, none⟩) l (bv xs)) => (wordsFrom_any (some ⟨b, o, none⟩) l c 6 6 rfl xs W hr (by omega) (by omega) ((l - 6) / 2) rfl).mono fun _ _ h => h.new)
  generalize wordsL (xs.drop 6) = us at *
  generalize (l - 6) / 2 = m at *
  have hbl : b < w.heap.size := block_lt_of_cell cx0
  have q0 : (0 : Int) < (l : Int) := by omega
  have HW1 := hide (fun W (hr : Rd W (some ⟨b, o, none⟩) l (bv xs)) => wordAt_any (some ⟨b, o, none⟩) l c 1 1 rfl xs W hr (by omega) (by omega))
  have HW3 := hide (fun W (hr : Rd W (some ⟨b, o, none⟩) l (bv xs)) => wordAt_any (some ⟨b, o, none⟩) l c 3 3 rfl xs W hr (by omega) (by omega))
  have CX0 := hide cx0
  clear cx0
  have qd := quo_word (wAt xs 3) (wAt_bounds xs 3)
  generalize wAt xs 1 = a1 at *
  generalize wAt xs 3 = a3 at *
  have qw : IntKind.i64.wrap 16 = 16 := by decide
  go_enter Try.func34, Try.ntmps34
  go_wp2_with fail
  generalize hW : w.alloc _ = W
  have hBel : Below w.heap.size w W := by subst hW; exact (Below.refl _ _).alloc (Nat.le_refl _) _
  have hB0 : Blk W w.heap.size 24 [.int .i64 0, .int .i64 0, .int .i64 0, .slice none 0 0, .int .i64 0, .int .i64 0, .int .i64 0] := by subst hW; exact Blk.new _ _ _
  have cx : ∀ w', Below W.heap.size W w' → w'.cell? ⟨b, o, none⟩ = some (.int .u8 16) := fun w' hb => ((below_on hBel hb).cell (p := ⟨b, o, none⟩) hbl).trans CX0.out
  have R0 := hide (h.keep hBel)
  have HB0 := hide hB0
  have HBel := hide hBel
  have H0 := hide h
  clear hW hB0 hBel h
  refine wp_region_held_drew (S := fun w' => Below W.heap.size W w') (by kernel_rfl) ?_ (fun hHeld => ?_)
  · exact (Below.refl _ _).drew
  refine wpAnyH_take (i := 0) (oi := { dst := some 5, op := _, type := _, pos := _, after := _, guard := _ }) (v := ?v3x1) rfl (by kernel_rfl) (by kernel_rfl) (by kernel_rfl) (fun _ _ _ h => h) (Or.inl ⟨by rfl, ?hy3x1⟩) hHeld ?rest3x1
  case hy3x1 => (intro w hSw; go_simp <;> with_reducible rfl)
  try simp only [Act.put, List.setIfInBounds_toArray, List.set_cons_zero, List.set_cons_succ]
  refine wpAnyH_take (i := 1) (oi := { dst := some 6, op := _, type := _, pos := _, after := _, guard := _ }) (v := ?v3x2) rfl (by kernel_rfl) (by kernel_rfl) (by kernel_rfl) (fun _ _ _ h => h) (Or.inl ⟨by rfl, ?hy3x2⟩) hHeld ?rest3x2
  case hy3x2 => (intro w hSw; go_simp <;> with_reducible rfl)
  try simp only [Act.put, List.setIfInBounds_toArray, List.set_cons_zero, List.set_cons_succ]
  refine wpAnyH_take (i := 2) (oi := { dst := some 7, op := _, type := _, pos := _, after := _, guard := _ }) (v := ?v3x3) rfl (by kernel_rfl) (by kernel_rfl) (by kernel_rfl) (fun _ _ _ h => h) (Or.inl ⟨by rfl, ?hy3x3⟩) hHeld ?rest3x3
  case hy3x3 => (intro w hSw; go_simp <;> with_reducible rfl)
  try simp only [Act.put, List.setIfInBounds_toArray, List.set_cons_zero, List.set_cons_succ]
  refine wpAnyH_take (i := 3) (oi := { dst := some 8, op := _, type := _, pos := _, after := _, guard := _ }) (v := ?v3x4) rfl (by kernel_rfl) (by kernel_rfl) (by kernel_rfl) (fun _ _ _ h => h) (Or.inl ⟨by rfl, ?hy3x4⟩) hHeld ?rest3x4
  case hy3x4 => (intro w hSw; go_simp <;> with_reducible rfl)
  try simp only [Act.put, List.setIfInBounds_toArray, List.set_cons_zero, List.set_cons_succ]
  refine wpAnyH_take (i := 4) (oi := { dst := some 9, op := _, type := _, pos := _, after := _, guard := _ }) (v := ?v3x5) rfl (by kernel_rfl) (by kernel_rfl) (by kernel_rfl) (fun _ _ _ h => h) (Or.inl ⟨by rfl, ?hy3x5⟩) hHeld ?rest3x5
  case hy3x5 => (intro w hSw; go_simp <;> with_reducible rfl)
  try simp only [Act.put, List.setIfInBounds_toArray, List.set_cons_zero, List.set_cons_succ]
  refine wpAnyH_ready (rs := [5, 7]) (by kernel_rfl) (by simp) (AllReadyH.cons (o := { dst := some 10, op := _, type := _, pos := _, after := _, guard := _ }) rfl (fun K hK => ?way3x6x5) (AllReadyH.cons (o := { dst := some 3, op := _, type := _, pos := _, after := _, guard := _ }) rfl (fun K hK => ?way3x6x7) AllReadyH.nil))
  case' way3x6x5 =>
    go_simp
    refine (HW1.out _ (R0.out.keep hHeld)).mono ?_
    rintro e w1 ⟨rfl, nq, rfl⟩
    go_wp2_with fail
    refine hK.out _ _ ?_ (fun hHeld => ?_)
    · exact below_same hHeld rfl rfl rfl rfl
    clear hK K
    try simp only [Act.put, List.setIfInBounds_toArray, List.set_cons_zero, List.set_cons_succ]
    refine wpAnyH_take (i := 6) (oi := { dst := some 11, op := _, type := _, pos := _, after := _, guard := _ }) (v := ?v3x7) rfl (by kernel_rfl) (by kernel_rfl) (by kernel_rfl) (fun _ _ _ h => h) (Or.inl ⟨by rfl, ?hy3x7⟩) hHeld ?rest3x7
    case hy3x7 => (intro w hSw; go_simp <;> with_reducible rfl)
    try simp only [Act.put, List.setIfInBounds_toArray, List.set_cons_zero, List.set_cons_succ]
    refine wpAnyH_ready (rs := [7]) (by kernel_rfl) (by simp) (AllReadyH.cons (o := { dst := some 3, op := _, type := _, pos := _, after := _, guard := _ }) rfl (fun K hK => ?_) AllReadyH.nil)
    go_simp
    go_wp2_with fail
    refine hK.out _ _ ?_ (fun hHeld => ?_)
    · exact hHeld.alloc hHeld.size _
    clear hK K
    try simp only [Act.put, List.setIfInBounds_toArray, List.set_cons_zero, List.set_cons_succ]
    refine wpAnyH_ready (rs := [8]) (by kernel_rfl) (by simp) (AllReadyH.cons (o := { dst := none, op := _, type := _, pos := _, after := _, guard := _ }) rfl (fun K hK => ?_) AllReadyH.nil)
    rw [if_pos (by rfl)]
    refine op_storeB 24 (.tmp 3) (.tmp 11) rfl W.heap.size 24 [.int .i64 0, .int .i64 0, .int .i64 0, .slice none 0 0, .int .i64 0, .int .i64 0, .int .i64 0] [.int .i64 16, .int .i64 a1, .int .i64 0, .slice none 0 0, .int .i64 0, .int .i64 0, .int .i64 0] rfl rfl (by first | exact Blk.new (W.drewN _) _ _ | exact Blk.new W _ _) rfl (by kernel_rfl) (by intro v hv; simp at hv; rcases hv with rfl | rfl | rfl | rfl | rfl | rfl | rfl <;> rfl) ?_
    intro V kV bV
    have sV := bV _ _ (Nat.le_refl _) hHeld
    refine hK.out _ _ ?_ (fun hHeld => ?_)
    · exact sV
    clear hK K
    try simp only [Act.put, List.setIfInBounds_toArray, List.set_cons_zero, List.set_cons_succ]
    refine wpAnyH_done (by kernel_rfl) ?_ _
  case' way3x6x7 =>
    go_simp
    go_wp2_with fail
    refine hK.out _ _ ?_ (fun hHeld => ?_)
    · exact hHeld.alloc hHeld.size _
    clear hK K
    try simp only [Act.put, List.setIfInBounds_toArray, List.set_cons_zero, List.set_cons_succ]
    refine wpAnyH_ready (rs := [5]) (by kernel_rfl) (by simp) (AllReadyH.cons (o := { dst := some 10, op := _, type := _, pos := _, after := _, guard := _ }) rfl (fun K hK => ?_) AllReadyH.nil)
    go_simp
    refine (HW1.out _ (R0.out.keep hHeld)).mono ?_
    rintro e w1 ⟨rfl, nq, rfl⟩
    go_wp2_with fail
    refine hK.out _ _ ?_ (fun hHeld => ?_)
    · exact below_same hHeld rfl rfl rfl rfl
    clear hK K
    try simp only [Act.put, List.setIfInBounds_toArray, List.set_cons_zero, List.set_cons_succ]
    refine wpAnyH_take (i := 6) (oi := { dst := some 11, op := _, type := _, pos := _, after := _, guard := _ }) (v := ?v3x11) rfl (by kernel_rfl) (by kernel_rfl) (by kernel_rfl) (fun _ _ _ h => h) (Or.inl ⟨by rfl, ?hy3x11⟩) hHeld ?rest3x11
    case hy3x11 => (intro w hSw; go_simp <;> with_reducible rfl)
    try simp only [Act.put, List.setIfInBounds_toArray, List.set_cons_zero, List.set_cons_succ]
    refine wpAnyH_ready (rs := [8]) (by kernel_rfl) (by simp) (AllReadyH.cons (o := { dst := none, op := _, type := _, pos := _, after := _, guard := _ }) rfl (fun K hK => ?_) AllReadyH.nil)
    rw [if_pos (by rfl)]
    refine op_storeB 24 (.tmp 3) (.tmp 11) rfl W.heap.size 24 [.int .i64 0, .int .i64 0, .int .i64 0, .slice none 0 0, .int .i64 0, .int .i64 0, .int .i64 0] [.int .i64 16, .int .i64 a1, .int .i64 0, .slice none 0 0, .int .i64 0, .int .i64 0, .int .i64 0] rfl rfl (by first | exact Blk.new (W.drewN _) _ _ | exact Blk.new W _ _) rfl (by kernel_rfl) (by intro v hv; simp at hv; rcases hv with rfl | rfl | rfl | rfl | rfl | rfl | rfl <;> rfl) ?_
    intro V kV bV
    have sV := bV _ _ (Nat.le_refl _) hHeld
    refine hK.out _ _ ?_ (fun hHeld => ?_)
    · exact sV
    clear hK K
    try simp only [Act.put, List.setIfInBounds_toArray, List.set_cons_zero, List.set_cons_succ]
    refine wpAnyH_done (by kernel_rfl) ?_ _
  all_goals
    have RV := hide (R0.out.keep sV)
    have KV := hide kV
    have SV := hide sV
    have KW := hide (HB0.out.keep sV)
    have hne : w.heap.size < W.heap.size := HB0.out.lt
    have hltV : W.heap.size < V.heap.size := KV.out.lt
    have hltW : w.heap.size < V.heap.size := KW.out.lt
    clear R0 kV sV HB0 cx hHeld bV
    go_wp2_with fail
    refine (HW3.out _ RV.out).mono ?_
    rintro e w1 ⟨rfl, n2, rfl⟩
    have kV2 : Blk (V.drewN n2) W.heap.size 24 _ := KV.out
    have kW2 : Blk (V.drewN n2) w.heap.size 24 _ := KW.out
    have sV2 : Below W.heap.size W (V.drewN n2) := below_drewN SV.out n2
    have rV2 : Rd (V.drewN n2) (some ⟨b, o, none⟩) l (bv xs) := RV.out
    generalize V.drewN n2 = U at *
    clear KV KW RV SV hltV hltW
    clear V
    have RU := hide rV2
    have SU := hide sV2
    have hne1 : W.heap.size ≠ w.heap.size := by omega
    have hne2 : w.heap.size ≠ W.heap.size := by omega
    have hltV : W.heap.size < U.heap.size := kV2.lt
    have hltW : w.heap.size < U.heap.size := kW2.lt
    obtain ⟨k0, k1, k2, k3, k4, k5, k6⟩ := kV2.seven
    obtain ⟨j0, j1, j2, j3, j4, j5, j6⟩ := kW2.seven
    have kf := kV2.frozen
    have jf := kW2.frozen
    have KU := hide kV2
    have KW := hide kW2
    clear rV2 sV2 kV2 kW2
    go_wp2_with fail
    refine (HU6.out _ RU.out).mono ?_
    rintro e U2 ⟨C, kC, rfl, lC, rC, b2, nC⟩
    clear k0 k1 k2 k3 k4 k5 k6 j0 j1 j2 j3 j4 j5 j6 kf jf
    have kV2 := KU.out.keep b2
    have kW2 := KW.out.keep b2
    have SU2 := hide (below_on SU.out b2)
    obtain ⟨k0, k1, k2, k3, k4, k5, k6⟩ := kV2.seven
    obtain ⟨j0, j1, j2, j3, j4, j5, j6⟩ := kW2.seven
    have kf := kV2.frozen
    have jf := kW2.frozen
    have hC1 : ∀ b o, C = some ⟨b, o, none⟩ → b ≠ W.heap.size := fun b o e => by have := nC b o e; omega
    have hC2 : ∀ b o, C = some ⟨b, o, none⟩ → b ≠ w.heap.size := fun b o e => by have := nC b o e; omega
    have hC3 : ∀ b o, C = some ⟨b, o, none⟩ → w.heap.size ≤ b := fun b o e => by have := nC b o e; omega
    have HC3 := hide hC3
    have HC1 := hide hC1
    have HC2 := hide hC2
    have KW2 := hide kW2
    have RC := hide rC
    clear kV2 kW2 hC1 hC2 hC3 nC rC b2
    go_wp2_with fail
    (try simp only [Exit.inBlock, Exit.then])
    refine bodyPost_ret (results_cell rfl rfl (((KW2.out.oth hne1 2 _).oth hne1 3 _).set7 _ _ _ _ _ _ _) Try.underlying24 rfl (by kernel_rfl)) rfl ?_
    exact ⟨C, _, kC, rfl, lC, ((RC.out.set1 HC1.out 2 _).set1 HC1.out 3 _).set7 HC2.out _ _ _ _ _ _ _, below_set7 (((below_on HBel.out SU2.out).setCell (Nat.le_of_lt hne) _).setCell (Nat.le_of_lt hne) _) (Nat.le_refl _) _ _ _ _ _ _ _, HC3.out⟩

theorem guess_23 (b o l c : Nat) (xs : List UInt8) (w : World) (h : Rd w (some ⟨b, o, none⟩) l (bv xs)) (cx0 : w.cell? ⟨b, o, none⟩ = some (.int .u8 23)) (hc : l ≤ c) (hl0 : 0 < l) (hl : l ≤ 253) :
    Calls Try.prog 34 #[.slice (some ⟨b, o, none⟩) l c] w (RetRq ⟨23, wAt xs 1, wAt xs 3, wordsL (xs.drop 10), wAt xs 5, 0, 0⟩ w) := by
  have HU6 := hide (fun W (hr : Rd W (some ⟨b, o, none⟩) l (bv xs)) => (wordsFrom_any (some ⟨b, o, none⟩) l c 10 10 rfl xs W hr (by omega) (by omega) ((l - 10) / 2) rfl).mono fun _ _ h => h.new)
  have HW5 := hide (fun W (hr : Rd W (some ⟨b, o, none⟩) l (bv xs)) => wordAt_any (some ⟨b, o, none⟩) l c 5 5 rfl xs W hr (by omega) (by omega))
  generalize wAt xs 5 = a5 at *
  generalize wordsL (xs.drop 10) = us at *
  generalize (l - 10) / 2 = m at *
  have hbl : b < w.heap.size := block_lt_of_cell cx0
  have q0 : (0 : Int) < (l : Int) := by omega
  have HW1 := hide (fun W (hr : Rd W (some ⟨b, o, none⟩) l (bv xs)) => wordAt_any (some ⟨b, o, none⟩) l c 1 1 rfl xs W hr (by omega) (by omega))
  have HW3 := hide (fun W (hr : Rd W (some ⟨b, o, none⟩) l (bv xs)) => wordAt_any (some ⟨b, o, none⟩) l c 3 3 rfl xs W hr (by omega) (by omega))
  have CX0 := hide cx0
  clear cx0
  have qd := quo_word (wAt xs 3) (wAt_bounds xs 3)
  generalize wAt xs 1 = a1 at *
  generalize wAt xs 3 = a3 at *
  have qw : IntKind.i64.wrap 23 = 23 := by decide
  go_enter Try.func34, Try.ntmps34
  go_wp2_with fail
  generalize hW : w.alloc _ = W
  have hBel : Below w.heap.size w W := by subst hW; exact (Below.refl _ _).alloc (Nat.le_refl _) _
  have hB0 : Blk W w.heap.size 24 [.int .i64 0, .int .i64 0, .int .i64 0, .slice none 0 0, .int .i64 0, .int .i64 0, .int .i64 0] := by subst hW; exact Blk.new _ _ _
  have cx : ∀ w', Below W.heap.size W w' → w'.cell? ⟨b, o, none⟩ = some (.int .u8 23) := fun w' hb => ((below_on hBel hb).cell (p := ⟨b, o, none⟩) hbl).trans CX0.out
  have R0 := hide (h.keep hBel)
  have HB0 := hide hB0
  have HBel := hide hBel
  have H0 := hide h
  clear hW hB0 hBel h
  refine wp_region_held_drew (S := fun w' => Below W.heap.size W w') (by kernel_rfl) ?_ (fun hHeld => ?_)
  · exact (Below.refl _ _).drew
  refine wpAnyH_take (i := 0) (oi := { dst := some 5, op := _, type := _, pos := _, after := _, guard := _ }) (v := ?v4x1) rfl (by kernel_rfl) (by kernel_rfl) (by kernel_rfl) (fun _ _ _ h => h) (Or.inl ⟨by rfl, ?hy4x1⟩) hHeld ?rest4x1
  case hy4x1 => (intro w hSw; go_simp <;> with_reducible rfl)
  try simp only [Act.put, List.setIfInBounds_toArray, List.set_cons_zero, List.set_cons_succ]
  refine wpAnyH_take (i := 1) (oi := { dst := some 6, op := _, type := _, pos := _, after := _, guard := _ }) (v := ?v4x2) rfl (by kernel_rfl) (by kernel_rfl) (by kernel_rfl) (fun _ _ _ h => h) (Or.inl ⟨by rfl, ?hy4x2⟩) hHeld ?rest4x2
  case hy4x2 => (intro w hSw; go_simp <;> with_reducible rfl)
  try simp only [Act.put, List.setIfInBounds_toArray, List.set_cons_zero, List.set_cons_succ]
  refine wpAnyH_take (i := 2) (oi := { dst := some 7, op := _, type := _, pos := _, after := _, guard := _ }) (v := ?v4x3) rfl (by kernel_rfl) (by kernel_rfl) (by kernel_rfl) (fun _ _ _ h => h) (Or.inl ⟨by rfl, ?hy4x3⟩) hHeld ?rest4x3
  case hy4x3 => (intro w hSw; go_simp <;> with_reducible rfl)
  try simp only [Act.put, List.setIfInBounds_toArray, List.set_cons_zero, List.set_cons_succ]
  refine wpAnyH_take (i := 3) (oi := { dst := some 8, op := _, type := _, pos := _, after := _, guard := _ }) (v := ?v4x4) rfl (by kernel_rfl) (by kernel_rfl) (by kernel_rfl) (fun _ _ _ h => h) (Or.inl ⟨by rfl, ?hy4x4⟩) hHeld ?rest4x4
  case hy4x4 => (intro w hSw; go_simp <;> with_reducible rfl)
  try simp only [Act.put, List.setIfInBounds_toArray, List.set_cons_zero, List.set_cons_succ]
  refine wpAnyH_take (i := 4) (oi := { dst := some 9, op := _, type := _, pos := _, after := _, guard := _ }) (v := ?v4x5) rfl (by kernel_rfl) (by kernel_rfl) (by kernel_rfl) (fun _ _ _ h => h) (Or.inl ⟨by rfl, ?hy4x5⟩) hHeld ?rest4x5
  case hy4x5 => (intro w hSw; go_simp <;> with_reducible rfl)
  try simp only [Act.put, List.setIfInBounds_toArray, List.set_cons_zero, List.set_cons_succ]
  refine wpAnyH_ready (rs := [5, 7]) (by kernel_rfl) (by simp) (AllReadyH.cons (o := { dst := some 10, op := _, type := _, pos := _, after := _, guard := _ }) rfl (fun K hK => ?way4x6x5) (AllReadyH.cons (o := { dst := some 3, op := _, type := _, pos := _, after := _, guard := _ }) rfl (fun K hK => ?way4x6x7) AllReadyH.nil))
  case' way4x6x5 =>
    go_simp
    refine (HW1.out _ (R0.out.keep hHeld)).mono ?_
    rintro e w1 ⟨rfl, nq, rfl⟩
    go_wp2_with fail
    refine hK.out _ _ ?_ (fun hHeld => ?_)
    · exact below_same hHeld rfl rfl rfl rfl
    clear hK K
    try simp only [Act.put, List.setIfInBounds_toArray, List.set_cons_zero, List.set_cons_succ]
    refine wpAnyH_take (i := 6) (oi := { dst := some 11, op := _, type := _, pos := _, after := _, guard := _ }) (v := ?v4x7) rfl (by kernel_rfl) (by kernel_rfl) (by kernel_rfl) (fun _ _ _ h => h) (Or.inl ⟨by rfl, ?hy4x7⟩) hHeld ?rest4x7
    case hy4x7 => (intro w hSw; go_simp <;> with_reducible rfl)
    try simp only [Act.put, List.setIfInBounds_toArray, List.set_cons_zero, List.set_cons_succ]
    refine wpAnyH_ready (rs := [7]) (by kernel_rfl) (by simp) (AllReadyH.cons (o := { dst := some 3, op := _, type := _, pos := _, after := _, guard := _ }) rfl (fun K hK => ?_) AllReadyH.nil)
    go_simp
    go_wp2_with fail
    refine hK.out _ _ ?_ (fun hHeld => ?_)
    · exact hHeld.alloc hHeld.size _
    clear hK K
    try simp only [Act.put, List.setIfInBounds_toArray, List.set_cons_zero, List.set_cons_succ]
    refine wpAnyH_ready (rs := [8]) (by kernel_rfl) (by simp) (AllReadyH.cons (o := { dst := none, op := _, type := _, pos := _, after := _, guard := _ }) rfl (fun K hK => ?_) AllReadyH.nil)
    rw [if_pos (by rfl)]
    refine op_storeB 24 (.tmp 3) (.tmp 11) rfl W.heap.size 24 [.int .i64 0, .int .i64 0, .int .i64 0, .slice none 0 0, .int .i64 0, .int .i64 0, .int .i64 0] [.int .i64 23, .int .i64 a1, .int .i64 0, .slice none 0 0, .int .i64 0, .int .i64 0, .int .i64 0] rfl rfl (by first | exact Blk.new (W.drewN _) _ _ | exact Blk.new W _ _) rfl (by kernel_rfl) (by intro v hv; simp at hv; rcases hv with rfl | rfl | rfl | rfl | rfl | rfl | rfl <;> rfl) ?_
    intro V kV bV
    have sV := bV _ _ (Nat.le_refl _) hHeld
    refine hK.out _ _ ?_ (fun hHeld => ?_)
    · exact sV
    clear hK K
    try simp only [Act.put, List.setIfInBounds_toArray, List.set_cons_zero, List.set_cons_succ]
    refine wpAnyH_done (by kernel_rfl) ?_ _
  case' way4x6x7 =>
    go_simp
    go_wp2_with fail
    refine hK.out _ _ ?_ (fun hHeld => ?_)
    · exact hHeld.alloc hHeld.size _
    clear hK K
    try simp only [Act.put, List.setIfInBounds_toArray, List.set_cons_zero, List.set_cons_succ]
    refine wpAnyH_ready (rs := [5]) (by kernel_rfl) (by simp) (AllReadyH.cons (o := { dst := some 10, op := _, type := _, pos := _, after := _, guard := _ }) rfl (fun K hK => ?_) AllReadyH.nil)
    go_simp
    refine (HW1.out _ (R0.out.keep hHeld)).mono ?_
    rintro e w1 ⟨rfl, nq, rfl⟩
    go_wp2_with fail
    refine hK.out _ _ ?_ (fun hHeld => ?_)
    · exact below_same hHeld rfl rfl rfl rfl
    clear hK K
    try simp only [Act.put, List.setIfInBounds_toArray, List.set_cons_zero, List.set_cons_succ]
    refine wpAnyH_take (i := 6) (oi := { dst := some 11, op := _, type := _, pos := _, after := _, guard := _ }) (v := ?v4x11) rfl (by kernel_rfl) (by kernel_rfl) (by kernel_rfl) (fun _ _ _ h => h) (Or.inl ⟨by rfl, ?hy4x11⟩) hHeld ?rest4x11
    case hy4x11 => (intro w hSw; go_simp <;> with_reducible rfl)
    try simp only [Act.put, List.setIfInBounds_toArray, List.set_cons_zero, List.set_cons_succ]
    refine wpAnyH_ready (rs := [8]) (by kernel_rfl) (by simp) (AllReadyH.cons (o := { dst := none, op := _, type := _, pos := _, after := _, guard := _ }) rfl (fun K hK => ?_) AllReadyH.nil)
    rw [if_pos (by rfl)]
    refine op_storeB 24 (.tmp 3) (.tmp 11) rfl W.heap.size 24 [.int .i64 0, .int .i64 0, .int .i64 0, .slice none 0 0, .int .i64 0, .int .i64 0, .int .i64 0] [.int .i64 23, .int .i64 a1, .int .i64 0, .slice none 0 0, .int .i64 0, .int .i64 0, .int .i64 0] rfl rfl (by first | exact Blk.new (W.drewN _) _ _ | exact Blk.new W _ _) rfl (by kernel_rfl) (by intro v hv; simp at hv; rcases hv with rfl | rfl | rfl | rfl | rfl | rfl | rfl <;> rfl) ?_
    intro V kV bV
    have sV := bV _ _ (Nat.le_refl _) hHeld
    refine hK.out _ _ ?_ (fun hHeld => ?_)
    · exact sV
    clear hK K
    try simp only [Act.put, List.setIfInBounds_toArray, List.set_cons_zero, List.set_cons_succ]
    refine wpAnyH_done (by kernel_rfl) ?_ _
  all_goals
    have RV := hide (R0.out.keep sV)
    have KV := hide kV
    have SV := hide sV
    have KW := hide (HB0.out.keep sV)
    have hne : w.heap.size < W.heap.size := HB0.out.lt
    have hltV : W.heap.size < V.heap.size := KV.out.lt
    have hltW : w.heap.size < V.heap.size := KW.out.lt
    clear R0 kV sV HB0 cx hHeld bV
    go_wp2_with fail
    refine (HW3.out _ RV.out).mono ?_
    rintro e w1 ⟨rfl, n2, rfl⟩
    have kV2 : Blk (V.drewN n2) W.heap.size 24 _ := KV.out
    have kW2 : Blk (V.drewN n2) w.heap.size 24 _ := KW.out
    have sV2 : Below W.heap.size W (V.drewN n2) := below_drewN SV.out n2
    have rV2 : Rd (V.drewN n2) (some ⟨b, o, none⟩) l (bv xs) := RV.out
    generalize V.drewN n2 = U at *
    clear KV KW RV SV hltV hltW
    clear V
    have RU := hide rV2
    have SU := hide sV2
    have hne1 : W.heap.size ≠ w.heap.size := by omega
    have hne2 : w.heap.size ≠ W.heap.size := by omega
    have hltV : W.heap.size < U.heap.size := kV2.lt
    have hltW : w.heap.size < U.heap.size := kW2.lt
    obtain ⟨k0, k1, k2, k3, k4, k5, k6⟩ := kV2.seven
    obtain ⟨j0, j1, j2, j3, j4, j5, j6⟩ := kW2.seven
    have kf := kV2.frozen
    have jf := kW2.frozen
    have KU := hide kV2
    have KW := hide kW2
    clear rV2 sV2 kV2 kW2
    go_wp2_with fail
    refine (HW5.out _ RU.out).mono ?_
    rintro e w1 ⟨rfl, n5, rfl⟩
    go_wp2_with fail
    have bX : Below w.heap.size w (((U.drewN n5).setCell ⟨W.heap.size, 2, none⟩ (.int .i64 a3)).setCell ⟨W.heap.size, 4, none⟩ (.int .i64 a5)) := ((below_drewN (below_on HBel.out SU.out) n5).setCell (Nat.le_of_lt hne) _).setCell (Nat.le_of_lt hne) _
    have kX : Blk (((U.drewN n5).setCell ⟨W.heap.size, 2, none⟩ (.int .i64 a3)).setCell ⟨W.heap.size, 4, none⟩ (.int .i64 a5)) W.heap.size 24 [.int .i64 23, .int .i64 a1, .int .i64 a3, .slice none 0 0, .int .i64 a5, .int .i64 0, .int .i64 0] := (Blk.set (w := U.drewN n5) KU.out 2 _).set 4 _
    have jX : Blk (((U.drewN n5).setCell ⟨W.heap.size, 2, none⟩ (.int .i64 a3)).setCell ⟨W.heap.size, 4, none⟩ (.int .i64 a5)) w.heap.size 24 _ := (Blk.oth (w := U.drewN n5) KW.out hne1 2 _).oth hne1 4 _
    refine (HU6.out _ (H0.out.keep bX)).mono ?_
    rintro e U2 ⟨C, kC, rfl, lC, rC, b2, nC⟩
    generalize ((U.drewN n5).setCell ⟨W.heap.size, 2, none⟩ (.int .i64 a3)).setCell ⟨W.heap.size, 4, none⟩ (.int .i64 a5) = X at *
    clear k0 k1 k2 k3 k4 k5 k6 j0 j1 j2 j3 j4 j5 j6 kf jf
    have hX1 := kX.lt
    have hX2 := jX.lt
    have kV2 := kX.keep b2
    have kW2 := jX.keep b2
    have SU2 := hide (below_on bX b2)
    obtain ⟨k0, k1, k2, k3, k4, k5, k6⟩ := kV2.seven
    obtain ⟨j0, j1, j2, j3, j4, j5, j6⟩ := kW2.seven
    have kf := kV2.frozen
    have jf := kW2.frozen
    have hC1 : ∀ b o, C = some ⟨b, o, none⟩ → b ≠ W.heap.size := fun b o e => by have := nC b o e; omega
    have hC2 : ∀ b o, C = some ⟨b, o, none⟩ → b ≠ w.heap.size := fun b o e => by have := nC b o e; omega
    have hC3 : ∀ b o, C = some ⟨b, o, none⟩ → w.heap.size ≤ b := fun b o e => by have := nC b o e; omega
    have HC3 := hide hC3
    have HC1 := hide hC1
    have HC2 := hide hC2
    have KW2 := hide kW2
    have RC := hide rC
    clear kV2 kW2 hC1 hC2 hC3 nC rC b2 bX kX jX hX1 hX2
    go_wp2_with fail
    (try simp only [Exit.inBlock, Exit.then])
    refine bodyPost_ret (results_cell rfl rfl ((KW2.out.oth hne1 3 _).set7 _ _ _ _ _ _ _) Try.underlying24 rfl (by kernel_rfl)) rfl ?_
    exact ⟨C, _, kC, rfl, lC, (RC.out.set1 HC1.out 3 _).set7 HC2.out _ _ _ _ _ _ _, below_set7 (SU2.out.setCell (Nat.le_of_lt hne) _) (Nat.le_refl _) _ _ _ _ _ _ _, HC3.out⟩

theorem guess_else (f : Int) (b o l c : Nat) (xs : List UInt8) (w : World) (h : Rd w (some ⟨b, o, none⟩) l (bv xs)) (cx0 : w.cell? ⟨b, o, none⟩ = some (.int .u8 f)) (hc : l ≤ c) (hl0 : 0 < l) (hl : l ≤ 253)
    (qw : IntKind.i64.wrap f = f) (f5 : (f == 5) = false) (f6 : (f == 6) = false) (f22 : (f == 22) = false) (f15 : (f == 15) = false) (f16 : (f == 16) = false) (f23 : (f == 23) = false) :
    Calls Try.prog 34 #[.slice (some ⟨b, o, none⟩) l c] w (RetRq ⟨f, wAt xs 1, wAt xs 3, [], 0, 0, 0⟩ w) := by
  have hbl : b < w.heap.size := block_lt_of_cell cx0
  have q0 : (0 : Int) < (l : Int) := by omega
  have HW1 := hide (fun W (hr : Rd W (some ⟨b, o, none⟩) l (bv xs)) => wordAt_any (some ⟨b, o, none⟩) l c 1 1 rfl xs W hr (by omega) (by omega))
  have HW3 := hide (fun W (hr : Rd W (some ⟨b, o, none⟩) l (bv xs)) => wordAt_any (some ⟨b, o, none⟩) l c 3 3 rfl xs W hr (by omega) (by omega))
  have CX0 := hide cx0
  clear cx0
  have qd := quo_word (wAt xs 3) (wAt_bounds xs 3)
  generalize wAt xs 1 = a1 at *
  generalize wAt xs 3 = a3 at *
  go_enter Try.func34, Try.ntmps34
  go_wp2_with fail
  generalize hW : w.alloc _ = W
  have hBel : Below w.heap.size w W := by subst hW; exact (Below.refl _ _).alloc (Nat.le_refl _) _
  have hB0 : Blk W w.heap.size 24 [.int .i64 0, .int .i64 0, .int .i64 0, .slice none 0 0, .int .i64 0, .int .i64 0, .int .i64 0] := by subst hW; exact Blk.new _ _ _
  have cx : ∀ w', Below W.heap.size W w' → w'.cell? ⟨b, o, none⟩ = some (.int .u8 f) := fun w' hb => ((below_on hBel hb).cell (p := ⟨b, o, none⟩) hbl).trans CX0.out
  have R0 := hide (h.keep hBel)
  have HB0 := hide hB0
  have HBel := hide hBel
  have H0 := hide h
  clear hW hB0 hBel h
  refine wp_region_held_drew (S := fun w' => Below W.heap.size W w') (by kernel_rfl) ?_ (fun hHeld => ?_)
  · exact (Below.refl _ _).drew
  refine wpAnyH_take (i := 0) (oi := { dst := some 5, op := _, type := _, pos := _, after := _, guard := _ }) (v := ?v5x1) rfl (by kernel_rfl) (by kernel_rfl) (by kernel_rfl) (fun _ _ _ h => h) (Or.inl ⟨by rfl, ?hy5x1⟩) hHeld ?rest5x1
  case hy5x1 => (intro w hSw; go_simp <;> with_reducible rfl)
  try simp only [Act.put, List.setIfInBounds_toArray, List.set_cons_zero, List.set_cons_succ]
  refine wpAnyH_take (i := 1) (oi := { dst := some 6, op := _, type := _, pos := _, after := _, guard := _ }) (v := ?v5x2) rfl (by kernel_rfl) (by kernel_rfl) (by kernel_rfl) (fun _ _ _ h => h) (Or.inl ⟨by rfl, ?hy5x2⟩) hHeld ?rest5x2
  case hy5x2 => (intro w hSw; go_simp <;> with_reducible rfl)
  try simp only [Act.put, List.setIfInBounds_toArray, List.set_cons_zero, List.set_cons_succ]
  refine wpAnyH_take (i := 2) (oi := { dst := some 7, op := _, type := _, pos := _, after := _, guard := _ }) (v := ?v5x3) rfl (by kernel_rfl) (by kernel_rfl) (by kernel_rfl) (fun _ _ _ h => h) (Or.inl ⟨by rfl, ?hy5x3⟩) hHeld ?rest5x3
  case hy5x3 => (intro w hSw; go_simp <;> with_reducible rfl)
  try simp only [Act.put, List.setIfInBounds_toArray, List.set_cons_zero, List.set_cons_succ]
  refine wpAnyH_take (i := 3) (oi := { dst := some 8, op := _, type := _, pos := _, after := _, guard := _ }) (v := ?v5x4) rfl (by kernel_rfl) (by kernel_rfl) (by kernel_rfl) (fun _ _ _ h => h) (Or.inl ⟨by rfl, ?hy5x4⟩) hHeld ?rest5x4
  case hy5x4 => (intro w hSw; go_simp <;> with_reducible rfl)
  try simp only [Act.put, List.setIfInBounds_toArray, List.set_cons_zero, List.set_cons_succ]
  refine wpAnyH_take (i := 4) (oi := { dst := some 9, op := _, type := _, pos := _, after := _, guard := _ }) (v := ?v5x5) rfl (by kernel_rfl) (by kernel_rfl) (by kernel_rfl) (fun _ _ _ h => h) (Or.inl ⟨by rfl, ?hy5x5⟩) hHeld ?rest5x5
  case hy5x5 => (intro w hSw; go_simp <;> with_reducible rfl)
  try simp only [Act.put, List.setIfInBounds_toArray, List.set_cons_zero, List.set_cons_succ]
  refine wpAnyH_ready (rs := [5, 7]) (by kernel_rfl) (by simp) (AllReadyH.cons (o := { dst := some 10, op := _, type := _, pos := _, after := _, guard := _ }) rfl (fun K hK => ?way5x6x5) (AllReadyH.cons (o := { dst := some 3, op := _, type := _, pos := _, after := _, guard := _ }) rfl (fun K hK => ?way5x6x7) AllReadyH.nil))
  case' way5x6x5 =>
    go_simp
    refine (HW1.out _ (R0.out.keep hHeld)).mono ?_
    rintro e w1 ⟨rfl, nq, rfl⟩
    go_wp2_with fail
    refine hK.out _ _ ?_ (fun hHeld => ?_)
    · exact below_same hHeld rfl rfl rfl rfl
    clear hK K
    try simp only [Act.put, List.setIfInBounds_toArray, List.set_cons_zero, List.set_cons_succ]
    refine wpAnyH_take (i := 6) (oi := { dst := some 11, op := _, type := _, pos := _, after := _, guard := _ }) (v := ?v5x7) rfl (by kernel_rfl) (by kernel_rfl) (by kernel_rfl) (fun _ _ _ h => h) (Or.inl ⟨by rfl, ?hy5x7⟩) hHeld ?rest5x7
    case hy5x7 => (intro w hSw; go_simp <;> with_reducible rfl)
    try simp only [Act.put, List.setIfInBounds_toArray, List.set_cons_zero, List.set_cons_succ]
    refine wpAnyH_ready (rs := [7]) (by kernel_rfl) (by simp) (AllReadyH.cons (o := { dst := some 3, op := _, type := _, pos := _, after := _, guard := _ }) rfl (fun K hK => ?_) AllReadyH.nil)
    go_simp
    go_wp2_with fail
    refine hK.out _ _ ?_ (fun hHeld => ?_)
    · exact hHeld.alloc hHeld.size _
    clear hK K
    try simp only [Act.put, List.setIfInBounds_toArray, List.set_cons_zero, List.set_cons_succ]
    refine wpAnyH_ready (rs := [8]) (by kernel_rfl) (by simp) (AllReadyH.cons (o := { dst := none, op := _, type := _, pos := _, after := _, guard := _ }) rfl (fun K hK => ?_) AllReadyH.nil)
    rw [if_pos (by rfl)]
    refine op_storeB 24 (.tmp 3) (.tmp 11) rfl W.heap.size 24 [.int .i64 0, .int .i64 0, .int .i64 0, .slice none 0 0, .int .i64 0, .int .i64 0, .int .i64 0] [.int .i64 f, .int .i64 a1, .int .i64 0, .slice none 0 0, .int .i64 0, .int .i64 0, .int .i64 0] rfl rfl (by first | exact Blk.new (W.drewN _) _ _ | exact Blk.new W _ _) rfl (by kernel_rfl) (by intro v hv; simp at hv; rcases hv with rfl | rfl | rfl | rfl | rfl | rfl | rfl <;> rfl) ?_
    intro V kV bV
    have sV := bV _ _ (Nat.le_refl _) hHeld
    refine hK.out _ _ ?_ (fun hHeld => ?_)
    · exact sV
    clear hK K
    try simp only [Act.put, List.setIfInBounds_toArray, List.set_cons_zero, List.set_cons_succ]
    refine wpAnyH_done (by kernel_rfl) ?_ _
  case' way5x6x7 =>
    go_simp
    go_wp2_with fail
    refine hK.out _ _ ?_ (fun hHeld => ?_)
    · exact hHeld.alloc hHeld.size _
    clear hK K
    try simp only [Act.put, List.setIfInBounds_toArray, List.set_cons_zero, List.set_cons_succ]
    refine wpAnyH_ready (rs := [5]) (by kernel_rfl) (by simp) (AllReadyH.cons (o := { dst := some 10, op := _, type := _, pos := _, after := _, guard := _ }) rfl (fun K hK => ?_) AllReadyH.nil)
    go_simp
    refine (HW1.out _ (R0.out.keep hHeld)).mono ?_
    rintro e w1 ⟨rfl, nq, rfl⟩
    go_wp2_with fail
    refine hK.out _ _ ?_ (fun hHeld => ?_)
    · exact below_same hHeld rfl rfl rfl rfl
    clear hK K
    try simp only [Act.put, List.setIfInBounds_toArray, List.set_cons_zero, List.set_cons_succ]
    refine wpAnyH_take (i := 6) (oi := { dst := some 11, op := _, type := _, pos := _, after := _, guard := _ }) (v := ?v5x11) rfl (by kernel_rfl) (by kernel_rfl) (by kernel_rfl) (fun _ _ _ h => h) (Or.inl ⟨by rfl, ?hy5x11⟩) hHeld ?rest5x11
    case hy5x11 => (intro w hSw; go_simp <;> with_reducible rfl)
    try simp only [Act.put, List.setIfInBounds_toArray, List.set_cons_zero, List.set_cons_succ]
    refine wpAnyH_ready (rs := [8]) (by kernel_rfl) (by simp) (AllReadyH.cons (o := { dst := none, op := _, type := _, pos := _, after := _, guard := _ }) rfl (fun K hK => ?_) AllReadyH.nil)
    rw [if_pos (by rfl)]
    refine op_storeB 24 (.tmp 3) (.tmp 11) rfl W.heap.size 24 [.int .i64 0, .int .i64 0, .int .i64 0, .slice none 0 0, .int .i64 0, .int .i64 0, .int .i64 0] [.int .i64 f, .int .i64 a1, .int .i64 0, .slice none 0 0, .int .i64 0, .int .i64 0, .int .i64 0] rfl rfl (by first | exact Blk.new (W.drewN _) _ _ | exact Blk.new W _ _) rfl (by kernel_rfl) (by intro v hv; simp at hv; rcases hv with rfl | rfl | rfl | rfl | rfl | rfl | rfl <;> rfl) ?_
    intro V kV bV
    have sV := bV _ _ (Nat.le_refl _) hHeld
    refine hK.out _ _ ?_ (fun hHeld => ?_)
    · exact sV
    clear hK K
    try simp only [Act.put, List.setIfInBounds_toArray, List.set_cons_zero, List.set_cons_succ]
    refine wpAnyH_done (by kernel_rfl) ?_ _
  all_goals
    have RV := hide (R0.out.keep sV)
    have KV := hide kV
    have SV := hide sV
    have KW := hide (HB0.out.keep sV)
    have hne : w.heap.size < W.heap.size := HB0.out.lt
    have hltV : W.heap.size < V.heap.size := KV.out.lt
    have hltW : w.heap.size < V.heap.size := KW.out.lt
    clear R0 kV sV HB0 cx hHeld bV
    go_wp2_with fail
    refine (HW3.out _ RV.out).mono ?_
    rintro e w1 ⟨rfl, n2, rfl⟩
    have kV2 : Blk (V.drewN n2) W.heap.size 24 _ := KV.out
    have kW2 : Blk (V.drewN n2) w.heap.size 24 _ := KW.out
    have sV2 : Below W.heap.size W (V.drewN n2) := below_drewN SV.out n2
    have rV2 : Rd (V.drewN n2) (some ⟨b, o, none⟩) l (bv xs) := RV.out
    generalize V.drewN n2 = U at *
    clear KV KW RV SV hltV hltW
    clear V
    have RU := hide rV2
    have SU := hide sV2
    have hne1 : W.heap.size ≠ w.heap.size := by omega
    have hne2 : w.heap.size ≠ W.heap.size := by omega
    have hltV : W.heap.size < U.heap.size := kV2.lt
    have hltW : w.heap.size < U.heap.size := kW2.lt
    obtain ⟨k0, k1, k2, k3, k4, k5, k6⟩ := kV2.seven
    obtain ⟨j0, j1, j2, j3, j4, j5, j6⟩ := kW2.seven
    have kf := kV2.frozen
    have jf := kW2.frozen
    have KU := hide kV2
    have KW := hide kW2
    clear rV2 sV2 kV2 kW2
    go_wp2_with fail
    (try simp only [Exit.inBlock, Exit.then])
    refine bodyPost_ret (results_cell rfl rfl ((KW.out.oth hne1 2 _).set7 _ _ _ _ _ _ _) Try.underlying24 rfl (by kernel_rfl)) rfl ?_
    exact ⟨_, 0, 0, rfl, Nat.le_refl _, Rd.nil _ _, below_set7 ((below_on HBel.out SU.out).setCell (Nat.le_of_lt hne) _) (Nat.le_refl _) _ _ _ _ _ _ _, fun b o e => by cases e⟩

/-- guess: what the bytes seem to be. -/
theorem guess_any (A : Option Addr) (l c : Nat) (xs : List UInt8) (w : World) (h : Rd w A l (bv xs)) (hc : l ≤ c) (hl0 : 0 < l) (hl : l ≤ 253) : Calls Try.prog 34 #[.slice A l c] w (RetRq (gs xs) w) := by
  have hxl : xs.length = l := by rw [← bv_length]; exact h.1
  obtain ⟨b, o, rfl, hbl, hcc⟩ := h.at_ (k := 0) (by omega)
  have cx0 := hcc 0 _ (bv_get xs 0 (by omega))
  rw [Nat.add_zero] at cx0
  have hx : xs[0]?.getD 0 = xs[0] := by rw [List.getElem?_eq_getElem (by omega)]; rfl
  have hlt := xs[0].toNat_lt
  unfold gs
  rw [hx]
  have qw : IntKind.i64.wrap (xs[0].toNat : Int) = (xs[0].toNat : Int) := wrap_nat _ (by omega)
  generalize ((xs[0].toNat : Nat) : Int) = f at *
  by_cases f5 : f = 5
  · subst f5
    exact guess_5 b o l c xs w h cx0 hc hl0 hl
  rw [if_neg f5]
  by_cases f6 : f = 6
  · subst f6
    exact guess_6 b o l c xs w h cx0 hc hl0 hl
  rw [if_neg f6]
  by_cases f22 : f = 22
  · subst f22
    exact guess_22 b o l c xs w h cx0 hc hl0 hl
  rw [if_neg f22]
  by_cases f15 : f = 15
  · subst f15
    exact guess_15 b o l c xs w h cx0 hc hl0 hl
  rw [if_neg f15]
  by_cases f16 : f = 16
  · subst f16
    exact guess_16 b o l c xs w h cx0 hc hl0 hl
  rw [if_neg f16]
  by_cases f23 : f = 23
  · subst f23
    exact guess_23 b o l c xs w h cx0 hc hl0 hl
  rw [if_neg f23]
  exact guess_else f b o l c xs w h cx0 hc hl0 hl qw (ne_beq f5) (ne_beq f6) (ne_beq f22) (ne_beq f15) (ne_beq f16) (ne_beq f23)

end Go.Proofs.Ytemlfhoejelgbaa
