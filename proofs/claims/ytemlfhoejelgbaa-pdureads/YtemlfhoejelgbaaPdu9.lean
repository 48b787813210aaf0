/-
  What is proved here: what pdu's guess returns.
-/
import Derived.Test.YtemlfhoejelgbaaPdu8
import Derived.Test.YtemlfhoejelgbaaStructs
namespace Go.Proofs.Ytemlfhoejelgbaa
set_option linter.unusedVariables false
set_option linter.unusedSimpArgs false
open Go.RowKit

/-- A request is handed back. -/
def RetRq (r : Rq) (w : World) (e : Ending) (w' : World) : Prop := ∃ C m k, e = .returned (.agg #[.int .i64 r.f, .int .i64 r.a, .int .i64 r.c, .slice C m k, .int .i64 r.t, .int .i64 r.an, .int .i64 r.o]) ∧ m ≤ k ∧ Rd w' C m (iv r.vs) ∧ Below w.heap.size w w' ∧ ∀ b o, C = some ⟨b, o, none⟩ → w.heap.size ≤ b

theorem wAt_bounds (xs : List UInt8) (i : Nat) : 0 ≤ wAt xs i ∧ wAt xs i ≤ 65535 := by
  unfold wAt
  split
  · have h1 := (xs[i]?.getD 0).toNat_lt
    have h2 := (xs[i + 1]?.getD 0).toNat_lt
    omega
  · omega
theorem quo_word (z : Int) (h : 0 ≤ z ∧ z ≤ 65535) : wrap64 (z.tdiv 65280) = z / 65280 := by
  have e : z.tdiv 65280 = z / 65280 := Int.tdiv_eq_ediv_of_nonneg h.1
  rw [e]
  have h1 : z / 65280 ≤ 1 := by omega
  have h2 : 0 ≤ z / 65280 := by omega
  unfold wrap64
  omega

theorem guess_5 (b o l c : Nat) (xs : List UInt8) (w : World) (h : Rd w (some ⟨b, o, none⟩) l (bv xs)) (cx0 : w.cell? ⟨b, o, none⟩ = some (.int .u8 5)) (hc : l ≤ c) (hl0 : 0 < l) (hl : l ≤ 253) :
    Calls Try.prog 34 #[.slice (some ⟨b, o, none⟩) l c] w (RetRq ⟨5, wAt xs 1, 0, [wAt xs 3 / 65280], 0, 0, 0⟩ w) := by
  have hbl : b < w.heap.size := block_lt_of_cell cx0
  have q0 : (0 : Int) < (l : Int) := by omega
  have HW1 := hide (fun W (hr : Rd W (some ⟨b, o, none⟩) l (bv xs)) => wordAt_any (some ⟨b, o, none⟩) l c 1 1 rfl xs W hr (by omega) (by omega))
  have HW3 := hide (fun W (hr : Rd W (some ⟨b, o, none⟩) l (bv xs)) => wordAt_any (some ⟨b, o, none⟩) l c 3 3 rfl xs W hr (by omega) (by omega))
  have CX0 := hide cx0
  clear cx0
  have qd := quo_word (wAt xs 3) (wAt_bounds xs 3)
  generalize wAt xs 1 = a1 at *
  generalize wAt xs 3 = a3 at *
  have qw : IntKind.i64.wrap 5 = 5 := by decide
  go_enter Try.func34, Try.ntmps34
  go_wp2_with fail
  generalize hW : w.alloc _ = W
  have hBel : Below w.heap.size w W := by subst hW; exact (Below.refl _ _).alloc (Nat.le_refl _) _
  have hB0 : Blk W w.heap.size 24 [.int .i64 0, .int .i64 0, .int .i64 0, .slice none 0 0, .int .i64 0, .int .i64 0, .int .i64 0] := by subst hW; exact Blk.new _ _ _
  have cx : ∀ w', Below W.heap.size W w' → w'.cell? ⟨b, o, none⟩ = some (.int .u8 5) := fun w' hb => ((below_on hBel hb).cell (p := ⟨b, o, none⟩) hbl).trans CX0.out
  have R0 := hide (h.keep hBel)
  have HB0 := hide hB0
  have HBel := hide hBel
  have H0 := hide h
  clear hW hB0 hBel h
  refine wp_region_held_drew (S := fun w' => Below W.heap.size W w') (by kernel_rfl) ?_ (fun hHeld => ?_)
  · exact (Below.refl _ _).drew
  refine wpAnyH_take (i := 0) (oi := { dst := some 5, op := _, type := _, pos := _, after := _, guard := _ }) (v := ?v1x1) rfl (by kernel_rfl) (by kernel_rfl) (by kernel_rfl) (fun _ _ _ h => h) (Or.inl ⟨by rfl, ?hy1x1⟩) hHeld ?rest1x1
  case hy1x1 => (intro w hSw; go_simp <;> with_reducible rfl)
  try simp only [Act.put, List.setIfInBounds_toArray, List.set_cons_zero, List.set_cons_succ]
  refine wpAnyH_take (i := 1) (oi := { dst := some 6, op := _, type := _, pos := _, after := _, guard := _ }) (v := ?v1x2) rfl (by kernel_rfl) (by kernel_rfl) (by kernel_rfl) (fun _ _ _ h => h) (Or.inl ⟨by rfl, ?hy1x2⟩) hHeld ?rest1x2
  case hy1x2 => (intro w hSw; go_simp <;> with_reducible rfl)
  try simp only [Act.put, List.setIfInBounds_toArray, List.set_cons_zero, List.set_cons_succ]
  refine wpAnyH_take (i := 2) (oi := { dst := some 7, op := _, type := _, pos := _, after := _, guard := _ }) (v := ?v1x3) rfl (by kernel_rfl) (by kernel_rfl) (by kernel_rfl) (fun _ _ _ h => h) (Or.inl ⟨by rfl, ?hy1x3⟩) hHeld ?rest1x3
  case hy1x3 => (intro w hSw; go_simp <;> with_reducible rfl)
  try simp only [Act.put, List.setIfInBounds_toArray, List.set_cons_zero, List.set_cons_succ]
  refine wpAnyH_take (i := 3) (oi := { dst := some 8, op := _, type := _, pos := _, after := _, guard := _ }) (v := ?v1x4) rfl (by kernel_rfl) (by kernel_rfl) (by kernel_rfl) (fun _ _ _ h => h) (Or.inl ⟨by rfl, ?hy1x4⟩) hHeld ?rest1x4
  case hy1x4 => (intro w hSw; go_simp <;> with_reducible rfl)
  try simp only [Act.put, List.setIfInBounds_toArray, List.set_cons_zero, List.set_cons_succ]
  refine wpAnyH_take (i := 4) (oi := { dst := some 9, op := _, type := _, pos := _, after := _, guard := _ }) (v := ?v1x5) rfl (by kernel_rfl) (by kernel_rfl) (by kernel_rfl) (fun _ _ _ h => h) (Or.inl ⟨by rfl, ?hy1x5⟩) hHeld ?rest1x5
  case hy1x5 => (intro w hSw; go_simp <;> with_reducible rfl)
  try simp only [Act.put, List.setIfInBounds_toArray, List.set_cons_zero, List.set_cons_succ]
  refine wpAnyH_ready (rs := [5, 7]) (by kernel_rfl) (by simp) (AllReadyH.cons (o := { dst := some 10, op := _, type := _, pos := _, after := _, guard := _ }) rfl (fun K hK => ?way1x6x5) (AllReadyH.cons (o := { dst := some 3, op := _, type := _, pos := _, after := _, guard := _ }) rfl (fun K hK => ?way1x6x7) AllReadyH.nil))
  case' way1x6x5 =>
    go_simp
    refine (HW1.out _ (R0.out.keep hHeld)).mono ?_
    rintro e w1 ⟨rfl, nq, rfl⟩
    go_wp2_with fail
    refine hK.out _ _ ?_ (fun hHeld => ?_)
    · exact below_same hHeld rfl rfl rfl rfl
    clear hK K
    try simp only [Act.put, List.setIfInBounds_toArray, List.set_cons_zero, List.set_cons_succ]
    refine wpAnyH_take (i := 6) (oi := { dst := some 11, op := _, type := _, pos := _, after := _, guard := _ }) (v := ?v1x7) rfl (by kernel_rfl) (by kernel_rfl) (by kernel_rfl) (fun _ _ _ h => h) (Or.inl ⟨by rfl, ?hy1x7⟩) hHeld ?rest1x7
    case hy1x7 => (intro w hSw; go_simp <;> with_reducible rfl)
    try simp only [Act.put, List.setIfInBounds_toArray, List.set_cons_zero, List.set_cons_succ]
    refine wpAnyH_ready (rs := [7]) (by kernel_rfl) (by simp) (AllReadyH.cons (o := { dst := some 3, op := _, type := _, pos := _, after := _, guard := _ }) rfl (fun K hK => ?_) AllReadyH.nil)
    go_simp
    go_wp2_with fail
    refine hK.out _ _ ?_ (fun hHeld => ?_)
    · exact hHeld.alloc hHeld.size _
    clear hK K
    try simp only [Act.put, List.setIfInBounds_toArray, List.set_cons_zero, List.set_cons_succ]
    refine wpAnyH_ready (rs := [8]) (by kernel_rfl) (by simp) (AllReadyH.cons (o := { dst := none, op := _, type := _, pos := _, after := _, guard := _ }) rfl (fun K hK => ?_) AllReadyH.nil)
    rw [if_pos (by rfl)]
    refine op_storeB 24 (.tmp 3) (.tmp 11) rfl W.heap.size 24 [.int .i64 0, .int .i64 0, .int .i64 0, .slice none 0 0, .int .i64 0, .int .i64 0, .int .i64 0] [.int .i64 5, .int .i64 a1, .int .i64 0, .slice none 0 0, .int .i64 0, .int .i64 0, .int .i64 0] rfl rfl (by first | exact Blk.new (W.drewN _) _ _ | exact Blk.new W _ _) rfl (by kernel_rfl) (by intro v hv; simp at hv; rcases hv with rfl | rfl | rfl | rfl | rfl | rfl | rfl <;> rfl) ?_
    intro V kV bV
    have sV := bV _ _ (Nat.le_refl _) hHeld
    refine hK.out _ _ ?_ (fun hHeld => ?_)
    · exact sV
    clear hK K
    try simp only [Act.put, List.setIfInBounds_toArray, List.set_cons_zero, List.set_cons_succ]
    refine wpAnyH_done (by kernel_rfl) ?_ _
  case' way1x6x7 =>
    go_simp
    go_wp2_with fail
    refine hK.out _ _ ?_ (fun hHeld => ?_)
    · exact hHeld.alloc hHeld.size _
    clear hK K
    try simp only [Act.put, List.setIfInBounds_toArray, List.set_cons_zero, List.set_cons_succ]
    refine wpAnyH_ready (rs := [5]) (by kernel_rfl) (by simp) (AllReadyH.cons (o := { dst := some 10, op := _, type := _, pos := _, after := _, guard := _ }) rfl (fun K hK => ?_) AllReadyH.nil)
    go_simp
    refine (HW1.out _ (R0.out.keep hHeld)).mono ?_
    rintro e w1 ⟨rfl, nq, rfl⟩
    go_wp2_with fail
    refine hK.out _ _ ?_ (fun hHeld => ?_)
    · exact below_same hHeld rfl rfl rfl rfl
    clear hK K
    try simp only [Act.put, List.setIfInBounds_toArray, List.set_cons_zero, List.set_cons_succ]
    refine wpAnyH_take (i := 6) (oi := { dst := some 11, op := _, type := _, pos := _, after := _, guard := _ }) (v := ?v1x11) rfl (by kernel_rfl) (by kernel_rfl) (by kernel_rfl) (fun _ _ _ h => h) (Or.inl ⟨by rfl, ?hy1x11⟩) hHeld ?rest1x11
    case hy1x11 => (intro w hSw; go_simp <;> with_reducible rfl)
    try simp only [Act.put, List.setIfInBounds_toArray, List.set_cons_zero, List.set_cons_succ]
    refine wpAnyH_ready (rs := [8]) (by kernel_rfl) (by simp) (AllReadyH.cons (o := { dst := none, op := _, type := _, pos := _, after := _, guard := _ }) rfl (fun K hK => ?_) AllReadyH.nil)
    rw [if_pos (by rfl)]
    refine op_storeB 24 (.tmp 3) (.tmp 11) rfl W.heap.size 24 [.int .i64 0, .int .i64 0, .int .i64 0, .slice none 0 0, .int .i64 0, .int .i64 0, .int .i64 0] [.int .i64 5, .int .i64 a1, .int .i64 0, .slice none 0 0, .int .i64 0, .int .i64 0, .int .i64 0] rfl rfl (by first | exact Blk.new (W.drewN _) _ _ | exact Blk.new W _ _) rfl (by kernel_rfl) (by intro v hv; simp at hv; rcases hv with rfl | rfl | rfl | rfl | rfl | rfl | rfl <;> rfl) ?_
    intro V kV bV
    have sV := bV _ _ (Nat.le_refl _) hHeld
    refine hK.out _ _ ?_ (fun hHeld => ?_)
    · exact sV
    clear hK K
    try simp only [Act.put, List.setIfInBounds_toArray, List.set_cons_zero, List.set_cons_succ]
    refine wpAnyH_done (by kernel_rfl) ?_ _
  all_goals
    have RV := hide (R0.out.keep sV)
    have KV := hide kV
    have SV := hide sV
    have KW := hide (HB0.out.keep sV)
    have hne : w.heap.size < W.heap.size := HB0.out.lt
    have hltV : W.heap.size < V.heap.size := KV.out.lt
    have hltW : w.heap.size < V.heap.size := KW.out.lt
    clear R0 kV sV HB0 cx hHeld bV
    go_wp2_with fail
    refine (HW3.out _ RV.out).mono ?_
    rintro e w1 ⟨rfl, n2, rfl⟩
    have kV2 : Blk (V.drewN n2) W.heap.size 24 _ := KV.out
    have kW2 : Blk (V.drewN n2) w.heap.size 24 _ := KW.out
    have sV2 : Below W.heap.size W (V.drewN n2) := below_drewN SV.out n2
    have rV2 : Rd (V.drewN n2) (some ⟨b, o, none⟩) l (bv xs) := RV.out
    generalize V.drewN n2 = U at *
    clear KV KW RV SV hltV hltW
    clear V
    have RU := hide rV2
    have SU := hide sV2
    have hne1 : W.heap.size ≠ w.heap.size := by omega
    have hne2 : w.heap.size ≠ W.heap.size := by omega
    have hltV : W.heap.size < U.heap.size := kV2.lt
    have hltW : w.heap.size < U.heap.size := kW2.lt
    obtain ⟨k0, k1, k2, k3, k4, k5, k6⟩ := kV2.seven
    obtain ⟨j0, j1, j2, j3, j4, j5, j6⟩ := kW2.seven
    have kf := kV2.frozen
    have jf := kW2.frozen
    have KU := hide kV2
    have KW := hide kW2
    clear rV2 sV2 kV2 kW2
    go_wp2_with fail
    (try simp only [Exit.inBlock, Exit.then])
    refine bodyPost_ret (results_cell rfl rfl (((KW.out.oth hne1 3 _).set7 _ _ _ _ _ _ _).al _) Try.underlying24 rfl (by kernel_rfl)) rfl ?_
    exact ⟨_, 1, 1, rfl, Nat.le_refl _, rd_new _ _ (by simp) _ [_] 1 rfl, ((below_set7 ((below_on HBel.out SU.out).setCell (Nat.le_of_lt hne) _) (Nat.le_refl _) _ _ _ _ _ _ _).alloc (by simpa using Nat.le_of_lt hltW) _), fun b o e => by injection e with e; injection e with e; omega⟩

theorem guess_6 (b o l c : Nat) (xs : List UInt8) (w : World) (h : Rd w (some ⟨b, o, none⟩) l (bv xs)) (cx0 : w.cell? ⟨b, o, none⟩ = some (.int .u8 6)) (hc : l ≤ c) (hl0 : 0 < l) (hl : l ≤ 253) :
    Calls Try.prog 34 #[.slice (some ⟨b, o, none⟩) l c] w (RetRq ⟨6, wAt xs 1, 0, [wAt xs 3], 0, 0, 0⟩ w) := by
  have hbl : b < w.heap.size := block_lt_of_cell cx0
  have q0 : (0 : Int) < (l : Int) := by omega
  have HW1 := hide (fun W (hr : Rd W (some ⟨b, o, none⟩) l (bv xs)) => wordAt_any (some ⟨b, o, none⟩) l c 1 1 rfl xs W hr (by omega) (by omega))
  have HW3 := hide (fun W (hr : Rd W (some ⟨b, o, none⟩) l (bv xs)) => wordAt_any (some ⟨b, o, none⟩) l c 3 3 rfl xs W hr (by omega) (by omega))
  have CX0 := hide cx0
  clear cx0
  have qd := quo_word (wAt xs 3) (wAt_bounds xs 3)
  generalize wAt xs 1 = a1 at *
  generalize wAt xs 3 = a3 at *
  have qw : IntKind.i64.wrap 6 = 6 := by decide
  go_enter Try.func34, Try.ntmps34
  go_wp2_with fail
  generalize hW : w.alloc _ = W
  have hBel : Below w.heap.size w W := by subst hW; exact (Below.refl _ _).alloc (Nat.le_refl _) _
  have hB0 : Blk W w.heap.size 24 [.int .i64 0, .int .i64 0, .int .i64 0, .slice none 0 0, .int .i64 0, .int .i64 0, .int .i64 0] := by subst hW; exact Blk.new _ _ _
  have cx : ∀ w', Below W.heap.size W w' → w'.cell? ⟨b, o, none⟩ = some (.int .u8 6) := fun w' hb => ((below_on hBel hb).cell (p := ⟨b, o, none⟩) hbl).trans CX0.out
  have R0 := hide (h.keep hBel)
  have HB0 := hide hB0
  have HBel := hide hBel
  have H0 := hide h
  clear hW hB0 hBel h
  refine wp_region_held_drew (S := fun w' => Below W.heap.size W w') (by kernel_rfl) ?_ (fun hHeld => ?_)
  · exact (Below.refl _ _).drew
  refine wpAnyH_take (i := 0) (oi := { dst := some 5, op := _, type := _, pos := _, after := _, guard := _ }) (v := ?v2x1) rfl (by kernel_rfl) (by kernel_rfl) (by kernel_rfl) (fun _ _ _ h => h) (Or.inl ⟨by rfl, ?hy2x1⟩) hHeld ?rest2x1
  case hy2x1 => (intro w hSw; go_simp <;> with_reducible rfl)
  try simp only [Act.put, List.setIfInBounds_toArray, List.set_cons_zero, List.set_cons_succ]
  refine wpAnyH_take (i := 1) (oi := { dst := some 6, op := _, type := _, pos := _, after := _, guard := _ }) (v := ?v2x2) rfl (by kernel_rfl) (by kernel_rfl) (by kernel_rfl) (fun _ _ _ h => h) (Or.inl ⟨by rfl, ?hy2x2⟩) hHeld ?rest2x2
  case hy2x2 => (intro w hSw; go_simp <;> with_reducible rfl)
  try simp only [Act.put, List.setIfInBounds_toArray, List.set_cons_zero, List.set_cons_succ]
  refine wpAnyH_take (i := 2) (oi := { dst := some 7, op := _, type := _, pos := _, after := _, guard := _ }) (v := ?v2x3) rfl (by kernel_rfl) (by kernel_rfl) (by kernel_rfl) (fun _ _ _ h => h) (Or.inl ⟨by rfl, ?hy2x3⟩) hHeld ?rest2x3
  case hy2x3 => (intro w hSw; go_simp <;> with_reducible rfl)
  try simp only [Act.put, List.setIfInBounds_toArray, List.set_cons_zero, List.set_cons_succ]
  refine wpAnyH_take (i := 3) (oi := { dst := some 8, op := _, type := _, pos := _, after := _, guard := _ }) (v := ?v2x4) rfl (by kernel_rfl) (by kernel_rfl) (by kernel_rfl) (fun _ _ _ h => h) (Or.inl ⟨by rfl, ?hy2x4⟩) hHeld ?rest2x4
  case hy2x4 => (intro w hSw; go_simp <;> with_reducible rfl)
  try simp only [Act.put, List.setIfInBounds_toArray, List.set_cons_zero, List.set_cons_succ]
  refine wpAnyH_take (i := 4) (oi := { dst := some 9, op := _, type := _, pos := _, after := _, guard := _ }) (v := ?v2x5) rfl (by kernel_rfl) (by kernel_rfl) (by kernel_rfl) (fun _ _ _ h => h) (Or.inl ⟨by rfl, ?hy2x5⟩) hHeld ?rest2x5
  case hy2x5 => (intro w hSw; go_simp <;> with_reducible rfl)
  try simp only [Act.put, List.setIfInBounds_toArray, List.set_cons_zero, List.set_cons_succ]
  refine wpAnyH_ready (rs := [5, 7]) (by kernel_rfl) (by simp) (AllReadyH.cons (o := { dst := some 10, op := _, type := _, pos := _, after := _, guard := _ }) rfl (fun K hK => ?way2x6x5) (AllReadyH.cons (o := { dst := some 3, op := _, type := _, pos := _, after := _, guard := _ }) rfl (fun K hK => ?way2x6x7) AllReadyH.nil))
  case' way2x6x5 =>
    go_simp
    refine (HW1.out _ (R0.out.keep hHeld)).mono ?_
    rintro e w1 ⟨rfl, nq, rfl⟩
    go_wp2_with fail
    refine hK.out _ _ ?_ (fun hHeld => ?_)
    · exact below_same hHeld rfl rfl rfl rfl
    clear hK K
    try simp only [Act.put, List.setIfInBounds_toArray, List.set_cons_zero, List.set_cons_succ]
    refine wpAnyH_take (i := 6) (oi := { dst := some 11, op := _, type := _, pos := _, after := _, guard := _ }) (v := ?v2x7) rfl (by kernel_rfl) (by kernel_rfl) (by kernel_rfl) (fun _ _ _ h => h) (Or.inl ⟨by rfl, ?hy2x7⟩) hHeld ?rest2x7
    case hy2x7 => (intro w hSw; go_simp <;> with_reducible rfl)
    try simp only [Act.put, List.setIfInBounds_toArray, List.set_cons_zero, List.set_cons_succ]
    refine wpAnyH_ready (rs := [7]) (by kernel_rfl) (by simp) (AllReadyH.cons (o := { dst := some 3, op := _, type := _, pos := _, after := _, guard := _ }) rfl (fun K hK => ?_) AllReadyH.nil)
    go_simp
    go_wp2_with fail
    refine hK.out _ _ ?_ (fun hHeld => ?_)
    · exact hHeld.alloc hHeld.size _
    clear hK K
    try simp only [Act.put, List.setIfInBounds_toArray, List.set_cons_zero, List.set_cons_succ]
    refine wpAnyH_ready (rs := [8]) (by kernel_rfl) (by simp) (AllReadyH.cons (o := { dst := none, op := _, type := _, pos := _, after := _, guard := _ }) rfl (fun K hK => ?_) AllReadyH.nil)
    rw [if_pos (by rfl)]
    refine op_storeB 24 (.tmp 3) (.tmp 11) rfl W.heap.size 24 [.int .i64 0, .int .i64 0, .int .i64 0, .slice none 0 0, .int .i64 0, .int .i64 0, .int .i64 0] [.int .i64 6, .int .i64 a1, .int .i64 0, .slice none 0 0, .int .i64 0, .int .i64 0, .int .i64 0] rfl rfl (by first | exact Blk.new (W.drewN _) _ _ | exact Blk.new W _ _) rfl (by kernel_rfl) (by intro v hv; simp at hv; rcases hv with rfl | rfl | rfl | rfl | rfl | rfl | rfl <;> rfl) ?_
    intro V kV bV
    have sV := bV _ _ (Nat.le_refl _) hHeld
    refine hK.out _ _ ?_ (fun hHeld => ?_)
    · exact sV
    clear hK K
    try simp only [Act.put, List.setIfInBounds_toArray, List.set_cons_zero, List.set_cons_succ]
    refine wpAnyH_done (by kernel_rfl) ?_ _
  case' way2x6x7 =>
    go_simp
    go_wp2_with fail
    refine hK.out _ _ ?_ (fun hHeld => ?_)
    · exact hHeld.alloc hHeld.size _
    clear hK K
    try simp only [Act.put, List.setIfInBounds_toArray, List.set_cons_zero, List.set_cons_succ]
    refine wpAnyH_ready (rs := [5]) (by kernel_rfl) (by simp) (AllReadyH.cons (o := { dst := some 10, op := _, type := _, pos := _, after := _, guard := _ }) rfl (fun K hK => ?_) AllReadyH.nil)
    go_simp
    refine (HW1.out _ (R0.out.keep hHeld)).mono ?_
    rintro e w1 ⟨rfl, nq, rfl⟩
    go_wp2_with fail
    refine hK.out _ _ ?_ (fun hHeld => ?_)
    · exact below_same hHeld rfl rfl rfl rfl
    clear hK K
    try simp only [Act.put, List.setIfInBounds_toArray, List.set_cons_zero, List.set_cons_succ]
    refine wpAnyH_take (i := 6) (oi := { dst := some 11, op := _, type := _, pos := _, after := _, guard := _ }) (v := ?v2x11) rfl (by kernel_rfl) (by kernel_rfl) (by kernel_rfl) (fun _ _ _ h => h) (Or.inl ⟨by rfl, ?hy2x11⟩) hHeld ?rest2x11
    case hy2x11 => (intro w hSw; go_simp <;> with_reducible rfl)
    try simp only [Act.put, List.setIfInBounds_toArray, List.set_cons_zero, List.set_cons_succ]
    refine wpAnyH_ready (rs := [8]) (by kernel_rfl) (by simp) (AllReadyH.cons (o := { dst := none, op := _, type := _, pos := _, after := _, guard := _ }) rfl (fun K hK => ?_) AllReadyH.nil)
    rw [if_pos (by rfl)]
    refine op_storeB 24 (.tmp 3) (.tmp 11) rfl W.heap.size 24 [.int .i64 0, .int .i64 0, .int .i64 0, .slice none 0 0, .int .i64 0, .int .i64 0, .int .i64 0] [.int .i64 6, .int .i64 a1, .int .i64 0, .slice none 0 0, .int .i64 0, .int .i64 0, .int .i64 0] rfl rfl (by first | exact Blk.new (W.drewN _) _ _ | exact Blk.new W _ _) rfl (by kernel_rfl) (by intro v hv; simp at hv; rcases hv with rfl | rfl | rfl | rfl | rfl | rfl | rfl <;> rfl) ?_
    intro V kV bV
    have sV := bV _ _ (Nat.le_refl _) hHeld
    refine hK.out _ _ ?_ (fun hHeld => ?_)
    · exact sV
    clear hK K
    try simp only [Act.put, List.setIfInBounds_toArray, List.set_cons_zero, List.set_cons_succ]
    refine wpAnyH_done (by kernel_rfl) ?_ _
  all_goals
    have RV := hide (R0.out.keep sV)
    have KV := hide kV
    have SV := hide sV
    have KW := hide (HB0.out.keep sV)
    have hne : w.heap.size < W.heap.size := HB0.out.lt
    have hltV : W.heap.size < V.heap.size := KV.out.lt
    have hltW : w.heap.size < V.heap.size := KW.out.lt
    clear R0 kV sV HB0 cx hHeld bV
    go_wp2_with fail
    refine (HW3.out _ RV.out).mono ?_
    rintro e w1 ⟨rfl, n2, rfl⟩
    have kV2 : Blk (V.drewN n2) W.heap.size 24 _ := KV.out
    have kW2 : Blk (V.drewN n2) w.heap.size 24 _ := KW.out
    have sV2 : Below W.heap.size W (V.drewN n2) := below_drewN SV.out n2
    have rV2 : Rd (V.drewN n2) (some ⟨b, o, none⟩) l (bv xs) := RV.out
    generalize V.drewN n2 = U at *
    clear KV KW RV SV hltV hltW
    clear V
    have RU := hide rV2
    have SU := hide sV2
    have hne1 : W.heap.size ≠ w.heap.size := by omega
    have hne2 : w.heap.size ≠ W.heap.size := by omega
    have hltV : W.heap.size < U.heap.size := kV2.lt
    have hltW : w.heap.size < U.heap.size := kW2.lt
    obtain ⟨k0, k1, k2, k3, k4, k5, k6⟩ := kV2.seven
    obtain ⟨j0, j1, j2, j3, j4, j5, j6⟩ := kW2.seven
    have kf := kV2.frozen
    have jf := kW2.frozen
    have KU := hide kV2
    have KW := hide kW2
    clear rV2 sV2 kV2 kW2
    go_wp2_with fail
    (try simp only [Exit.inBlock, Exit.then])
    refine bodyPost_ret (results_cell rfl rfl (((KW.out.oth hne1 3 _).set7 _ _ _ _ _ _ _).al _) Try.underlying24 rfl (by kernel_rfl)) rfl ?_
    exact ⟨_, 1, 1, rfl, Nat.le_refl _, rd_new _ _ (by simp) _ [_] 1 rfl, ((below_set7 ((below_on HBel.out SU.out).setCell (Nat.le_of_lt hne) _) (Nat.le_refl _) _ _ _ _ _ _ _).alloc (by simpa using Nat.le_of_lt hltW) _), fun b o e => by injection e with e; injection e with e; omega⟩

end Go.Proofs.Ytemlfhoejelgbaa
