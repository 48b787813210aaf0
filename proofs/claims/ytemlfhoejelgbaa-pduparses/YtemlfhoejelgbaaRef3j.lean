/-
  What is proved here: what the document's own Parse returns, for the functions 5 and 6, and for none of the table.
-/
import Derived.Test.YtemlfhoejelgbaaRef3h
namespace Go.Proofs.Ytemlfhoejelgbaa
set_option linter.unusedVariables false
set_option linter.unusedSimpArgs false
open Go.RowKit
set_option maxRecDepth 100000 in
set_option maxHeartbeats 1000000 in
theorem refParse_5 (b o l c : Nat) (xs : List UInt8) (w : World) (h : Rd w (some ⟨b, o, none⟩) l (bv xs)) (cx0 : w.cell? ⟨b, o, none⟩ = some (.int .u8 5)) (hc : l ≤ c) (hl0 : 5 ≤ l) (hl6 : l ≤ 600) (hg : gs xs = ⟨5, wAt xs 1, 0, [wAt xs 3 / 65280], 0, 0, 0⟩) :
    Calls Try.prog 18 #[.slice (some ⟨b, o, none⟩) l c] w (RetRqB ((parseL xs).getD Rq.none) (parseL xs).isSome w) := by
  have hbl : b < w.heap.size := block_lt_of_cell cx0
  have q0 : (0 : Int) < (l : Int) := by omega
  have q0n : 0 < l := by omega
  have q5 : decide ((l : Int) < 5) = false := by simp; omega
  have hsl1 := fun W => run_slTail (P := Try.prog) 28 5 Try.underlying28 u8_size (some ⟨b, o, none⟩) l c 1 1 rfl (by omega) W
  have hsl3 := fun W => run_slTail (P := Try.prog) 28 5 Try.underlying28 u8_size (some ⟨b, o, none⟩) l c 3 3 rfl (by omega) W
  have HW1 := hide (fun W (hr : Rd W (some ⟨b, o, none⟩) l (bv xs)) => refNum (some ⟨b, o, none⟩) l c 1 xs W hr hc (by omega))
  have HW3 := hide (fun W (hr : Rd W (some ⟨b, o, none⟩) l (bv xs)) => refNum (some ⟨b, o, none⟩) l c 3 xs W hr hc (by omega))
  have CX0 := hide cx0
  clear cx0
  have qd := quo_word (wAt xs 3) (wAt_bounds xs 3)
  have HG := hide hg
  clear hg
  generalize wAt xs 1 = a1 at *
  generalize wAt xs 3 = a3 at *
  have qw : IntKind.i64.wrap 5 = 5 := by decide
  go_enter Try.func18, Try.ntmps18
  go_wp2_with fail
  generalize hW : w.alloc _ = W
  have hBel : Below w.heap.size w W := by subst hW; exact (Below.refl _ _).alloc (Nat.le_refl _) _
  have hB0 : Blk W w.heap.size 24 [.int .i64 0, .int .i64 0, .int .i64 0, .slice none 0 0, .int .i64 0, .int .i64 0, .int .i64 0] := by subst hW; exact Blk.new _ _ _
  have cx : ∀ w', Below W.heap.size W w' → w'.cell? ⟨b, o, none⟩ = some (.int .u8 5) := fun w' hb => ((below_on hBel hb).cell (p := ⟨b, o, none⟩) hbl).trans CX0.out
  have R0 := hide (h.keep hBel)
  have HB0 := hide hB0
  have HBel := hide hBel
  have H0 := hide h
  clear hW hB0 hBel h
  refine wp_region_held_drew (S := fun w' => Below W.heap.size W w') (by kernel_rfl) ?_ (fun hHeld => ?_)
  · exact (Below.refl _ _).drew
  refine wpAnyH_take (i := 0) (oi := { dst := some 10, op := _, type := _, pos := _, after := _, guard := _ }) (v := ?v1x1) rfl (by kernel_rfl) (by kernel_rfl) (by kernel_rfl) (fun _ _ _ h => h) (Or.inl ⟨by rfl, ?hy1x1⟩) hHeld ?rest1x1
  case hy1x1 => (intro w hSw; go_simp <;> with_reducible rfl)
  try simp only [Act.put, List.setIfInBounds_toArray, List.set_cons_zero, List.set_cons_succ]
  refine wpAnyH_take (i := 1) (oi := { dst := some 11, op := _, type := _, pos := _, after := _, guard := _ }) (v := ?v1x2) rfl (by kernel_rfl) (by kernel_rfl) (by kernel_rfl) (fun _ _ _ h => h) (Or.inl ⟨by rfl, ?hy1x2⟩) hHeld ?rest1x2
  case hy1x2 => (intro w hSw; go_simp <;> with_reducible rfl)
  try simp only [Act.put, List.setIfInBounds_toArray, List.set_cons_zero, List.set_cons_succ]
  refine wpAnyH_take (i := 2) (oi := { dst := some 12, op := _, type := _, pos := _, after := _, guard := _ }) (v := ?v1x3) rfl (by kernel_rfl) (by kernel_rfl) (by kernel_rfl) (fun _ _ _ h => h) (Or.inl ⟨by rfl, ?hy1x3⟩) hHeld ?rest1x3
  case hy1x3 => (intro w hSw; go_simp <;> with_reducible rfl)
  try simp only [Act.put, List.setIfInBounds_toArray, List.set_cons_zero, List.set_cons_succ]
  refine wpAnyH_take (i := 3) (oi := { dst := some 13, op := _, type := _, pos := _, after := _, guard := _ }) (v := ?v1x4) rfl (by kernel_rfl) (by kernel_rfl) (by kernel_rfl) (fun _ _ _ h => h) (Or.inl ⟨by rfl, ?hy1x4⟩) hHeld ?rest1x4
  case hy1x4 => (intro w hSw; go_simp <;> with_reducible rfl)
  try simp only [Act.put, List.setIfInBounds_toArray, List.set_cons_zero, List.set_cons_succ]
  refine wpAnyH_take (i := 4) (oi := { dst := some 14, op := _, type := _, pos := _, after := _, guard := _ }) (v := ?v1x5) rfl (by kernel_rfl) (by kernel_rfl) (by kernel_rfl) (fun _ _ _ h => h) (Or.inl ⟨by rfl, ?hy1x5⟩) hHeld ?rest1x5
  case hy1x5 => (intro w hSw; go_simp <;> with_reducible rfl)
  try simp only [Act.put, List.setIfInBounds_toArray, List.set_cons_zero, List.set_cons_succ]
  refine wpAnyH_take (i := 5) (oi := { dst := some 15, op := _, type := _, pos := _, after := _, guard := _ }) (v := ?v1x6) rfl (by kernel_rfl) (by kernel_rfl) (by kernel_rfl) (fun _ _ _ h => h) (Or.inl ⟨by rfl, ?hy1x6⟩) hHeld ?rest1x6
  case hy1x6 => (intro w hSw; go_simp <;> with_reducible rfl)
  try simp only [Act.put, List.setIfInBounds_toArray, List.set_cons_zero, List.set_cons_succ]
  refine wpAnyH_ready (rs := [6, 8]) (by kernel_rfl) (by simp) (AllReadyH.cons (o := { dst := some 16, op := _, type := _, pos := _, after := _, guard := _ }) rfl (fun K hK => ?way1x7x6) (AllReadyH.cons (o := { dst := some 4, op := _, type := _, pos := _, after := _, guard := _ }) rfl (fun K hK => ?way1x7x8) AllReadyH.nil))
  case' way1x7x6 =>
    go_simp
    refine (HW1.out _ (R0.out.keep hHeld)).mono ?_
    rintro e w1 ⟨rfl, nq, rfl⟩
    go_wp2_with fail
    refine hK.out _ _ ?_ (fun hHeld => ?_)
    · exact below_same hHeld rfl rfl rfl rfl
    clear hK K
    try simp only [Act.put, List.setIfInBounds_toArray, List.set_cons_zero, List.set_cons_succ]
    refine wpAnyH_take (i := 7) (oi := { dst := some 17, op := _, type := _, pos := _, after := _, guard := _ }) (v := ?v1x8) rfl (by kernel_rfl) (by kernel_rfl) (by kernel_rfl) (fun _ _ _ h => h) (Or.inl ⟨by rfl, ?hy1x8⟩) hHeld ?rest1x8
    case hy1x8 => (intro w hSw; go_simp <;> with_reducible rfl)
    try simp only [Act.put, List.setIfInBounds_toArray, List.set_cons_zero, List.set_cons_succ]
    refine wpAnyH_ready (rs := [8]) (by kernel_rfl) (by simp) (AllReadyH.cons (o := { dst := some 4, op := _, type := _, pos := _, after := _, guard := _ }) rfl (fun K hK => ?_) AllReadyH.nil)
    go_simp
    go_wp2_with fail
    refine hK.out _ _ ?_ (fun hHeld => ?_)
    · exact hHeld.alloc hHeld.size _
    clear hK K
    try simp only [Act.put, List.setIfInBounds_toArray, List.set_cons_zero, List.set_cons_succ]
    refine wpAnyH_ready (rs := [9]) (by kernel_rfl) (by simp) (AllReadyH.cons (o := { dst := none, op := _, type := _, pos := _, after := _, guard := _ }) rfl (fun K hK => ?_) AllReadyH.nil)
    rw [if_pos (by rfl)]
    refine op_storeB 24 (.tmp 4) (.tmp 17) rfl W.heap.size 24 [.int .i64 0, .int .i64 0, .int .i64 0, .slice none 0 0, .int .i64 0, .int .i64 0, .int .i64 0] [.int .i64 5, .int .i64 a1, .int .i64 0, .slice none 0 0, .int .i64 0, .int .i64 0, .int .i64 0] rfl rfl (by first | exact Blk.new (W.drewN _) _ _ | exact Blk.new W _ _) rfl (by kernel_rfl) (by intro v hv; simp at hv; rcases hv with rfl | rfl | rfl | rfl | rfl | rfl | rfl <;> rfl) ?_
    intro V kV bV
    have sV := bV _ _ (Nat.le_refl _) hHeld
    refine hK.out _ _ ?_ (fun hHeld => ?_)
    · exact sV
    clear hK K
    try simp only [Act.put, List.setIfInBounds_toArray, List.set_cons_zero, List.set_cons_succ]
    refine wpAnyH_done (by kernel_rfl) ?_ _
  case' way1x7x8 =>
    go_simp
    go_wp2_with fail
    refine hK.out _ _ ?_ (fun hHeld => ?_)
    · exact hHeld.alloc hHeld.size _
    clear hK K
    try simp only [Act.put, List.setIfInBounds_toArray, List.set_cons_zero, List.set_cons_succ]
    refine wpAnyH_ready (rs := [6]) (by kernel_rfl) (by simp) (AllReadyH.cons (o := { dst := some 16, op := _, type := _, pos := _, after := _, guard := _ }) rfl (fun K hK => ?_) AllReadyH.nil)
    go_simp
    refine (HW1.out _ (R0.out.keep hHeld)).mono ?_
    rintro e w1 ⟨rfl, nq, rfl⟩
    go_wp2_with fail
    refine hK.out _ _ ?_ (fun hHeld => ?_)
    · exact below_same hHeld rfl rfl rfl rfl
    clear hK K
    try simp only [Act.put, List.setIfInBounds_toArray, List.set_cons_zero, List.set_cons_succ]
    refine wpAnyH_take (i := 7) (oi := { dst := some 17, op := _, type := _, pos := _, after := _, guard := _ }) (v := ?v1x12) rfl (by kernel_rfl) (by kernel_rfl) (by kernel_rfl) (fun _ _ _ h => h) (Or.inl ⟨by rfl, ?hy1x12⟩) hHeld ?rest1x12
    case hy1x12 => (intro w hSw; go_simp <;> with_reducible rfl)
    try simp only [Act.put, List.setIfInBounds_toArray, List.set_cons_zero, List.set_cons_succ]
    refine wpAnyH_ready (rs := [9]) (by kernel_rfl) (by simp) (AllReadyH.cons (o := { dst := none, op := _, type := _, pos := _, after := _, guard := _ }) rfl (fun K hK => ?_) AllReadyH.nil)
    rw [if_pos (by rfl)]
    refine op_storeB 24 (.tmp 4) (.tmp 17) rfl W.heap.size 24 [.int .i64 0, .int .i64 0, .int .i64 0, .slice none 0 0, .int .i64 0, .int .i64 0, .int .i64 0] [.int .i64 5, .int .i64 a1, .int .i64 0, .slice none 0 0, .int .i64 0, .int .i64 0, .int .i64 0] rfl rfl (by first | exact Blk.new (W.drewN _) _ _ | exact Blk.new W _ _) rfl (by kernel_rfl) (by intro v hv; simp at hv; rcases hv with rfl | rfl | rfl | rfl | rfl | rfl | rfl <;> rfl) ?_
    intro V kV bV
    have sV := bV _ _ (Nat.le_refl _) hHeld
    refine hK.out _ _ ?_ (fun hHeld => ?_)
    · exact sV
    clear hK K
    try simp only [Act.put, List.setIfInBounds_toArray, List.set_cons_zero, List.set_cons_succ]
    refine wpAnyH_done (by kernel_rfl) ?_ _
  · skip
    have RV := hide (R0.out.keep sV)
    have KV := hide kV
    have SV := hide sV
    have KW := hide (HB0.out.keep sV)
    have hne : w.heap.size < W.heap.size := HB0.out.lt
    have hltV : W.heap.size < V.heap.size := KV.out.lt
    have hltW : w.heap.size < V.heap.size := KW.out.lt
    clear R0 kV sV HB0 cx hHeld bV hsl1
    go_wp2_with fail
    refine (HW3.out _ RV.out).mono ?_
    rintro e w1 ⟨rfl, n2, rfl⟩
    have kV2 : Blk (V.drewN n2) W.heap.size 24 _ := KV.out
    have kW2 : Blk (V.drewN n2) w.heap.size 24 _ := KW.out
    have sV2 : Below W.heap.size W (V.drewN n2) := below_drewN SV.out n2
    have rV2 : Rd (V.drewN n2) (some ⟨b, o, none⟩) l (bv xs) := RV.out
    generalize V.drewN n2 = U at *
    clear KV KW RV SV hltV hltW hsl3
    clear V
    have RU := hide rV2
    have SU := hide sV2
    have hne1 : W.heap.size ≠ w.heap.size := by omega
    have hne2 : w.heap.size ≠ W.heap.size := by omega
    have hltV : W.heap.size < U.heap.size := kV2.lt
    have hltW : w.heap.size < U.heap.size := kW2.lt
    obtain ⟨k0, k1, k2, k3, k4, k5, k6⟩ := kV2.seven
    obtain ⟨j0, j1, j2, j3, j4, j5, j6⟩ := kW2.seven
    have kf := kV2.frozen
    have jf := kW2.frozen
    have KU := hide kV2
    have KW := hide kW2
    clear rV2 sV2 kV2 kW2
    have hmm : 1 ≤ 1000000 := by omega
    have GZ : Hid (Blk ((U.setCell ⟨W.heap.size, 3, none⟩ (.slice (some ⟨U.heap.size, 0, none⟩) 1 1)).alloc (.cells #[.int .i64 (a3 / 65280)] 3)) W.heap.size 24 [.int .i64 5, .int .i64 a1, .int .i64 0, .slice (some ⟨U.heap.size, 0, none⟩) 1 1, .int .i64 0, .int .i64 0, .int .i64 0]) := Blk.al (KU.out.set 3 _) _
    have JZ : Hid (Blk ((U.setCell ⟨W.heap.size, 3, none⟩ (.slice (some ⟨U.heap.size, 0, none⟩) 1 1)).alloc (.cells #[.int .i64 (a3 / 65280)] 3)) w.heap.size 24 _) := (KW.out.oth hne1 3 _).al _
    have BZ : Hid (Below w.heap.size w ((U.setCell ⟨W.heap.size, 3, none⟩ (.slice (some ⟨U.heap.size, 0, none⟩) 1 1)).alloc (.cells #[.int .i64 (a3 / 65280)] 3))) := ((below_on HBel.out SU.out).setCell (Nat.le_of_lt hne) _).alloc (by simpa using Nat.le_of_lt hltW) _
    have RZ : Hid (Rd ((U.setCell ⟨W.heap.size, 3, none⟩ (.slice (some ⟨U.heap.size, 0, none⟩) 1 1)).alloc (.cells #[.int .i64 (a3 / 65280)] 3)) (some ⟨U.heap.size, 0, none⟩) 1 (iv [(a3 / 65280)])) := rd_new _ _ (by simp) _ [_] 1 rfl
    go_wp2_with fail
    clear k0 k1 k2 k3 k4 k5 k6 j0 j1 j2 j3 j4 j5 j6 kf jf
    generalize (U.setCell ⟨W.heap.size, 3, none⟩ (.slice (some ⟨U.heap.size, 0, none⟩) 1 1)).alloc (.cells #[.int .i64 (a3 / 65280)] 3) = Z at *
    have NCg : Hid (∀ b o, (some ⟨U.heap.size, 0, none⟩ : Option Addr) = some ⟨b, o, none⟩ → b ≠ w.heap.size) := fun b o e => by injection e with e; injection e with e; omega
    clear KU KW RU SU HW1 HW3 CX0 qd hltV hltW
    go_wp2_with fail
    have c0 := GZ.out.on 0 _ rfl
    have c1 := GZ.out.on 1 _ rfl
    have c2 := GZ.out.on 2 _ rfl
    have c3 := GZ.out.on 3 _ rfl
    have c4 := GZ.out.on 4 _ rfl
    have c5 := GZ.out.on 5 _ rfl
    have c6 := GZ.out.on 6 _ rfl
    have HMz := hide (fun W' hr => refMay_any 5 a1 0 0 0 0 (some ⟨U.heap.size, 0, none⟩) 1 1 [(a3 / 65280)] W' hr hmm)
    cases hbM : mayB 5 a1 0 [(a3 / 65280)] 0 0 0
    · rw [hbM] at HMz
      have HPz := hide (show parseL xs = none from by rw [parse_eq xs 5 a1 0 [(a3 / 65280)] 0 0 0 HG.out, hbM, if_neg (by simp)])
      clear hbM
      refine wp_region_held_drew (S := fun w' => Below Z.heap.size Z w') (by kernel_rfl) ?_ (fun hHeld => ?_)
      · exact (Below.refl _ _).drew
      refine wpAnyH_take (i := 0) (oi := { dst := some 102, op := _, type := _, pos := _, after := _, guard := _ }) (v := ?v2x1) rfl (by kernel_rfl) (by kernel_rfl) (by kernel_rfl) (fun _ _ _ h => h) (Or.inl ⟨by rfl, ?hy2x1⟩) hHeld ?rest2x1
      case hy2x1 => (intro w hSw; go_simp <;> with_reducible rfl)
      try simp only [Act.put, List.setIfInBounds_toArray, List.set_cons_zero, List.set_cons_succ]
      refine wpAnyH_ready (rs := [1]) (by kernel_rfl) (by simp) (AllReadyH.cons (o := { dst := some 103, op := _, type := _, pos := _, after := _, guard := _ }) rfl (fun K hK => ?_) AllReadyH.nil)
      go_simp
      refine (HMz.out _ (RZ.out.keep hHeld)).mono ?_
      rintro e w7 ⟨rfl, b7⟩
      have s7 := below_on hHeld b7
      go_wp2_with fail
      refine hK.out _ _ ?_ (fun hHeld => ?_)
      · exact s7
      clear hK K
      try simp only [Act.put, List.setIfInBounds_toArray, List.set_cons_zero, List.set_cons_succ]
      refine wpAnyH_take (i := 2) (oi := { dst := some 104, op := _, type := _, pos := _, after := _, guard := _ }) (v := ?v2x3) rfl (by kernel_rfl) (by kernel_rfl) (by kernel_rfl) (fun _ _ _ h => h) (Or.inl ⟨by rfl, ?hy2x3⟩) hHeld ?rest2x3
      case hy2x3 => (intro w hSw; go_simp <;> with_reducible rfl)
      try simp only [Act.put, List.setIfInBounds_toArray, List.set_cons_zero, List.set_cons_succ]
      refine wpAnyH_take (i := 3) (oi := { dst := some 105, op := _, type := _, pos := _, after := _, guard := _ }) (v := ?v2x4) rfl (by kernel_rfl) (by kernel_rfl) (by kernel_rfl) (fun _ _ _ h => h) (Or.inl ⟨by rfl, ?hy2x4⟩) hHeld ?rest2x4
      case hy2x4 => (intro w hSw; go_simp <;> with_reducible rfl)
      try simp only [Act.put, List.setIfInBounds_toArray, List.set_cons_zero, List.set_cons_succ]
      refine wpAnyH_take (i := 4) (oi := { dst := some 106, op := _, type := _, pos := _, after := _, guard := _ }) (v := undef) rfl (by kernel_rfl) (by kernel_rfl) (by kernel_rfl) (fun _ _ _ h => h) (Or.inr ⟨by rfl, rfl⟩) hHeld ?_
      try simp only [Act.put, List.setIfInBounds_toArray, List.set_cons_zero, List.set_cons_succ]
      refine wpAnyH_take (i := 5) (oi := { dst := some 107, op := _, type := _, pos := _, after := _, guard := _ }) (v := undef) rfl (by kernel_rfl) (by kernel_rfl) (by kernel_rfl) (fun _ _ _ h => h) (Or.inr ⟨by rfl, rfl⟩) hHeld ?_
      try simp only [Act.put, List.setIfInBounds_toArray, List.set_cons_zero, List.set_cons_succ]
      refine wpAnyH_take (i := 6) (oi := { dst := some 108, op := _, type := _, pos := _, after := _, guard := _ }) (v := undef) rfl (by kernel_rfl) (by kernel_rfl) (by kernel_rfl) (fun _ _ _ h => h) (Or.inr ⟨by rfl, rfl⟩) hHeld ?_
      try simp only [Act.put, List.setIfInBounds_toArray, List.set_cons_zero, List.set_cons_succ]
      refine wpAnyH_take (i := 7) (oi := { dst := some 109, op := _, type := _, pos := _, after := _, guard := _ }) (v := undef) rfl (by kernel_rfl) (by kernel_rfl) (by kernel_rfl) (fun _ _ _ h => h) (Or.inr ⟨by rfl, rfl⟩) hHeld ?_
      try simp only [Act.put, List.setIfInBounds_toArray, List.set_cons_zero, List.set_cons_succ]
      refine wpAnyH_take (i := 8) (oi := { dst := some 110, op := _, type := _, pos := _, after := _, guard := _ }) (v := undef) rfl (by kernel_rfl) (by kernel_rfl) (by kernel_rfl) (fun _ _ _ h => h) (Or.inr ⟨by rfl, rfl⟩) hHeld ?_
      try simp only [Act.put, List.setIfInBounds_toArray, List.set_cons_zero, List.set_cons_succ]
      refine wpAnyH_take (i := 9) (oi := { dst := some 111, op := _, type := _, pos := _, after := _, guard := _ }) (v := undef) rfl (by kernel_rfl) (by kernel_rfl) (by kernel_rfl) (fun _ _ _ h => h) (Or.inr ⟨by rfl, rfl⟩) hHeld ?_
      try simp only [Act.put, List.setIfInBounds_toArray, List.set_cons_zero, List.set_cons_succ]
      refine wpAnyH_take (i := 10) (oi := { dst := some 112, op := _, type := _, pos := _, after := _, guard := _ }) (v := ?v2x11) rfl (by kernel_rfl) (by kernel_rfl) (by kernel_rfl) (fun _ _ _ h => h) (Or.inl ⟨by rfl, ?hy2x11⟩) hHeld ?rest2x11
      case hy2x11 => (intro w hSw; go_simp <;> with_reducible rfl)
      try simp only [Act.put, List.setIfInBounds_toArray, List.set_cons_zero, List.set_cons_succ]
      refine wpAnyH_done (by kernel_rfl) ?_ _
      have j8 := JZ.out.keep s7
      have g8 := GZ.out.keep s7
      clear c0 c1 c2 c3 c4 c5 c6
      obtain ⟨j0, j1, j2, j3, j4, j5, j6⟩ := j8.seven
      obtain ⟨k0, k1, k2, k3, k4, k5, k6⟩ := g8.seven
      have jf := j8.frozen
      have J8 := hide j8
      have B8 := hide (below_on BZ.out s7)
      have R8 := hide (RZ.out.keep s7)
      clear j8 g8 hHeld
      clear s7 b7
      go_wp2_with fail
      (try simp only [Exit.inBlock, Exit.then])
      refine bodyPost_ret (results_cell_tmp rfl rfl (J8.out.set7 _ _ _ _ _ _ _) Try.underlying24 rfl (by kernel_rfl)) rfl ?_
      rw [HPz.out]
      exact ⟨none, 0, 0, rfl, Nat.le_refl _, Rd.nil _ _, below_set7 B8.out (Nat.le_refl _) _ _ _ _ _ _ _⟩
    · have HLz := hide (fun W' hr => refBytes_any 5 a1 0 0 0 0 (some ⟨U.heap.size, 0, none⟩) 1 1 [(a3 / 65280)] W' hr hbM)
      rw [hbM] at HMz
      have HPy := hide (show parseL xs = _ from by rw [parse_eq xs 5 a1 0 [(a3 / 65280)] 0 0 0 HG.out, hbM])
      clear hbM
      generalize layL 5 a1 0 [(a3 / 65280)] 0 0 0 = Y at *
      have hsB := strOn (H0.out.keep BZ.out)
      by_cases hY : Y = xs
      · have qs : (Y != xs) = false := by simp [hY]
        have qs2 : (!(Y == xs)) = false := by simp [hY]
        have HPz := HPy.out
        rw [if_pos ⟨rfl, hY⟩] at HPz
        replace HPz := hide HPz
        clear HPy
        clear hY
        refine wp_region_held_drew (S := fun w' => Below Z.heap.size Z w') (by kernel_rfl) ?_ (fun hHeld => ?_)
        · exact (Below.refl _ _).drew
        refine wpAnyH_take (i := 0) (oi := { dst := some 102, op := _, type := _, pos := _, after := _, guard := _ }) (v := ?v3x1) rfl (by kernel_rfl) (by kernel_rfl) (by kernel_rfl) (fun _ _ _ h => h) (Or.inl ⟨by rfl, ?hy3x1⟩) hHeld ?rest3x1
        case hy3x1 => (intro w hSw; go_simp <;> with_reducible rfl)
        try simp only [Act.put, List.setIfInBounds_toArray, List.set_cons_zero, List.set_cons_succ]
        refine wpAnyH_ready (rs := [1]) (by kernel_rfl) (by simp) (AllReadyH.cons (o := { dst := some 103, op := _, type := _, pos := _, after := _, guard := _ }) rfl (fun K hK => ?_) AllReadyH.nil)
        go_simp
        refine (HMz.out _ (RZ.out.keep hHeld)).mono ?_
        rintro e w7 ⟨rfl, b7⟩
        have s7 := below_on hHeld b7
        go_wp2_with fail
        refine hK.out _ _ ?_ (fun hHeld => ?_)
        · exact s7
        clear hK K
        try simp only [Act.put, List.setIfInBounds_toArray, List.set_cons_zero, List.set_cons_succ]
        refine wpAnyH_take (i := 2) (oi := { dst := some 104, op := _, type := _, pos := _, after := _, guard := _ }) (v := ?v3x3) rfl (by kernel_rfl) (by kernel_rfl) (by kernel_rfl) (fun _ _ _ h => h) (Or.inl ⟨by rfl, ?hy3x3⟩) hHeld ?rest3x3
        case hy3x3 => (intro w hSw; go_simp <;> with_reducible rfl)
        try simp only [Act.put, List.setIfInBounds_toArray, List.set_cons_zero, List.set_cons_succ]
        refine wpAnyH_take (i := 3) (oi := { dst := some 105, op := _, type := _, pos := _, after := _, guard := _ }) (v := ?v3x4) rfl (by kernel_rfl) (by kernel_rfl) (by kernel_rfl) (fun _ _ _ h => h) (Or.inl ⟨by rfl, ?hy3x4⟩) hHeld ?rest3x4
        case hy3x4 => (intro w hSw; go_simp <;> with_reducible rfl)
        try simp only [Act.put, List.setIfInBounds_toArray, List.set_cons_zero, List.set_cons_succ]
        refine wpAnyH_take (i := 4) (oi := { dst := some 106, op := _, type := _, pos := _, after := _, guard := _ }) (v := ?v3x5) rfl (by kernel_rfl) (by kernel_rfl) (by kernel_rfl) (fun _ _ _ h => h) (Or.inl ⟨by rfl, ?hy3x5⟩) hHeld ?rest3x5
        case hy3x5 => (intro w hSw; go_simp <;> with_reducible rfl)
        try simp only [Act.put, List.setIfInBounds_toArray, List.set_cons_zero, List.set_cons_succ]
        refine wpAnyH_take (i := 7) (oi := { dst := some 109, op := _, type := _, pos := _, after := _, guard := _ }) (v := ?v3x6) rfl (by kernel_rfl) (by kernel_rfl) (by kernel_rfl) (fun _ _ _ h => h) (Or.inl ⟨by rfl, ?hy3x6⟩) hHeld ?rest3x6
        case hy3x6 => (intro w hSw; go_simp <;> with_reducible rfl)
        try simp only [Act.put, List.setIfInBounds_toArray, List.set_cons_zero, List.set_cons_succ]
        refine wpAnyH_take (i := 8) (oi := { dst := some 110, op := _, type := _, pos := _, after := _, guard := _ }) (v := ?v3x7) rfl (by kernel_rfl) (by kernel_rfl) (by kernel_rfl) (fun _ _ _ h => h) (Or.inl ⟨by rfl, ?hy3x7⟩) hHeld ?rest3x7
        case hy3x7 => (intro w hSw; go_simp <;> with_reducible rfl)
        try simp only [Act.put, List.setIfInBounds_toArray, List.set_cons_zero, List.set_cons_succ]
        refine wpAnyH_ready (rs := [5]) (by kernel_rfl) (by simp) (AllReadyH.cons (o := { dst := some 107, op := _, type := _, pos := _, after := _, guard := _ }) rfl (fun K hK => ?_) AllReadyH.nil)
        go_simp
        refine (HLz.out _ (RZ.out.keep s7)).mono ?_
        rintro e w8 ⟨E, kE, rfl, lE, rE, b8⟩
        have s8 := below_on s7 b8
        have hsE := strOn rE
        have hsB8 := strOn (H0.out.keep (below_on BZ.out s8))
        go_wp2_with fail
        refine hK.out _ _ ?_ (fun hHeld => ?_)
        · exact below_on hHeld b8
        clear hK K
        try simp only [Act.put, List.setIfInBounds_toArray, List.set_cons_zero, List.set_cons_succ]
        refine wpAnyH_strong (S' := fun w' => Below w8.heap.size w8 w') (by intro w' h; exact below_on hHeld h) ?_
        replace hHeld : (fun w' => Below w8.heap.size w8 w') _ := Below.refl _ _
        refine wpAnyH_take (i := 6) (oi := { dst := some 108, op := _, type := _, pos := _, after := _, guard := _ }) (v := ?v3x9) rfl (by kernel_rfl) (by kernel_rfl) (by kernel_rfl) (fun _ _ _ h => h) (Or.inl ⟨by rfl, ?hy3x9⟩) hHeld ?rest3x9
        case hy3x9 => (intro w hSw; go_simp <;> with_reducible rfl)
        try simp only [Act.put, List.setIfInBounds_toArray, List.set_cons_zero, List.set_cons_succ]
        refine wpAnyH_take (i := 9) (oi := { dst := some 111, op := _, type := _, pos := _, after := _, guard := _ }) (v := ?v3x10) rfl (by kernel_rfl) (by kernel_rfl) (by kernel_rfl) (fun _ _ _ h => h) (Or.inl ⟨by rfl, ?hy3x10⟩) hHeld ?rest3x10
        case hy3x10 => (intro w hSw; go_simp <;> with_reducible rfl)
        try simp only [Act.put, List.setIfInBounds_toArray, List.set_cons_zero, List.set_cons_succ]
        refine wpAnyH_take (i := 10) (oi := { dst := some 112, op := _, type := _, pos := _, after := _, guard := _ }) (v := ?v3x11) rfl (by kernel_rfl) (by kernel_rfl) (by kernel_rfl) (fun _ _ _ h => h) (Or.inl ⟨by rfl, ?hy3x11⟩) hHeld ?rest3x11
        case hy3x11 => (intro w hSw; go_simp <;> with_reducible rfl)
        try simp only [Act.put, List.setIfInBounds_toArray, List.set_cons_zero, List.set_cons_succ]
        refine wpAnyH_done (by kernel_rfl) ?_ _
        clear hsE hsB hsB8 rE
        have j8 := JZ.out.keep s8
        have g8 := GZ.out.keep s8
        clear c0 c1 c2 c3 c4 c5 c6
        obtain ⟨j0, j1, j2, j3, j4, j5, j6⟩ := j8.seven
        obtain ⟨k0, k1, k2, k3, k4, k5, k6⟩ := g8.seven
        have jf := j8.frozen
        have J8 := hide j8
        have B8 := hide (below_on BZ.out s8)
        have R8 := hide (RZ.out.keep s8)
        clear j8 g8 hHeld
        clear s7 b7 s8 b8
        go_wp2_with fail
        (try simp only [Exit.inBlock, Exit.then])
        refine bodyPost_ret (results_cell_tmp rfl rfl (J8.out.set7 _ _ _ _ _ _ _) Try.underlying24 rfl (by kernel_rfl)) rfl ?_
        rw [HPz.out]
        exact ⟨(some ⟨U.heap.size, 0, none⟩), 1, 1, rfl, (Nat.le_refl _), R8.out.set7 NCg.out _ _ _ _ _ _ _, below_set7 B8.out (Nat.le_refl _) _ _ _ _ _ _ _⟩
      · have qs : (Y != xs) = true := by simp [hY]
        have qs2 : (!(Y == xs)) = true := by simp [hY]
        have HPz := HPy.out
        rw [if_neg (fun h => hY h.2)] at HPz
        replace HPz := hide HPz
        clear HPy
        clear hY
        refine wp_region_held_drew (S := fun w' => Below Z.heap.size Z w') (by kernel_rfl) ?_ (fun hHeld => ?_)
        · exact (Below.refl _ _).drew
        refine wpAnyH_take (i := 0) (oi := { dst := some 102, op := _, type := _, pos := _, after := _, guard := _ }) (v := ?v4x1) rfl (by kernel_rfl) (by kernel_rfl) (by kernel_rfl) (fun _ _ _ h => h) (Or.inl ⟨by rfl, ?hy4x1⟩) hHeld ?rest4x1
        case hy4x1 => (intro w hSw; go_simp <;> with_reducible rfl)
        try simp only [Act.put, List.setIfInBounds_toArray, List.set_cons_zero, List.set_cons_succ]
        refine wpAnyH_ready (rs := [1]) (by kernel_rfl) (by simp) (AllReadyH.cons (o := { dst := some 103, op := _, type := _, pos := _, after := _, guard := _ }) rfl (fun K hK => ?_) AllReadyH.nil)
        go_simp
        refine (HMz.out _ (RZ.out.keep hHeld)).mono ?_
        rintro e w7 ⟨rfl, b7⟩
        have s7 := below_on hHeld b7
        go_wp2_with fail
        refine hK.out _ _ ?_ (fun hHeld => ?_)
        · exact s7
        clear hK K
        try simp only [Act.put, List.setIfInBounds_toArray, List.set_cons_zero, List.set_cons_succ]
        refine wpAnyH_take (i := 2) (oi := { dst := some 104, op := _, type := _, pos := _, after := _, guard := _ }) (v := ?v4x3) rfl (by kernel_rfl) (by kernel_rfl) (by kernel_rfl) (fun _ _ _ h => h) (Or.inl ⟨by rfl, ?hy4x3⟩) hHeld ?rest4x3
        case hy4x3 => (intro w hSw; go_simp <;> with_reducible rfl)
        try simp only [Act.put, List.setIfInBounds_toArray, List.set_cons_zero, List.set_cons_succ]
        refine wpAnyH_take (i := 3) (oi := { dst := some 105, op := _, type := _, pos := _, after := _, guard := _ }) (v := ?v4x4) rfl (by kernel_rfl) (by kernel_rfl) (by kernel_rfl) (fun _ _ _ h => h) (Or.inl ⟨by rfl, ?hy4x4⟩) hHeld ?rest4x4
        case hy4x4 => (intro w hSw; go_simp <;> with_reducible rfl)
        try simp only [Act.put, List.setIfInBounds_toArray, List.set_cons_zero, List.set_cons_succ]
        refine wpAnyH_take (i := 4) (oi := { dst := some 106, op := _, type := _, pos := _, after := _, guard := _ }) (v := ?v4x5) rfl (by kernel_rfl) (by kernel_rfl) (by kernel_rfl) (fun _ _ _ h => h) (Or.inl ⟨by rfl, ?hy4x5⟩) hHeld ?rest4x5
        case hy4x5 => (intro w hSw; go_simp <;> with_reducible rfl)
        try simp only [Act.put, List.setIfInBounds_toArray, List.set_cons_zero, List.set_cons_succ]
        refine wpAnyH_take (i := 7) (oi := { dst := some 109, op := _, type := _, pos := _, after := _, guard := _ }) (v := ?v4x6) rfl (by kernel_rfl) (by kernel_rfl) (by kernel_rfl) (fun _ _ _ h => h) (Or.inl ⟨by rfl, ?hy4x6⟩) hHeld ?rest4x6
        case hy4x6 => (intro w hSw; go_simp <;> with_reducible rfl)
        try simp only [Act.put, List.setIfInBounds_toArray, List.set_cons_zero, List.set_cons_succ]
        refine wpAnyH_take (i := 8) (oi := { dst := some 110, op := _, type := _, pos := _, after := _, guard := _ }) (v := ?v4x7) rfl (by kernel_rfl) (by kernel_rfl) (by kernel_rfl) (fun _ _ _ h => h) (Or.inl ⟨by rfl, ?hy4x7⟩) hHeld ?rest4x7
        case hy4x7 => (intro w hSw; go_simp <;> with_reducible rfl)
        try simp only [Act.put, List.setIfInBounds_toArray, List.set_cons_zero, List.set_cons_succ]
        refine wpAnyH_ready (rs := [5]) (by kernel_rfl) (by simp) (AllReadyH.cons (o := { dst := some 107, op := _, type := _, pos := _, after := _, guard := _ }) rfl (fun K hK => ?_) AllReadyH.nil)
        go_simp
        refine (HLz.out _ (RZ.out.keep s7)).mono ?_
        rintro e w8 ⟨E, kE, rfl, lE, rE, b8⟩
        have s8 := below_on s7 b8
        have hsE := strOn rE
        have hsB8 := strOn (H0.out.keep (below_on BZ.out s8))
        go_wp2_with fail
        refine hK.out _ _ ?_ (fun hHeld => ?_)
        · exact below_on hHeld b8
        clear hK K
        try simp only [Act.put, List.setIfInBounds_toArray, List.set_cons_zero, List.set_cons_succ]
        refine wpAnyH_strong (S' := fun w' => Below w8.heap.size w8 w') (by intro w' h; exact below_on hHeld h) ?_
        replace hHeld : (fun w' => Below w8.heap.size w8 w') _ := Below.refl _ _
        refine wpAnyH_take (i := 6) (oi := { dst := some 108, op := _, type := _, pos := _, after := _, guard := _ }) (v := ?v4x9) rfl (by kernel_rfl) (by kernel_rfl) (by kernel_rfl) (fun _ _ _ h => h) (Or.inl ⟨by rfl, ?hy4x9⟩) hHeld ?rest4x9
        case hy4x9 => (intro w hSw; go_simp <;> with_reducible rfl)
        try simp only [Act.put, List.setIfInBounds_toArray, List.set_cons_zero, List.set_cons_succ]
        refine wpAnyH_take (i := 9) (oi := { dst := some 111, op := _, type := _, pos := _, after := _, guard := _ }) (v := ?v4x10) rfl (by kernel_rfl) (by kernel_rfl) (by kernel_rfl) (fun _ _ _ h => h) (Or.inl ⟨by rfl, ?hy4x10⟩) hHeld ?rest4x10
        case hy4x10 => (intro w hSw; go_simp <;> with_reducible rfl)
        try simp only [Act.put, List.setIfInBounds_toArray, List.set_cons_zero, List.set_cons_succ]
        refine wpAnyH_take (i := 10) (oi := { dst := some 112, op := _, type := _, pos := _, after := _, guard := _ }) (v := ?v4x11) rfl (by kernel_rfl) (by kernel_rfl) (by kernel_rfl) (fun _ _ _ h => h) (Or.inl ⟨by rfl, ?hy4x11⟩) hHeld ?rest4x11
        case hy4x11 => (intro w hSw; go_simp <;> with_reducible rfl)
        try simp only [Act.put, List.setIfInBounds_toArray, List.set_cons_zero, List.set_cons_succ]
        refine wpAnyH_done (by kernel_rfl) ?_ _
        clear hsE hsB hsB8 rE
        have j8 := JZ.out.keep s8
        have g8 := GZ.out.keep s8
        clear c0 c1 c2 c3 c4 c5 c6
        obtain ⟨j0, j1, j2, j3, j4, j5, j6⟩ := j8.seven
        obtain ⟨k0, k1, k2, k3, k4, k5, k6⟩ := g8.seven
        have jf := j8.frozen
        have J8 := hide j8
        have B8 := hide (below_on BZ.out s8)
        have R8 := hide (RZ.out.keep s8)
        clear j8 g8 hHeld
        clear s7 b7 s8 b8
        go_wp2_with fail
        (try simp only [Exit.inBlock, Exit.then])
        refine bodyPost_ret (results_cell_tmp rfl rfl (J8.out.set7 _ _ _ _ _ _ _) Try.underlying24 rfl (by kernel_rfl)) rfl ?_
        rw [HPz.out]
        exact ⟨none, 0, 0, rfl, Nat.le_refl _, Rd.nil _ _, below_set7 B8.out (Nat.le_refl _) _ _ _ _ _ _ _⟩
  · skip
    have RV := hide (R0.out.keep sV)
    have KV := hide kV
    have SV := hide sV
    have KW := hide (HB0.out.keep sV)
    have hne : w.heap.size < W.heap.size := HB0.out.lt
    have hltV : W.heap.size < V.heap.size := KV.out.lt
    have hltW : w.heap.size < V.heap.size := KW.out.lt
    clear R0 kV sV HB0 cx hHeld bV hsl1
    go_wp2_with fail
    refine (HW3.out _ RV.out).mono ?_
    rintro e w1 ⟨rfl, n2, rfl⟩
    have kV2 : Blk (V.drewN n2) W.heap.size 24 _ := KV.out
    have kW2 : Blk (V.drewN n2) w.heap.size 24 _ := KW.out
    have sV2 : Below W.heap.size W (V.drewN n2) := below_drewN SV.out n2
    have rV2 : Rd (V.drewN n2) (some ⟨b, o, none⟩) l (bv xs) := RV.out
    generalize V.drewN n2 = U at *
    clear KV KW RV SV hltV hltW hsl3
    clear V
    have RU := hide rV2
    have SU := hide sV2
    have hne1 : W.heap.size ≠ w.heap.size := by omega
    have hne2 : w.heap.size ≠ W.heap.size := by omega
    have hltV : W.heap.size < U.heap.size := kV2.lt
    have hltW : w.heap.size < U.heap.size := kW2.lt
    obtain ⟨k0, k1, k2, k3, k4, k5, k6⟩ := kV2.seven
    obtain ⟨j0, j1, j2, j3, j4, j5, j6⟩ := kW2.seven
    have kf := kV2.frozen
    have jf := kW2.frozen
    have KU := hide kV2
    have KW := hide kW2
    clear rV2 sV2 kV2 kW2
    have hmm : 1 ≤ 1000000 := by omega
    have GZ : Hid (Blk ((U.setCell ⟨W.heap.size, 3, none⟩ (.slice (some ⟨U.heap.size, 0, none⟩) 1 1)).alloc (.cells #[.int .i64 (a3 / 65280)] 3)) W.heap.size 24 [.int .i64 5, .int .i64 a1, .int .i64 0, .slice (some ⟨U.heap.size, 0, none⟩) 1 1, .int .i64 0, .int .i64 0, .int .i64 0]) := Blk.al (KU.out.set 3 _) _
    have JZ : Hid (Blk ((U.setCell ⟨W.heap.size, 3, none⟩ (.slice (some ⟨U.heap.size, 0, none⟩) 1 1)).alloc (.cells #[.int .i64 (a3 / 65280)] 3)) w.heap.size 24 _) := (KW.out.oth hne1 3 _).al _
    have BZ : Hid (Below w.heap.size w ((U.setCell ⟨W.heap.size, 3, none⟩ (.slice (some ⟨U.heap.size, 0, none⟩) 1 1)).alloc (.cells #[.int .i64 (a3 / 65280)] 3))) := ((below_on HBel.out SU.out).setCell (Nat.le_of_lt hne) _).alloc (by simpa using Nat.le_of_lt hltW) _
    have RZ : Hid (Rd ((U.setCell ⟨W.heap.size, 3, none⟩ (.slice (some ⟨U.heap.size, 0, none⟩) 1 1)).alloc (.cells #[.int .i64 (a3 / 65280)] 3)) (some ⟨U.heap.size, 0, none⟩) 1 (iv [(a3 / 65280)])) := rd_new _ _ (by simp) _ [_] 1 rfl
    go_wp2_with fail
    clear k0 k1 k2 k3 k4 k5 k6 j0 j1 j2 j3 j4 j5 j6 kf jf
    generalize (U.setCell ⟨W.heap.size, 3, none⟩ (.slice (some ⟨U.heap.size, 0, none⟩) 1 1)).alloc (.cells #[.int .i64 (a3 / 65280)] 3) = Z at *
    have NCg : Hid (∀ b o, (some ⟨U.heap.size, 0, none⟩ : Option Addr) = some ⟨b, o, none⟩ → b ≠ w.heap.size) := fun b o e => by injection e with e; injection e with e; omega
    clear KU KW RU SU HW1 HW3 CX0 qd hltV hltW
    go_wp2_with fail
    have c0 := GZ.out.on 0 _ rfl
    have c1 := GZ.out.on 1 _ rfl
    have c2 := GZ.out.on 2 _ rfl
    have c3 := GZ.out.on 3 _ rfl
    have c4 := GZ.out.on 4 _ rfl
    have c5 := GZ.out.on 5 _ rfl
    have c6 := GZ.out.on 6 _ rfl
    have HMz := hide (fun W' hr => refMay_any 5 a1 0 0 0 0 (some ⟨U.heap.size, 0, none⟩) 1 1 [(a3 / 65280)] W' hr hmm)
    cases hbM : mayB 5 a1 0 [(a3 / 65280)] 0 0 0
    · rw [hbM] at HMz
      have HPz := hide (show parseL xs = none from by rw [parse_eq xs 5 a1 0 [(a3 / 65280)] 0 0 0 HG.out, hbM, if_neg (by simp)])
      clear hbM
      refine wp_region_held_drew (S := fun w' => Below Z.heap.size Z w') (by kernel_rfl) ?_ (fun hHeld => ?_)
      · exact (Below.refl _ _).drew
      refine wpAnyH_take (i := 0) (oi := { dst := some 102, op := _, type := _, pos := _, after := _, guard := _ }) (v := ?v5x1) rfl (by kernel_rfl) (by kernel_rfl) (by kernel_rfl) (fun _ _ _ h => h) (Or.inl ⟨by rfl, ?hy5x1⟩) hHeld ?rest5x1
      case hy5x1 => (intro w hSw; go_simp <;> with_reducible rfl)
      try simp only [Act.put, List.setIfInBounds_toArray, List.set_cons_zero, List.set_cons_succ]
      refine wpAnyH_ready (rs := [1]) (by kernel_rfl) (by simp) (AllReadyH.cons (o := { dst := some 103, op := _, type := _, pos := _, after := _, guard := _ }) rfl (fun K hK => ?_) AllReadyH.nil)
      go_simp
      refine (HMz.out _ (RZ.out.keep hHeld)).mono ?_
      rintro e w7 ⟨rfl, b7⟩
      have s7 := below_on hHeld b7
      go_wp2_with fail
      refine hK.out _ _ ?_ (fun hHeld => ?_)
      · exact s7
      clear hK K
      try simp only [Act.put, List.setIfInBounds_toArray, List.set_cons_zero, List.set_cons_succ]
      refine wpAnyH_take (i := 2) (oi := { dst := some 104, op := _, type := _, pos := _, after := _, guard := _ }) (v := ?v5x3) rfl (by kernel_rfl) (by kernel_rfl) (by kernel_rfl) (fun _ _ _ h => h) (Or.inl ⟨by rfl, ?hy5x3⟩) hHeld ?rest5x3
      case hy5x3 => (intro w hSw; go_simp <;> with_reducible rfl)
      try simp only [Act.put, List.setIfInBounds_toArray, List.set_cons_zero, List.set_cons_succ]
      refine wpAnyH_take (i := 3) (oi := { dst := some 105, op := _, type := _, pos := _, after := _, guard := _ }) (v := ?v5x4) rfl (by kernel_rfl) (by kernel_rfl) (by kernel_rfl) (fun _ _ _ h => h) (Or.inl ⟨by rfl, ?hy5x4⟩) hHeld ?rest5x4
      case hy5x4 => (intro w hSw; go_simp <;> with_reducible rfl)
      try simp only [Act.put, List.setIfInBounds_toArray, List.set_cons_zero, List.set_cons_succ]
      refine wpAnyH_take (i := 4) (oi := { dst := some 106, op := _, type := _, pos := _, after := _, guard := _ }) (v := undef) rfl (by kernel_rfl) (by kernel_rfl) (by kernel_rfl) (fun _ _ _ h => h) (Or.inr ⟨by rfl, rfl⟩) hHeld ?_
      try simp only [Act.put, List.setIfInBounds_toArray, List.set_cons_zero, List.set_cons_succ]
      refine wpAnyH_take (i := 5) (oi := { dst := some 107, op := _, type := _, pos := _, after := _, guard := _ }) (v := undef) rfl (by kernel_rfl) (by kernel_rfl) (by kernel_rfl) (fun _ _ _ h => h) (Or.inr ⟨by rfl, rfl⟩) hHeld ?_
      try simp only [Act.put, List.setIfInBounds_toArray, List.set_cons_zero, List.set_cons_succ]
      refine wpAnyH_take (i := 6) (oi := { dst := some 108, op := _, type := _, pos := _, after := _, guard := _ }) (v := undef) rfl (by kernel_rfl) (by kernel_rfl) (by kernel_rfl) (fun _ _ _ h => h) (Or.inr ⟨by rfl, rfl⟩) hHeld ?_
      try simp only [Act.put, List.setIfInBounds_toArray, List.set_cons_zero, List.set_cons_succ]
      refine wpAnyH_take (i := 7) (oi := { dst := some 109, op := _, type := _, pos := _, after := _, guard := _ }) (v := undef) rfl (by kernel_rfl) (by kernel_rfl) (by kernel_rfl) (fun _ _ _ h => h) (Or.inr ⟨by rfl, rfl⟩) hHeld ?_
      try simp only [Act.put, List.setIfInBounds_toArray, List.set_cons_zero, List.set_cons_succ]
      refine wpAnyH_take (i := 8) (oi := { dst := some 110, op := _, type := _, pos := _, after := _, guard := _ }) (v := undef) rfl (by kernel_rfl) (by kernel_rfl) (by kernel_rfl) (fun _ _ _ h => h) (Or.inr ⟨by rfl, rfl⟩) hHeld ?_
      try simp only [Act.put, List.setIfInBounds_toArray, List.set_cons_zero, List.set_cons_succ]
      refine wpAnyH_take (i := 9) (oi := { dst := some 111, op := _, type := _, pos := _, after := _, guard := _ }) (v := undef) rfl (by kernel_rfl) (by kernel_rfl) (by kernel_rfl) (fun _ _ _ h => h) (Or.inr ⟨by rfl, rfl⟩) hHeld ?_
      try simp only [Act.put, List.setIfInBounds_toArray, List.set_cons_zero, List.set_cons_succ]
      refine wpAnyH_take (i := 10) (oi := { dst := some 112, op := _, type := _, pos := _, after := _, guard := _ }) (v := ?v5x11) rfl (by kernel_rfl) (by kernel_rfl) (by kernel_rfl) (fun _ _ _ h => h) (Or.inl ⟨by rfl, ?hy5x11⟩) hHeld ?rest5x11
      case hy5x11 => (intro w hSw; go_simp <;> with_reducible rfl)
      try simp only [Act.put, List.setIfInBounds_toArray, List.set_cons_zero, List.set_cons_succ]
      refine wpAnyH_done (by kernel_rfl) ?_ _
      have j8 := JZ.out.keep s7
      have g8 := GZ.out.keep s7
      clear c0 c1 c2 c3 c4 c5 c6
      obtain ⟨j0, j1, j2, j3, j4, j5, j6⟩ := j8.seven
      obtain ⟨k0, k1, k2, k3, k4, k5, k6⟩ := g8.seven
      have jf := j8.frozen
      have J8 := hide j8
      have B8 := hide (below_on BZ.out s7)
      have R8 := hide (RZ.out.keep s7)
      clear j8 g8 hHeld
      clear s7 b7
      go_wp2_with fail
      (try simp only [Exit.inBlock, Exit.then])
      refine bodyPost_ret (results_cell_tmp rfl rfl (J8.out.set7 _ _ _ _ _ _ _) Try.underlying24 rfl (by kernel_rfl)) rfl ?_
      rw [HPz.out]
      exact ⟨none, 0, 0, rfl, Nat.le_refl _, Rd.nil _ _, below_set7 B8.out (Nat.le_refl _) _ _ _ _ _ _ _⟩
    · have HLz := hide (fun W' hr => refBytes_any 5 a1 0 0 0 0 (some ⟨U.heap.size, 0, none⟩) 1 1 [(a3 / 65280)] W' hr hbM)
      rw [hbM] at HMz
      have HPy := hide (show parseL xs = _ from by rw [parse_eq xs 5 a1 0 [(a3 / 65280)] 0 0 0 HG.out, hbM])
      clear hbM
      generalize layL 5 a1 0 [(a3 / 65280)] 0 0 0 = Y at *
      have hsB := strOn (H0.out.keep BZ.out)
      by_cases hY : Y = xs
      · have qs : (Y != xs) = false := by simp [hY]
        have qs2 : (!(Y == xs)) = false := by simp [hY]
        have HPz := HPy.out
        rw [if_pos ⟨rfl, hY⟩] at HPz
        replace HPz := hide HPz
        clear HPy
        clear hY
        refine wp_region_held_drew (S := fun w' => Below Z.heap.size Z w') (by kernel_rfl) ?_ (fun hHeld => ?_)
        · exact (Below.refl _ _).drew
        refine wpAnyH_take (i := 0) (oi := { dst := some 102, op := _, type := _, pos := _, after := _, guard := _ }) (v := ?v6x1) rfl (by kernel_rfl) (by kernel_rfl) (by kernel_rfl) (fun _ _ _ h => h) (Or.inl ⟨by rfl, ?hy6x1⟩) hHeld ?rest6x1
        case hy6x1 => (intro w hSw; go_simp <;> with_reducible rfl)
        try simp only [Act.put, List.setIfInBounds_toArray, List.set_cons_zero, List.set_cons_succ]
        refine wpAnyH_ready (rs := [1]) (by kernel_rfl) (by simp) (AllReadyH.cons (o := { dst := some 103, op := _, type := _, pos := _, after := _, guard := _ }) rfl (fun K hK => ?_) AllReadyH.nil)
        go_simp
        refine (HMz.out _ (RZ.out.keep hHeld)).mono ?_
        rintro e w7 ⟨rfl, b7⟩
        have s7 := below_on hHeld b7
        go_wp2_with fail
        refine hK.out _ _ ?_ (fun hHeld => ?_)
        · exact s7
        clear hK K
        try simp only [Act.put, List.setIfInBounds_toArray, List.set_cons_zero, List.set_cons_succ]
        refine wpAnyH_take (i := 2) (oi := { dst := some 104, op := _, type := _, pos := _, after := _, guard := _ }) (v := ?v6x3) rfl (by kernel_rfl) (by kernel_rfl) (by kernel_rfl) (fun _ _ _ h => h) (Or.inl ⟨by rfl, ?hy6x3⟩) hHeld ?rest6x3
        case hy6x3 => (intro w hSw; go_simp <;> with_reducible rfl)
        try simp only [Act.put, List.setIfInBounds_toArray, List.set_cons_zero, List.set_cons_succ]
        refine wpAnyH_take (i := 3) (oi := { dst := some 105, op := _, type := _, pos := _, after := _, guard := _ }) (v := ?v6x4) rfl (by kernel_rfl) (by kernel_rfl) (by kernel_rfl) (fun _ _ _ h => h) (Or.inl ⟨by rfl, ?hy6x4⟩) hHeld ?rest6x4
        case hy6x4 => (intro w hSw; go_simp <;> with_reducible rfl)
        try simp only [Act.put, List.setIfInBounds_toArray, List.set_cons_zero, List.set_cons_succ]
        refine wpAnyH_take (i := 4) (oi := { dst := some 106, op := _, type := _, pos := _, after := _, guard := _ }) (v := ?v6x5) rfl (by kernel_rfl) (by kernel_rfl) (by kernel_rfl) (fun _ _ _ h => h) (Or.inl ⟨by rfl, ?hy6x5⟩) hHeld ?rest6x5
        case hy6x5 => (intro w hSw; go_simp <;> with_reducible rfl)
        try simp only [Act.put, List.setIfInBounds_toArray, List.set_cons_zero, List.set_cons_succ]
        refine wpAnyH_take (i := 7) (oi := { dst := some 109, op := _, type := _, pos := _, after := _, guard := _ }) (v := ?v6x6) rfl (by kernel_rfl) (by kernel_rfl) (by kernel_rfl) (fun _ _ _ h => h) (Or.inl ⟨by rfl, ?hy6x6⟩) hHeld ?rest6x6
        case hy6x6 => (intro w hSw; go_simp <;> with_reducible rfl)
        try simp only [Act.put, List.setIfInBounds_toArray, List.set_cons_zero, List.set_cons_succ]
        refine wpAnyH_take (i := 8) (oi := { dst := some 110, op := _, type := _, pos := _, after := _, guard := _ }) (v := ?v6x7) rfl (by kernel_rfl) (by kernel_rfl) (by kernel_rfl) (fun _ _ _ h => h) (Or.inl ⟨by rfl, ?hy6x7⟩) hHeld ?rest6x7
        case hy6x7 => (intro w hSw; go_simp <;> with_reducible rfl)
        try simp only [Act.put, List.setIfInBounds_toArray, List.set_cons_zero, List.set_cons_succ]
        refine wpAnyH_ready (rs := [5]) (by kernel_rfl) (by simp) (AllReadyH.cons (o := { dst := some 107, op := _, type := _, pos := _, after := _, guard := _ }) rfl (fun K hK => ?_) AllReadyH.nil)
        go_simp
        refine (HLz.out _ (RZ.out.keep s7)).mono ?_
        rintro e w8 ⟨E, kE, rfl, lE, rE, b8⟩
        have s8 := below_on s7 b8
        have hsE := strOn rE
        have hsB8 := strOn (H0.out.keep (below_on BZ.out s8))
        go_wp2_with fail
        refine hK.out _ _ ?_ (fun hHeld => ?_)
        · exact below_on hHeld b8
        clear hK K
        try simp only [Act.put, List.setIfInBounds_toArray, List.set_cons_zero, List.set_cons_succ]
        refine wpAnyH_strong (S' := fun w' => Below w8.heap.size w8 w') (by intro w' h; exact below_on hHeld h) ?_
        replace hHeld : (fun w' => Below w8.heap.size w8 w') _ := Below.refl _ _
        refine wpAnyH_take (i := 6) (oi := { dst := some 108, op := _, type := _, pos := _, after := _, guard := _ }) (v := ?v6x9) rfl (by kernel_rfl) (by kernel_rfl) (by kernel_rfl) (fun _ _ _ h => h) (Or.inl ⟨by rfl, ?hy6x9⟩) hHeld ?rest6x9
        case hy6x9 => (intro w hSw; go_simp <;> with_reducible rfl)
        try simp only [Act.put, List.setIfInBounds_toArray, List.set_cons_zero, List.set_cons_succ]
        refine wpAnyH_take (i := 9) (oi := { dst := some 111, op := _, type := _, pos := _, after := _, guard := _ }) (v := ?v6x10) rfl (by kernel_rfl) (by kernel_rfl) (by kernel_rfl) (fun _ _ _ h => h) (Or.inl ⟨by rfl, ?hy6x10⟩) hHeld ?rest6x10
        case hy6x10 => (intro w hSw; go_simp <;> with_reducible rfl)
        try simp only [Act.put, List.setIfInBounds_toArray, List.set_cons_zero, List.set_cons_succ]
        refine wpAnyH_take (i := 10) (oi := { dst := some 112, op := _, type := _, pos := _, after := _, guard := _ }) (v := ?v6x11) rfl (by kernel_rfl) (by kernel_rfl) (by kernel_rfl) (fun _ _ _ h => h) (Or.inl ⟨by rfl, ?hy6x11⟩) hHeld ?rest6x11
        case hy6x11 => (intro w hSw; go_simp <;> with_reducible rfl)
        try simp only [Act.put, List.setIfInBounds_toArray, List.set_cons_zero, List.set_cons_succ]
        refine wpAnyH_done (by kernel_rfl) ?_ _
        clear hsE hsB hsB8 rE
        have j8 := JZ.out.keep s8
        have g8 := GZ.out.keep s8
        clear c0 c1 c2 c3 c4 c5 c6
        obtain ⟨j0, j1, j2, j3, j4, j5, j6⟩ := j8.seven
        obtain ⟨k0, k1, k2, k3, k4, k5, k6⟩ := g8.seven
        have jf := j8.frozen
        have J8 := hide j8
        have B8 := hide (below_on BZ.out s8)
        have R8 := hide (RZ.out.keep s8)
        clear j8 g8 hHeld
        clear s7 b7 s8 b8
        go_wp2_with fail
        (try simp only [Exit.inBlock, Exit.then])
        refine bodyPost_ret (results_cell_tmp rfl rfl (J8.out.set7 _ _ _ _ _ _ _) Try.underlying24 rfl (by kernel_rfl)) rfl ?_
        rw [HPz.out]
        exact ⟨(some ⟨U.heap.size, 0, none⟩), 1, 1, rfl, (Nat.le_refl _), R8.out.set7 NCg.out _ _ _ _ _ _ _, below_set7 B8.out (Nat.le_refl _) _ _ _ _ _ _ _⟩
      · have qs : (Y != xs) = true := by simp [hY]
        have qs2 : (!(Y == xs)) = true := by simp [hY]
        have HPz := HPy.out
        rw [if_neg (fun h => hY h.2)] at HPz
        replace HPz := hide HPz
        clear HPy
        clear hY
        refine wp_region_held_drew (S := fun w' => Below Z.heap.size Z w') (by kernel_rfl) ?_ (fun hHeld => ?_)
        · exact (Below.refl _ _).drew
        refine wpAnyH_take (i := 0) (oi := { dst := some 102, op := _, type := _, pos := _, after := _, guard := _ }) (v := ?v7x1) rfl (by kernel_rfl) (by kernel_rfl) (by kernel_rfl) (fun _ _ _ h => h) (Or.inl ⟨by rfl, ?hy7x1⟩) hHeld ?rest7x1
        case hy7x1 => (intro w hSw; go_simp <;> with_reducible rfl)
        try simp only [Act.put, List.setIfInBounds_toArray, List.set_cons_zero, List.set_cons_succ]
        refine wpAnyH_ready (rs := [1]) (by kernel_rfl) (by simp) (AllReadyH.cons (o := { dst := some 103, op := _, type := _, pos := _, after := _, guard := _ }) rfl (fun K hK => ?_) AllReadyH.nil)
        go_simp
        refine (HMz.out _ (RZ.out.keep hHeld)).mono ?_
        rintro e w7 ⟨rfl, b7⟩
        have s7 := below_on hHeld b7
        go_wp2_with fail
        refine hK.out _ _ ?_ (fun hHeld => ?_)
        · exact s7
        clear hK K
        try simp only [Act.put, List.setIfInBounds_toArray, List.set_cons_zero, List.set_cons_succ]
        refine wpAnyH_take (i := 2) (oi := { dst := some 104, op := _, type := _, pos := _, after := _, guard := _ }) (v := ?v7x3) rfl (by kernel_rfl) (by kernel_rfl) (by kernel_rfl) (fun _ _ _ h => h) (Or.inl ⟨by rfl, ?hy7x3⟩) hHeld ?rest7x3
        case hy7x3 => (intro w hSw; go_simp <;> with_reducible rfl)
        try simp only [Act.put, List.setIfInBounds_toArray, List.set_cons_zero, List.set_cons_succ]
        refine wpAnyH_take (i := 3) (oi := { dst := some 105, op := _, type := _, pos := _, after := _, guard := _ }) (v := ?v7x4) rfl (by kernel_rfl) (by kernel_rfl) (by kernel_rfl) (fun _ _ _ h => h) (Or.inl ⟨by rfl, ?hy7x4⟩) hHeld ?rest7x4
        case hy7x4 => (intro w hSw; go_simp <;> with_reducible rfl)
        try simp only [Act.put, List.setIfInBounds_toArray, List.set_cons_zero, List.set_cons_succ]
        refine wpAnyH_take (i := 4) (oi := { dst := some 106, op := _, type := _, pos := _, after := _, guard := _ }) (v := ?v7x5) rfl (by kernel_rfl) (by kernel_rfl) (by kernel_rfl) (fun _ _ _ h => h) (Or.inl ⟨by rfl, ?hy7x5⟩) hHeld ?rest7x5
        case hy7x5 => (intro w hSw; go_simp <;> with_reducible rfl)
        try simp only [Act.put, List.setIfInBounds_toArray, List.set_cons_zero, List.set_cons_succ]
        refine wpAnyH_take (i := 7) (oi := { dst := some 109, op := _, type := _, pos := _, after := _, guard := _ }) (v := ?v7x6) rfl (by kernel_rfl) (by kernel_rfl) (by kernel_rfl) (fun _ _ _ h => h) (Or.inl ⟨by rfl, ?hy7x6⟩) hHeld ?rest7x6
        case hy7x6 => (intro w hSw; go_simp <;> with_reducible rfl)
        try simp only [Act.put, List.setIfInBounds_toArray, List.set_cons_zero, List.set_cons_succ]
        refine wpAnyH_take (i := 8) (oi := { dst := some 110, op := _, type := _, pos := _, after := _, guard := _ }) (v := ?v7x7) rfl (by kernel_rfl) (by kernel_rfl) (by kernel_rfl) (fun _ _ _ h => h) (Or.inl ⟨by rfl, ?hy7x7⟩) hHeld ?rest7x7
        case hy7x7 => (intro w hSw; go_simp <;> with_reducible rfl)
        try simp only [Act.put, List.setIfInBounds_toArray, List.set_cons_zero, List.set_cons_succ]
        refine wpAnyH_ready (rs := [5]) (by kernel_rfl) (by simp) (AllReadyH.cons (o := { dst := some 107, op := _, type := _, pos := _, after := _, guard := _ }) rfl (fun K hK => ?_) AllReadyH.nil)
        go_simp
        refine (HLz.out _ (RZ.out.keep s7)).mono ?_
        rintro e w8 ⟨E, kE, rfl, lE, rE, b8⟩
        have s8 := below_on s7 b8
        have hsE := strOn rE
        have hsB8 := strOn (H0.out.keep (below_on BZ.out s8))
        go_wp2_with fail
        refine hK.out _ _ ?_ (fun hHeld => ?_)
        · exact below_on hHeld b8
        clear hK K
        try simp only [Act.put, List.setIfInBounds_toArray, List.set_cons_zero, List.set_cons_succ]
        refine wpAnyH_strong (S' := fun w' => Below w8.heap.size w8 w') (by intro w' h; exact below_on hHeld h) ?_
        replace hHeld : (fun w' => Below w8.heap.size w8 w') _ := Below.refl _ _
        refine wpAnyH_take (i := 6) (oi := { dst := some 108, op := _, type := _, pos := _, after := _, guard := _ }) (v := ?v7x9) rfl (by kernel_rfl) (by kernel_rfl) (by kernel_rfl) (fun _ _ _ h => h) (Or.inl ⟨by rfl, ?hy7x9⟩) hHeld ?rest7x9
        case hy7x9 => (intro w hSw; go_simp <;> with_reducible rfl)
        try simp only [Act.put, List.setIfInBounds_toArray, List.set_cons_zero, List.set_cons_succ]
        refine wpAnyH_take (i := 9) (oi := { dst := some 111, op := _, type := _, pos := _, after := _, guard := _ }) (v := ?v7x10) rfl (by kernel_rfl) (by kernel_rfl) (by kernel_rfl) (fun _ _ _ h => h) (Or.inl ⟨by rfl, ?hy7x10⟩) hHeld ?rest7x10
        case hy7x10 => (intro w hSw; go_simp <;> with_reducible rfl)
        try simp only [Act.put, List.setIfInBounds_toArray, List.set_cons_zero, List.set_cons_succ]
        refine wpAnyH_take (i := 10) (oi := { dst := some 112, op := _, type := _, pos := _, after := _, guard := _ }) (v := ?v7x11) rfl (by kernel_rfl) (by kernel_rfl) (by kernel_rfl) (fun _ _ _ h => h) (Or.inl ⟨by rfl, ?hy7x11⟩) hHeld ?rest7x11
        case hy7x11 => (intro w hSw; go_simp <;> with_reducible rfl)
        try simp only [Act.put, List.setIfInBounds_toArray, List.set_cons_zero, List.set_cons_succ]
        refine wpAnyH_done (by kernel_rfl) ?_ _
        clear hsE hsB hsB8 rE
        have j8 := JZ.out.keep s8
        have g8 := GZ.out.keep s8
        clear c0 c1 c2 c3 c4 c5 c6
        obtain ⟨j0, j1, j2, j3, j4, j5, j6⟩ := j8.seven
        obtain ⟨k0, k1, k2, k3, k4, k5, k6⟩ := g8.seven
        have jf := j8.frozen
        have J8 := hide j8
        have B8 := hide (below_on BZ.out s8)
        have R8 := hide (RZ.out.keep s8)
        clear j8 g8 hHeld
        clear s7 b7 s8 b8
        go_wp2_with fail
        (try simp only [Exit.inBlock, Exit.then])
        refine bodyPost_ret (results_cell_tmp rfl rfl (J8.out.set7 _ _ _ _ _ _ _) Try.underlying24 rfl (by kernel_rfl)) rfl ?_
        rw [HPz.out]
        exact ⟨none, 0, 0, rfl, Nat.le_refl _, Rd.nil _ _, below_set7 B8.out (Nat.le_refl _) _ _ _ _ _ _ _⟩

set_option maxRecDepth 100000 in
set_option maxHeartbeats 1000000 in
theorem refParse_6 (b o l c : Nat) (xs : List UInt8) (w : World) (h : Rd w (some ⟨b, o, none⟩) l (bv xs)) (cx0 : w.cell? ⟨b, o, none⟩ = some (.int .u8 6)) (hc : l ≤ c) (hl0 : 5 ≤ l) (hl6 : l ≤ 600) (hg : gs xs = ⟨6, wAt xs 1, 0, [wAt xs 3], 0, 0, 0⟩) :
    Calls Try.prog 18 #[.slice (some ⟨b, o, none⟩) l c] w (RetRqB ((parseL xs).getD Rq.none) (parseL xs).isSome w) := by
  have hbl : b < w.heap.size := block_lt_of_cell cx0
  have q0 : (0 : Int) < (l : Int) := by omega
  have q0n : 0 < l := by omega
  have q5 : decide ((l : Int) < 5) = false := by simp; omega
  have hsl1 := fun W => run_slTail (P := Try.prog) 28 5 Try.underlying28 u8_size (some ⟨b, o, none⟩) l c 1 1 rfl (by omega) W
  have hsl3 := fun W => run_slTail (P := Try.prog) 28 5 Try.underlying28 u8_size (some ⟨b, o, none⟩) l c 3 3 rfl (by omega) W
  have HW1 := hide (fun W (hr : Rd W (some ⟨b, o, none⟩) l (bv xs)) => refNum (some ⟨b, o, none⟩) l c 1 xs W hr hc (by omega))
  have HW3 := hide (fun W (hr : Rd W (some ⟨b, o, none⟩) l (bv xs)) => refNum (some ⟨b, o, none⟩) l c 3 xs W hr hc (by omega))
  have CX0 := hide cx0
  clear cx0
  have qd := quo_word (wAt xs 3) (wAt_bounds xs 3)
  have HG := hide hg
  clear hg
  generalize wAt xs 1 = a1 at *
  generalize wAt xs 3 = a3 at *
  have qw : IntKind.i64.wrap 6 = 6 := by decide
  go_enter Try.func18, Try.ntmps18
  go_wp2_with fail
  generalize hW : w.alloc _ = W
  have hBel : Below w.heap.size w W := by subst hW; exact (Below.refl _ _).alloc (Nat.le_refl _) _
  have hB0 : Blk W w.heap.size 24 [.int .i64 0, .int .i64 0, .int .i64 0, .slice none 0 0, .int .i64 0, .int .i64 0, .int .i64 0] := by subst hW; exact Blk.new _ _ _
  have cx : ∀ w', Below W.heap.size W w' → w'.cell? ⟨b, o, none⟩ = some (.int .u8 6) := fun w' hb => ((below_on hBel hb).cell (p := ⟨b, o, none⟩) hbl).trans CX0.out
  have R0 := hide (h.keep hBel)
  have HB0 := hide hB0
  have HBel := hide hBel
  have H0 := hide h
  clear hW hB0 hBel h
  refine wp_region_held_drew (S := fun w' => Below W.heap.size W w') (by kernel_rfl) ?_ (fun hHeld => ?_)
  · exact (Below.refl _ _).drew
  refine wpAnyH_take (i := 0) (oi := { dst := some 10, op := _, type := _, pos := _, after := _, guard := _ }) (v := ?v8x1) rfl (by kernel_rfl) (by kernel_rfl) (by kernel_rfl) (fun _ _ _ h => h) (Or.inl ⟨by rfl, ?hy8x1⟩) hHeld ?rest8x1
  case hy8x1 => (intro w hSw; go_simp <;> with_reducible rfl)
  try simp only [Act.put, List.setIfInBounds_toArray, List.set_cons_zero, List.set_cons_succ]
  refine wpAnyH_take (i := 1) (oi := { dst := some 11, op := _, type := _, pos := _, after := _, guard := _ }) (v := ?v8x2) rfl (by kernel_rfl) (by kernel_rfl) (by kernel_rfl) (fun _ _ _ h => h) (Or.inl ⟨by rfl, ?hy8x2⟩) hHeld ?rest8x2
  case hy8x2 => (intro w hSw; go_simp <;> with_reducible rfl)
  try simp only [Act.put, List.setIfInBounds_toArray, List.set_cons_zero, List.set_cons_succ]
  refine wpAnyH_take (i := 2) (oi := { dst := some 12, op := _, type := _, pos := _, after := _, guard := _ }) (v := ?v8x3) rfl (by kernel_rfl) (by kernel_rfl) (by kernel_rfl) (fun _ _ _ h => h) (Or.inl ⟨by rfl, ?hy8x3⟩) hHeld ?rest8x3
  case hy8x3 => (intro w hSw; go_simp <;> with_reducible rfl)
  try simp only [Act.put, List.setIfInBounds_toArray, List.set_cons_zero, List.set_cons_succ]
  refine wpAnyH_take (i := 3) (oi := { dst := some 13, op := _, type := _, pos := _, after := _, guard := _ }) (v := ?v8x4) rfl (by kernel_rfl) (by kernel_rfl) (by kernel_rfl) (fun _ _ _ h => h) (Or.inl ⟨by rfl, ?hy8x4⟩) hHeld ?rest8x4
  case hy8x4 => (intro w hSw; go_simp <;> with_reducible rfl)
  try simp only [Act.put, List.setIfInBounds_toArray, List.set_cons_zero, List.set_cons_succ]
  refine wpAnyH_take (i := 4) (oi := { dst := some 14, op := _, type := _, pos := _, after := _, guard := _ }) (v := ?v8x5) rfl (by kernel_rfl) (by kernel_rfl) (by kernel_rfl) (fun _ _ _ h => h) (Or.inl ⟨by rfl, ?hy8x5⟩) hHeld ?rest8x5
  case hy8x5 => (intro w hSw; go_simp <;> with_reducible rfl)
  try simp only [Act.put, List.setIfInBounds_toArray, List.set_cons_zero, List.set_cons_succ]
  refine wpAnyH_take (i := 5) (oi := { dst := some 15, op := _, type := _, pos := _, after := _, guard := _ }) (v := ?v8x6) rfl (by kernel_rfl) (by kernel_rfl) (by kernel_rfl) (fun _ _ _ h => h) (Or.inl ⟨by rfl, ?hy8x6⟩) hHeld ?rest8x6
  case hy8x6 => (intro w hSw; go_simp <;> with_reducible rfl)
  try simp only [Act.put, List.setIfInBounds_toArray, List.set_cons_zero, List.set_cons_succ]
  refine wpAnyH_ready (rs := [6, 8]) (by kernel_rfl) (by simp) (AllReadyH.cons (o := { dst := some 16, op := _, type := _, pos := _, after := _, guard := _ }) rfl (fun K hK => ?way8x7x6) (AllReadyH.cons (o := { dst := some 4, op := _, type := _, pos := _, after := _, guard := _ }) rfl (fun K hK => ?way8x7x8) AllReadyH.nil))
  case' way8x7x6 =>
    go_simp
    refine (HW1.out _ (R0.out.keep hHeld)).mono ?_
    rintro e w1 ⟨rfl, nq, rfl⟩
    go_wp2_with fail
    refine hK.out _ _ ?_ (fun hHeld => ?_)
    · exact below_same hHeld rfl rfl rfl rfl
    clear hK K
    try simp only [Act.put, List.setIfInBounds_toArray, List.set_cons_zero, List.set_cons_succ]
    refine wpAnyH_take (i := 7) (oi := { dst := some 17, op := _, type := _, pos := _, after := _, guard := _ }) (v := ?v8x8) rfl (by kernel_rfl) (by kernel_rfl) (by kernel_rfl) (fun _ _ _ h => h) (Or.inl ⟨by rfl, ?hy8x8⟩) hHeld ?rest8x8
    case hy8x8 => (intro w hSw; go_simp <;> with_reducible rfl)
    try simp only [Act.put, List.setIfInBounds_toArray, List.set_cons_zero, List.set_cons_succ]
    refine wpAnyH_ready (rs := [8]) (by kernel_rfl) (by simp) (AllReadyH.cons (o := { dst := some 4, op := _, type := _, pos := _, after := _, guard := _ }) rfl (fun K hK => ?_) AllReadyH.nil)
    go_simp
    go_wp2_with fail
    refine hK.out _ _ ?_ (fun hHeld => ?_)
    · exact hHeld.alloc hHeld.size _
    clear hK K
    try simp only [Act.put, List.setIfInBounds_toArray, List.set_cons_zero, List.set_cons_succ]
    refine wpAnyH_ready (rs := [9]) (by kernel_rfl) (by simp) (AllReadyH.cons (o := { dst := none, op := _, type := _, pos := _, after := _, guard := _ }) rfl (fun K hK => ?_) AllReadyH.nil)
    rw [if_pos (by rfl)]
    refine op_storeB 24 (.tmp 4) (.tmp 17) rfl W.heap.size 24 [.int .i64 0, .int .i64 0, .int .i64 0, .slice none 0 0, .int .i64 0, .int .i64 0, .int .i64 0] [.int .i64 6, .int .i64 a1, .int .i64 0, .slice none 0 0, .int .i64 0, .int .i64 0, .int .i64 0] rfl rfl (by first | exact Blk.new (W.drewN _) _ _ | exact Blk.new W _ _) rfl (by kernel_rfl) (by intro v hv; simp at hv; rcases hv with rfl | rfl | rfl | rfl | rfl | rfl | rfl <;> rfl) ?_
    intro V kV bV
    have sV := bV _ _ (Nat.le_refl _) hHeld
    refine hK.out _ _ ?_ (fun hHeld => ?_)
    · exact sV
    clear hK K
    try simp only [Act.put, List.setIfInBounds_toArray, List.set_cons_zero, List.set_cons_succ]
    refine wpAnyH_done (by kernel_rfl) ?_ _
  case' way8x7x8 =>
    go_simp
    go_wp2_with fail
    refine hK.out _ _ ?_ (fun hHeld => ?_)
    · exact hHeld.alloc hHeld.size _
    clear hK K
    try simp only [Act.put, List.setIfInBounds_toArray, List.set_cons_zero, List.set_cons_succ]
    refine wpAnyH_ready (rs := [6]) (by kernel_rfl) (by simp) (AllReadyH.cons (o := { dst := some 16, op := _, type := _, pos := _, after := _, guard := _ }) rfl (fun K hK => ?_) AllReadyH.nil)
    go_simp
    refine (HW1.out _ (R0.out.keep hHeld)).mono ?_
    rintro e w1 ⟨rfl, nq, rfl⟩
    go_wp2_with fail
    refine hK.out _ _ ?_ (fun hHeld => ?_)
    · exact below_same hHeld rfl rfl rfl rfl
    clear hK K
    try simp only [Act.put, List.setIfInBounds_toArray, List.set_cons_zero, List.set_cons_succ]
    refine wpAnyH_take (i := 7) (oi := { dst := some 17, op := _, type := _, pos := _, after := _, guard := _ }) (v := ?v8x12) rfl (by kernel_rfl) (by kernel_rfl) (by kernel_rfl) (fun _ _ _ h => h) (Or.inl ⟨by rfl, ?hy8x12⟩) hHeld ?rest8x12
    case hy8x12 => (intro w hSw; go_simp <;> with_reducible rfl)
    try simp only [Act.put, List.setIfInBounds_toArray, List.set_cons_zero, List.set_cons_succ]
    refine wpAnyH_ready (rs := [9]) (by kernel_rfl) (by simp) (AllReadyH.cons (o := { dst := none, op := _, type := _, pos := _, after := _, guard := _ }) rfl (fun K hK => ?_) AllReadyH.nil)
    rw [if_pos (by rfl)]
    refine op_storeB 24 (.tmp 4) (.tmp 17) rfl W.heap.size 24 [.int .i64 0, .int .i64 0, .int .i64 0, .slice none 0 0, .int .i64 0, .int .i64 0, .int .i64 0] [.int .i64 6, .int .i64 a1, .int .i64 0, .slice none 0 0, .int .i64 0, .int .i64 0, .int .i64 0] rfl rfl (by first | exact Blk.new (W.drewN _) _ _ | exact Blk.new W _ _) rfl (by kernel_rfl) (by intro v hv; simp at hv; rcases hv with rfl | rfl | rfl | rfl | rfl | rfl | rfl <;> rfl) ?_
    intro V kV bV
    have sV := bV _ _ (Nat.le_refl _) hHeld
    refine hK.out _ _ ?_ (fun hHeld => ?_)
    · exact sV
    clear hK K
    try simp only [Act.put, List.setIfInBounds_toArray, List.set_cons_zero, List.set_cons_succ]
    refine wpAnyH_done (by kernel_rfl) ?_ _
  · skip
    have RV := hide (R0.out.keep sV)
    have KV := hide kV
    have SV := hide sV
    have KW := hide (HB0.out.keep sV)
    have hne : w.heap.size < W.heap.size := HB0.out.lt
    have hltV : W.heap.size < V.heap.size := KV.out.lt
    have hltW : w.heap.size < V.heap.size := KW.out.lt
    clear R0 kV sV HB0 cx hHeld bV hsl1
    go_wp2_with fail
    refine (HW3.out _ RV.out).mono ?_
    rintro e w1 ⟨rfl, n2, rfl⟩
    have kV2 : Blk (V.drewN n2) W.heap.size 24 _ := KV.out
    have kW2 : Blk (V.drewN n2) w.heap.size 24 _ := KW.out
    have sV2 : Below W.heap.size W (V.drewN n2) := below_drewN SV.out n2
    have rV2 : Rd (V.drewN n2) (some ⟨b, o, none⟩) l (bv xs) := RV.out
    generalize V.drewN n2 = U at *
    clear KV KW RV SV hltV hltW hsl3
    clear V
    have RU := hide rV2
    have SU := hide sV2
    have hne1 : W.heap.size ≠ w.heap.size := by omega
    have hne2 : w.heap.size ≠ W.heap.size := by omega
    have hltV : W.heap.size < U.heap.size := kV2.lt
    have hltW : w.heap.size < U.heap.size := kW2.lt
    obtain ⟨k0, k1, k2, k3, k4, k5, k6⟩ := kV2.seven
    obtain ⟨j0, j1, j2, j3, j4, j5, j6⟩ := kW2.seven
    have kf := kV2.frozen
    have jf := kW2.frozen
    have KU := hide kV2
    have KW := hide kW2
    clear rV2 sV2 kV2 kW2
    have hmm : 1 ≤ 1000000 := by omega
    have GZ : Hid (Blk ((U.setCell ⟨W.heap.size, 3, none⟩ (.slice (some ⟨U.heap.size, 0, none⟩) 1 1)).alloc (.cells #[.int .i64 a3] 3)) W.heap.size 24 [.int .i64 6, .int .i64 a1, .int .i64 0, .slice (some ⟨U.heap.size, 0, none⟩) 1 1, .int .i64 0, .int .i64 0, .int .i64 0]) := Blk.al (KU.out.set 3 _) _
    have JZ : Hid (Blk ((U.setCell ⟨W.heap.size, 3, none⟩ (.slice (some ⟨U.heap.size, 0, none⟩) 1 1)).alloc (.cells #[.int .i64 a3] 3)) w.heap.size 24 _) := (KW.out.oth hne1 3 _).al _
    have BZ : Hid (Below w.heap.size w ((U.setCell ⟨W.heap.size, 3, none⟩ (.slice (some ⟨U.heap.size, 0, none⟩) 1 1)).alloc (.cells #[.int .i64 a3] 3))) := ((below_on HBel.out SU.out).setCell (Nat.le_of_lt hne) _).alloc (by simpa using Nat.le_of_lt hltW) _
    have RZ : Hid (Rd ((U.setCell ⟨W.heap.size, 3, none⟩ (.slice (some ⟨U.heap.size, 0, none⟩) 1 1)).alloc (.cells #[.int .i64 a3] 3)) (some ⟨U.heap.size, 0, none⟩) 1 (iv [a3])) := rd_new _ _ (by simp) _ [_] 1 rfl
    go_wp2_with fail
    clear k0 k1 k2 k3 k4 k5 k6 j0 j1 j2 j3 j4 j5 j6 kf jf
    generalize (U.setCell ⟨W.heap.size, 3, none⟩ (.slice (some ⟨U.heap.size, 0, none⟩) 1 1)).alloc (.cells #[.int .i64 a3] 3) = Z at *
    have NCg : Hid (∀ b o, (some ⟨U.heap.size, 0, none⟩ : Option Addr) = some ⟨b, o, none⟩ → b ≠ w.heap.size) := fun b o e => by injection e with e; injection e with e; omega
    clear KU KW RU SU HW1 HW3 CX0 qd hltV hltW
    go_wp2_with fail
    have c0 := GZ.out.on 0 _ rfl
    have c1 := GZ.out.on 1 _ rfl
    have c2 := GZ.out.on 2 _ rfl
    have c3 := GZ.out.on 3 _ rfl
    have c4 := GZ.out.on 4 _ rfl
    have c5 := GZ.out.on 5 _ rfl
    have c6 := GZ.out.on 6 _ rfl
    have HMz := hide (fun W' hr => refMay_any 6 a1 0 0 0 0 (some ⟨U.heap.size, 0, none⟩) 1 1 [a3] W' hr hmm)
    cases hbM : mayB 6 a1 0 [a3] 0 0 0
    · rw [hbM] at HMz
      have HPz := hide (show parseL xs = none from by rw [parse_eq xs 6 a1 0 [a3] 0 0 0 HG.out, hbM, if_neg (by simp)])
      clear hbM
      refine wp_region_held_drew (S := fun w' => Below Z.heap.size Z w') (by kernel_rfl) ?_ (fun hHeld => ?_)
      · exact (Below.refl _ _).drew
      refine wpAnyH_take (i := 0) (oi := { dst := some 102, op := _, type := _, pos := _, after := _, guard := _ }) (v := ?v9x1) rfl (by kernel_rfl) (by kernel_rfl) (by kernel_rfl) (fun _ _ _ h => h) (Or.inl ⟨by rfl, ?hy9x1⟩) hHeld ?rest9x1
      case hy9x1 => (intro w hSw; go_simp <;> with_reducible rfl)
      try simp only [Act.put, List.setIfInBounds_toArray, List.set_cons_zero, List.set_cons_succ]
      refine wpAnyH_ready (rs := [1]) (by kernel_rfl) (by simp) (AllReadyH.cons (o := { dst := some 103, op := _, type := _, pos := _, after := _, guard := _ }) rfl (fun K hK => ?_) AllReadyH.nil)
      go_simp
      refine (HMz.out _ (RZ.out.keep hHeld)).mono ?_
      rintro e w7 ⟨rfl, b7⟩
      have s7 := below_on hHeld b7
      go_wp2_with fail
      refine hK.out _ _ ?_ (fun hHeld => ?_)
      · exact s7
      clear hK K
      try simp only [Act.put, List.setIfInBounds_toArray, List.set_cons_zero, List.set_cons_succ]
      refine wpAnyH_take (i := 2) (oi := { dst := some 104, op := _, type := _, pos := _, after := _, guard := _ }) (v := ?v9x3) rfl (by kernel_rfl) (by kernel_rfl) (by kernel_rfl) (fun _ _ _ h => h) (Or.inl ⟨by rfl, ?hy9x3⟩) hHeld ?rest9x3
      case hy9x3 => (intro w hSw; go_simp <;> with_reducible rfl)
      try simp only [Act.put, List.setIfInBounds_toArray, List.set_cons_zero, List.set_cons_succ]
      refine wpAnyH_take (i := 3) (oi := { dst := some 105, op := _, type := _, pos := _, after := _, guard := _ }) (v := ?v9x4) rfl (by kernel_rfl) (by kernel_rfl) (by kernel_rfl) (fun _ _ _ h => h) (Or.inl ⟨by rfl, ?hy9x4⟩) hHeld ?rest9x4
      case hy9x4 => (intro w hSw; go_simp <;> with_reducible rfl)
      try simp only [Act.put, List.setIfInBounds_toArray, List.set_cons_zero, List.set_cons_succ]
      refine wpAnyH_take (i := 4) (oi := { dst := some 106, op := _, type := _, pos := _, after := _, guard := _ }) (v := undef) rfl (by kernel_rfl) (by kernel_rfl) (by kernel_rfl) (fun _ _ _ h => h) (Or.inr ⟨by rfl, rfl⟩) hHeld ?_
      try simp only [Act.put, List.setIfInBounds_toArray, List.set_cons_zero, List.set_cons_succ]
      refine wpAnyH_take (i := 5) (oi := { dst := some 107, op := _, type := _, pos := _, after := _, guard := _ }) (v := undef) rfl (by kernel_rfl) (by kernel_rfl) (by kernel_rfl) (fun _ _ _ h => h) (Or.inr ⟨by rfl, rfl⟩) hHeld ?_
      try simp only [Act.put, List.setIfInBounds_toArray, List.set_cons_zero, List.set_cons_succ]
      refine wpAnyH_take (i := 6) (oi := { dst := some 108, op := _, type := _, pos := _, after := _, guard := _ }) (v := undef) rfl (by kernel_rfl) (by kernel_rfl) (by kernel_rfl) (fun _ _ _ h => h) (Or.inr ⟨by rfl, rfl⟩) hHeld ?_
      try simp only [Act.put, List.setIfInBounds_toArray, List.set_cons_zero, List.set_cons_succ]
      refine wpAnyH_take (i := 7) (oi := { dst := some 109, op := _, type := _, pos := _, after := _, guard := _ }) (v := undef) rfl (by kernel_rfl) (by kernel_rfl) (by kernel_rfl) (fun _ _ _ h => h) (Or.inr ⟨by rfl, rfl⟩) hHeld ?_
      try simp only [Act.put, List.setIfInBounds_toArray, List.set_cons_zero, List.set_cons_succ]
      refine wpAnyH_take (i := 8) (oi := { dst := some 110, op := _, type := _, pos := _, after := _, guard := _ }) (v := undef) rfl (by kernel_rfl) (by kernel_rfl) (by kernel_rfl) (fun _ _ _ h => h) (Or.inr ⟨by rfl, rfl⟩) hHeld ?_
      try simp only [Act.put, List.setIfInBounds_toArray, List.set_cons_zero, List.set_cons_succ]
      refine wpAnyH_take (i := 9) (oi := { dst := some 111, op := _, type := _, pos := _, after := _, guard := _ }) (v := undef) rfl (by kernel_rfl) (by kernel_rfl) (by kernel_rfl) (fun _ _ _ h => h) (Or.inr ⟨by rfl, rfl⟩) hHeld ?_
      try simp only [Act.put, List.setIfInBounds_toArray, List.set_cons_zero, List.set_cons_succ]
      refine wpAnyH_take (i := 10) (oi := { dst := some 112, op := _, type := _, pos := _, after := _, guard := _ }) (v := ?v9x11) rfl (by kernel_rfl) (by kernel_rfl) (by kernel_rfl) (fun _ _ _ h => h) (Or.inl ⟨by rfl, ?hy9x11⟩) hHeld ?rest9x11
      case hy9x11 => (intro w hSw; go_simp <;> with_reducible rfl)
      try simp only [Act.put, List.setIfInBounds_toArray, List.set_cons_zero, List.set_cons_succ]
      refine wpAnyH_done (by kernel_rfl) ?_ _
      have j8 := JZ.out.keep s7
      have g8 := GZ.out.keep s7
      clear c0 c1 c2 c3 c4 c5 c6
      obtain ⟨j0, j1, j2, j3, j4, j5, j6⟩ := j8.seven
      obtain ⟨k0, k1, k2, k3, k4, k5, k6⟩ := g8.seven
      have jf := j8.frozen
      have J8 := hide j8
      have B8 := hide (below_on BZ.out s7)
      have R8 := hide (RZ.out.keep s7)
      clear j8 g8 hHeld
      clear s7 b7
      go_wp2_with fail
      (try simp only [Exit.inBlock, Exit.then])
      refine bodyPost_ret (results_cell_tmp rfl rfl (J8.out.set7 _ _ _ _ _ _ _) Try.underlying24 rfl (by kernel_rfl)) rfl ?_
      rw [HPz.out]
      exact ⟨none, 0, 0, rfl, Nat.le_refl _, Rd.nil _ _, below_set7 B8.out (Nat.le_refl _) _ _ _ _ _ _ _⟩
    · have HLz := hide (fun W' hr => refBytes_any 6 a1 0 0 0 0 (some ⟨U.heap.size, 0, none⟩) 1 1 [a3] W' hr hbM)
      rw [hbM] at HMz
      have HPy := hide (show parseL xs = _ from by rw [parse_eq xs 6 a1 0 [a3] 0 0 0 HG.out, hbM])
      clear hbM
      generalize layL 6 a1 0 [a3] 0 0 0 = Y at *
      have hsB := strOn (H0.out.keep BZ.out)
      by_cases hY : Y = xs
      · have qs : (Y != xs) = false := by simp [hY]
        have qs2 : (!(Y == xs)) = false := by simp [hY]
        have HPz := HPy.out
        rw [if_pos ⟨rfl, hY⟩] at HPz
        replace HPz := hide HPz
        clear HPy
        clear hY
        refine wp_region_held_drew (S := fun w' => Below Z.heap.size Z w') (by kernel_rfl) ?_ (fun hHeld => ?_)
        · exact (Below.refl _ _).drew
        refine wpAnyH_take (i := 0) (oi := { dst := some 102, op := _, type := _, pos := _, after := _, guard := _ }) (v := ?v10x1) rfl (by kernel_rfl) (by kernel_rfl) (by kernel_rfl) (fun _ _ _ h => h) (Or.inl ⟨by rfl, ?hy10x1⟩) hHeld ?rest10x1
        case hy10x1 => (intro w hSw; go_simp <;> with_reducible rfl)
        try simp only [Act.put, List.setIfInBounds_toArray, List.set_cons_zero, List.set_cons_succ]
        refine wpAnyH_ready (rs := [1]) (by kernel_rfl) (by simp) (AllReadyH.cons (o := { dst := some 103, op := _, type := _, pos := _, after := _, guard := _ }) rfl (fun K hK => ?_) AllReadyH.nil)
        go_simp
        refine (HMz.out _ (RZ.out.keep hHeld)).mono ?_
        rintro e w7 ⟨rfl, b7⟩
        have s7 := below_on hHeld b7
        go_wp2_with fail
        refine hK.out _ _ ?_ (fun hHeld => ?_)
        · exact s7
        clear hK K
        try simp only [Act.put, List.setIfInBounds_toArray, List.set_cons_zero, List.set_cons_succ]
        refine wpAnyH_take (i := 2) (oi := { dst := some 104, op := _, type := _, pos := _, after := _, guard := _ }) (v := ?v10x3) rfl (by kernel_rfl) (by kernel_rfl) (by kernel_rfl) (fun _ _ _ h => h) (Or.inl ⟨by rfl, ?hy10x3⟩) hHeld ?rest10x3
        case hy10x3 => (intro w hSw; go_simp <;> with_reducible rfl)
        try simp only [Act.put, List.setIfInBounds_toArray, List.set_cons_zero, List.set_cons_succ]
        refine wpAnyH_take (i := 3) (oi := { dst := some 105, op := _, type := _, pos := _, after := _, guard := _ }) (v := ?v10x4) rfl (by kernel_rfl) (by kernel_rfl) (by kernel_rfl) (fun _ _ _ h => h) (Or.inl ⟨by rfl, ?hy10x4⟩) hHeld ?rest10x4
        case hy10x4 => (intro w hSw; go_simp <;> with_reducible rfl)
        try simp only [Act.put, List.setIfInBounds_toArray, List.set_cons_zero, List.set_cons_succ]
        refine wpAnyH_take (i := 4) (oi := { dst := some 106, op := _, type := _, pos := _, after := _, guard := _ }) (v := ?v10x5) rfl (by kernel_rfl) (by kernel_rfl) (by kernel_rfl) (fun _ _ _ h => h) (Or.inl ⟨by rfl, ?hy10x5⟩) hHeld ?rest10x5
        case hy10x5 => (intro w hSw; go_simp <;> with_reducible rfl)
        try simp only [Act.put, List.setIfInBounds_toArray, List.set_cons_zero, List.set_cons_succ]
        refine wpAnyH_take (i := 7) (oi := { dst := some 109, op := _, type := _, pos := _, after := _, guard := _ }) (v := ?v10x6) rfl (by kernel_rfl) (by kernel_rfl) (by kernel_rfl) (fun _ _ _ h => h) (Or.inl ⟨by rfl, ?hy10x6⟩) hHeld ?rest10x6
        case hy10x6 => (intro w hSw; go_simp <;> with_reducible rfl)
        try simp only [Act.put, List.setIfInBounds_toArray, List.set_cons_zero, List.set_cons_succ]
        refine wpAnyH_take (i := 8) (oi := { dst := some 110, op := _, type := _, pos := _, after := _, guard := _ }) (v := ?v10x7) rfl (by kernel_rfl) (by kernel_rfl) (by kernel_rfl) (fun _ _ _ h => h) (Or.inl ⟨by rfl, ?hy10x7⟩) hHeld ?rest10x7
        case hy10x7 => (intro w hSw; go_simp <;> with_reducible rfl)
        try simp only [Act.put, List.setIfInBounds_toArray, List.set_cons_zero, List.set_cons_succ]
        refine wpAnyH_ready (rs := [5]) (by kernel_rfl) (by simp) (AllReadyH.cons (o := { dst := some 107, op := _, type := _, pos := _, after := _, guard := _ }) rfl (fun K hK => ?_) AllReadyH.nil)
        go_simp
        refine (HLz.out _ (RZ.out.keep s7)).mono ?_
        rintro e w8 ⟨E, kE, rfl, lE, rE, b8⟩
        have s8 := below_on s7 b8
        have hsE := strOn rE
        have hsB8 := strOn (H0.out.keep (below_on BZ.out s8))
        go_wp2_with fail
        refine hK.out _ _ ?_ (fun hHeld => ?_)
        · exact below_on hHeld b8
        clear hK K
        try simp only [Act.put, List.setIfInBounds_toArray, List.set_cons_zero, List.set_cons_succ]
        refine wpAnyH_strong (S' := fun w' => Below w8.heap.size w8 w') (by intro w' h; exact below_on hHeld h) ?_
        replace hHeld : (fun w' => Below w8.heap.size w8 w') _ := Below.refl _ _
        refine wpAnyH_take (i := 6) (oi := { dst := some 108, op := _, type := _, pos := _, after := _, guard := _ }) (v := ?v10x9) rfl (by kernel_rfl) (by kernel_rfl) (by kernel_rfl) (fun _ _ _ h => h) (Or.inl ⟨by rfl, ?hy10x9⟩) hHeld ?rest10x9
        case hy10x9 => (intro w hSw; go_simp <;> with_reducible rfl)
        try simp only [Act.put, List.setIfInBounds_toArray, List.set_cons_zero, List.set_cons_succ]
        refine wpAnyH_take (i := 9) (oi := { dst := some 111, op := _, type := _, pos := _, after := _, guard := _ }) (v := ?v10x10) rfl (by kernel_rfl) (by kernel_rfl) (by kernel_rfl) (fun _ _ _ h => h) (Or.inl ⟨by rfl, ?hy10x10⟩) hHeld ?rest10x10
        case hy10x10 => (intro w hSw; go_simp <;> with_reducible rfl)
        try simp only [Act.put, List.setIfInBounds_toArray, List.set_cons_zero, List.set_cons_succ]
        refine wpAnyH_take (i := 10) (oi := { dst := some 112, op := _, type := _, pos := _, after := _, guard := _ }) (v := ?v10x11) rfl (by kernel_rfl) (by kernel_rfl) (by kernel_rfl) (fun _ _ _ h => h) (Or.inl ⟨by rfl, ?hy10x11⟩) hHeld ?rest10x11
        case hy10x11 => (intro w hSw; go_simp <;> with_reducible rfl)
        try simp only [Act.put, List.setIfInBounds_toArray, List.set_cons_zero, List.set_cons_succ]
        refine wpAnyH_done (by kernel_rfl) ?_ _
        clear hsE hsB hsB8 rE
        have j8 := JZ.out.keep s8
        have g8 := GZ.out.keep s8
        clear c0 c1 c2 c3 c4 c5 c6
        obtain ⟨j0, j1, j2, j3, j4, j5, j6⟩ := j8.seven
        obtain ⟨k0, k1, k2, k3, k4, k5, k6⟩ := g8.seven
        have jf := j8.frozen
        have J8 := hide j8
        have B8 := hide (below_on BZ.out s8)
        have R8 := hide (RZ.out.keep s8)
        clear j8 g8 hHeld
        clear s7 b7 s8 b8
        go_wp2_with fail
        (try simp only [Exit.inBlock, Exit.then])
        refine bodyPost_ret (results_cell_tmp rfl rfl (J8.out.set7 _ _ _ _ _ _ _) Try.underlying24 rfl (by kernel_rfl)) rfl ?_
        rw [HPz.out]
        exact ⟨(some ⟨U.heap.size, 0, none⟩), 1, 1, rfl, (Nat.le_refl _), R8.out.set7 NCg.out _ _ _ _ _ _ _, below_set7 B8.out (Nat.le_refl _) _ _ _ _ _ _ _⟩
      · have qs : (Y != xs) = true := by simp [hY]
        have qs2 : (!(Y == xs)) = true := by simp [hY]
        have HPz := HPy.out
        rw [if_neg (fun h => hY h.2)] at HPz
        replace HPz := hide HPz
        clear HPy
        clear hY
        refine wp_region_held_drew (S := fun w' => Below Z.heap.size Z w') (by kernel_rfl) ?_ (fun hHeld => ?_)
        · exact (Below.refl _ _).drew
        refine wpAnyH_take (i := 0) (oi := { dst := some 102, op := _, type := _, pos := _, after := _, guard := _ }) (v := ?v11x1) rfl (by kernel_rfl) (by kernel_rfl) (by kernel_rfl) (fun _ _ _ h => h) (Or.inl ⟨by rfl, ?hy11x1⟩) hHeld ?rest11x1
        case hy11x1 => (intro w hSw; go_simp <;> with_reducible rfl)
        try simp only [Act.put, List.setIfInBounds_toArray, List.set_cons_zero, List.set_cons_succ]
        refine wpAnyH_ready (rs := [1]) (by kernel_rfl) (by simp) (AllReadyH.cons (o := { dst := some 103, op := _, type := _, pos := _, after := _, guard := _ }) rfl (fun K hK => ?_) AllReadyH.nil)
        go_simp
        refine (HMz.out _ (RZ.out.keep hHeld)).mono ?_
        rintro e w7 ⟨rfl, b7⟩
        have s7 := below_on hHeld b7
        go_wp2_with fail
        refine hK.out _ _ ?_ (fun hHeld => ?_)
        · exact s7
        clear hK K
        try simp only [Act.put, List.setIfInBounds_toArray, List.set_cons_zero, List.set_cons_succ]
        refine wpAnyH_take (i := 2) (oi := { dst := some 104, op := _, type := _, pos := _, after := _, guard := _ }) (v := ?v11x3) rfl (by kernel_rfl) (by kernel_rfl) (by kernel_rfl) (fun _ _ _ h => h) (Or.inl ⟨by rfl, ?hy11x3⟩) hHeld ?rest11x3
        case hy11x3 => (intro w hSw; go_simp <;> with_reducible rfl)
        try simp only [Act.put, List.setIfInBounds_toArray, List.set_cons_zero, List.set_cons_succ]
        refine wpAnyH_take (i := 3) (oi := { dst := some 105, op := _, type := _, pos := _, after := _, guard := _ }) (v := ?v11x4) rfl (by kernel_rfl) (by kernel_rfl) (by kernel_rfl) (fun _ _ _ h => h) (Or.inl ⟨by rfl, ?hy11x4⟩) hHeld ?rest11x4
        case hy11x4 => (intro w hSw; go_simp <;> with_reducible rfl)
        try simp only [Act.put, List.setIfInBounds_toArray, List.set_cons_zero, List.set_cons_succ]
        refine wpAnyH_take (i := 4) (oi := { dst := some 106, op := _, type := _, pos := _, after := _, guard := _ }) (v := ?v11x5) rfl (by kernel_rfl) (by kernel_rfl) (by kernel_rfl) (fun _ _ _ h => h) (Or.inl ⟨by rfl, ?hy11x5⟩) hHeld ?rest11x5
        case hy11x5 => (intro w hSw; go_simp <;> with_reducible rfl)
        try simp only [Act.put, List.setIfInBounds_toArray, List.set_cons_zero, List.set_cons_succ]
        refine wpAnyH_take (i := 7) (oi := { dst := some 109, op := _, type := _, pos := _, after := _, guard := _ }) (v := ?v11x6) rfl (by kernel_rfl) (by kernel_rfl) (by kernel_rfl) (fun _ _ _ h => h) (Or.inl ⟨by rfl, ?hy11x6⟩) hHeld ?rest11x6
        case hy11x6 => (intro w hSw; go_simp <;> with_reducible rfl)
        try simp only [Act.put, List.setIfInBounds_toArray, List.set_cons_zero, List.set_cons_succ]
        refine wpAnyH_take (i := 8) (oi := { dst := some 110, op := _, type := _, pos := _, after := _, guard := _ }) (v := ?v11x7) rfl (by kernel_rfl) (by kernel_rfl) (by kernel_rfl) (fun _ _ _ h => h) (Or.inl ⟨by rfl, ?hy11x7⟩) hHeld ?rest11x7
        case hy11x7 => (intro w hSw; go_simp <;> with_reducible rfl)
        try simp only [Act.put, List.setIfInBounds_toArray, List.set_cons_zero, List.set_cons_succ]
        refine wpAnyH_ready (rs := [5]) (by kernel_rfl) (by simp) (AllReadyH.cons (o := { dst := some 107, op := _, type := _, pos := _, after := _, guard := _ }) rfl (fun K hK => ?_) AllReadyH.nil)
        go_simp
        refine (HLz.out _ (RZ.out.keep s7)).mono ?_
        rintro e w8 ⟨E, kE, rfl, lE, rE, b8⟩
        have s8 := below_on s7 b8
        have hsE := strOn rE
        have hsB8 := strOn (H0.out.keep (below_on BZ.out s8))
        go_wp2_with fail
        refine hK.out _ _ ?_ (fun hHeld => ?_)
        · exact below_on hHeld b8
        clear hK K
        try simp only [Act.put, List.setIfInBounds_toArray, List.set_cons_zero, List.set_cons_succ]
        refine wpAnyH_strong (S' := fun w' => Below w8.heap.size w8 w') (by intro w' h; exact below_on hHeld h) ?_
        replace hHeld : (fun w' => Below w8.heap.size w8 w') _ := Below.refl _ _
        refine wpAnyH_take (i := 6) (oi := { dst := some 108, op := _, type := _, pos := _, after := _, guard := _ }) (v := ?v11x9) rfl (by kernel_rfl) (by kernel_rfl) (by kernel_rfl) (fun _ _ _ h => h) (Or.inl ⟨by rfl, ?hy11x9⟩) hHeld ?rest11x9
        case hy11x9 => (intro w hSw; go_simp <;> with_reducible rfl)
        try simp only [Act.put, List.setIfInBounds_toArray, List.set_cons_zero, List.set_cons_succ]
        refine wpAnyH_take (i := 9) (oi := { dst := some 111, op := _, type := _, pos := _, after := _, guard := _ }) (v := ?v11x10) rfl (by kernel_rfl) (by kernel_rfl) (by kernel_rfl) (fun _ _ _ h => h) (Or.inl ⟨by rfl, ?hy11x10⟩) hHeld ?rest11x10
        case hy11x10 => (intro w hSw; go_simp <;> with_reducible rfl)
        try simp only [Act.put, List.setIfInBounds_toArray, List.set_cons_zero, List.set_cons_succ]
        refine wpAnyH_take (i := 10) (oi := { dst := some 112, op := _, type := _, pos := _, after := _, guard := _ }) (v := ?v11x11) rfl (by kernel_rfl) (by kernel_rfl) (by kernel_rfl) (fun _ _ _ h => h) (Or.inl ⟨by rfl, ?hy11x11⟩) hHeld ?rest11x11
        case hy11x11 => (intro w hSw; go_simp <;> with_reducible rfl)
        try simp only [Act.put, List.setIfInBounds_toArray, List.set_cons_zero, List.set_cons_succ]
        refine wpAnyH_done (by kernel_rfl) ?_ _
        clear hsE hsB hsB8 rE
        have j8 := JZ.out.keep s8
        have g8 := GZ.out.keep s8
        clear c0 c1 c2 c3 c4 c5 c6
        obtain ⟨j0, j1, j2, j3, j4, j5, j6⟩ := j8.seven
        obtain ⟨k0, k1, k2, k3, k4, k5, k6⟩ := g8.seven
        have jf := j8.frozen
        have J8 := hide j8
        have B8 := hide (below_on BZ.out s8)
        have R8 := hide (RZ.out.keep s8)
        clear j8 g8 hHeld
        clear s7 b7 s8 b8
        go_wp2_with fail
        (try simp only [Exit.inBlock, Exit.then])
        refine bodyPost_ret (results_cell_tmp rfl rfl (J8.out.set7 _ _ _ _ _ _ _) Try.underlying24 rfl (by kernel_rfl)) rfl ?_
        rw [HPz.out]
        exact ⟨none, 0, 0, rfl, Nat.le_refl _, Rd.nil _ _, below_set7 B8.out (Nat.le_refl _) _ _ _ _ _ _ _⟩
  · skip
    have RV := hide (R0.out.keep sV)
    have KV := hide kV
    have SV := hide sV
    have KW := hide (HB0.out.keep sV)
    have hne : w.heap.size < W.heap.size := HB0.out.lt
    have hltV : W.heap.size < V.heap.size := KV.out.lt
    have hltW : w.heap.size < V.heap.size := KW.out.lt
    clear R0 kV sV HB0 cx hHeld bV hsl1
    go_wp2_with fail
    refine (HW3.out _ RV.out).mono ?_
    rintro e w1 ⟨rfl, n2, rfl⟩
    have kV2 : Blk (V.drewN n2) W.heap.size 24 _ := KV.out
    have kW2 : Blk (V.drewN n2) w.heap.size 24 _ := KW.out
    have sV2 : Below W.heap.size W (V.drewN n2) := below_drewN SV.out n2
    have rV2 : Rd (V.drewN n2) (some ⟨b, o, none⟩) l (bv xs) := RV.out
    generalize V.drewN n2 = U at *
    clear KV KW RV SV hltV hltW hsl3
    clear V
    have RU := hide rV2
    have SU := hide sV2
    have hne1 : W.heap.size ≠ w.heap.size := by omega
    have hne2 : w.heap.size ≠ W.heap.size := by omega
    have hltV : W.heap.size < U.heap.size := kV2.lt
    have hltW : w.heap.size < U.heap.size := kW2.lt
    obtain ⟨k0, k1, k2, k3, k4, k5, k6⟩ := kV2.seven
    obtain ⟨j0, j1, j2, j3, j4, j5, j6⟩ := kW2.seven
    have kf := kV2.frozen
    have jf := kW2.frozen
    have KU := hide kV2
    have KW := hide kW2
    clear rV2 sV2 kV2 kW2
    have hmm : 1 ≤ 1000000 := by omega
    have GZ : Hid (Blk ((U.setCell ⟨W.heap.size, 3, none⟩ (.slice (some ⟨U.heap.size, 0, none⟩) 1 1)).alloc (.cells #[.int .i64 a3] 3)) W.heap.size 24 [.int .i64 6, .int .i64 a1, .int .i64 0, .slice (some ⟨U.heap.size, 0, none⟩) 1 1, .int .i64 0, .int .i64 0, .int .i64 0]) := Blk.al (KU.out.set 3 _) _
    have JZ : Hid (Blk ((U.setCell ⟨W.heap.size, 3, none⟩ (.slice (some ⟨U.heap.size, 0, none⟩) 1 1)).alloc (.cells #[.int .i64 a3] 3)) w.heap.size 24 _) := (KW.out.oth hne1 3 _).al _
    have BZ : Hid (Below w.heap.size w ((U.setCell ⟨W.heap.size, 3, none⟩ (.slice (some ⟨U.heap.size, 0, none⟩) 1 1)).alloc (.cells #[.int .i64 a3] 3))) := ((below_on HBel.out SU.out).setCell (Nat.le_of_lt hne) _).alloc (by simpa using Nat.le_of_lt hltW) _
    have RZ : Hid (Rd ((U.setCell ⟨W.heap.size, 3, none⟩ (.slice (some ⟨U.heap.size, 0, none⟩) 1 1)).alloc (.cells #[.int .i64 a3] 3)) (some ⟨U.heap.size, 0, none⟩) 1 (iv [a3])) := rd_new _ _ (by simp) _ [_] 1 rfl
    go_wp2_with fail
    clear k0 k1 k2 k3 k4 k5 k6 j0 j1 j2 j3 j4 j5 j6 kf jf
    generalize (U.setCell ⟨W.heap.size, 3, none⟩ (.slice (some ⟨U.heap.size, 0, none⟩) 1 1)).alloc (.cells #[.int .i64 a3] 3) = Z at *
    have NCg : Hid (∀ b o, (some ⟨U.heap.size, 0, none⟩ : Option Addr) = some ⟨b, o, none⟩ → b ≠ w.heap.size) := fun b o e => by injection e with e; injection e with e; omega
    clear KU KW RU SU HW1 HW3 CX0 qd hltV hltW
    go_wp2_with fail
    have c0 := GZ.out.on 0 _ rfl
    have c1 := GZ.out.on 1 _ rfl
    have c2 := GZ.out.on 2 _ rfl
    have c3 := GZ.out.on 3 _ rfl
    have c4 := GZ.out.on 4 _ rfl
    have c5 := GZ.out.on 5 _ rfl
    have c6 := GZ.out.on 6 _ rfl
    have HMz := hide (fun W' hr => refMay_any 6 a1 0 0 0 0 (some ⟨U.heap.size, 0, none⟩) 1 1 [a3] W' hr hmm)
    cases hbM : mayB 6 a1 0 [a3] 0 0 0
    · rw [hbM] at HMz
      have HPz := hide (show parseL xs = none from by rw [parse_eq xs 6 a1 0 [a3] 0 0 0 HG.out, hbM, if_neg (by simp)])
      clear hbM
      refine wp_region_held_drew (S := fun w' => Below Z.heap.size Z w') (by kernel_rfl) ?_ (fun hHeld => ?_)
      · exact (Below.refl _ _).drew
      refine wpAnyH_take (i := 0) (oi := { dst := some 102, op := _, type := _, pos := _, after := _, guard := _ }) (v := ?v12x1) rfl (by kernel_rfl) (by kernel_rfl) (by kernel_rfl) (fun _ _ _ h => h) (Or.inl ⟨by rfl, ?hy12x1⟩) hHeld ?rest12x1
      case hy12x1 => (intro w hSw; go_simp <;> with_reducible rfl)
      try simp only [Act.put, List.setIfInBounds_toArray, List.set_cons_zero, List.set_cons_succ]
      refine wpAnyH_ready (rs := [1]) (by kernel_rfl) (by simp) (AllReadyH.cons (o := { dst := some 103, op := _, type := _, pos := _, after := _, guard := _ }) rfl (fun K hK => ?_) AllReadyH.nil)
      go_simp
      refine (HMz.out _ (RZ.out.keep hHeld)).mono ?_
      rintro e w7 ⟨rfl, b7⟩
      have s7 := below_on hHeld b7
      go_wp2_with fail
      refine hK.out _ _ ?_ (fun hHeld => ?_)
      · exact s7
      clear hK K
      try simp only [Act.put, List.setIfInBounds_toArray, List.set_cons_zero, List.set_cons_succ]
      refine wpAnyH_take (i := 2) (oi := { dst := some 104, op := _, type := _, pos := _, after := _, guard := _ }) (v := ?v12x3) rfl (by kernel_rfl) (by kernel_rfl) (by kernel_rfl) (fun _ _ _ h => h) (Or.inl ⟨by rfl, ?hy12x3⟩) hHeld ?rest12x3
      case hy12x3 => (intro w hSw; go_simp <;> with_reducible rfl)
      try simp only [Act.put, List.setIfInBounds_toArray, List.set_cons_zero, List.set_cons_succ]
      refine wpAnyH_take (i := 3) (oi := { dst := some 105, op := _, type := _, pos := _, after := _, guard := _ }) (v := ?v12x4) rfl (by kernel_rfl) (by kernel_rfl) (by kernel_rfl) (fun _ _ _ h => h) (Or.inl ⟨by rfl, ?hy12x4⟩) hHeld ?rest12x4
      case hy12x4 => (intro w hSw; go_simp <;> with_reducible rfl)
      try simp only [Act.put, List.setIfInBounds_toArray, List.set_cons_zero, List.set_cons_succ]
      refine wpAnyH_take (i := 4) (oi := { dst := some 106, op := _, type := _, pos := _, after := _, guard := _ }) (v := undef) rfl (by kernel_rfl) (by kernel_rfl) (by kernel_rfl) (fun _ _ _ h => h) (Or.inr ⟨by rfl, rfl⟩) hHeld ?_
      try simp only [Act.put, List.setIfInBounds_toArray, List.set_cons_zero, List.set_cons_succ]
      refine wpAnyH_take (i := 5) (oi := { dst := some 107, op := _, type := _, pos := _, after := _, guard := _ }) (v := undef) rfl (by kernel_rfl) (by kernel_rfl) (by kernel_rfl) (fun _ _ _ h => h) (Or.inr ⟨by rfl, rfl⟩) hHeld ?_
      try simp only [Act.put, List.setIfInBounds_toArray, List.set_cons_zero, List.set_cons_succ]
      refine wpAnyH_take (i := 6) (oi := { dst := some 108, op := _, type := _, pos := _, after := _, guard := _ }) (v := undef) rfl (by kernel_rfl) (by kernel_rfl) (by kernel_rfl) (fun _ _ _ h => h) (Or.inr ⟨by rfl, rfl⟩) hHeld ?_
      try simp only [Act.put, List.setIfInBounds_toArray, List.set_cons_zero, List.set_cons_succ]
      refine wpAnyH_take (i := 7) (oi := { dst := some 109, op := _, type := _, pos := _, after := _, guard := _ }) (v := undef) rfl (by kernel_rfl) (by kernel_rfl) (by kernel_rfl) (fun _ _ _ h => h) (Or.inr ⟨by rfl, rfl⟩) hHeld ?_
      try simp only [Act.put, List.setIfInBounds_toArray, List.set_cons_zero, List.set_cons_succ]
      refine wpAnyH_take (i := 8) (oi := { dst := some 110, op := _, type := _, pos := _, after := _, guard := _ }) (v := undef) rfl (by kernel_rfl) (by kernel_rfl) (by kernel_rfl) (fun _ _ _ h => h) (Or.inr ⟨by rfl, rfl⟩) hHeld ?_
      try simp only [Act.put, List.setIfInBounds_toArray, List.set_cons_zero, List.set_cons_succ]
      refine wpAnyH_take (i := 9) (oi := { dst := some 111, op := _, type := _, pos := _, after := _, guard := _ }) (v := undef) rfl (by kernel_rfl) (by kernel_rfl) (by kernel_rfl) (fun _ _ _ h => h) (Or.inr ⟨by rfl, rfl⟩) hHeld ?_
      try simp only [Act.put, List.setIfInBounds_toArray, List.set_cons_zero, List.set_cons_succ]
      refine wpAnyH_take (i := 10) (oi := { dst := some 112, op := _, type := _, pos := _, after := _, guard := _ }) (v := ?v12x11) rfl (by kernel_rfl) (by kernel_rfl) (by kernel_rfl) (fun _ _ _ h => h) (Or.inl ⟨by rfl, ?hy12x11⟩) hHeld ?rest12x11
      case hy12x11 => (intro w hSw; go_simp <;> with_reducible rfl)
      try simp only [Act.put, List.setIfInBounds_toArray, List.set_cons_zero, List.set_cons_succ]
      refine wpAnyH_done (by kernel_rfl) ?_ _
      have j8 := JZ.out.keep s7
      have g8 := GZ.out.keep s7
      clear c0 c1 c2 c3 c4 c5 c6
      obtain ⟨j0, j1, j2, j3, j4, j5, j6⟩ := j8.seven
      obtain ⟨k0, k1, k2, k3, k4, k5, k6⟩ := g8.seven
      have jf := j8.frozen
      have J8 := hide j8
      have B8 := hide (below_on BZ.out s7)
      have R8 := hide (RZ.out.keep s7)
      clear j8 g8 hHeld
      clear s7 b7
      go_wp2_with fail
      (try simp only [Exit.inBlock, Exit.then])
      refine bodyPost_ret (results_cell_tmp rfl rfl (J8.out.set7 _ _ _ _ _ _ _) Try.underlying24 rfl (by kernel_rfl)) rfl ?_
      rw [HPz.out]
      exact ⟨none, 0, 0, rfl, Nat.le_refl _, Rd.nil _ _, below_set7 B8.out (Nat.le_refl _) _ _ _ _ _ _ _⟩
    · have HLz := hide (fun W' hr => refBytes_any 6 a1 0 0 0 0 (some ⟨U.heap.size, 0, none⟩) 1 1 [a3] W' hr hbM)
      rw [hbM] at HMz
      have HPy := hide (show parseL xs = _ from by rw [parse_eq xs 6 a1 0 [a3] 0 0 0 HG.out, hbM])
      clear hbM
      generalize layL 6 a1 0 [a3] 0 0 0 = Y at *
      have hsB := strOn (H0.out.keep BZ.out)
      by_cases hY : Y = xs
      · have qs : (Y != xs) = false := by simp [hY]
        have qs2 : (!(Y == xs)) = false := by simp [hY]
        have HPz := HPy.out
        rw [if_pos ⟨rfl, hY⟩] at HPz
        replace HPz := hide HPz
        clear HPy
        clear hY
        refine wp_region_held_drew (S := fun w' => Below Z.heap.size Z w') (by kernel_rfl) ?_ (fun hHeld => ?_)
        · exact (Below.refl _ _).drew
        refine wpAnyH_take (i := 0) (oi := { dst := some 102, op := _, type := _, pos := _, after := _, guard := _ }) (v := ?v13x1) rfl (by kernel_rfl) (by kernel_rfl) (by kernel_rfl) (fun _ _ _ h => h) (Or.inl ⟨by rfl, ?hy13x1⟩) hHeld ?rest13x1
        case hy13x1 => (intro w hSw; go_simp <;> with_reducible rfl)
        try simp only [Act.put, List.setIfInBounds_toArray, List.set_cons_zero, List.set_cons_succ]
        refine wpAnyH_ready (rs := [1]) (by kernel_rfl) (by simp) (AllReadyH.cons (o := { dst := some 103, op := _, type := _, pos := _, after := _, guard := _ }) rfl (fun K hK => ?_) AllReadyH.nil)
        go_simp
        refine (HMz.out _ (RZ.out.keep hHeld)).mono ?_
        rintro e w7 ⟨rfl, b7⟩
        have s7 := below_on hHeld b7
        go_wp2_with fail
        refine hK.out _ _ ?_ (fun hHeld => ?_)
        · exact s7
        clear hK K
        try simp only [Act.put, List.setIfInBounds_toArray, List.set_cons_zero, List.set_cons_succ]
        refine wpAnyH_take (i := 2) (oi := { dst := some 104, op := _, type := _, pos := _, after := _, guard := _ }) (v := ?v13x3) rfl (by kernel_rfl) (by kernel_rfl) (by kernel_rfl) (fun _ _ _ h => h) (Or.inl ⟨by rfl, ?hy13x3⟩) hHeld ?rest13x3
        case hy13x3 => (intro w hSw; go_simp <;> with_reducible rfl)
        try simp only [Act.put, List.setIfInBounds_toArray, List.set_cons_zero, List.set_cons_succ]
        refine wpAnyH_take (i := 3) (oi := { dst := some 105, op := _, type := _, pos := _, after := _, guard := _ }) (v := ?v13x4) rfl (by kernel_rfl) (by kernel_rfl) (by kernel_rfl) (fun _ _ _ h => h) (Or.inl ⟨by rfl, ?hy13x4⟩) hHeld ?rest13x4
        case hy13x4 => (intro w hSw; go_simp <;> with_reducible rfl)
        try simp only [Act.put, List.setIfInBounds_toArray, List.set_cons_zero, List.set_cons_succ]
        refine wpAnyH_take (i := 4) (oi := { dst := some 106, op := _, type := _, pos := _, after := _, guard := _ }) (v := ?v13x5) rfl (by kernel_rfl) (by kernel_rfl) (by kernel_rfl) (fun _ _ _ h => h) (Or.inl ⟨by rfl, ?hy13x5⟩) hHeld ?rest13x5
        case hy13x5 => (intro w hSw; go_simp <;> with_reducible rfl)
        try simp only [Act.put, List.setIfInBounds_toArray, List.set_cons_zero, List.set_cons_succ]
        refine wpAnyH_take (i := 7) (oi := { dst := some 109, op := _, type := _, pos := _, after := _, guard := _ }) (v := ?v13x6) rfl (by kernel_rfl) (by kernel_rfl) (by kernel_rfl) (fun _ _ _ h => h) (Or.inl ⟨by rfl, ?hy13x6⟩) hHeld ?rest13x6
        case hy13x6 => (intro w hSw; go_simp <;> with_reducible rfl)
        try simp only [Act.put, List.setIfInBounds_toArray, List.set_cons_zero, List.set_cons_succ]
        refine wpAnyH_take (i := 8) (oi := { dst := some 110, op := _, type := _, pos := _, after := _, guard := _ }) (v := ?v13x7) rfl (by kernel_rfl) (by kernel_rfl) (by kernel_rfl) (fun _ _ _ h => h) (Or.inl ⟨by rfl, ?hy13x7⟩) hHeld ?rest13x7
        case hy13x7 => (intro w hSw; go_simp <;> with_reducible rfl)
        try simp only [Act.put, List.setIfInBounds_toArray, List.set_cons_zero, List.set_cons_succ]
        refine wpAnyH_ready (rs := [5]) (by kernel_rfl) (by simp) (AllReadyH.cons (o := { dst := some 107, op := _, type := _, pos := _, after := _, guard := _ }) rfl (fun K hK => ?_) AllReadyH.nil)
        go_simp
        refine (HLz.out _ (RZ.out.keep s7)).mono ?_
        rintro e w8 ⟨E, kE, rfl, lE, rE, b8⟩
        have s8 := below_on s7 b8
        have hsE := strOn rE
        have hsB8 := strOn (H0.out.keep (below_on BZ.out s8))
        go_wp2_with fail
        refine hK.out _ _ ?_ (fun hHeld => ?_)
        · exact below_on hHeld b8
        clear hK K
        try simp only [Act.put, List.setIfInBounds_toArray, List.set_cons_zero, List.set_cons_succ]
        refine wpAnyH_strong (S' := fun w' => Below w8.heap.size w8 w') (by intro w' h; exact below_on hHeld h) ?_
        replace hHeld : (fun w' => Below w8.heap.size w8 w') _ := Below.refl _ _
        refine wpAnyH_take (i := 6) (oi := { dst := some 108, op := _, type := _, pos := _, after := _, guard := _ }) (v := ?v13x9) rfl (by kernel_rfl) (by kernel_rfl) (by kernel_rfl) (fun _ _ _ h => h) (Or.inl ⟨by rfl, ?hy13x9⟩) hHeld ?rest13x9
        case hy13x9 => (intro w hSw; go_simp <;> with_reducible rfl)
        try simp only [Act.put, List.setIfInBounds_toArray, List.set_cons_zero, List.set_cons_succ]
        refine wpAnyH_take (i := 9) (oi := { dst := some 111, op := _, type := _, pos := _, after := _, guard := _ }) (v := ?v13x10) rfl (by kernel_rfl) (by kernel_rfl) (by kernel_rfl) (fun _ _ _ h => h) (Or.inl ⟨by rfl, ?hy13x10⟩) hHeld ?rest13x10
        case hy13x10 => (intro w hSw; go_simp <;> with_reducible rfl)
        try simp only [Act.put, List.setIfInBounds_toArray, List.set_cons_zero, List.set_cons_succ]
        refine wpAnyH_take (i := 10) (oi := { dst := some 112, op := _, type := _, pos := _, after := _, guard := _ }) (v := ?v13x11) rfl (by kernel_rfl) (by kernel_rfl) (by kernel_rfl) (fun _ _ _ h => h) (Or.inl ⟨by rfl, ?hy13x11⟩) hHeld ?rest13x11
        case hy13x11 => (intro w hSw; go_simp <;> with_reducible rfl)
        try simp only [Act.put, List.setIfInBounds_toArray, List.set_cons_zero, List.set_cons_succ]
        refine wpAnyH_done (by kernel_rfl) ?_ _
        clear hsE hsB hsB8 rE
        have j8 := JZ.out.keep s8
        have g8 := GZ.out.keep s8
        clear c0 c1 c2 c3 c4 c5 c6
        obtain ⟨j0, j1, j2, j3, j4, j5, j6⟩ := j8.seven
        obtain ⟨k0, k1, k2, k3, k4, k5, k6⟩ := g8.seven
        have jf := j8.frozen
        have J8 := hide j8
        have B8 := hide (below_on BZ.out s8)
        have R8 := hide (RZ.out.keep s8)
        clear j8 g8 hHeld
        clear s7 b7 s8 b8
        go_wp2_with fail
        (try simp only [Exit.inBlock, Exit.then])
        refine bodyPost_ret (results_cell_tmp rfl rfl (J8.out.set7 _ _ _ _ _ _ _) Try.underlying24 rfl (by kernel_rfl)) rfl ?_
        rw [HPz.out]
        exact ⟨(some ⟨U.heap.size, 0, none⟩), 1, 1, rfl, (Nat.le_refl _), R8.out.set7 NCg.out _ _ _ _ _ _ _, below_set7 B8.out (Nat.le_refl _) _ _ _ _ _ _ _⟩
      · have qs : (Y != xs) = true := by simp [hY]
        have qs2 : (!(Y == xs)) = true := by simp [hY]
        have HPz := HPy.out
        rw [if_neg (fun h => hY h.2)] at HPz
        replace HPz := hide HPz
        clear HPy
        clear hY
        refine wp_region_held_drew (S := fun w' => Below Z.heap.size Z w') (by kernel_rfl) ?_ (fun hHeld => ?_)
        · exact (Below.refl _ _).drew
        refine wpAnyH_take (i := 0) (oi := { dst := some 102, op := _, type := _, pos := _, after := _, guard := _ }) (v := ?v14x1) rfl (by kernel_rfl) (by kernel_rfl) (by kernel_rfl) (fun _ _ _ h => h) (Or.inl ⟨by rfl, ?hy14x1⟩) hHeld ?rest14x1
        case hy14x1 => (intro w hSw; go_simp <;> with_reducible rfl)
        try simp only [Act.put, List.setIfInBounds_toArray, List.set_cons_zero, List.set_cons_succ]
        refine wpAnyH_ready (rs := [1]) (by kernel_rfl) (by simp) (AllReadyH.cons (o := { dst := some 103, op := _, type := _, pos := _, after := _, guard := _ }) rfl (fun K hK => ?_) AllReadyH.nil)
        go_simp
        refine (HMz.out _ (RZ.out.keep hHeld)).mono ?_
        rintro e w7 ⟨rfl, b7⟩
        have s7 := below_on hHeld b7
        go_wp2_with fail
        refine hK.out _ _ ?_ (fun hHeld => ?_)
        · exact s7
        clear hK K
        try simp only [Act.put, List.setIfInBounds_toArray, List.set_cons_zero, List.set_cons_succ]
        refine wpAnyH_take (i := 2) (oi := { dst := some 104, op := _, type := _, pos := _, after := _, guard := _ }) (v := ?v14x3) rfl (by kernel_rfl) (by kernel_rfl) (by kernel_rfl) (fun _ _ _ h => h) (Or.inl ⟨by rfl, ?hy14x3⟩) hHeld ?rest14x3
        case hy14x3 => (intro w hSw; go_simp <;> with_reducible rfl)
        try simp only [Act.put, List.setIfInBounds_toArray, List.set_cons_zero, List.set_cons_succ]
        refine wpAnyH_take (i := 3) (oi := { dst := some 105, op := _, type := _, pos := _, after := _, guard := _ }) (v := ?v14x4) rfl (by kernel_rfl) (by kernel_rfl) (by kernel_rfl) (fun _ _ _ h => h) (Or.inl ⟨by rfl, ?hy14x4⟩) hHeld ?rest14x4
        case hy14x4 => (intro w hSw; go_simp <;> with_reducible rfl)
        try simp only [Act.put, List.setIfInBounds_toArray, List.set_cons_zero, List.set_cons_succ]
        refine wpAnyH_take (i := 4) (oi := { dst := some 106, op := _, type := _, pos := _, after := _, guard := _ }) (v := ?v14x5) rfl (by kernel_rfl) (by kernel_rfl) (by kernel_rfl) (fun _ _ _ h => h) (Or.inl ⟨by rfl, ?hy14x5⟩) hHeld ?rest14x5
        case hy14x5 => (intro w hSw; go_simp <;> with_reducible rfl)
        try simp only [Act.put, List.setIfInBounds_toArray, List.set_cons_zero, List.set_cons_succ]
        refine wpAnyH_take (i := 7) (oi := { dst := some 109, op := _, type := _, pos := _, after := _, guard := _ }) (v := ?v14x6) rfl (by kernel_rfl) (by kernel_rfl) (by kernel_rfl) (fun _ _ _ h => h) (Or.inl ⟨by rfl, ?hy14x6⟩) hHeld ?rest14x6
        case hy14x6 => (intro w hSw; go_simp <;> with_reducible rfl)
        try simp only [Act.put, List.setIfInBounds_toArray, List.set_cons_zero, List.set_cons_succ]
        refine wpAnyH_take (i := 8) (oi := { dst := some 110, op := _, type := _, pos := _, after := _, guard := _ }) (v := ?v14x7) rfl (by kernel_rfl) (by kernel_rfl) (by kernel_rfl) (fun _ _ _ h => h) (Or.inl ⟨by rfl, ?hy14x7⟩) hHeld ?rest14x7
        case hy14x7 => (intro w hSw; go_simp <;> with_reducible rfl)
        try simp only [Act.put, List.setIfInBounds_toArray, List.set_cons_zero, List.set_cons_succ]
        refine wpAnyH_ready (rs := [5]) (by kernel_rfl) (by simp) (AllReadyH.cons (o := { dst := some 107, op := _, type := _, pos := _, after := _, guard := _ }) rfl (fun K hK => ?_) AllReadyH.nil)
        go_simp
        refine (HLz.out _ (RZ.out.keep s7)).mono ?_
        rintro e w8 ⟨E, kE, rfl, lE, rE, b8⟩
        have s8 := below_on s7 b8
        have hsE := strOn rE
        have hsB8 := strOn (H0.out.keep (below_on BZ.out s8))
        go_wp2_with fail
        refine hK.out _ _ ?_ (fun hHeld => ?_)
        · exact below_on hHeld b8
        clear hK K
        try simp only [Act.put, List.setIfInBounds_toArray, List.set_cons_zero, List.set_cons_succ]
        refine wpAnyH_strong (S' := fun w' => Below w8.heap.size w8 w') (by intro w' h; exact below_on hHeld h) ?_
        replace hHeld : (fun w' => Below w8.heap.size w8 w') _ := Below.refl _ _
        refine wpAnyH_take (i := 6) (oi := { dst := some 108, op := _, type := _, pos := _, after := _, guard := _ }) (v := ?v14x9) rfl (by kernel_rfl) (by kernel_rfl) (by kernel_rfl) (fun _ _ _ h => h) (Or.inl ⟨by rfl, ?hy14x9⟩) hHeld ?rest14x9
        case hy14x9 => (intro w hSw; go_simp <;> with_reducible rfl)
        try simp only [Act.put, List.setIfInBounds_toArray, List.set_cons_zero, List.set_cons_succ]
        refine wpAnyH_take (i := 9) (oi := { dst := some 111, op := _, type := _, pos := _, after := _, guard := _ }) (v := ?v14x10) rfl (by kernel_rfl) (by kernel_rfl) (by kernel_rfl) (fun _ _ _ h => h) (Or.inl ⟨by rfl, ?hy14x10⟩) hHeld ?rest14x10
        case hy14x10 => (intro w hSw; go_simp <;> with_reducible rfl)
        try simp only [Act.put, List.setIfInBounds_toArray, List.set_cons_zero, List.set_cons_succ]
        refine wpAnyH_take (i := 10) (oi := { dst := some 112, op := _, type := _, pos := _, after := _, guard := _ }) (v := ?v14x11) rfl (by kernel_rfl) (by kernel_rfl) (by kernel_rfl) (fun _ _ _ h => h) (Or.inl ⟨by rfl, ?hy14x11⟩) hHeld ?rest14x11
        case hy14x11 => (intro w hSw; go_simp <;> with_reducible rfl)
        try simp only [Act.put, List.setIfInBounds_toArray, List.set_cons_zero, List.set_cons_succ]
        refine wpAnyH_done (by kernel_rfl) ?_ _
        clear hsE hsB hsB8 rE
        have j8 := JZ.out.keep s8
        have g8 := GZ.out.keep s8
        clear c0 c1 c2 c3 c4 c5 c6
        obtain ⟨j0, j1, j2, j3, j4, j5, j6⟩ := j8.seven
        obtain ⟨k0, k1, k2, k3, k4, k5, k6⟩ := g8.seven
        have jf := j8.frozen
        have J8 := hide j8
        have B8 := hide (below_on BZ.out s8)
        have R8 := hide (RZ.out.keep s8)
        clear j8 g8 hHeld
        clear s7 b7 s8 b8
        go_wp2_with fail
        (try simp only [Exit.inBlock, Exit.then])
        refine bodyPost_ret (results_cell_tmp rfl rfl (J8.out.set7 _ _ _ _ _ _ _) Try.underlying24 rfl (by kernel_rfl)) rfl ?_
        rw [HPz.out]
        exact ⟨none, 0, 0, rfl, Nat.le_refl _, Rd.nil _ _, below_set7 B8.out (Nat.le_refl _) _ _ _ _ _ _ _⟩


set_option maxRecDepth 100000 in
set_option maxHeartbeats 1000000 in
theorem refParse_else (f : Int) (b o l c : Nat) (xs : List UInt8) (w : World) (h : Rd w (some ⟨b, o, none⟩) l (bv xs)) (cx0 : w.cell? ⟨b, o, none⟩ = some (.int .u8 f)) (hc : l ≤ c) (hl0 : 5 ≤ l) (hg : gs xs = ⟨f, wAt xs 1, wAt xs 3, [], 0, 0, 0⟩) (qw : IntKind.i64.wrap f = f)
    (f1 : (f == 1) = false) (f2 : (f == 2) = false) (f3 : (f == 3) = false) (f4 : (f == 4) = false) (f5 : (f == 5) = false) (f6 : (f == 6) = false) (f15 : (f == 15) = false) (f16 : (f == 16) = false) (f22 : (f == 22) = false) (f23 : (f == 23) = false) :
    Calls Try.prog 18 #[.slice (some ⟨b, o, none⟩) l c] w (RetRqB ((parseL xs).getD Rq.none) (parseL xs).isSome w) := by
  have hbl : b < w.heap.size := block_lt_of_cell cx0
  have q0 : (0 : Int) < (l : Int) := by omega
  have q0n : 0 < l := by omega
  have q5 : decide ((l : Int) < 5) = false := by simp; omega
  have hsl1 := fun W => run_slTail (P := Try.prog) 28 5 Try.underlying28 u8_size (some ⟨b, o, none⟩) l c 1 1 rfl (by omega) W
  have hsl3 := fun W => run_slTail (P := Try.prog) 28 5 Try.underlying28 u8_size (some ⟨b, o, none⟩) l c 3 3 rfl (by omega) W
  have HW1 := hide (fun W (hr : Rd W (some ⟨b, o, none⟩) l (bv xs)) => refNum (some ⟨b, o, none⟩) l c 1 xs W hr hc (by omega))
  have HW3 := hide (fun W (hr : Rd W (some ⟨b, o, none⟩) l (bv xs)) => refNum (some ⟨b, o, none⟩) l c 3 xs W hr hc (by omega))
  have CX0 := hide cx0
  clear cx0
  have qd := quo_word (wAt xs 3) (wAt_bounds xs 3)
  have hF : ∀ c' : Int, mayB f (wAt xs 1) c' [] 0 0 0 = false := by
    intro c'
    rw [beq_eq_false_iff_ne] at f1 f2 f3 f4 f5 f6 f15 f16 f22 f23
    simp [mayB, *]
  have HPz := hide (show parseL xs = none from by rw [parse_eq xs _ _ _ _ _ _ _ hg, hF, if_neg (by simp)])
  have HF := hide hF
  clear hg hF
  generalize wAt xs 1 = a1 at *
  generalize wAt xs 3 = a3 at *
  go_enter Try.func18, Try.ntmps18
  go_wp2_with fail
  generalize hW : w.alloc _ = W
  have hBel : Below w.heap.size w W := by subst hW; exact (Below.refl _ _).alloc (Nat.le_refl _) _
  have hB0 : Blk W w.heap.size 24 [.int .i64 0, .int .i64 0, .int .i64 0, .slice none 0 0, .int .i64 0, .int .i64 0, .int .i64 0] := by subst hW; exact Blk.new _ _ _
  have cx : ∀ w', Below W.heap.size W w' → w'.cell? ⟨b, o, none⟩ = some (.int .u8 f) := fun w' hb => ((below_on hBel hb).cell (p := ⟨b, o, none⟩) hbl).trans CX0.out
  have R0 := hide (h.keep hBel)
  have HB0 := hide hB0
  have HBel := hide hBel
  have H0 := hide h
  clear hW hB0 hBel h
  refine wp_region_held_drew (S := fun w' => Below W.heap.size W w') (by kernel_rfl) ?_ (fun hHeld => ?_)
  · exact (Below.refl _ _).drew
  refine wpAnyH_take (i := 0) (oi := { dst := some 10, op := _, type := _, pos := _, after := _, guard := _ }) (v := ?v15x1) rfl (by kernel_rfl) (by kernel_rfl) (by kernel_rfl) (fun _ _ _ h => h) (Or.inl ⟨by rfl, ?hy15x1⟩) hHeld ?rest15x1
  case hy15x1 => (intro w hSw; go_simp <;> with_reducible rfl)
  try simp only [Act.put, List.setIfInBounds_toArray, List.set_cons_zero, List.set_cons_succ]
  refine wpAnyH_take (i := 1) (oi := { dst := some 11, op := _, type := _, pos := _, after := _, guard := _ }) (v := ?v15x2) rfl (by kernel_rfl) (by kernel_rfl) (by kernel_rfl) (fun _ _ _ h => h) (Or.inl ⟨by rfl, ?hy15x2⟩) hHeld ?rest15x2
  case hy15x2 => (intro w hSw; go_simp <;> with_reducible rfl)
  try simp only [Act.put, List.setIfInBounds_toArray, List.set_cons_zero, List.set_cons_succ]
  refine wpAnyH_take (i := 2) (oi := { dst := some 12, op := _, type := _, pos := _, after := _, guard := _ }) (v := ?v15x3) rfl (by kernel_rfl) (by kernel_rfl) (by kernel_rfl) (fun _ _ _ h => h) (Or.inl ⟨by rfl, ?hy15x3⟩) hHeld ?rest15x3
  case hy15x3 => (intro w hSw; go_simp <;> with_reducible rfl)
  try simp only [Act.put, List.setIfInBounds_toArray, List.set_cons_zero, List.set_cons_succ]
  refine wpAnyH_take (i := 3) (oi := { dst := some 13, op := _, type := _, pos := _, after := _, guard := _ }) (v := ?v15x4) rfl (by kernel_rfl) (by kernel_rfl) (by kernel_rfl) (fun _ _ _ h => h) (Or.inl ⟨by rfl, ?hy15x4⟩) hHeld ?rest15x4
  case hy15x4 => (intro w hSw; go_simp <;> with_reducible rfl)
  try simp only [Act.put, List.setIfInBounds_toArray, List.set_cons_zero, List.set_cons_succ]
  refine wpAnyH_take (i := 4) (oi := { dst := some 14, op := _, type := _, pos := _, after := _, guard := _ }) (v := ?v15x5) rfl (by kernel_rfl) (by kernel_rfl) (by kernel_rfl) (fun _ _ _ h => h) (Or.inl ⟨by rfl, ?hy15x5⟩) hHeld ?rest15x5
  case hy15x5 => (intro w hSw; go_simp <;> with_reducible rfl)
  try simp only [Act.put, List.setIfInBounds_toArray, List.set_cons_zero, List.set_cons_succ]
  refine wpAnyH_take (i := 5) (oi := { dst := some 15, op := _, type := _, pos := _, after := _, guard := _ }) (v := ?v15x6) rfl (by kernel_rfl) (by kernel_rfl) (by kernel_rfl) (fun _ _ _ h => h) (Or.inl ⟨by rfl, ?hy15x6⟩) hHeld ?rest15x6
  case hy15x6 => (intro w hSw; go_simp <;> with_reducible rfl)
  try simp only [Act.put, List.setIfInBounds_toArray, List.set_cons_zero, List.set_cons_succ]
  refine wpAnyH_ready (rs := [6, 8]) (by kernel_rfl) (by simp) (AllReadyH.cons (o := { dst := some 16, op := _, type := _, pos := _, after := _, guard := _ }) rfl (fun K hK => ?way15x7x6) (AllReadyH.cons (o := { dst := some 4, op := _, type := _, pos := _, after := _, guard := _ }) rfl (fun K hK => ?way15x7x8) AllReadyH.nil))
  case' way15x7x6 =>
    go_simp
    refine (HW1.out _ (R0.out.keep hHeld)).mono ?_
    rintro e w1 ⟨rfl, nq, rfl⟩
    go_wp2_with fail
    refine hK.out _ _ ?_ (fun hHeld => ?_)
    · exact below_same hHeld rfl rfl rfl rfl
    clear hK K
    try simp only [Act.put, List.setIfInBounds_toArray, List.set_cons_zero, List.set_cons_succ]
    refine wpAnyH_take (i := 7) (oi := { dst := some 17, op := _, type := _, pos := _, after := _, guard := _ }) (v := ?v15x8) rfl (by kernel_rfl) (by kernel_rfl) (by kernel_rfl) (fun _ _ _ h => h) (Or.inl ⟨by rfl, ?hy15x8⟩) hHeld ?rest15x8
    case hy15x8 => (intro w hSw; go_simp <;> with_reducible rfl)
    try simp only [Act.put, List.setIfInBounds_toArray, List.set_cons_zero, List.set_cons_succ]
    refine wpAnyH_ready (rs := [8]) (by kernel_rfl) (by simp) (AllReadyH.cons (o := { dst := some 4, op := _, type := _, pos := _, after := _, guard := _ }) rfl (fun K hK => ?_) AllReadyH.nil)
    go_simp
    go_wp2_with fail
    refine hK.out _ _ ?_ (fun hHeld => ?_)
    · exact hHeld.alloc hHeld.size _
    clear hK K
    try simp only [Act.put, List.setIfInBounds_toArray, List.set_cons_zero, List.set_cons_succ]
    refine wpAnyH_ready (rs := [9]) (by kernel_rfl) (by simp) (AllReadyH.cons (o := { dst := none, op := _, type := _, pos := _, after := _, guard := _ }) rfl (fun K hK => ?_) AllReadyH.nil)
    rw [if_pos (by rfl)]
    refine op_storeB 24 (.tmp 4) (.tmp 17) rfl W.heap.size 24 [.int .i64 0, .int .i64 0, .int .i64 0, .slice none 0 0, .int .i64 0, .int .i64 0, .int .i64 0] [.int .i64 f, .int .i64 a1, .int .i64 0, .slice none 0 0, .int .i64 0, .int .i64 0, .int .i64 0] rfl rfl (by first | exact Blk.new (W.drewN _) _ _ | exact Blk.new W _ _) rfl (by kernel_rfl) (by intro v hv; simp at hv; rcases hv with rfl | rfl | rfl | rfl | rfl | rfl | rfl <;> rfl) ?_
    intro V kV bV
    have sV := bV _ _ (Nat.le_refl _) hHeld
    refine hK.out _ _ ?_ (fun hHeld => ?_)
    · exact sV
    clear hK K
    try simp only [Act.put, List.setIfInBounds_toArray, List.set_cons_zero, List.set_cons_succ]
    refine wpAnyH_done (by kernel_rfl) ?_ _
  case' way15x7x8 =>
    go_simp
    go_wp2_with fail
    refine hK.out _ _ ?_ (fun hHeld => ?_)
    · exact hHeld.alloc hHeld.size _
    clear hK K
    try simp only [Act.put, List.setIfInBounds_toArray, List.set_cons_zero, List.set_cons_succ]
    refine wpAnyH_ready (rs := [6]) (by kernel_rfl) (by simp) (AllReadyH.cons (o := { dst := some 16, op := _, type := _, pos := _, after := _, guard := _ }) rfl (fun K hK => ?_) AllReadyH.nil)
    go_simp
    refine (HW1.out _ (R0.out.keep hHeld)).mono ?_
    rintro e w1 ⟨rfl, nq, rfl⟩
    go_wp2_with fail
    refine hK.out _ _ ?_ (fun hHeld => ?_)
    · exact below_same hHeld rfl rfl rfl rfl
    clear hK K
    try simp only [Act.put, List.setIfInBounds_toArray, List.set_cons_zero, List.set_cons_succ]
    refine wpAnyH_take (i := 7) (oi := { dst := some 17, op := _, type := _, pos := _, after := _, guard := _ }) (v := ?v15x12) rfl (by kernel_rfl) (by kernel_rfl) (by kernel_rfl) (fun _ _ _ h => h) (Or.inl ⟨by rfl, ?hy15x12⟩) hHeld ?rest15x12
    case hy15x12 => (intro w hSw; go_simp <;> with_reducible rfl)
    try simp only [Act.put, List.setIfInBounds_toArray, List.set_cons_zero, List.set_cons_succ]
    refine wpAnyH_ready (rs := [9]) (by kernel_rfl) (by simp) (AllReadyH.cons (o := { dst := none, op := _, type := _, pos := _, after := _, guard := _ }) rfl (fun K hK => ?_) AllReadyH.nil)
    rw [if_pos (by rfl)]
    refine op_storeB 24 (.tmp 4) (.tmp 17) rfl W.heap.size 24 [.int .i64 0, .int .i64 0, .int .i64 0, .slice none 0 0, .int .i64 0, .int .i64 0, .int .i64 0] [.int .i64 f, .int .i64 a1, .int .i64 0, .slice none 0 0, .int .i64 0, .int .i64 0, .int .i64 0] rfl rfl (by first | exact Blk.new (W.drewN _) _ _ | exact Blk.new W _ _) rfl (by kernel_rfl) (by intro v hv; simp at hv; rcases hv with rfl | rfl | rfl | rfl | rfl | rfl | rfl <;> rfl) ?_
    intro V kV bV
    have sV := bV _ _ (Nat.le_refl _) hHeld
    refine hK.out _ _ ?_ (fun hHeld => ?_)
    · exact sV
    clear hK K
    try simp only [Act.put, List.setIfInBounds_toArray, List.set_cons_zero, List.set_cons_succ]
    refine wpAnyH_done (by kernel_rfl) ?_ _
  · skip
    have RV := hide (R0.out.keep sV)
    have KV := hide kV
    have SV := hide sV
    have KW := hide (HB0.out.keep sV)
    have hne : w.heap.size < W.heap.size := HB0.out.lt
    have hltV : W.heap.size < V.heap.size := KV.out.lt
    have hltW : w.heap.size < V.heap.size := KW.out.lt
    clear R0 kV sV HB0 cx hHeld bV hsl1
    go_wp2_with fail
    refine (HW3.out _ RV.out).mono ?_
    rintro e w1 ⟨rfl, n2, rfl⟩
    have kV2 : Blk (V.drewN n2) W.heap.size 24 _ := KV.out
    have kW2 : Blk (V.drewN n2) w.heap.size 24 _ := KW.out
    have sV2 : Below W.heap.size W (V.drewN n2) := below_drewN SV.out n2
    have rV2 : Rd (V.drewN n2) (some ⟨b, o, none⟩) l (bv xs) := RV.out
    generalize V.drewN n2 = U at *
    clear KV KW RV SV hltV hltW hsl3
    clear V
    have RU := hide rV2
    have SU := hide sV2
    have hne1 : W.heap.size ≠ w.heap.size := by omega
    have hne2 : w.heap.size ≠ W.heap.size := by omega
    have hltV : W.heap.size < U.heap.size := kV2.lt
    have hltW : w.heap.size < U.heap.size := kW2.lt
    obtain ⟨k0, k1, k2, k3, k4, k5, k6⟩ := kV2.seven
    obtain ⟨j0, j1, j2, j3, j4, j5, j6⟩ := kW2.seven
    have kf := kV2.frozen
    have jf := kW2.frozen
    have KU := hide kV2
    have KW := hide kW2
    clear rV2 sV2 kV2 kW2
    have GZ := KU
    have JZ := KW
    have BZ := hide (below_on HBel.out SU.out)
    have RZ : Hid (Rd U none 0 (iv [])) := Rd.nil _ _
    have HMz := hide (fun W' hr => refMay_any f a1 0 0 0 0 none 0 0 [] W' hr (by omega))
    rw [HF.out 0] at HMz
    go_wp2_with fail
    clear k0 k1 k2 k3 k4 k5 k6 j0 j1 j2 j3 j4 j5 j6 kf jf
    have c0 := GZ.out.on 0 _ rfl
    have c1 := GZ.out.on 1 _ rfl
    have c2 := GZ.out.on 2 _ rfl
    have c3 := GZ.out.on 3 _ rfl
    have c4 := GZ.out.on 4 _ rfl
    have c5 := GZ.out.on 5 _ rfl
    have c6 := GZ.out.on 6 _ rfl
    refine wp_region_held_drew (S := fun w' => Below U.heap.size U w') (by kernel_rfl) ?_ (fun hHeld => ?_)
    · exact (Below.refl _ _).drew
    refine wpAnyH_take (i := 0) (oi := { dst := some 102, op := _, type := _, pos := _, after := _, guard := _ }) (v := ?v16x1) rfl (by kernel_rfl) (by kernel_rfl) (by kernel_rfl) (fun _ _ _ h => h) (Or.inl ⟨by rfl, ?hy16x1⟩) hHeld ?rest16x1
    case hy16x1 => (intro w hSw; go_simp <;> with_reducible rfl)
    try simp only [Act.put, List.setIfInBounds_toArray, List.set_cons_zero, List.set_cons_succ]
    refine wpAnyH_ready (rs := [1]) (by kernel_rfl) (by simp) (AllReadyH.cons (o := { dst := some 103, op := _, type := _, pos := _, after := _, guard := _ }) rfl (fun K hK => ?_) AllReadyH.nil)
    go_simp
    refine (HMz.out _ (RZ.out.keep hHeld)).mono ?_
    rintro e w7 ⟨rfl, b7⟩
    have s7 := below_on hHeld b7
    go_wp2_with fail
    refine hK.out _ _ ?_ (fun hHeld => ?_)
    · exact s7
    clear hK K
    try simp only [Act.put, List.setIfInBounds_toArray, List.set_cons_zero, List.set_cons_succ]
    refine wpAnyH_take (i := 2) (oi := { dst := some 104, op := _, type := _, pos := _, after := _, guard := _ }) (v := ?v16x3) rfl (by kernel_rfl) (by kernel_rfl) (by kernel_rfl) (fun _ _ _ h => h) (Or.inl ⟨by rfl, ?hy16x3⟩) hHeld ?rest16x3
    case hy16x3 => (intro w hSw; go_simp <;> with_reducible rfl)
    try simp only [Act.put, List.setIfInBounds_toArray, List.set_cons_zero, List.set_cons_succ]
    refine wpAnyH_take (i := 3) (oi := { dst := some 105, op := _, type := _, pos := _, after := _, guard := _ }) (v := ?v16x4) rfl (by kernel_rfl) (by kernel_rfl) (by kernel_rfl) (fun _ _ _ h => h) (Or.inl ⟨by rfl, ?hy16x4⟩) hHeld ?rest16x4
    case hy16x4 => (intro w hSw; go_simp <;> with_reducible rfl)
    try simp only [Act.put, List.setIfInBounds_toArray, List.set_cons_zero, List.set_cons_succ]
    refine wpAnyH_take (i := 4) (oi := { dst := some 106, op := _, type := _, pos := _, after := _, guard := _ }) (v := undef) rfl (by kernel_rfl) (by kernel_rfl) (by kernel_rfl) (fun _ _ _ h => h) (Or.inr ⟨by rfl, rfl⟩) hHeld ?_
    try simp only [Act.put, List.setIfInBounds_toArray, List.set_cons_zero, List.set_cons_succ]
    refine wpAnyH_take (i := 5) (oi := { dst := some 107, op := _, type := _, pos := _, after := _, guard := _ }) (v := undef) rfl (by kernel_rfl) (by kernel_rfl) (by kernel_rfl) (fun _ _ _ h => h) (Or.inr ⟨by rfl, rfl⟩) hHeld ?_
    try simp only [Act.put, List.setIfInBounds_toArray, List.set_cons_zero, List.set_cons_succ]
    refine wpAnyH_take (i := 6) (oi := { dst := some 108, op := _, type := _, pos := _, after := _, guard := _ }) (v := undef) rfl (by kernel_rfl) (by kernel_rfl) (by kernel_rfl) (fun _ _ _ h => h) (Or.inr ⟨by rfl, rfl⟩) hHeld ?_
    try simp only [Act.put, List.setIfInBounds_toArray, List.set_cons_zero, List.set_cons_succ]
    refine wpAnyH_take (i := 7) (oi := { dst := some 109, op := _, type := _, pos := _, after := _, guard := _ }) (v := undef) rfl (by kernel_rfl) (by kernel_rfl) (by kernel_rfl) (fun _ _ _ h => h) (Or.inr ⟨by rfl, rfl⟩) hHeld ?_
    try simp only [Act.put, List.setIfInBounds_toArray, List.set_cons_zero, List.set_cons_succ]
    refine wpAnyH_take (i := 8) (oi := { dst := some 110, op := _, type := _, pos := _, after := _, guard := _ }) (v := undef) rfl (by kernel_rfl) (by kernel_rfl) (by kernel_rfl) (fun _ _ _ h => h) (Or.inr ⟨by rfl, rfl⟩) hHeld ?_
    try simp only [Act.put, List.setIfInBounds_toArray, List.set_cons_zero, List.set_cons_succ]
    refine wpAnyH_take (i := 9) (oi := { dst := some 111, op := _, type := _, pos := _, after := _, guard := _ }) (v := undef) rfl (by kernel_rfl) (by kernel_rfl) (by kernel_rfl) (fun _ _ _ h => h) (Or.inr ⟨by rfl, rfl⟩) hHeld ?_
    try simp only [Act.put, List.setIfInBounds_toArray, List.set_cons_zero, List.set_cons_succ]
    refine wpAnyH_take (i := 10) (oi := { dst := some 112, op := _, type := _, pos := _, after := _, guard := _ }) (v := ?v16x11) rfl (by kernel_rfl) (by kernel_rfl) (by kernel_rfl) (fun _ _ _ h => h) (Or.inl ⟨by rfl, ?hy16x11⟩) hHeld ?rest16x11
    case hy16x11 => (intro w hSw; go_simp <;> with_reducible rfl)
    try simp only [Act.put, List.setIfInBounds_toArray, List.set_cons_zero, List.set_cons_succ]
    refine wpAnyH_done (by kernel_rfl) ?_ _
    have j8 := JZ.out.keep s7
    have g8 := GZ.out.keep s7
    clear c0 c1 c2 c3 c4 c5 c6
    obtain ⟨j0, j1, j2, j3, j4, j5, j6⟩ := j8.seven
    obtain ⟨k0, k1, k2, k3, k4, k5, k6⟩ := g8.seven
    have jf := j8.frozen
    have J8 := hide j8
    have B8 := hide (below_on BZ.out s7)
    have R8 := hide (RZ.out.keep s7)
    clear j8 g8 hHeld
    clear s7 b7
    go_wp2_with fail
    (try simp only [Exit.inBlock, Exit.then])
    refine bodyPost_ret (results_cell_tmp rfl rfl (J8.out.set7 _ _ _ _ _ _ _) Try.underlying24 rfl (by kernel_rfl)) rfl ?_
    rw [HPz.out]
    exact ⟨none, 0, 0, rfl, Nat.le_refl _, Rd.nil _ _, below_set7 B8.out (Nat.le_refl _) _ _ _ _ _ _ _⟩
  · skip
    have RV := hide (R0.out.keep sV)
    have KV := hide kV
    have SV := hide sV
    have KW := hide (HB0.out.keep sV)
    have hne : w.heap.size < W.heap.size := HB0.out.lt
    have hltV : W.heap.size < V.heap.size := KV.out.lt
    have hltW : w.heap.size < V.heap.size := KW.out.lt
    clear R0 kV sV HB0 cx hHeld bV hsl1
    go_wp2_with fail
    refine (HW3.out _ RV.out).mono ?_
    rintro e w1 ⟨rfl, n2, rfl⟩
    have kV2 : Blk (V.drewN n2) W.heap.size 24 _ := KV.out
    have kW2 : Blk (V.drewN n2) w.heap.size 24 _ := KW.out
    have sV2 : Below W.heap.size W (V.drewN n2) := below_drewN SV.out n2
    have rV2 : Rd (V.drewN n2) (some ⟨b, o, none⟩) l (bv xs) := RV.out
    generalize V.drewN n2 = U at *
    clear KV KW RV SV hltV hltW hsl3
    clear V
    have RU := hide rV2
    have SU := hide sV2
    have hne1 : W.heap.size ≠ w.heap.size := by omega
    have hne2 : w.heap.size ≠ W.heap.size := by omega
    have hltV : W.heap.size < U.heap.size := kV2.lt
    have hltW : w.heap.size < U.heap.size := kW2.lt
    obtain ⟨k0, k1, k2, k3, k4, k5, k6⟩ := kV2.seven
    obtain ⟨j0, j1, j2, j3, j4, j5, j6⟩ := kW2.seven
    have kf := kV2.frozen
    have jf := kW2.frozen
    have KU := hide kV2
    have KW := hide kW2
    clear rV2 sV2 kV2 kW2
    have GZ := KU
    have JZ := KW
    have BZ := hide (below_on HBel.out SU.out)
    have RZ : Hid (Rd U none 0 (iv [])) := Rd.nil _ _
    have HMz := hide (fun W' hr => refMay_any f a1 0 0 0 0 none 0 0 [] W' hr (by omega))
    rw [HF.out 0] at HMz
    go_wp2_with fail
    clear k0 k1 k2 k3 k4 k5 k6 j0 j1 j2 j3 j4 j5 j6 kf jf
    have c0 := GZ.out.on 0 _ rfl
    have c1 := GZ.out.on 1 _ rfl
    have c2 := GZ.out.on 2 _ rfl
    have c3 := GZ.out.on 3 _ rfl
    have c4 := GZ.out.on 4 _ rfl
    have c5 := GZ.out.on 5 _ rfl
    have c6 := GZ.out.on 6 _ rfl
    refine wp_region_held_drew (S := fun w' => Below U.heap.size U w') (by kernel_rfl) ?_ (fun hHeld => ?_)
    · exact (Below.refl _ _).drew
    refine wpAnyH_take (i := 0) (oi := { dst := some 102, op := _, type := _, pos := _, after := _, guard := _ }) (v := ?v17x1) rfl (by kernel_rfl) (by kernel_rfl) (by kernel_rfl) (fun _ _ _ h => h) (Or.inl ⟨by rfl, ?hy17x1⟩) hHeld ?rest17x1
    case hy17x1 => (intro w hSw; go_simp <;> with_reducible rfl)
    try simp only [Act.put, List.setIfInBounds_toArray, List.set_cons_zero, List.set_cons_succ]
    refine wpAnyH_ready (rs := [1]) (by kernel_rfl) (by simp) (AllReadyH.cons (o := { dst := some 103, op := _, type := _, pos := _, after := _, guard := _ }) rfl (fun K hK => ?_) AllReadyH.nil)
    go_simp
    refine (HMz.out _ (RZ.out.keep hHeld)).mono ?_
    rintro e w7 ⟨rfl, b7⟩
    have s7 := below_on hHeld b7
    go_wp2_with fail
    refine hK.out _ _ ?_ (fun hHeld => ?_)
    · exact s7
    clear hK K
    try simp only [Act.put, List.setIfInBounds_toArray, List.set_cons_zero, List.set_cons_succ]
    refine wpAnyH_take (i := 2) (oi := { dst := some 104, op := _, type := _, pos := _, after := _, guard := _ }) (v := ?v17x3) rfl (by kernel_rfl) (by kernel_rfl) (by kernel_rfl) (fun _ _ _ h => h) (Or.inl ⟨by rfl, ?hy17x3⟩) hHeld ?rest17x3
    case hy17x3 => (intro w hSw; go_simp <;> with_reducible rfl)
    try simp only [Act.put, List.setIfInBounds_toArray, List.set_cons_zero, List.set_cons_succ]
    refine wpAnyH_take (i := 3) (oi := { dst := some 105, op := _, type := _, pos := _, after := _, guard := _ }) (v := ?v17x4) rfl (by kernel_rfl) (by kernel_rfl) (by kernel_rfl) (fun _ _ _ h => h) (Or.inl ⟨by rfl, ?hy17x4⟩) hHeld ?rest17x4
    case hy17x4 => (intro w hSw; go_simp <;> with_reducible rfl)
    try simp only [Act.put, List.setIfInBounds_toArray, List.set_cons_zero, List.set_cons_succ]
    refine wpAnyH_take (i := 4) (oi := { dst := some 106, op := _, type := _, pos := _, after := _, guard := _ }) (v := undef) rfl (by kernel_rfl) (by kernel_rfl) (by kernel_rfl) (fun _ _ _ h => h) (Or.inr ⟨by rfl, rfl⟩) hHeld ?_
    try simp only [Act.put, List.setIfInBounds_toArray, List.set_cons_zero, List.set_cons_succ]
    refine wpAnyH_take (i := 5) (oi := { dst := some 107, op := _, type := _, pos := _, after := _, guard := _ }) (v := undef) rfl (by kernel_rfl) (by kernel_rfl) (by kernel_rfl) (fun _ _ _ h => h) (Or.inr ⟨by rfl, rfl⟩) hHeld ?_
    try simp only [Act.put, List.setIfInBounds_toArray, List.set_cons_zero, List.set_cons_succ]
    refine wpAnyH_take (i := 6) (oi := { dst := some 108, op := _, type := _, pos := _, after := _, guard := _ }) (v := undef) rfl (by kernel_rfl) (by kernel_rfl) (by kernel_rfl) (fun _ _ _ h => h) (Or.inr ⟨by rfl, rfl⟩) hHeld ?_
    try simp only [Act.put, List.setIfInBounds_toArray, List.set_cons_zero, List.set_cons_succ]
    refine wpAnyH_take (i := 7) (oi := { dst := some 109, op := _, type := _, pos := _, after := _, guard := _ }) (v := undef) rfl (by kernel_rfl) (by kernel_rfl) (by kernel_rfl) (fun _ _ _ h => h) (Or.inr ⟨by rfl, rfl⟩) hHeld ?_
    try simp only [Act.put, List.setIfInBounds_toArray, List.set_cons_zero, List.set_cons_succ]
    refine wpAnyH_take (i := 8) (oi := { dst := some 110, op := _, type := _, pos := _, after := _, guard := _ }) (v := undef) rfl (by kernel_rfl) (by kernel_rfl) (by kernel_rfl) (fun _ _ _ h => h) (Or.inr ⟨by rfl, rfl⟩) hHeld ?_
    try simp only [Act.put, List.setIfInBounds_toArray, List.set_cons_zero, List.set_cons_succ]
    refine wpAnyH_take (i := 9) (oi := { dst := some 111, op := _, type := _, pos := _, after := _, guard := _ }) (v := undef) rfl (by kernel_rfl) (by kernel_rfl) (by kernel_rfl) (fun _ _ _ h => h) (Or.inr ⟨by rfl, rfl⟩) hHeld ?_
    try simp only [Act.put, List.setIfInBounds_toArray, List.set_cons_zero, List.set_cons_succ]
    refine wpAnyH_take (i := 10) (oi := { dst := some 112, op := _, type := _, pos := _, after := _, guard := _ }) (v := ?v17x11) rfl (by kernel_rfl) (by kernel_rfl) (by kernel_rfl) (fun _ _ _ h => h) (Or.inl ⟨by rfl, ?hy17x11⟩) hHeld ?rest17x11
    case hy17x11 => (intro w hSw; go_simp <;> with_reducible rfl)
    try simp only [Act.put, List.setIfInBounds_toArray, List.set_cons_zero, List.set_cons_succ]
    refine wpAnyH_done (by kernel_rfl) ?_ _
    have j8 := JZ.out.keep s7
    have g8 := GZ.out.keep s7
    clear c0 c1 c2 c3 c4 c5 c6
    obtain ⟨j0, j1, j2, j3, j4, j5, j6⟩ := j8.seven
    obtain ⟨k0, k1, k2, k3, k4, k5, k6⟩ := g8.seven
    have jf := j8.frozen
    have J8 := hide j8
    have B8 := hide (below_on BZ.out s7)
    have R8 := hide (RZ.out.keep s7)
    clear j8 g8 hHeld
    clear s7 b7
    go_wp2_with fail
    (try simp only [Exit.inBlock, Exit.then])
    refine bodyPost_ret (results_cell_tmp rfl rfl (J8.out.set7 _ _ _ _ _ _ _) Try.underlying24 rfl (by kernel_rfl)) rfl ?_
    rw [HPz.out]
    exact ⟨none, 0, 0, rfl, Nat.le_refl _, Rd.nil _ _, below_set7 B8.out (Nat.le_refl _) _ _ _ _ _ _ _⟩

end Go.Proofs.Ytemlfhoejelgbaa
