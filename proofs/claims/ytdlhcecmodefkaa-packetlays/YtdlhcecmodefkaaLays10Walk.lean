/-
  What is proved here: the law PacketLays returns true for every packet that comes in, and writes nothing that was there. No condition of its own.
-/
import Derived.Test.YtdlhcecmodefkaaAwake10
import Derived.Test.YtdlhcecmodefkaaLay10
import Derived.Test.YtdlhcecmodefkaaPk10
import Derived.Test.YtdlhcecmodefkaaPk11
namespace Go.Proofs.Ytdlhcecmodefkaa
set_option linter.unusedVariables false
set_option linter.unusedSimpArgs false
open Go.RowKit

set_option maxRecDepth 100000 in
set_option maxHeartbeats 4000000 in
theorem lays10_walk (p : Pk) (C : Option Addr) (nc kc : Nat) (S : Option Addr) (ns ks : Nat) (w : World) (hM : PkM w p C nc kc S ns ks) (hL : PkL p) : Calls Try.prog 3 #[pkA p C nc kc S ns ks] w fun e w' => e = .returned (.bool true) ∧ Below w.heap.size w w' := by
  have PS := fun W hM => small_any p C nc kc S ns ks W hM hL
  have HM := hide (fun W (hb : Below w.heap.size w W) => hM.keep hb)
  have AW := awake_any
  clear hM hL
  simp only [pkA] at PS ⊢
  go_enter Try.func3, Try.ntmps3
  go_upto_region 1 with fail
  generalize hW : w.alloc _ = W
  obtain ⟨g, hg, hB, bW, -⟩ := boxedP (p := p) hW
  have bw : Below w.heap.size w W := by rw [hg]; exact bW
  rw [hg]
  have HB := hide hB
  have BW := hide bw
  have PS := PS W (HM.out W bw)
  clear hW hg hB bW bw
  refine wp_region_lit ?_
  refine wpList_loadP rfl 27 (.tmp 1) rfl g 27 p C nc kc S ns ks rfl HB.out Try.underlying27 rfl (by kernel_rfl) ?_
  go_wp2_with fail
  refine PS.mono ?_
  rintro e w1 ⟨rfl, b1⟩
  have HB := hide (HB.out.keep b1)
  have BW := hide (below_on BW.out b1)
  clear b1 PS
  by_cases hs : smallB p = true
  case neg =>
    rw [Bool.not_eq_true] at hs
    rw [hs]
    clear hs
    go_wp2_with fail
    go_ret
    exact ⟨rfl, BW.out⟩
  case pos =>
  rw [hs]
  have hsh := smallB_short hs
  have PC := check_any p C nc kc S ns ks w1 (HM.out w1 BW.out) hsh
  obtain ⟨ec, hec⟩ : ∃ ec : Int, (if mayP p = true then (0 : Int) else 1) = ec := ⟨_, rfl⟩
  rw [hec] at PC
  have Hec := hide hec
  clear hec
  have PB := hide (fun (W : World) (hb : Below w.heap.size w W) => bytes_any p C nc kc S ns ks W (HM.out W hb) hsh)
  have PM := hide (fun (W : World) (hb : Below w.heap.size w W) => may_any p C nc kc S ns ks W (HM.out W hb) hsh)
  have PR := hide (fun (hm : mayP p = true) (W : World) (hb : Below w.heap.size w W) => rBytes10_any p C nc kc S ns ks W (HM.out W hb) hsh hm)
  have HLay := hide (fun hm => small_lay hs hm)
  clear hs hsh
  go_upto_region 4 with (first
    | (refine wpList_loadP rfl 27 (.tmp 1) rfl g 27 p C nc kc S ns ks rfl HB.out Try.underlying27 rfl (by kernel_rfl) ?_)
    | (go_at_call 11; refine PC.mono ?_; rintro e w2 ⟨rfl, b2⟩; have HB := hide (HB.out.keep b2); have BW := hide (below_on BW.out b2); have PB := PB.out w2 BW.out))
  unfold ByPost at PB
  clear b2 PC
  refine wp_region_lit ?_
  refine wpList_loadP rfl 27 (.tmp 1) rfl g 27 p C nc kc S ns ks rfl HB.out Try.underlying27 rfl (by kernel_rfl) ?_
  go_wp2_with fail
  refine PB.mono ?_
  clear PB
  by_cases hm : mayP p = true
  case neg =>
    have hec := Hec.out
    rw [if_neg hm] at hec
    subst hec
    have hmf : mayP p = false := by rw [← Bool.not_eq_true]; exact hm
    simp only [if_neg hm]
    rintro e w3 ⟨rfl, b3⟩
    have BW := hide (below_on BW.out b3)
    have HB := hide (HB.out.keep b3)
    have PM := PM.out w3 BW.out
    rw [hmf] at PM
    clear b3 hm hmf HLay PR Hec
    go_upto_region 6 with (first
      | (refine wpList_loadP rfl 27 (.tmp 1) rfl g 27 p C nc kc S ns ks rfl HB.out Try.underlying27 rfl (by kernel_rfl) ?_)
      | (go_at_call 13; refine PM.mono ?_; rintro e w4 ⟨rfl, b4⟩; have BW := hide (below_on BW.out b4); have AW := AW w4))
    clear b4
    go_wp2_with fail
    refine AW.mono ?_
    rintro e w5 ⟨rfl, b5⟩
    go_wp2_with fail
    go_ret
    exact ⟨rfl, below_on BW.out b5⟩
  case pos =>
  have hec := Hec.out
  rw [if_pos hm] at hec
  subst hec
  simp only [if_pos hm]
  rintro e w3 ⟨D, d, rfl, o3, b3⟩
  have hN := HLay.out hm
  have BW := hide (below_on BW.out b3)
  have HB := hide (HB.out.keep b3)
  have PM := PM.out w3 BW.out
  rw [hm] at PM
  have PR := hide (PR.out hm)
  have HD := hide (own_rd o3)
  clear b3 o3 hm HLay Hec
  go_upto_region 6 with (first
    | (refine wpList_loadP rfl 27 (.tmp 1) rfl g 27 p C nc kc S ns ks rfl HB.out Try.underlying27 rfl (by kernel_rfl) ?_)
    | (go_at_call 13; refine PM.mono ?_; rintro e w4 ⟨rfl, b4⟩; have BW := hide (below_on BW.out b4); have HB := hide (HB.out.keep b4); have HD := hide (HD.out.keep b4)))
  clear b4 PM
  go_upto_region 7 with fail
  refine wp_region_held_drew (S := fun w' => Below w4.heap.size w4 w') (by kernel_rfl) ?_ (fun hHeld => ?_)
  · exact (Below.refl _ _).drew
  refine wpAnyH_ready (rs := [0]) (by kernel_rfl) (by simp) (AllReadyH.cons (o := { dst := some 34, op := _, type := _, pos := _, after := _, guard := _ }) rfl (fun K hK => ?_) AllReadyH.nil)
  go_simp
  refine (AW _).mono ?_
  rintro e w6 ⟨rfl, b6⟩
  have s6 := below_on hHeld b6
  have dF := strOn (HD.out.keep s6)
  have HB6 : ∀ w', Below w6.heap.size w6 w' → Blk w' g 27 (pkVs p C nc kc S ns ks) := fun w' h => (HB.out.keep s6).keep h
  go_wp2_with fail
  refine hK.out _ _ ?_ (fun hHeld => ?_)
  · exact below_on hHeld b6
  clear hK K
  try simp only [Act.put, List.setIfInBounds_toArray, List.set_cons_zero, List.set_cons_succ]
  refine wpAnyH_strong (S' := fun w' => Below w6.heap.size w6 w') (by intro w' h; exact below_on hHeld h) ?_
  replace hHeld : (fun w' => Below w6.heap.size w6 w') _ := Below.refl _ _
  refine wpAnyH_take (i := 1) (oi := { dst := some 35, op := _, type := _, pos := _, after := _, guard := _ }) (v := ?v1x2) rfl (by kernel_rfl) (by kernel_rfl) (by kernel_rfl) (fun _ _ _ h => h) (Or.inl ⟨by rfl, ?hy1x2⟩) hHeld ?rest1x2
  case hy1x2 => (intro w hSw; go_simp <;> with_reducible rfl)
  try simp only [Act.put, List.setIfInBounds_toArray, List.set_cons_zero, List.set_cons_succ]
  refine wpAnyH_take (i := 2) (oi := { dst := some 36, op := _, type := _, pos := _, after := _, guard := _ }) (v := ?v1x3) rfl (by kernel_rfl) (by kernel_rfl) (by kernel_rfl) (fun _ _ _ h => h) (Or.inl ⟨by rfl, ?hy1x3⟩) hHeld ?rest1x3
  case hy1x3 => (intro w hSw; go_simp <;> with_reducible rfl)
  try simp only [Act.put, List.setIfInBounds_toArray, List.set_cons_zero, List.set_cons_succ]
  refine wpAnyH_take (i := 3) (oi := { dst := some 37, op := _, type := _, pos := _, after := _, guard := _ }) (v := ?v1x4) rfl (by kernel_rfl) (by kernel_rfl) (by kernel_rfl) (fun _ _ _ h => h) (Or.inl ⟨by rfl, ?hy1x4⟩) hHeld ?rest1x4
  case hy1x4 => (intro w hSw; go_simp <;> with_reducible rfl)
  try simp only [Act.put, List.setIfInBounds_toArray, List.set_cons_zero, List.set_cons_succ]
  refine wpAnyH_take (i := 4) (oi := { dst := some 38, op := _, type := _, pos := _, after := _, guard := _ }) (v := ?v1x5) rfl (by kernel_rfl) (by kernel_rfl) (by kernel_rfl) (fun _ _ _ h => h) (Or.inl ⟨by rfl, ?hy1x5⟩) hHeld ?rest1x5
  case hy1x5 => (intro w hSw; go_simp <;> with_reducible rfl)
  try simp only [Act.put, List.setIfInBounds_toArray, List.set_cons_zero, List.set_cons_succ]
  refine wpAnyH_take (i := 5) (oi := { dst := some 39, op := _, type := _, pos := _, after := _, guard := _ }) (v := ?v1x6) rfl (by kernel_rfl) (by kernel_rfl) (by kernel_rfl) (fun _ _ _ h => h) (Or.inl ⟨by rfl, ?hy1x6⟩) hHeld ?rest1x6
  case hy1x6 => (intro w hSw; go_simp <;> with_reducible rfl)
  try simp only [Act.put, List.setIfInBounds_toArray, List.set_cons_zero, List.set_cons_succ]
  refine wpAnyH_take (i := 6) (oi := { dst := some 40, op := _, type := _, pos := _, after := _, guard := _ }) (v := ?v1x7) rfl (by kernel_rfl) (by kernel_rfl) (by kernel_rfl) (fun _ _ _ h => h) (Or.inl ⟨by rfl, ?hy1x7⟩) hHeld ?rest1x7
  case hy1x7 => (intro w hSw; go_simp <;> with_reducible rfl)
  try simp only [Act.put, List.setIfInBounds_toArray, List.set_cons_zero, List.set_cons_succ]
  refine wpAnyH_take (i := 7) (oi := { dst := some 41, op := _, type := _, pos := _, after := _, guard := _ }) (v := ?v1x8) rfl (by kernel_rfl) (by kernel_rfl) (by kernel_rfl) (fun _ _ _ h => h) (Or.inl ⟨by rfl, ?hy1x8⟩) hHeld ?rest1x8
  case hy1x8 => (intro w hSw; go_simp <;> with_reducible rfl)
  try simp only [Act.put, List.setIfInBounds_toArray, List.set_cons_zero, List.set_cons_succ]
  refine wpAnyH_take (i := 8) (oi := { dst := some 42, op := _, type := _, pos := _, after := _, guard := _ }) (v := ?v1x9) rfl (by kernel_rfl) (by kernel_rfl) (by kernel_rfl) (fun _ _ _ h => h) (Or.inl ⟨by rfl, ?hy1x9⟩) hHeld ?rest1x9
  case hy1x9 => (intro w hSw; go_simp <;> with_reducible rfl)
  try simp only [Act.put, List.setIfInBounds_toArray, List.set_cons_zero, List.set_cons_succ]
  refine wpAnyH_take (i := 9) (oi := { dst := some 43, op := _, type := _, pos := _, after := _, guard := _ }) (v := ?v1x10) rfl (by kernel_rfl) (by kernel_rfl) (by kernel_rfl) (fun _ _ _ h => h) (Or.inl ⟨by rfl, ?hy1x10⟩) hHeld ?rest1x10
  case hy1x10 => (intro w hSw; go_simp <;> with_reducible rfl)
  try simp only [Act.put, List.setIfInBounds_toArray, List.set_cons_zero, List.set_cons_succ]
  refine wpAnyH_take (i := 10) (oi := { dst := some 44, op := _, type := _, pos := _, after := _, guard := _ }) (v := ?v1x11) rfl (by kernel_rfl) (by kernel_rfl) (by kernel_rfl) (fun _ _ _ h => h) (Or.inl ⟨by rfl, ?hy1x11⟩) hHeld ?rest1x11
  case hy1x11 => (intro w hSw; go_simp <;> with_reducible rfl)
  try simp only [Act.put, List.setIfInBounds_toArray, List.set_cons_zero, List.set_cons_succ]
  refine wpAnyH_take (i := 11) (oi := { dst := some 45, op := _, type := _, pos := _, after := _, guard := _ }) (v := ?v1x12) rfl (by kernel_rfl) (by kernel_rfl) (by kernel_rfl) (fun _ _ _ h => h) (Or.inl ⟨by rfl, ?hy1x12⟩) hHeld ?rest1x12
  case hy1x12 => (intro w hSw; go_simp <;> with_reducible rfl)
  try simp only [Act.put, List.setIfInBounds_toArray, List.set_cons_zero, List.set_cons_succ]
  refine wpAnyH_take (i := 12) (oi := { dst := some 46, op := _, type := _, pos := _, after := _, guard := _ }) (v := ?v1x13) rfl (by kernel_rfl) (by kernel_rfl) (by kernel_rfl) (fun _ _ _ h => h) (Or.inl ⟨by rfl, ?hy1x13⟩) hHeld ?rest1x13
  case hy1x13 => (intro w hSw; go_simp <;> with_reducible rfl)
  try simp only [Act.put, List.setIfInBounds_toArray, List.set_cons_zero, List.set_cons_succ]
  refine wpAnyH_take (i := 13) (oi := { dst := some 47, op := _, type := _, pos := _, after := _, guard := _ }) (v := ?v1x14) rfl (by kernel_rfl) (by kernel_rfl) (by kernel_rfl) (fun _ _ _ h => h) (Or.inl ⟨by rfl, ?hy1x14⟩) hHeld ?rest1x14
  case hy1x14 => (intro w hSw; refine exec_loadP 27 (.tmp 1) ?_ g 27 p C nc kc S ns ks ?_ (HB6 w hSw) Try.underlying27 ?_ ?_; rfl; rfl; rfl; kernel_rfl)
  try simp only [Act.put, List.setIfInBounds_toArray, List.set_cons_zero, List.set_cons_succ]
  refine wpAnyH_ready (rs := [14]) (by kernel_rfl) (by simp) (AllReadyH.cons (o := { dst := some 48, op := _, type := _, pos := _, after := _, guard := _ }) rfl (fun K hK => ?_) AllReadyH.nil)
  go_simp
  refine (PR.out _ (below_on BW.out (below_on s6 hHeld))).mono ?_
  rintro e w7 ⟨G, gk, rfl, hgk, r7, b7⟩
  have s7 := below_on s6 (below_on hHeld b7)
  have dG := strOn r7
  go_wp2_with fail
  refine hK.out _ _ ?_ (fun hHeld => ?_)
  · exact below_on hHeld b7
  clear hK K
  try simp only [Act.put, List.setIfInBounds_toArray, List.set_cons_zero, List.set_cons_succ]
  refine wpAnyH_strong (S' := fun w' => Below w7.heap.size w7 w') (by intro w' h; exact below_on hHeld h) ?_
  replace hHeld : (fun w' => Below w7.heap.size w7 w') _ := Below.refl _ _
  refine wpAnyH_take (i := 15) (oi := { dst := some 49, op := _, type := _, pos := _, after := _, guard := _ }) (v := ?v1x16) rfl (by kernel_rfl) (by kernel_rfl) (by kernel_rfl) (fun _ _ _ h => h) (Or.inl ⟨by rfl, ?hy1x16⟩) hHeld ?rest1x16
  case hy1x16 => (intro w hSw; go_simp <;> with_reducible rfl)
  try simp only [Act.put, List.setIfInBounds_toArray, List.set_cons_zero, List.set_cons_succ]
  refine wpAnyH_take (i := 16) (oi := { dst := some 50, op := _, type := _, pos := _, after := _, guard := _ }) (v := ?v1x17) rfl (by kernel_rfl) (by kernel_rfl) (by kernel_rfl) (fun _ _ _ h => h) (Or.inl ⟨by rfl, ?hy1x17⟩) hHeld ?rest1x17
  case hy1x17 => (intro w hSw; go_simp <;> with_reducible rfl)
  try simp only [Act.put, List.setIfInBounds_toArray, List.set_cons_zero, List.set_cons_succ]
  refine wpAnyH_take (i := 17) (oi := { dst := some 51, op := _, type := _, pos := _, after := _, guard := _ }) (v := ?v1x18) rfl (by kernel_rfl) (by kernel_rfl) (by kernel_rfl) (fun _ _ _ h => h) (Or.inl ⟨by rfl, ?hy1x18⟩) hHeld ?rest1x18
  case hy1x18 => (intro w hSw; go_simp <;> with_reducible rfl)
  try simp only [Act.put, List.setIfInBounds_toArray, List.set_cons_zero, List.set_cons_succ]
  refine wpAnyH_take (i := 18) (oi := { dst := some 2, op := _, type := _, pos := _, after := _, guard := _ }) (v := ?v1x19) rfl (by kernel_rfl) (by kernel_rfl) (by kernel_rfl) (fun _ _ _ h => h) (Or.inl ⟨by rfl, ?hy1x19⟩) hHeld ?rest1x19
  case hy1x19 => (intro w hSw; go_simp <;> with_reducible rfl)
  try simp only [Act.put, List.setIfInBounds_toArray, List.set_cons_zero, List.set_cons_succ]
  refine wpAnyH_done (by kernel_rfl) ?_ _
  go_wp2_with fail
  go_ret
  exact ⟨rfl, below_on BW.out s7⟩

end Go.Proofs.Ytdlhcecmodefkaa
