/-
  What is proved here: what the document's own 'May' of layer 10 returns: may the packet be. Conditions: strings and lists of at most 65535.
-/
import Derived.Test.YtkgidimaiedocaaPk7
import Derived.Test.YtkgidimaiedocaaPk1
import Derived.Test.YtkgidimaiedocaaUs10a
import Derived.Test.YtkgidimaiedocaaSn10g
import Derived.Test.YtkgidimaiedocaaVt3
namespace Go.Proofs.Ytkgidimaiedocaa
set_option linter.unusedVariables false
set_option linter.unusedSimpArgs false
open Go.RowKit

theorem usedP_short {p : Pk} (h : PkU p) : (usedP p).codes.length ≤ 1048576 ∧ (usedP p).subs.length ≤ 1048576 := by
  obtain ⟨-, -, -, -, -, h6, h7, -⟩ := h
  unfold usedP
  constructor
  · repeat' split
    all_goals first
      | exact h6
      | exact Nat.zero_le _
  · repeat' split
    all_goals first
      | exact h7
      | exact Nat.zero_le _

set_option maxRecDepth 100000 in
set_option maxHeartbeats 8000000 in
theorem may_any (p : Pk) (C : Option Addr) (nc kc : Nat) (S : Option Addr) (ns ks : Nat) (w : World) (hM : PkM w p C nc kc S ns ks) (hs : PkU p) : Calls Try.prog 12 #[pkA p C nc kc S ns ks] w fun e w' => e = .returned (.bool (mayP p)) ∧ Below w.heap.size w w' := by
  have HM := hide (fun W (hb : Below w.heap.size w W) => hM.keep hb)
  have Hs := hide hs
  obtain ⟨R, hR⟩ : ∃ R, mayP p = R := ⟨_, rfl⟩
  rw [hR]
  have HR := hide hR
  clear hM hs hR
  go_enter Try.func12, Try.ntmps12
  simp only [pkA]
  go_upto_region 1 with fail
  generalize hW : w.alloc _ = W
  obtain ⟨g, hg, hB, bW, -⟩ := boxedP (p := p) hW
  have bw : Below w.heap.size w W := by rw [hg]; exact bW
  rw [hg]
  have HB := hide hB
  have BW := hide bw
  clear hW hg hB bW bw
  obtain ⟨c0, -⟩ := HB.out.p18
  by_cases h1 : p.ty < 1
  case pos =>
    have hr : R = false := by rw [← HR.out]; unfold mayP; rw [decide_eq_false (by omega)]; rfl
    subst hr
    refine wp_region_held_drew (S := fun Z => Z.cell? ⟨g, 0, none⟩ = some (.int .i64 p.ty) ∧ Below w.heap.size w Z) (by kernel_rfl) ?_ (fun hHeld => ?_)
    · exact ⟨c0, BW.out.drew⟩
    refine wpAnyH_take (i := 0) (oi := { dst := some 6, op := _, type := _, pos := _, after := _, guard := _ }) (v := ?v1x1) rfl (by kernel_rfl) (by kernel_rfl) (by kernel_rfl) (fun _ _ _ h => h) (Or.inl ⟨by rfl, ?hy1x1⟩) hHeld ?rest1x1
    case hy1x1 => (intro w hSw; go_simp <;> with_reducible rfl)
    try simp only [Act.put, List.setIfInBounds_toArray, List.set_cons_zero, List.set_cons_succ]
    refine wpAnyH_take (i := 1) (oi := { dst := some 7, op := _, type := _, pos := _, after := _, guard := _ }) (v := ?v1x2) rfl (by kernel_rfl) (by kernel_rfl) (by kernel_rfl) (fun _ _ _ h => h) (Or.inl ⟨by rfl, ?hy1x2⟩) hHeld ?rest1x2
    case hy1x2 => (intro w hSw; go_simp <;> with_reducible rfl)
    try simp only [Act.put, List.setIfInBounds_toArray, List.set_cons_zero, List.set_cons_succ]
    refine wpAnyH_take (i := 2) (oi := { dst := some 8, op := _, type := _, pos := _, after := _, guard := _ }) (v := ?v1x3) rfl (by kernel_rfl) (by kernel_rfl) (by kernel_rfl) (fun _ _ _ h => h) (Or.inl ⟨by rfl, ?hy1x3⟩) hHeld ?rest1x3
    case hy1x3 => (intro w hSw; go_simp <;> with_reducible rfl)
    try simp only [Act.put, List.setIfInBounds_toArray, List.set_cons_zero, List.set_cons_succ]
    refine wpAnyH_take (i := 3) (oi := { dst := some 9, op := _, type := _, pos := _, after := _, guard := _ }) (v := ?v1x4) rfl (by kernel_rfl) (by kernel_rfl) (by kernel_rfl) (fun _ _ _ h => h) (Or.inl ⟨by rfl, ?hy1x4⟩) hHeld ?rest1x4
    case hy1x4 => (intro w hSw; go_simp <;> with_reducible rfl)
    try simp only [Act.put, List.setIfInBounds_toArray, List.set_cons_zero, List.set_cons_succ]
    refine wpAnyH_take (i := 4) (oi := { dst := some 10, op := _, type := _, pos := _, after := _, guard := _ }) (v := undef) rfl (by kernel_rfl) (by kernel_rfl) (by kernel_rfl) (fun _ _ _ h => h) (Or.inr ⟨by rfl, rfl⟩) hHeld ?_
    try simp only [Act.put, List.setIfInBounds_toArray, List.set_cons_zero, List.set_cons_succ]
    refine wpAnyH_take (i := 5) (oi := { dst := some 11, op := _, type := _, pos := _, after := _, guard := _ }) (v := undef) rfl (by kernel_rfl) (by kernel_rfl) (by kernel_rfl) (fun _ _ _ h => h) (Or.inr ⟨by rfl, rfl⟩) hHeld ?_
    try simp only [Act.put, List.setIfInBounds_toArray, List.set_cons_zero, List.set_cons_succ]
    refine wpAnyH_take (i := 6) (oi := { dst := some 12, op := _, type := _, pos := _, after := _, guard := _ }) (v := undef) rfl (by kernel_rfl) (by kernel_rfl) (by kernel_rfl) (fun _ _ _ h => h) (Or.inr ⟨by rfl, rfl⟩) hHeld ?_
    try simp only [Act.put, List.setIfInBounds_toArray, List.set_cons_zero, List.set_cons_succ]
    refine wpAnyH_take (i := 7) (oi := { dst := some 13, op := _, type := _, pos := _, after := _, guard := _ }) (v := ?v1x8) rfl (by kernel_rfl) (by kernel_rfl) (by kernel_rfl) (fun _ _ _ h => h) (Or.inl ⟨by rfl, ?hy1x8⟩) hHeld ?rest1x8
    case hy1x8 => (intro w hSw; go_simp <;> with_reducible rfl)
    try simp only [Act.put, List.setIfInBounds_toArray, List.set_cons_zero, List.set_cons_succ]
    refine wpAnyH_take (i := 8) (oi := { dst := some 14, op := _, type := _, pos := _, after := _, guard := _ }) (v := ?v1x9) rfl (by kernel_rfl) (by kernel_rfl) (by kernel_rfl) (fun _ _ _ h => h) (Or.inl ⟨by rfl, ?hy1x9⟩) hHeld ?rest1x9
    case hy1x9 => (intro w hSw; go_simp <;> with_reducible rfl)
    try simp only [Act.put, List.setIfInBounds_toArray, List.set_cons_zero, List.set_cons_succ]
    refine wpAnyH_take (i := 9) (oi := { dst := some 15, op := _, type := _, pos := _, after := _, guard := _ }) (v := undef) rfl (by kernel_rfl) (by kernel_rfl) (by kernel_rfl) (fun _ _ _ h => h) (Or.inr ⟨by rfl, rfl⟩) hHeld ?_
    try simp only [Act.put, List.setIfInBounds_toArray, List.set_cons_zero, List.set_cons_succ]
    refine wpAnyH_take (i := 10) (oi := { dst := some 16, op := _, type := _, pos := _, after := _, guard := _ }) (v := undef) rfl (by kernel_rfl) (by kernel_rfl) (by kernel_rfl) (fun _ _ _ h => h) (Or.inr ⟨by rfl, rfl⟩) hHeld ?_
    try simp only [Act.put, List.setIfInBounds_toArray, List.set_cons_zero, List.set_cons_succ]
    refine wpAnyH_take (i := 11) (oi := { dst := some 17, op := _, type := _, pos := _, after := _, guard := _ }) (v := undef) rfl (by kernel_rfl) (by kernel_rfl) (by kernel_rfl) (fun _ _ _ h => h) (Or.inr ⟨by rfl, rfl⟩) hHeld ?_
    try simp only [Act.put, List.setIfInBounds_toArray, List.set_cons_zero, List.set_cons_succ]
    refine wpAnyH_take (i := 12) (oi := { dst := some 18, op := _, type := _, pos := _, after := _, guard := _ }) (v := undef) rfl (by kernel_rfl) (by kernel_rfl) (by kernel_rfl) (fun _ _ _ h => h) (Or.inr ⟨by rfl, rfl⟩) hHeld ?_
    try simp only [Act.put, List.setIfInBounds_toArray, List.set_cons_zero, List.set_cons_succ]
    refine wpAnyH_take (i := 13) (oi := { dst := some 19, op := _, type := _, pos := _, after := _, guard := _ }) (v := undef) rfl (by kernel_rfl) (by kernel_rfl) (by kernel_rfl) (fun _ _ _ h => h) (Or.inr ⟨by rfl, rfl⟩) hHeld ?_
    try simp only [Act.put, List.setIfInBounds_toArray, List.set_cons_zero, List.set_cons_succ]
    refine wpAnyH_take (i := 14) (oi := { dst := some 20, op := _, type := _, pos := _, after := _, guard := _ }) (v := ?v1x15) rfl (by kernel_rfl) (by kernel_rfl) (by kernel_rfl) (fun _ _ _ h => h) (Or.inl ⟨by rfl, ?hy1x15⟩) hHeld ?rest1x15
    case hy1x15 => (intro w hSw; go_simp <;> with_reducible rfl)
    try simp only [Act.put, List.setIfInBounds_toArray, List.set_cons_zero, List.set_cons_succ]
    refine wpAnyH_done (by kernel_rfl) ?_ _
    go_wp2_with fail
    go_ret
    exact ⟨rfl, hHeld.2⟩
  case neg =>
  by_cases h14 : 14 < p.ty
  case pos =>
    have hr : R = false := by rw [← HR.out]; unfold mayP; rw [decide_eq_false (by omega)]; rfl
    subst hr
    refine wp_region_held_drew (S := fun Z => Z.cell? ⟨g, 0, none⟩ = some (.int .i64 p.ty) ∧ Below w.heap.size w Z) (by kernel_rfl) ?_ (fun hHeld => ?_)
    · exact ⟨c0, BW.out.drew⟩
    refine wpAnyH_take (i := 0) (oi := { dst := some 6, op := _, type := _, pos := _, after := _, guard := _ }) (v := ?v2x1) rfl (by kernel_rfl) (by kernel_rfl) (by kernel_rfl) (fun _ _ _ h => h) (Or.inl ⟨by rfl, ?hy2x1⟩) hHeld ?rest2x1
    case hy2x1 => (intro w hSw; go_simp <;> with_reducible rfl)
    try simp only [Act.put, List.setIfInBounds_toArray, List.set_cons_zero, List.set_cons_succ]
    refine wpAnyH_take (i := 1) (oi := { dst := some 7, op := _, type := _, pos := _, after := _, guard := _ }) (v := ?v2x2) rfl (by kernel_rfl) (by kernel_rfl) (by kernel_rfl) (fun _ _ _ h => h) (Or.inl ⟨by rfl, ?hy2x2⟩) hHeld ?rest2x2
    case hy2x2 => (intro w hSw; go_simp <;> with_reducible rfl)
    try simp only [Act.put, List.setIfInBounds_toArray, List.set_cons_zero, List.set_cons_succ]
    refine wpAnyH_take (i := 2) (oi := { dst := some 8, op := _, type := _, pos := _, after := _, guard := _ }) (v := ?v2x3) rfl (by kernel_rfl) (by kernel_rfl) (by kernel_rfl) (fun _ _ _ h => h) (Or.inl ⟨by rfl, ?hy2x3⟩) hHeld ?rest2x3
    case hy2x3 => (intro w hSw; go_simp <;> with_reducible rfl)
    try simp only [Act.put, List.setIfInBounds_toArray, List.set_cons_zero, List.set_cons_succ]
    refine wpAnyH_take (i := 3) (oi := { dst := some 9, op := _, type := _, pos := _, after := _, guard := _ }) (v := ?v2x4) rfl (by kernel_rfl) (by kernel_rfl) (by kernel_rfl) (fun _ _ _ h => h) (Or.inl ⟨by rfl, ?hy2x4⟩) hHeld ?rest2x4
    case hy2x4 => (intro w hSw; go_simp <;> with_reducible rfl)
    try simp only [Act.put, List.setIfInBounds_toArray, List.set_cons_zero, List.set_cons_succ]
    refine wpAnyH_take (i := 4) (oi := { dst := some 10, op := _, type := _, pos := _, after := _, guard := _ }) (v := ?v2x5) rfl (by kernel_rfl) (by kernel_rfl) (by kernel_rfl) (fun _ _ _ h => h) (Or.inl ⟨by rfl, ?hy2x5⟩) hHeld ?rest2x5
    case hy2x5 => (intro w hSw; go_simp <;> with_reducible rfl)
    try simp only [Act.put, List.setIfInBounds_toArray, List.set_cons_zero, List.set_cons_succ]
    refine wpAnyH_take (i := 5) (oi := { dst := some 11, op := _, type := _, pos := _, after := _, guard := _ }) (v := ?v2x6) rfl (by kernel_rfl) (by kernel_rfl) (by kernel_rfl) (fun _ _ _ h => h) (Or.inl ⟨by rfl, ?hy2x6⟩) hHeld ?rest2x6
    case hy2x6 => (intro w hSw; go_simp <;> with_reducible rfl)
    try simp only [Act.put, List.setIfInBounds_toArray, List.set_cons_zero, List.set_cons_succ]
    refine wpAnyH_take (i := 6) (oi := { dst := some 12, op := _, type := _, pos := _, after := _, guard := _ }) (v := ?v2x7) rfl (by kernel_rfl) (by kernel_rfl) (by kernel_rfl) (fun _ _ _ h => h) (Or.inl ⟨by rfl, ?hy2x7⟩) hHeld ?rest2x7
    case hy2x7 => (intro w hSw; go_simp <;> with_reducible rfl)
    try simp only [Act.put, List.setIfInBounds_toArray, List.set_cons_zero, List.set_cons_succ]
    refine wpAnyH_take (i := 7) (oi := { dst := some 13, op := _, type := _, pos := _, after := _, guard := _ }) (v := ?v2x8) rfl (by kernel_rfl) (by kernel_rfl) (by kernel_rfl) (fun _ _ _ h => h) (Or.inl ⟨by rfl, ?hy2x8⟩) hHeld ?rest2x8
    case hy2x8 => (intro w hSw; go_simp <;> with_reducible rfl)
    try simp only [Act.put, List.setIfInBounds_toArray, List.set_cons_zero, List.set_cons_succ]
    refine wpAnyH_take (i := 8) (oi := { dst := some 14, op := _, type := _, pos := _, after := _, guard := _ }) (v := ?v2x9) rfl (by kernel_rfl) (by kernel_rfl) (by kernel_rfl) (fun _ _ _ h => h) (Or.inl ⟨by rfl, ?hy2x9⟩) hHeld ?rest2x9
    case hy2x9 => (intro w hSw; go_simp <;> with_reducible rfl)
    try simp only [Act.put, List.setIfInBounds_toArray, List.set_cons_zero, List.set_cons_succ]
    refine wpAnyH_take (i := 9) (oi := { dst := some 15, op := _, type := _, pos := _, after := _, guard := _ }) (v := undef) rfl (by kernel_rfl) (by kernel_rfl) (by kernel_rfl) (fun _ _ _ h => h) (Or.inr ⟨by rfl, rfl⟩) hHeld ?_
    try simp only [Act.put, List.setIfInBounds_toArray, List.set_cons_zero, List.set_cons_succ]
    refine wpAnyH_take (i := 10) (oi := { dst := some 16, op := _, type := _, pos := _, after := _, guard := _ }) (v := undef) rfl (by kernel_rfl) (by kernel_rfl) (by kernel_rfl) (fun _ _ _ h => h) (Or.inr ⟨by rfl, rfl⟩) hHeld ?_
    try simp only [Act.put, List.setIfInBounds_toArray, List.set_cons_zero, List.set_cons_succ]
    refine wpAnyH_take (i := 11) (oi := { dst := some 17, op := _, type := _, pos := _, after := _, guard := _ }) (v := undef) rfl (by kernel_rfl) (by kernel_rfl) (by kernel_rfl) (fun _ _ _ h => h) (Or.inr ⟨by rfl, rfl⟩) hHeld ?_
    try simp only [Act.put, List.setIfInBounds_toArray, List.set_cons_zero, List.set_cons_succ]
    refine wpAnyH_take (i := 12) (oi := { dst := some 18, op := _, type := _, pos := _, after := _, guard := _ }) (v := undef) rfl (by kernel_rfl) (by kernel_rfl) (by kernel_rfl) (fun _ _ _ h => h) (Or.inr ⟨by rfl, rfl⟩) hHeld ?_
    try simp only [Act.put, List.setIfInBounds_toArray, List.set_cons_zero, List.set_cons_succ]
    refine wpAnyH_take (i := 13) (oi := { dst := some 19, op := _, type := _, pos := _, after := _, guard := _ }) (v := undef) rfl (by kernel_rfl) (by kernel_rfl) (by kernel_rfl) (fun _ _ _ h => h) (Or.inr ⟨by rfl, rfl⟩) hHeld ?_
    try simp only [Act.put, List.setIfInBounds_toArray, List.set_cons_zero, List.set_cons_succ]
    refine wpAnyH_take (i := 14) (oi := { dst := some 20, op := _, type := _, pos := _, after := _, guard := _ }) (v := ?v2x15) rfl (by kernel_rfl) (by kernel_rfl) (by kernel_rfl) (fun _ _ _ h => h) (Or.inl ⟨by rfl, ?hy2x15⟩) hHeld ?rest2x15
    case hy2x15 => (intro w hSw; go_simp <;> with_reducible rfl)
    try simp only [Act.put, List.setIfInBounds_toArray, List.set_cons_zero, List.set_cons_succ]
    refine wpAnyH_done (by kernel_rfl) ?_ _
    go_wp2_with fail
    go_ret
    exact ⟨rfl, hHeld.2⟩
  case neg =>
  have PU := fun W hM => used_any p C nc kc S ns ks W hM (by omega) (by omega)
  unfold UsPost at PU
  have HU := hide PU
  have HS := hide (usedP_short Hs.out)
  clear PU
  obtain ⟨u, hu⟩ : ∃ u, usedP p = u := ⟨_, rfl⟩
  rw [hu] at HU HS
  have Hu := hide hu
  clear hu
  refine wp_region_held_drew (S := fun Z => Z.cell? ⟨g, 0, none⟩ = some (.int .i64 p.ty) ∧ Below w.heap.size w Z ∧ Hid (Blk Z g 35 (pkVs p C nc kc S ns ks))) (by kernel_rfl) ?_ (fun hHeld => ?_)
  · exact ⟨c0, BW.out.drew, hide (show Blk W.drew g _ _ from HB.out)⟩
  refine wpAnyH_take (i := 0) (oi := { dst := some 6, op := _, type := _, pos := _, after := _, guard := _ }) (v := ?v3x1) rfl (by kernel_rfl) (by kernel_rfl) (by kernel_rfl) (fun _ _ _ h => h) (Or.inl ⟨by rfl, ?hy3x1⟩) hHeld ?rest3x1
  case hy3x1 => (intro w hSw; go_simp <;> with_reducible rfl)
  try simp only [Act.put, List.setIfInBounds_toArray, List.set_cons_zero, List.set_cons_succ]
  refine wpAnyH_take (i := 1) (oi := { dst := some 7, op := _, type := _, pos := _, after := _, guard := _ }) (v := ?v3x2) rfl (by kernel_rfl) (by kernel_rfl) (by kernel_rfl) (fun _ _ _ h => h) (Or.inl ⟨by rfl, ?hy3x2⟩) hHeld ?rest3x2
  case hy3x2 => (intro w hSw; go_simp <;> with_reducible rfl)
  try simp only [Act.put, List.setIfInBounds_toArray, List.set_cons_zero, List.set_cons_succ]
  refine wpAnyH_take (i := 2) (oi := { dst := some 8, op := _, type := _, pos := _, after := _, guard := _ }) (v := ?v3x3) rfl (by kernel_rfl) (by kernel_rfl) (by kernel_rfl) (fun _ _ _ h => h) (Or.inl ⟨by rfl, ?hy3x3⟩) hHeld ?rest3x3
  case hy3x3 => (intro w hSw; go_simp <;> with_reducible rfl)
  try simp only [Act.put, List.setIfInBounds_toArray, List.set_cons_zero, List.set_cons_succ]
  refine wpAnyH_take (i := 3) (oi := { dst := some 9, op := _, type := _, pos := _, after := _, guard := _ }) (v := ?v3x4) rfl (by kernel_rfl) (by kernel_rfl) (by kernel_rfl) (fun _ _ _ h => h) (Or.inl ⟨by rfl, ?hy3x4⟩) hHeld ?rest3x4
  case hy3x4 => (intro w hSw; go_simp <;> with_reducible rfl)
  try simp only [Act.put, List.setIfInBounds_toArray, List.set_cons_zero, List.set_cons_succ]
  refine wpAnyH_take (i := 4) (oi := { dst := some 10, op := _, type := _, pos := _, after := _, guard := _ }) (v := ?v3x5) rfl (by kernel_rfl) (by kernel_rfl) (by kernel_rfl) (fun _ _ _ h => h) (Or.inl ⟨by rfl, ?hy3x5⟩) hHeld ?rest3x5
  case hy3x5 => (intro w hSw; go_simp <;> with_reducible rfl)
  try simp only [Act.put, List.setIfInBounds_toArray, List.set_cons_zero, List.set_cons_succ]
  refine wpAnyH_take (i := 5) (oi := { dst := some 11, op := _, type := _, pos := _, after := _, guard := _ }) (v := ?v3x6) rfl (by kernel_rfl) (by kernel_rfl) (by kernel_rfl) (fun _ _ _ h => h) (Or.inl ⟨by rfl, ?hy3x6⟩) hHeld ?rest3x6
  case hy3x6 => (intro w hSw; go_simp <;> with_reducible rfl)
  try simp only [Act.put, List.setIfInBounds_toArray, List.set_cons_zero, List.set_cons_succ]
  refine wpAnyH_take (i := 6) (oi := { dst := some 12, op := _, type := _, pos := _, after := _, guard := _ }) (v := ?v3x7) rfl (by kernel_rfl) (by kernel_rfl) (by kernel_rfl) (fun _ _ _ h => h) (Or.inl ⟨by rfl, ?hy3x7⟩) hHeld ?rest3x7
  case hy3x7 => (intro w hSw; go_simp <;> with_reducible rfl)
  try simp only [Act.put, List.setIfInBounds_toArray, List.set_cons_zero, List.set_cons_succ]
  refine wpAnyH_take (i := 7) (oi := { dst := some 13, op := _, type := _, pos := _, after := _, guard := _ }) (v := ?v3x8) rfl (by kernel_rfl) (by kernel_rfl) (by kernel_rfl) (fun _ _ _ h => h) (Or.inl ⟨by rfl, ?hy3x8⟩) hHeld ?rest3x8
  case hy3x8 => (intro w hSw; go_simp <;> with_reducible rfl)
  try simp only [Act.put, List.setIfInBounds_toArray, List.set_cons_zero, List.set_cons_succ]
  refine wpAnyH_take (i := 8) (oi := { dst := some 14, op := _, type := _, pos := _, after := _, guard := _ }) (v := ?v3x9) rfl (by kernel_rfl) (by kernel_rfl) (by kernel_rfl) (fun _ _ _ h => h) (Or.inl ⟨by rfl, ?hy3x9⟩) hHeld ?rest3x9
  case hy3x9 => (intro w hSw; go_simp <;> with_reducible rfl)
  try simp only [Act.put, List.setIfInBounds_toArray, List.set_cons_zero, List.set_cons_succ]
  refine wpAnyH_take (i := 9) (oi := { dst := some 15, op := _, type := _, pos := _, after := _, guard := _ }) (v := ?v3x10) rfl (by kernel_rfl) (by kernel_rfl) (by kernel_rfl) (fun _ _ _ h => h) (Or.inl ⟨by rfl, ?hy3x10⟩) hHeld ?rest3x10
  case hy3x10 => (intro w hSw; refine exec_loadP 35 (.tmp 1) ?_ g 35 p C nc kc S ns ks ?_ hSw.2.2.out Try.underlying35 ?_ ?_; rfl; rfl; rfl; kernel_rfl)
  try simp only [Act.put, List.setIfInBounds_toArray, List.set_cons_zero, List.set_cons_succ]
  refine wpAnyH_take (i := 10) (oi := { dst := some 16, op := _, type := _, pos := _, after := _, guard := _ }) (v := ?v3x11) rfl (by kernel_rfl) (by kernel_rfl) (by kernel_rfl) (fun _ _ _ h => h) (Or.inl ⟨by rfl, ?hy3x11⟩) hHeld ?rest3x11
  case hy3x11 => (intro w hSw; refine exec_loadP 35 (.tmp 1) ?_ g 35 p C nc kc S ns ks ?_ hSw.2.2.out Try.underlying35 ?_ ?_; rfl; rfl; rfl; kernel_rfl)
  try simp only [Act.put, List.setIfInBounds_toArray, List.set_cons_zero, List.set_cons_succ]
  refine wpAnyH_ready (rs := [11]) (by kernel_rfl) (by simp) (AllReadyH.cons (o := { dst := some 17, op := _, type := _, pos := _, after := _, guard := _ }) rfl (fun K hK => ?_) AllReadyH.nil)
  go_simp
  refine (HU.out _ (HM.out _ BW.out.drew)).mono ?_
  rintro e w5 ⟨C2, nc2, kc2, S2, ns2, ks2, rfl, hM2, b5⟩
  have BW5 := hide (below_on BW.out.drew b5)
  have HB5 := hide (Blk.keep (w := W.drew) (show Blk W.drew g 35 (pkVs p C nc kc S ns ks) from HB.out) b5)
  obtain ⟨bb, hbb⟩ : ∃ bb, decide (p = u) = bb := ⟨_, rfl⟩
  have PS := same_any p u C C2 nc kc nc2 kc2 S S2 ns ks ns2 ks2 w5 (HM.out _ BW5.out) hM2 Hs.out.2.2.2.2.2.1 Hs.out.2.2.2.2.2.2.1 HS.out.1 HS.out.2
  rw [hbb] at PS
  have Hbb := hide hbb
  clear b5 hM2 hbb
  go_wp2_with fail
  refine hK.out _ _ ?_ (fun hHeld => ?_)
  · exact ⟨(Blk.p18 HB5.out).1, BW5.out, HB5⟩
  clear hK K
  try simp only [Act.put, List.setIfInBounds_toArray, List.set_cons_zero, List.set_cons_succ]
  refine wpAnyH_ready (rs := [12]) (by kernel_rfl) (by simp) (AllReadyH.cons (o := { dst := some 18, op := _, type := _, pos := _, after := _, guard := _ }) rfl (fun K hK => ?_) AllReadyH.nil)
  go_simp
  refine PS.mono ?_
  rintro e w6 ⟨rfl, b6⟩
  have BW6 := hide (below_on BW5.out b6)
  have HB6 := hide (HB5.out.keep b6)
  clear PS b6 BW5 HB5
  go_wp2_with fail
  refine hK.out _ _ ?_ (fun hHeld => ?_)
  · exact ⟨(Blk.p18 HB6.out).1, BW6.out, HB6⟩
  clear hK K
  try simp only [Act.put, List.setIfInBounds_toArray, List.set_cons_zero, List.set_cons_succ]
  refine wpAnyH_take (i := 13) (oi := { dst := some 19, op := _, type := _, pos := _, after := _, guard := _ }) (v := ?v3x14) rfl (by kernel_rfl) (by kernel_rfl) (by kernel_rfl) (fun _ _ _ h => h) (Or.inl ⟨by rfl, ?hy3x14⟩) hHeld ?rest3x14
  case hy3x14 => (intro w hSw; go_simp <;> with_reducible rfl)
  try simp only [Act.put, List.setIfInBounds_toArray, List.set_cons_zero, List.set_cons_succ]
  refine wpAnyH_take (i := 14) (oi := { dst := some 20, op := _, type := _, pos := _, after := _, guard := _ }) (v := ?v3x15) rfl (by kernel_rfl) (by kernel_rfl) (by kernel_rfl) (fun _ _ _ h => h) (Or.inl ⟨by rfl, ?hy3x15⟩) hHeld ?rest3x15
  case hy3x15 => (intro w hSw; go_simp <;> with_reducible rfl)
  try simp only [Act.put, List.setIfInBounds_toArray, List.set_cons_zero, List.set_cons_succ]
  refine wpAnyH_done (by kernel_rfl) ?_ _
  clear hHeld c0 HU HS HB BW
  cases bb with
  | false =>
    have hr : R = false := by rw [← HR.out]; unfold mayP; rw [Hu.out, Hbb.out]; simp
    subst hr
    go_wp2_with fail
    go_ret
    exact ⟨rfl, BW6.out⟩
  | true =>
  have hpu : p = u := of_decide_eq_true Hbb.out
  have HR := hide (show (okP p && decide ((bodyP p).length ≤ 268435455)) = R by rw [← HR.out]; unfold mayP; rw [Hu.out, Hbb.out, decide_eq_true (show 1 ≤ p.ty ∧ p.ty ≤ 14 by omega)]; simp)
  have PB := hide (fun (W : World) (hb : Below w.heap.size w W) (hok : okP p = true) => body_any p C nc kc S ns ks W (HM.out W hb) Hs.out (by omega) (by omega) (by rw [Hu.out]; exact hpu) hok)
  have HU := hide (show p = usedP p by rw [Hu.out]; exact hpu)
  clear hpu Hu
  obtain ⟨c0, -, c2, -⟩ := HB6.out.p18
  go_upto_region 3 with fail
  clear c0
  go_cut [3] (fun v Y => v = .bool (idB p.id) ∧ Y = w6)
  case first =>
    by_cases hi1 : 1 ≤ p.id
    · by_cases hi2 : p.id ≤ 65535
      · have e : idB p.id = true := decide_eq_true ⟨hi1, hi2⟩
        go_wp2_with fail
        go_meet
        exact ⟨by rw [e], rfl⟩
      · have e : idB p.id = false := decide_eq_false (by omega)
        go_wp2_with fail
        go_meet
        exact ⟨by rw [e], rfl⟩
    · have e : idB p.id = false := decide_eq_false (by omega)
      go_wp2_with fail
      go_meet
      exact ⟨by rw [e], rfl⟩
  case rest =>
    obtain ⟨rfl, rfl⟩ := hcut
    obtain ⟨ib, hib⟩ : ∃ ib, idB p.id = ib := ⟨_, rfl⟩
    rw [hib]
    have Hib := hide hib
    clear hib
    have ht : p.ty = 1 ∨ p.ty = 2 ∨ p.ty = 3 ∨ (p.ty = 4 ∨ p.ty = 5 ∨ p.ty = 6 ∨ p.ty = 7 ∨ p.ty = 11) ∨ (p.ty = 8 ∨ p.ty = 10) ∨ p.ty = 9 ∨ (p.ty = 12 ∨ p.ty = 13 ∨ p.ty = 14) := by omega
    clear h1 h14 c2 hHeld
    obtain ⟨l1, l2, l3, l4, l5, l6, l7, l8⟩ := Hs.out
    rcases ht with ht | ht | ht | ht | ht | ht | ht
    · have HE := hide (show okP p = conB p by unfold okP; rw [if_pos ht])
      have Ht := hide ht
      have PC := connect_any p C nc kc S ns ks wc l3 l4 l1
      obtain ⟨y, hy⟩ : ∃ y, conB p = y := ⟨_, rfl⟩
      rw [hy] at HE PC
      clear ht hy l1 l2 l3 l4 l5 l6 l7 l8
      obtain ⟨c0, -⟩ := HB6.out.p18
      rw [Ht.out] at c0
      go_upto_region 24 with (first
        | (refine wpList_loadP rfl 35 (.tmp 1) rfl g 35 p C nc kc S ns ks rfl HB6.out Try.underlying35 rfl (by kernel_rfl) ?_)
        | (go_at_call 33; refine PC.mono ?_; rintro e X ⟨rfl, bX⟩))
      have BWX := hide (below_on BW6.out bX)
      have HBX := hide (HB6.out.keep bX)
      clear bX PC c0 BW6 HB6
      cases y with
      | false =>
        have hr : R = false := by rw [← HR.out, HE.out]; rfl
        subst hr
        go_wp2_with fail
        go_ret
        exact ⟨rfl, BWX.out⟩
      | true =>
        have PB := PB.out _ BWX.out HE.out
        have HR := hide (show decide ((bodyP p).length ≤ 268435455) = R by rw [← HR.out, HE.out]; rfl)
        have P8 := rvIs_any ((bodyP p).length : Int)
        rw [show isLen ((bodyP p).length : Int) = R by rw [← HR.out]; unfold isLen; congr 1; apply propext; omega] at P8
        generalize (bodyP p).length = N at *
        go_upto_region 25 with (first
          | (refine wpList_loadPg (by rfl) 35 (.tmp 1) rfl g 35 p _ _ _ _ _ _ rfl HBX.out Try.underlying35 rfl (by kernel_rfl) ?_)
          | (go_at_call 38; refine PB.mono ?_; rintro e Z ⟨D, kd, rfl, -, -, bZ⟩; have P8 := P8 Z)
          | (go_at_call 37; refine P8.mono ?_; rintro e Z2 ⟨rfl, rfl⟩))
        go_ret
        exact ⟨rfl, below_on BWX.out bZ⟩
    · have HE := hide (show okP p = ackB p by unfold okP; rw [if_neg (by omega), if_pos ht])
      have Ht := hide ht
      obtain ⟨m1, -, m3, -⟩ := HM.out _ BW6.out
      clear ht l1 l2 l3 l4 l5 l6 l7 l8
      by_cases hn : nc = 1
      · subst hn
        obtain ⟨c, hc⟩ : ∃ c, p.codes = [c] := List.length_eq_one_iff.1 m1
        rw [hc] at m3
        obtain ⟨b, o, rfl, hbl, hcell⟩ := m3.at_ (k := 0) (by omega)
        have cc : wc.cell? ⟨b, o, none⟩ = some (.int .i64 c) := hcell 0 _ rfl
        have HE := hide (show okP p = (decide (0 ≤ c) && decide (c ≤ 5) && !(p.present && decide (0 < c))) by rw [HE.out]; unfold ackB; rw [hc])
        clear m1 m3 hc hbl hcell
        obtain ⟨c0, -, -, -, -, -, -, -, -, -, -, -, -, -, -, c15, c16, -⟩ := HB6.out.p18
        rw [Ht.out] at c0
        by_cases h0 : 0 ≤ c
        · by_cases h5 : c ≤ 5
          · obtain ⟨pr, hpr⟩ : ∃ pr, p.present = pr := ⟨_, rfl⟩
            rw [hpr] at HE c15
            clear hpr
            cases pr with
            | false =>
              have HE := hide (show okP p = true by rw [HE.out, decide_eq_true h0, decide_eq_true h5]; rfl)
              go_upto_region 24 with fail
              have PB := PB.out _ BW6.out HE.out
              have HR := hide (show decide ((bodyP p).length ≤ 268435455) = R by rw [← HR.out, HE.out]; rfl)
              have P8 := rvIs_any ((bodyP p).length : Int)
              rw [show isLen ((bodyP p).length : Int) = R by rw [← HR.out]; unfold isLen; congr 1; apply propext; omega] at P8
              generalize (bodyP p).length = N at *
              go_upto_region 25 with (first
                | (refine wpList_loadPg (by rfl) 35 (.tmp 1) rfl g 35 p _ _ _ _ _ _ rfl HB6.out Try.underlying35 rfl (by kernel_rfl) ?_)
                | (go_at_call 38; refine PB.mono ?_; rintro e Z ⟨D, kd, rfl, -, -, bZ⟩; have P8 := P8 Z)
                | (go_at_call 37; refine P8.mono ?_; rintro e Z2 ⟨rfl, rfl⟩))
              go_ret
              exact ⟨rfl, below_on BW6.out bZ⟩
            | true =>
              by_cases h1 : 0 < c
              · have HE := hide (show okP p = false by rw [HE.out, decide_eq_true h0, decide_eq_true h5, decide_eq_true h1]; rfl)
                go_upto_region 24 with fail
                have hr : R = false := by rw [← HR.out, HE.out]; rfl
                subst hr
                go_wp2_with fail
                go_ret
                exact ⟨rfl, BW6.out⟩
              · have HE := hide (show okP p = true by rw [HE.out, decide_eq_true h0, decide_eq_true h5, decide_eq_false h1]; rfl)
                go_upto_region 24 with fail
                have PB := PB.out _ BW6.out HE.out
                have HR := hide (show decide ((bodyP p).length ≤ 268435455) = R by rw [← HR.out, HE.out]; rfl)
                have P8 := rvIs_any ((bodyP p).length : Int)
                rw [show isLen ((bodyP p).length : Int) = R by rw [← HR.out]; unfold isLen; congr 1; apply propext; omega] at P8
                generalize (bodyP p).length = N at *
                go_upto_region 25 with (first
                  | (refine wpList_loadPg (by rfl) 35 (.tmp 1) rfl g 35 p _ _ _ _ _ _ rfl HB6.out Try.underlying35 rfl (by kernel_rfl) ?_)
                  | (go_at_call 38; refine PB.mono ?_; rintro e Z ⟨D, kd, rfl, -, -, bZ⟩; have P8 := P8 Z)
                  | (go_at_call 37; refine P8.mono ?_; rintro e Z2 ⟨rfl, rfl⟩))
                go_ret
                exact ⟨rfl, below_on BW6.out bZ⟩
          · have HE := hide (show okP p = false by rw [HE.out, decide_eq_true h0, decide_eq_false h5]; rfl)
            go_upto_region 24 with fail
            have hr : R = false := by rw [← HR.out, HE.out]; rfl
            subst hr
            go_wp2_with fail
            go_ret
            exact ⟨rfl, BW6.out⟩
        · have HE := hide (show okP p = false by rw [HE.out, decide_eq_false h0]; rfl)
          go_upto_region 24 with fail
          have hr : R = false := by rw [← HR.out, HE.out]; rfl
          subst hr
          go_wp2_with fail
          go_ret
          exact ⟨rfl, BW6.out⟩
      · have q : ((nc : Int) == 1) = false := by rw [beq_eq_false_iff_ne]; omega
        have HE := hide (show okP p = false by
          rw [HE.out]
          unfold ackB
          match hc : p.codes with
          | [] => rfl
          | [c] => rw [hc] at m1; simp at m1; omega
          | c :: d :: t => rfl)
        clear m1 m3 hn
        obtain ⟨c0, -, -, -, -, -, -, -, -, -, -, -, -, -, -, c15, c16, -⟩ := HB6.out.p18
        rw [Ht.out] at c0
        go_upto_region 24 with fail
        have hr : R = false := by rw [← HR.out, HE.out]; rfl
        subst hr
        go_wp2_with fail
        go_ret
        exact ⟨rfl, BW6.out⟩
    · have HE := hide (show okP p = pubB p by unfold okP; rw [if_neg (by omega), if_neg (by omega), if_pos ht])
      unfold pubB at HE
      rw [Hib.out] at HE
      have Ht := hide ht
      have PC := full_any p.topic l1 wc
      obtain ⟨y, hy⟩ : ∃ y, fullB p.topic = y := ⟨_, rfl⟩
      rw [hy] at HE PC
      clear ht hy l1 l2 l3 l4 l5 l6 l7 l8
      obtain ⟨c0, -, -, c3, -, c5, -⟩ := HB6.out.p18
      rw [Ht.out] at c0
      cases y with
      | false =>
        have HE := hide (show okP p = false from HE.out)
        go_upto_region 24 with (go_at_call 34; refine PC.mono ?_; rintro e X ⟨rfl, bX⟩; have BWX := hide (below_on BW6.out bX); have HBX := hide (HB6.out.keep bX); obtain ⟨-, d1, d2, -⟩ := HBX.out.p18)
        clear bX PC c0 c3 c5 d1 d2 BW6 HB6
        have hr : R = false := by rw [← HR.out, HE.out]; rfl
        subst hr
        go_wp2_with fail
        go_ret
        exact ⟨rfl, BWX.out⟩
      | true =>
        by_cases h0 : 0 ≤ p.qos
        · by_cases h2 : p.qos ≤ 2
          · by_cases h3 : 0 < p.qos
            · have q0 : (p.qos == 0) = false := by rw [beq_eq_false_iff_ne]; omega
              cases ib with
              | true =>
                have HE := hide (show okP p = true by rw [HE.out, decide_eq_true h0, decide_eq_true h2, decide_eq_true h3]; rfl)
                go_upto_region 24 with (go_at_call 34; refine PC.mono ?_; rintro e X ⟨rfl, bX⟩; have BWX := hide (below_on BW6.out bX); have HBX := hide (HB6.out.keep bX); obtain ⟨-, d1, d2, -⟩ := HBX.out.p18)
                clear bX PC c0 c3 c5 d1 d2 BW6 HB6
                have PB := PB.out _ BWX.out HE.out
                have HR := hide (show decide ((bodyP p).length ≤ 268435455) = R by rw [← HR.out, HE.out]; rfl)
                have P8 := rvIs_any ((bodyP p).length : Int)
                rw [show isLen ((bodyP p).length : Int) = R by rw [← HR.out]; unfold isLen; congr 1; apply propext; omega] at P8
                generalize (bodyP p).length = N at *
                go_upto_region 25 with (first
                  | (refine wpList_loadPg (by rfl) 35 (.tmp 1) rfl g 35 p _ _ _ _ _ _ rfl HBX.out Try.underlying35 rfl (by kernel_rfl) ?_)
                  | (go_at_call 38; refine PB.mono ?_; rintro e Z ⟨D, kd, rfl, -, -, bZ⟩; have P8 := P8 Z)
                  | (go_at_call 37; refine P8.mono ?_; rintro e Z2 ⟨rfl, rfl⟩))
                go_ret
                exact ⟨rfl, below_on BWX.out bZ⟩
              | false =>
                have HE := hide (show okP p = false by rw [HE.out, decide_eq_true h0, decide_eq_true h2, decide_eq_true h3, decide_eq_false (show ¬ p.qos = 0 by omega)]; rfl)
                go_upto_region 24 with (go_at_call 34; refine PC.mono ?_; rintro e X ⟨rfl, bX⟩; have BWX := hide (below_on BW6.out bX); have HBX := hide (HB6.out.keep bX); obtain ⟨-, d1, d2, -⟩ := HBX.out.p18)
                clear bX PC c0 c3 c5 d1 d2 BW6 HB6
                have hr : R = false := by rw [← HR.out, HE.out]; rfl
                subst hr
                go_wp2_with fail
                go_ret
                exact ⟨rfl, BWX.out⟩
            · have q0 : (p.qos == 0) = true := by rw [beq_iff_eq]; omega
              by_cases hi : p.id = 0
              · have q1 : (p.id == 0) = true := by rw [beq_iff_eq]; omega
                obtain ⟨du, hdu⟩ : ∃ du, p.dup = du := ⟨_, rfl⟩
                cases du with
                | false =>
                  have HE := hide (show okP p = true by rw [HE.out, decide_eq_true h0, decide_eq_true h2, decide_eq_true (show p.qos = 0 by omega), decide_eq_true hi, hdu]; simp)
                  clear hi
                  go_upto_region 24 with (go_at_call 34; refine PC.mono ?_; rintro e X ⟨rfl, bX⟩; have BWX := hide (below_on BW6.out bX); have HBX := hide (HB6.out.keep bX); obtain ⟨-, d1, d2, -⟩ := HBX.out.p18)
                  clear bX PC c0 c3 c5 d1 d2 BW6 HB6
                  have PB := PB.out _ BWX.out HE.out
                  have HR := hide (show decide ((bodyP p).length ≤ 268435455) = R by rw [← HR.out, HE.out]; rfl)
                  have P8 := rvIs_any ((bodyP p).length : Int)
                  rw [show isLen ((bodyP p).length : Int) = R by rw [← HR.out]; unfold isLen; congr 1; apply propext; omega] at P8
                  generalize (bodyP p).length = N at *
                  go_upto_region 25 with (first
                    | (refine wpList_loadPg (by rfl) 35 (.tmp 1) rfl g 35 p _ _ _ _ _ _ rfl HBX.out Try.underlying35 rfl (by kernel_rfl) ?_)
                    | (go_at_call 38; refine PB.mono ?_; rintro e Z ⟨D, kd, rfl, -, -, bZ⟩; have P8 := P8 Z)
                    | (go_at_call 37; refine P8.mono ?_; rintro e Z2 ⟨rfl, rfl⟩))
                  go_ret
                  exact ⟨rfl, below_on BWX.out bZ⟩
                | true =>
                  have HE := hide (show okP p = false by rw [HE.out, decide_eq_true h0, decide_eq_true h2, decide_eq_false h3, hdu]; simp)
                  clear hi
                  go_upto_region 24 with (go_at_call 34; refine PC.mono ?_; rintro e X ⟨rfl, bX⟩; have BWX := hide (below_on BW6.out bX); have HBX := hide (HB6.out.keep bX); obtain ⟨-, d1, d2, -⟩ := HBX.out.p18)
                  clear bX PC c0 c3 c5 d1 d2 BW6 HB6
                  have hr : R = false := by rw [← HR.out, HE.out]; rfl
                  subst hr
                  go_wp2_with fail
                  go_ret
                  exact ⟨rfl, BWX.out⟩
              · have q1 : (p.id == 0) = false := by rw [beq_eq_false_iff_ne]; omega
                have HE := hide (show okP p = false by rw [HE.out, decide_eq_true h0, decide_eq_true h2, decide_eq_false h3, decide_eq_false hi]; simp)
                clear hi
                go_upto_region 24 with (go_at_call 34; refine PC.mono ?_; rintro e X ⟨rfl, bX⟩; have BWX := hide (below_on BW6.out bX); have HBX := hide (HB6.out.keep bX); obtain ⟨-, d1, d2, -⟩ := HBX.out.p18)
                clear bX PC c0 c3 c5 d1 d2 BW6 HB6
                have hr : R = false := by rw [← HR.out, HE.out]; rfl
                subst hr
                go_wp2_with fail
                go_ret
                exact ⟨rfl, BWX.out⟩
          · have HE := hide (show okP p = false by rw [HE.out, decide_eq_true h0, decide_eq_false h2]; rfl)
            go_upto_region 24 with (go_at_call 34; refine PC.mono ?_; rintro e X ⟨rfl, bX⟩; have BWX := hide (below_on BW6.out bX); have HBX := hide (HB6.out.keep bX); obtain ⟨-, d1, d2, -⟩ := HBX.out.p18)
            clear bX PC c0 c3 c5 d1 d2 BW6 HB6
            have hr : R = false := by rw [← HR.out, HE.out]; rfl
            subst hr
            go_wp2_with fail
            go_ret
            exact ⟨rfl, BWX.out⟩
        · have HE := hide (show okP p = false by rw [HE.out, decide_eq_false h0]; rfl)
          go_upto_region 24 with (go_at_call 34; refine PC.mono ?_; rintro e X ⟨rfl, bX⟩; have BWX := hide (below_on BW6.out bX); have HBX := hide (HB6.out.keep bX); obtain ⟨-, d1, d2, -⟩ := HBX.out.p18)
          clear bX PC c0 c3 c5 d1 d2 BW6 HB6
          have hr : R = false := by rw [← HR.out, HE.out]; rfl
          subst hr
          go_wp2_with fail
          go_ret
          exact ⟨rfl, BWX.out⟩
    · have HE := hide (show okP p = ib by unfold okP; rw [if_neg (by omega), if_neg (by omega), if_neg (by omega), if_pos ht, Hib.out])
      clear l1 l2 l3 l4 l5 l6 l7 l8
      rcases ht with ht | ht | ht | ht | ht
      all_goals
        have Ht := hide ht
        clear ht
        obtain ⟨c0, -⟩ := HB6.out.p18
        rw [Ht.out] at c0
        go_upto_region 24 with fail
        cases ib with
        | false =>
          have hr : R = false := by rw [← HR.out, HE.out]; rfl
          subst hr
          go_wp2_with fail
          go_ret
          exact ⟨rfl, BW6.out⟩
        | true =>
          have PB := PB.out _ BW6.out HE.out
          have HR := hide (show decide ((bodyP p).length ≤ 268435455) = R by rw [← HR.out, HE.out]; rfl)
          have P8 := rvIs_any ((bodyP p).length : Int)
          rw [show isLen ((bodyP p).length : Int) = R by rw [← HR.out]; unfold isLen; congr 1; apply propext; omega] at P8
          generalize (bodyP p).length = N at *
          go_upto_region 25 with (first
            | (refine wpList_loadPg (by rfl) 35 (.tmp 1) rfl g 35 p _ _ _ _ _ _ rfl HB6.out Try.underlying35 rfl (by kernel_rfl) ?_)
            | (go_at_call 38; refine PB.mono ?_; rintro e Z ⟨D, kd, rfl, -, -, bZ⟩; have P8 := P8 Z)
            | (go_at_call 37; refine P8.mono ?_; rintro e Z2 ⟨rfl, rfl⟩))
          go_ret
          exact ⟨rfl, below_on BW6.out bZ⟩
    · have HE := hide (show okP p = (ib && subsB p) by unfold okP; rw [if_neg (by omega), if_neg (by omega), if_neg (by omega), if_neg (by omega), if_pos ht, Hib.out])
      have PC := fun hM => subs_any p C nc kc S ns ks wc hM (by rw [← hM.2.2.2.1]; omega) l8
      have PC := PC (HM.out _ BW6.out)
      obtain ⟨y, hy⟩ : ∃ y, subsB p = y := ⟨_, rfl⟩
      rw [hy] at HE PC
      clear hy l1 l2 l3 l4 l5 l6 l7 l8
      rcases ht with ht | ht
      all_goals
        have Ht := hide ht
        clear ht
        obtain ⟨c0, -⟩ := HB6.out.p18
        rw [Ht.out] at c0
        cases ib with
        | false =>
          have HE := hide (show okP p = false from HE.out)
          go_upto_region 24 with fail
          have hr : R = false := by rw [← HR.out, HE.out]; rfl
          subst hr
          go_wp2_with fail
          go_ret
          exact ⟨rfl, BW6.out⟩
        | true =>
          have HE := hide (show okP p = y by rw [HE.out]; rfl)
          go_upto_region 24 with (first
            | (refine wpList_loadPg (by rfl) 35 (.tmp 1) rfl g 35 p C nc kc S ns ks rfl HB6.out Try.underlying35 rfl (by kernel_rfl) ?_)
            | (go_at_call 35; refine PC.mono ?_; rintro e X ⟨rfl, bX⟩))
          have BWX := hide (below_on BW6.out bX)
          have HBX := hide (HB6.out.keep bX)
          clear bX PC c0 BW6 HB6
          cases y with
          | false =>
            have hr : R = false := by rw [← HR.out, HE.out]; rfl
            subst hr
            go_wp2_with fail
            go_ret
            exact ⟨rfl, BWX.out⟩
          | true =>
            have PB := PB.out _ BWX.out HE.out
            have HR := hide (show decide ((bodyP p).length ≤ 268435455) = R by rw [← HR.out, HE.out]; rfl)
            have P8 := rvIs_any ((bodyP p).length : Int)
            rw [show isLen ((bodyP p).length : Int) = R by rw [← HR.out]; unfold isLen; congr 1; apply propext; omega] at P8
            generalize (bodyP p).length = N at *
            go_upto_region 25 with (first
              | (refine wpList_loadPg (by rfl) 35 (.tmp 1) rfl g 35 p _ _ _ _ _ _ rfl HBX.out Try.underlying35 rfl (by kernel_rfl) ?_)
              | (go_at_call 38; refine PB.mono ?_; rintro e Z ⟨D, kd, rfl, -, -, bZ⟩; have P8 := P8 Z)
              | (go_at_call 37; refine P8.mono ?_; rintro e Z2 ⟨rfl, rfl⟩))
            go_ret
            exact ⟨rfl, below_on BWX.out bZ⟩
    · have HE := hide (show okP p = (ib && codesB p) by unfold okP; rw [if_neg (by omega), if_neg (by omega), if_neg (by omega), if_neg (by omega), if_neg (by omega), if_pos ht, Hib.out])
      have PC := fun hM => codes_any p C nc kc S ns ks wc hM (by rw [← hM.1]; omega)
      have PC := PC (HM.out _ BW6.out)
      obtain ⟨y, hy⟩ : ∃ y, codesB p = y := ⟨_, rfl⟩
      rw [hy] at HE PC
      clear hy l1 l2 l3 l4 l5 l6 l7 l8
      have Ht := hide ht
      clear ht
      obtain ⟨c0, -⟩ := HB6.out.p18
      rw [Ht.out] at c0
      cases ib with
      | false =>
        have HE := hide (show okP p = false from HE.out)
        go_upto_region 24 with fail
        have hr : R = false := by rw [← HR.out, HE.out]; rfl
        subst hr
        go_wp2_with fail
        go_ret
        exact ⟨rfl, BW6.out⟩
      | true =>
        have HE := hide (show okP p = y by rw [HE.out]; rfl)
        go_upto_region 24 with (first
          | (refine wpList_loadPg (by rfl) 35 (.tmp 1) rfl g 35 p C nc kc S ns ks rfl HB6.out Try.underlying35 rfl (by kernel_rfl) ?_)
          | (go_at_call 36; refine PC.mono ?_; rintro e X ⟨rfl, bX⟩))
        have BWX := hide (below_on BW6.out bX)
        have HBX := hide (HB6.out.keep bX)
        clear bX PC c0 BW6 HB6
        cases y with
        | false =>
          have hr : R = false := by rw [← HR.out, HE.out]; rfl
          subst hr
          go_wp2_with fail
          go_ret
          exact ⟨rfl, BWX.out⟩
        | true =>
          have PB := PB.out _ BWX.out HE.out
          have HR := hide (show decide ((bodyP p).length ≤ 268435455) = R by rw [← HR.out, HE.out]; rfl)
          have P8 := rvIs_any ((bodyP p).length : Int)
          rw [show isLen ((bodyP p).length : Int) = R by rw [← HR.out]; unfold isLen; congr 1; apply propext; omega] at P8
          generalize (bodyP p).length = N at *
          go_upto_region 25 with (first
            | (refine wpList_loadPg (by rfl) 35 (.tmp 1) rfl g 35 p _ _ _ _ _ _ rfl HBX.out Try.underlying35 rfl (by kernel_rfl) ?_)
            | (go_at_call 38; refine PB.mono ?_; rintro e Z ⟨D, kd, rfl, -, -, bZ⟩; have P8 := P8 Z)
            | (go_at_call 37; refine P8.mono ?_; rintro e Z2 ⟨rfl, rfl⟩))
          go_ret
          exact ⟨rfl, below_on BWX.out bZ⟩
    · have HE := hide (show okP p = true by unfold okP; rw [if_neg (by omega), if_neg (by omega), if_neg (by omega), if_neg (by omega), if_neg (by omega), if_neg (by omega)])
      clear l1 l2 l3 l4 l5 l6 l7 l8
      rcases ht with ht | ht | ht
      all_goals
        have Ht := hide ht
        clear ht
        obtain ⟨c0, -⟩ := HB6.out.p18
        rw [Ht.out] at c0
        go_upto_region 24 with fail
        have PB := PB.out _ BW6.out HE.out
        have HR := hide (show decide ((bodyP p).length ≤ 268435455) = R by rw [← HR.out, HE.out]; rfl)
        have P8 := rvIs_any ((bodyP p).length : Int)
        rw [show isLen ((bodyP p).length : Int) = R by rw [← HR.out]; unfold isLen; congr 1; apply propext; omega] at P8
        generalize (bodyP p).length = N at *
        go_upto_region 25 with (first
          | (refine wpList_loadPg (by rfl) 35 (.tmp 1) rfl g 35 p _ _ _ _ _ _ rfl HB6.out Try.underlying35 rfl (by kernel_rfl) ?_)
          | (go_at_call 38; refine PB.mono ?_; rintro e Z ⟨D, kd, rfl, -, -, bZ⟩; have P8 := P8 Z)
          | (go_at_call 37; refine P8.mono ?_; rintro e Z2 ⟨rfl, rfl⟩))
        go_ret
        exact ⟨rfl, below_on BW6.out bZ⟩

end Go.Proofs.Ytkgidimaiedocaa
