/-
  What is proved here: what the small functions of package slave return (upTo, top, row, has, piece, masked). Conditions: a slave that lies in memory, rows of at most 65536; spans of at most some thousand.
-/
import Derived.Test.YtohiblldhdglgaaSlave0
namespace Go.Proofs.Ytohiblldhdglgaa
set_option linter.unusedVariables false
set_option linter.unusedSimpArgs false
open Go.RowKit

theorem sUpTo_any (n most : Int) (w : World) : Calls Try.prog 21 #[.int .i64 n, .int .i64 most] w fun e w' => e = .returned (.bool (decide (0 ≤ n) && decide (n ≤ most))) ∧ w = w' := by
  cases h1 : decide (0 ≤ n)
  all_goals cases h2 : decide (n ≤ most)
  all_goals
    go_enter Try.func21, Try.ntmps21
    go_wp2
    go_ret
    exact ⟨rfl, rfl⟩

theorem sTop_any (kind : Int) (w : World) : Calls Try.prog 34 #[.int .i64 kind] w fun e w' => e = .returned (.int .i64 (if kind = 1 ∨ kind = 2 then 1 else 65535)) ∧ w = w' := by
  by_cases h1 : kind = 1
  · subst h1
    go_enter Try.func34, Try.ntmps34
    go_wp2
    go_ret
    exact ⟨rfl, rfl⟩
  by_cases h2 : kind = 2
  · subst h2
    go_enter Try.func34, Try.ntmps34
    go_wp2
    go_ret
    exact ⟨rfl, rfl⟩
  rw [if_neg (by omega)]
  replace h1 := ne_beq h1; replace h2 := ne_beq h2
  go_enter Try.func34, Try.ntmps34
  go_wp2
  go_ret
  exact ⟨rfl, rfl⟩

theorem sRow_any (lo hi g : Nat) (b : Nat → Nat) (R : Nat → List Int) (kind : Int) (w : World) (h : SlA 58 lo hi w g b R) :
    Calls Try.prog 35 #[.pointer (some ⟨g, 0, none⟩), .int .i64 kind] w fun e w' => e = .returned (.slice (rowA b kind) (rowL R kind).length (rowL R kind).length) ∧ w = w' := by
  obtain ⟨c0, c1, c2, c3⟩ := h.cells
  unfold rowV at c0 c1 c2 c3
  clear h
  rcases kind_or kind with ⟨k, hk, rfl⟩ | hn
  · rw [rowA_kind b k hk, rowL_kind R k hk]
    match k, hk with
    | 0, _ =>
      go_enter Try.func35, Try.ntmps35
      go_wp2
      go_ret
      exact ⟨rfl, rfl⟩
    | 1, _ =>
      go_enter Try.func35, Try.ntmps35
      go_wp2
      go_ret
      exact ⟨rfl, rfl⟩
    | 2, _ =>
      go_enter Try.func35, Try.ntmps35
      go_wp2
      go_ret
      exact ⟨rfl, rfl⟩
    | 3, _ =>
      go_enter Try.func35, Try.ntmps35
      go_wp2
      go_ret
      exact ⟨rfl, rfl⟩
  · rw [rowA_no b kind hn, rowL_no R kind hn]
    rcases hn with hn | hn
    · have q : decide (kind < 1) = true := by simpa using hn
      go_enter Try.func35, Try.ntmps35
      go_wp2
      go_ret
      exact ⟨rfl, rfl⟩
    · have q : decide (kind < 1) = false := by simp; omega
      have q2 : decide (4 < kind) = true := by simpa using hn
      go_enter Try.func35, Try.ntmps35
      go_wp2
      go_ret
      exact ⟨rfl, rfl⟩

theorem Blk.three {w : World} {g : Nat} {t : TypeId} {v0 v1 v2 : Value} (h : Blk w g t [v0, v1, v2]) : w.cell? ⟨g, 0, none⟩ = some v0 ∧ w.cell? ⟨g, 1, none⟩ = some v1 ∧ w.cell? ⟨g, 2, none⟩ = some v2 := ⟨h.cell 0, h.cell 1, h.cell 2⟩

theorem sHas_any (lo hi g : Nat) (b : Nat → Nat) (R : Nat → List Int) (kind addr count : Int) (w : World) (h : SlA 58 lo hi w g b R) (hR : (rowL R kind).length ≤ 65536) (hc : 0 ≤ count ∧ count ≤ 1000000) :
    Calls Try.prog 26 #[.pointer (some ⟨g, 0, none⟩), .agg #[.int .i64 kind, .int .i64 addr, .int .i64 count]] w fun e w' => e = .returned (.bool (hasB R kind addr count)) ∧ Below w.heap.size w w' := by
  have HR := hide (fun W (h : SlA 58 lo hi W g b R) => sRow_any lo hi g b R kind W h)
  unfold hasB
  generalize (rowL R kind).length = L at *
  have HU := hide (fun W => sUpTo_any addr ((L : Int) - count) W)
  have e1 : IntKind.i64.wrap ((L : Int) - count) = (L : Int) - count := by rw [IntKind.wrap_i64]; omega
  have b0 : Below w.heap.size w (w.alloc (.cells #[.int .i64 kind, .int .i64 addr, .int .i64 count] 62)) := (Below.refl _ _).alloc (Nat.le_refl _) _
  have B0 := hide b0
  have H0 := hide (h.keep b0)
  have K0 := hide (Blk.new w 62 [.int .i64 kind, .int .i64 addr, .int .i64 count])
  have k0 : ∀ w', Below (w.alloc (.cells #[.int .i64 kind, .int .i64 addr, .int .i64 count] 62)).heap.size (w.alloc (.cells #[.int .i64 kind, .int .i64 addr, .int .i64 count] 62)) w' → w'.cell? ⟨w.heap.size, 0, none⟩ = some (.int .i64 kind) := fun w' b => (K0.out.keep b).three.1
  have k1 : ∀ w', Below (w.alloc (.cells #[.int .i64 kind, .int .i64 addr, .int .i64 count] 62)).heap.size (w.alloc (.cells #[.int .i64 kind, .int .i64 addr, .int .i64 count] 62)) w' → w'.cell? ⟨w.heap.size, 1, none⟩ = some (.int .i64 addr) := fun w' b => (K0.out.keep b).three.2.1
  have k2 : ∀ w', Below (w.alloc (.cells #[.int .i64 kind, .int .i64 addr, .int .i64 count] 62)).heap.size (w.alloc (.cells #[.int .i64 kind, .int .i64 addr, .int .i64 count] 62)) w' → w'.cell? ⟨w.heap.size, 2, none⟩ = some (.int .i64 count) := fun w' b => (K0.out.keep b).three.2.2
  clear b0 h
  go_enter Try.func26, Try.ntmps26
  go_wp2_with fail
  generalize w.alloc _ = W at *
  refine wp_region_held_drew (S := fun w' => Below W.heap.size W w') (by kernel_rfl) ?_ (fun hHeld => ?_)
  · exact (Below.refl _ _).drew
  refine wpAnyH_take (i := 0) (oi := { dst := some 5, op := _, type := _, pos := _, after := _, guard := _ }) (v := ?v1x1) rfl (by kernel_rfl) (by kernel_rfl) (by kernel_rfl) (fun _ _ _ h => h) (Or.inl ⟨by rfl, ?hy1x1⟩) hHeld ?rest1x1
  case hy1x1 => (intro w hSw; go_simp <;> with_reducible rfl)
  try simp only [Act.put, List.setIfInBounds_toArray, List.set_cons_zero, List.set_cons_succ]
  refine wpAnyH_take (i := 1) (oi := { dst := some 6, op := _, type := _, pos := _, after := _, guard := _ }) (v := ?v1x2) rfl (by kernel_rfl) (by kernel_rfl) (by kernel_rfl) (fun _ _ _ h => h) (Or.inl ⟨by rfl, ?hy1x2⟩) hHeld ?rest1x2
  case hy1x2 => (intro w hSw; go_simp <;> with_reducible rfl)
  try simp only [Act.put, List.setIfInBounds_toArray, List.set_cons_zero, List.set_cons_succ]
  refine wpAnyH_take (i := 2) (oi := { dst := some 7, op := _, type := _, pos := _, after := _, guard := _ }) (v := ?v1x3) rfl (by kernel_rfl) (by kernel_rfl) (by kernel_rfl) (fun _ _ _ h => h) (Or.inl ⟨by rfl, ?hy1x3⟩) hHeld ?rest1x3
  case hy1x3 => (intro w hSw; go_simp <;> with_reducible rfl)
  try simp only [Act.put, List.setIfInBounds_toArray, List.set_cons_zero, List.set_cons_succ]
  refine wpAnyH_take (i := 3) (oi := { dst := some 8, op := _, type := _, pos := _, after := _, guard := _ }) (v := ?v1x4) rfl (by kernel_rfl) (by kernel_rfl) (by kernel_rfl) (fun _ _ _ h => h) (Or.inl ⟨by rfl, ?hy1x4⟩) hHeld ?rest1x4
  case hy1x4 => (intro w hSw; go_simp <;> with_reducible rfl)
  try simp only [Act.put, List.setIfInBounds_toArray, List.set_cons_zero, List.set_cons_succ]
  refine wpAnyH_take (i := 4) (oi := { dst := some 9, op := _, type := _, pos := _, after := _, guard := _ }) (v := ?v1x5) rfl (by kernel_rfl) (by kernel_rfl) (by kernel_rfl) (fun _ _ _ h => h) (Or.inl ⟨by rfl, ?hy1x5⟩) hHeld ?rest1x5
  case hy1x5 => (intro w hSw; go_simp <;> with_reducible rfl)
  try simp only [Act.put, List.setIfInBounds_toArray, List.set_cons_zero, List.set_cons_succ]
  refine wpAnyH_take (i := 7) (oi := { dst := some 12, op := _, type := _, pos := _, after := _, guard := _ }) (v := ?v1x6) rfl (by kernel_rfl) (by kernel_rfl) (by kernel_rfl) (fun _ _ _ h => h) (Or.inl ⟨by rfl, ?hy1x6⟩) hHeld ?rest1x6
  case hy1x6 => (intro w hSw; go_simp <;> with_reducible rfl)
  try simp only [Act.put, List.setIfInBounds_toArray, List.set_cons_zero, List.set_cons_succ]
  refine wpAnyH_take (i := 8) (oi := { dst := some 13, op := _, type := _, pos := _, after := _, guard := _ }) (v := ?v1x7) rfl (by kernel_rfl) (by kernel_rfl) (by kernel_rfl) (fun _ _ _ h => h) (Or.inl ⟨by rfl, ?hy1x7⟩) hHeld ?rest1x7
  case hy1x7 => (intro w hSw; go_simp <;> with_reducible rfl)
  try simp only [Act.put, List.setIfInBounds_toArray, List.set_cons_zero, List.set_cons_succ]
  refine wpAnyH_ready (rs := [5]) (by kernel_rfl) (by simp) (AllReadyH.cons (o := { dst := some 10, op := _, type := _, pos := _, after := _, guard := _ }) rfl (fun K hK => ?_) AllReadyH.nil)
  go_simp
  refine (HR.out _ (H0.out.keep hHeld)).mono ?_
  rintro e w1 ⟨rfl, rfl⟩
  go_wp2_with fail
  refine hK.out _ _ ?_ (fun hHeld => ?_)
  · exact hHeld
  clear hK K
  try simp only [Act.put, List.setIfInBounds_toArray, List.set_cons_zero, List.set_cons_succ]
  refine wpAnyH_take (i := 6) (oi := { dst := some 11, op := _, type := _, pos := _, after := _, guard := _ }) (v := ?v1x9) rfl (by kernel_rfl) (by kernel_rfl) (by kernel_rfl) (fun _ _ _ h => h) (Or.inl ⟨by rfl, ?hy1x9⟩) hHeld ?rest1x9
  case hy1x9 => (intro w hSw; go_simp <;> with_reducible rfl)
  try simp only [Act.put, List.setIfInBounds_toArray, List.set_cons_zero, List.set_cons_succ]
  refine wpAnyH_take (i := 9) (oi := { dst := some 14, op := _, type := _, pos := _, after := _, guard := _ }) (v := ?v1x10) rfl (by kernel_rfl) (by kernel_rfl) (by kernel_rfl) (fun _ _ _ h => h) (Or.inl ⟨by rfl, ?hy1x10⟩) hHeld ?rest1x10
  case hy1x10 => (intro w hSw; go_simp <;> with_reducible rfl)
  try simp only [Act.put, List.setIfInBounds_toArray, List.set_cons_zero, List.set_cons_succ]
  refine wpAnyH_ready (rs := [10]) (by kernel_rfl) (by simp) (AllReadyH.cons (o := { dst := some 15, op := _, type := _, pos := _, after := _, guard := _ }) rfl (fun K hK => ?_) AllReadyH.nil)
  go_simp
  refine (HU.out _).mono ?_
  rintro e w1 ⟨rfl, rfl⟩
  go_wp2_with fail
  refine hK.out _ _ ?_ (fun hHeld => ?_)
  · exact hHeld
  clear hK K
  try simp only [Act.put, List.setIfInBounds_toArray, List.set_cons_zero, List.set_cons_succ]
  refine wpAnyH_take (i := 11) (oi := { dst := some 4, op := _, type := _, pos := _, after := _, guard := _ }) (v := ?v1x12) rfl (by kernel_rfl) (by kernel_rfl) (by kernel_rfl) (fun _ _ _ h => h) (Or.inl ⟨by rfl, ?hy1x12⟩) hHeld ?rest1x12
  case hy1x12 => (intro w hSw; go_simp <;> with_reducible rfl)
  try simp only [Act.put, List.setIfInBounds_toArray, List.set_cons_zero, List.set_cons_succ]
  refine wpAnyH_done (by kernel_rfl) ?_ _
  go_wp2
  go_ret
  exact ⟨rfl, below_on B0.out hHeld⟩

end Go.Proofs.Ytohiblldhdglgaa
