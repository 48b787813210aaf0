/-
  What is proved here: the law WirePuts returns true for every slice of bytes and every int, and writes nothing that was there. No condition.
-/
import Derived.Test.YtmedfnipopookaaAwake1
import Derived.Test.YtmedfnipopookaaRef1
namespace Go.Proofs.Ytmedfnipopookaa
set_option linter.unusedVariables false
set_option linter.unusedSimpArgs false
open Go.RowKit

set_option maxHeartbeats 2000000 in
set_option maxRecDepth 100000 in
theorem puts_walk (A : Option Addr) (l c : Nat) (xs : List UInt8) (n : Int) (w : World) (h : Rd w A l (bv xs)) (hx : xs.length = l) :
    Calls Try.prog 3 #[.slice A l c, .int .i64 n] w fun e w' => e = .returned (.bool true) ∧ Below w.heap.size w w' := by
  have Hx := hide hx
  clear hx
  by_cases hs : l ≤ 2000
  · have hsm : decide (l ≤ 2000) = true := by simpa using hs
    go_enter Try.func3, Try.ntmps3
    go_wp2_with (first
      | (go_at_call 9; refine (small_any A l c w).mono ?_; rintro e w' ⟨rfl, rfl⟩; rw [hsm])
      | (at_builtin; refine wpList_app rfl (.tmp 11) (.tmp 12) 22 rfl 5 _ _ Try.underlying22 u8_info rfl w.heap.size (some ⟨w.heap.size, 0, none⟩) 0 0 [] rfl ((Blk.new w 5 []).own (Nat.le_refl _) 0 rfl (by decide)) A l c (bv xs) rfl (h.keep ((Below.refl _ _).alloc (Nat.le_refl _) _)) (bv_one _) (by unfold maxLen; omega) (by omega) (by simp) ?_; intro A1 c1 w1 o1 g1 b1; rw [Nat.zero_add, List.nil_append] at o1; have hsl := fun W => run_slHead (P := Try.prog) 22 5 Try.underlying22 u8_size A1 l c1 (l : Int) (l : Int) l l rfl rfl (Nat.le_refl _) (own_cap o1) W))
    have b01 : Below w.heap.size w w1 := ((Below.refl _ _).alloc (Nat.le_refl _) _).trans b1
    have r1 := own_rd o1
    have r0 := h.keep b01
    have hc1 := r1.toStr (P := Try.prog) 22 5 9 Try.underlying22 Try.underlying5 Try.underlying9
    have hc0 := r0.toStr (P := Try.prog) 22 5 9 Try.underlying22 Try.underlying5 Try.underlying9
    have Hr1 := hide r1
    have Hr0 := hide r0
    have Hb := hide b01
    clear r1 r0 b01 b1 g1 o1 hsl
    by_cases hn : n < 0 ∨ 65535 < n
    · refine (put_no _ _ _ n w1 hn).mono ?_
      rintro e w' ⟨rfl, rfl⟩
      go_wp2_with (first
        | (go_at_call 11; refine (is_no n hn _).mono ?_; rintro e w' ⟨rfl, rfl⟩)
        | (go_at_call 12; refine (awake_any _).mono ?_; rintro e w2 ⟨rfl, b2⟩))
      go_ret
      exact ⟨rfl, Hb.out.trans (b2.mono Hb.out.size)⟩
    · obtain ⟨m, rfl⟩ : ∃ m : Nat, n = (m : Int) := ⟨n.toNat, by omega⟩
      have hm : m ≤ 65535 := by omega
      refine (putI _ _ _ (m : Int) m (l + 2) rfl rfl xs w1 Hr1.out (by omega) hm).mono ?_
      rintro e w2 ⟨rfl, k2, b2⟩
      have hd1 := (Hr1.out.keep b2).toStr (P := Try.prog) 22 5 9 Try.underlying22 Try.underlying5 Try.underlying9
      have hd0 := (Hr0.out.keep b2).toStr (P := Try.prog) 22 5 9 Try.underlying22 Try.underlying5 Try.underlying9
      have Hk2 := hide k2
      have Hb2 := hide b2
      clear k2 b2 hn hc1 hc0
      go_wp2_with (first
        | (go_at_call 11; refine (is_yes m hm _).mono ?_; rintro e w' ⟨rfl, rfl⟩))
      have hcv : ∀ w', Below w2.heap.size w2 w' → ∀ k, (convert 22 9 (.slice (some ⟨w1.heap.size, 0, none⟩) (l + 2) k)).run Try.prog w' = .ok (.string (str (xs ++ word m))) w' := fun w' hb k =>
        (Hk2.out.reads hb (l + 2) (by rw [bv_length, List.length_append, Hx.out]; rfl)).toStr 22 5 9 Try.underlying22 Try.underlying5 Try.underlying9 k
      clear hd1 hd0
      refine wp_region_held_drew (S := fun w' => Below w2.heap.size w2 w') (by kernel_rfl) ?_ (fun hHeld => ?_)
      · exact (Below.refl _ _).drew
      refine wpAnyH_ready (rs := [0]) (by kernel_rfl) (by simp) (AllReadyH.cons (o := { dst := some 43, op := _, type := _, pos := _, after := _, guard := _ }) rfl (fun K hK => ?_) AllReadyH.nil)
      go_simp
      refine (awake_any _).mono ?_
      rintro e w3 ⟨rfl, b3⟩
      go_wp2_with fail
      refine hK.out _ _ ?_ (fun hHeld => ?_)
      · exact below_on hHeld b3
      clear hK K
      try simp only [Act.put, List.setIfInBounds_toArray, List.set_cons_zero, List.set_cons_succ]
      refine wpAnyH_take (i := 1) (oi := { dst := some 44, op := _, type := _, pos := _, after := _, guard := _ }) (v := ?v1x1) rfl (by kernel_rfl) (by kernel_rfl) (by kernel_rfl) (fun _ _ _ h => h) (Or.inl ⟨by rfl, ?hy1x1⟩) hHeld ?rest1x1
      case hy1x1 => (intro w hSw; go_simp <;> with_reducible rfl)
      try simp only [Act.put, List.setIfInBounds_toArray, List.set_cons_zero, List.set_cons_succ]
      refine wpAnyH_take (i := 2) (oi := { dst := some 45, op := _, type := _, pos := _, after := _, guard := _ }) (v := ?v1x2) rfl (by kernel_rfl) (by kernel_rfl) (by kernel_rfl) (fun _ _ _ h => h) (Or.inl ⟨by rfl, ?hy1x2⟩) hHeld ?rest1x2
      case hy1x2 => (intro w hSw; go_simp <;> with_reducible rfl)
      try simp only [Act.put, List.setIfInBounds_toArray, List.set_cons_zero, List.set_cons_succ]
      refine wpAnyH_take (i := 3) (oi := { dst := some 46, op := _, type := _, pos := _, after := _, guard := _ }) (v := ?v1x3) rfl (by kernel_rfl) (by kernel_rfl) (by kernel_rfl) (fun _ _ _ h => h) (Or.inl ⟨by rfl, ?hy1x3⟩) hHeld ?rest1x3
      case hy1x3 => (intro w hSw; go_simp <;> with_reducible rfl)
      try simp only [Act.put, List.setIfInBounds_toArray, List.set_cons_zero, List.set_cons_succ]
      refine wpAnyH_take (i := 4) (oi := { dst := some 47, op := _, type := _, pos := _, after := _, guard := _ }) (v := ?v1x4) rfl (by kernel_rfl) (by kernel_rfl) (by kernel_rfl) (fun _ _ _ h => h) (Or.inl ⟨by rfl, ?hy1x4⟩) hHeld ?rest1x4
      case hy1x4 => (intro w hSw; go_simp <;> with_reducible rfl)
      try simp only [Act.put, List.setIfInBounds_toArray, List.set_cons_zero, List.set_cons_succ]
      refine wpAnyH_take (i := 5) (oi := { dst := some 48, op := _, type := _, pos := _, after := _, guard := _ }) (v := ?v1x5) rfl (by kernel_rfl) (by kernel_rfl) (by kernel_rfl) (fun _ _ _ h => h) (Or.inl ⟨by rfl, ?hy1x5⟩) hHeld ?rest1x5
      case hy1x5 => (intro w hSw; go_simp <;> with_reducible rfl)
      try simp only [Act.put, List.setIfInBounds_toArray, List.set_cons_zero, List.set_cons_succ]
      refine wpAnyH_take (i := 6) (oi := { dst := some 49, op := _, type := _, pos := _, after := _, guard := _ }) (v := ?v1x6) rfl (by kernel_rfl) (by kernel_rfl) (by kernel_rfl) (fun _ _ _ h => h) (Or.inl ⟨by rfl, ?hy1x6⟩) hHeld ?rest1x6
      case hy1x6 => (intro w hSw; go_simp <;> with_reducible rfl)
      try simp only [Act.put, List.setIfInBounds_toArray, List.set_cons_zero, List.set_cons_succ]
      refine wpAnyH_take (i := 7) (oi := { dst := some 50, op := _, type := _, pos := _, after := _, guard := _ }) (v := ?v1x7) rfl (by kernel_rfl) (by kernel_rfl) (by kernel_rfl) (fun _ _ _ h => h) (Or.inl ⟨by rfl, ?hy1x7⟩) hHeld ?rest1x7
      case hy1x7 => (intro w hSw; go_simp <;> with_reducible rfl)
      try simp only [Act.put, List.setIfInBounds_toArray, List.set_cons_zero, List.set_cons_succ]
      refine wpAnyH_take (i := 8) (oi := { dst := some 51, op := _, type := _, pos := _, after := _, guard := _ }) (v := ?v1x8) rfl (by kernel_rfl) (by kernel_rfl) (by kernel_rfl) (fun _ _ _ h => h) (Or.inl ⟨by rfl, ?hy1x8⟩) hHeld ?rest1x8
      case hy1x8 => (intro w hSw; go_simp <;> with_reducible rfl)
      try simp only [Act.put, List.setIfInBounds_toArray, List.set_cons_zero, List.set_cons_succ]
      refine wpAnyH_take (i := 9) (oi := { dst := some 52, op := _, type := _, pos := _, after := _, guard := _ }) (v := ?v1x9) rfl (by kernel_rfl) (by kernel_rfl) (by kernel_rfl) (fun _ _ _ h => h) (Or.inl ⟨by rfl, ?hy1x9⟩) hHeld ?rest1x9
      case hy1x9 => (intro w hSw; go_simp <;> with_reducible rfl)
      try simp only [Act.put, List.setIfInBounds_toArray, List.set_cons_zero, List.set_cons_succ]
      refine wpAnyH_ready (rs := [10]) (by kernel_rfl) (by simp) (AllReadyH.cons (o := { dst := some 53, op := _, type := _, pos := _, after := _, guard := _ }) rfl (fun K hK => ?_) AllReadyH.nil)
      go_simp
      refine (word_any m hm _).mono ?_
      rintro e w4 ⟨rfl, k4, b4⟩
      have s4 := below_on hHeld b4
      go_wp2_with fail
      refine hK.out _ _ ?_ (fun hHeld => ?_)
      · exact below_on hHeld b4
      clear hK K
      try simp only [Act.put, List.setIfInBounds_toArray, List.set_cons_zero, List.set_cons_succ]
      refine wpAnyH_ready (rs := [11]) (by kernel_rfl) (by simp) (AllReadyH.cons (o := { dst := some 54, op := _, type := _, pos := _, after := _, guard := _ }) rfl (fun K hK => ?_) AllReadyH.nil)
      go_simp
      refine (both_any A _ l 2 c 2 xs (word m) _ ((Hr0.out.keep Hb2.out).keep s4) (k4.reads (Below.refl _ _) 2 rfl) (by omega) (by omega)).mono ?_
      rintro e w5 ⟨C, k, rfl, hk, r5, b5⟩
      have s5 := below_on s4 b5
      have hcC : ∀ w', Below w5.heap.size w5 w' → ∀ k, (convert 22 9 (.slice C (l + 2) k)).run Try.prog w' = .ok (.string (str (xs ++ word m))) w' := fun w' hb k => (r5.keep hb).toStr 22 5 9 Try.underlying22 Try.underlying5 Try.underlying9 k
      go_wp2_with fail
      refine hK.out _ _ ?_ (fun hHeld => ?_)
      · exact below_on hHeld b5
      clear hK K
      try simp only [Act.put, List.setIfInBounds_toArray, List.set_cons_zero, List.set_cons_succ]
      refine wpAnyH_strong (S' := fun w' => Below w5.heap.size w5 w') (by intro w' h; exact below_on hHeld h) ?_
      replace hHeld : (fun w' => Below w5.heap.size w5 w') _ := Below.refl _ _
      refine wpAnyH_take (i := 12) (oi := { dst := some 55, op := _, type := _, pos := _, after := _, guard := _ }) (v := ?v1x12) rfl (by kernel_rfl) (by kernel_rfl) (by kernel_rfl) (fun _ _ _ h => h) (Or.inl ⟨by rfl, ?hy1x12⟩) hHeld ?rest1x12
      case hy1x12 => (intro w hSw; go_simp <;> with_reducible rfl)
      try simp only [Act.put, List.setIfInBounds_toArray, List.set_cons_zero, List.set_cons_succ]
      refine wpAnyH_take (i := 13) (oi := { dst := some 56, op := _, type := _, pos := _, after := _, guard := _ }) (v := ?v1x13) rfl (by kernel_rfl) (by kernel_rfl) (by kernel_rfl) (fun _ _ _ h => h) (Or.inl ⟨by rfl, ?hy1x13⟩) hHeld ?rest1x13
      case hy1x13 => (intro w hSw; go_simp <;> with_reducible rfl)
      try simp only [Act.put, List.setIfInBounds_toArray, List.set_cons_zero, List.set_cons_succ]
      refine wpAnyH_take (i := 14) (oi := { dst := some 57, op := _, type := _, pos := _, after := _, guard := _ }) (v := ?v1x14) rfl (by kernel_rfl) (by kernel_rfl) (by kernel_rfl) (fun _ _ _ h => h) (Or.inl ⟨by rfl, ?hy1x14⟩) hHeld ?rest1x14
      case hy1x14 => (intro w hSw; go_simp <;> with_reducible rfl)
      try simp only [Act.put, List.setIfInBounds_toArray, List.set_cons_zero, List.set_cons_succ]
      refine wpAnyH_take (i := 15) (oi := { dst := some 4, op := _, type := _, pos := _, after := _, guard := _ }) (v := ?v1x15) rfl (by kernel_rfl) (by kernel_rfl) (by kernel_rfl) (fun _ _ _ h => h) (Or.inl ⟨by rfl, ?hy1x15⟩) hHeld ?rest1x15
      case hy1x15 => (intro w hSw; go_simp <;> with_reducible rfl)
      try simp only [Act.put, List.setIfInBounds_toArray, List.set_cons_zero, List.set_cons_succ]
      refine wpAnyH_done (by kernel_rfl) ?_ _
      go_wp2
      go_ret
      exact ⟨rfl, below_on (below_on Hb.out Hb2.out) s5⟩
  · have hsm : decide (l ≤ 2000) = false := by simpa using hs
    go_enter Try.func3, Try.ntmps3
    go_wp2_with (go_at_call 9; refine (small_any A l c w).mono ?_; rintro e w' ⟨rfl, rfl⟩; rw [hsm])
    go_ret
    exact ⟨rfl, Below.refl _ _⟩

end Go.Proofs.Ytmedfnipopookaa
