/-
  What is proved here: the law CrcSteps returns true for every int, byte and two slices of bytes, and writes nothing that was there. No condition.
-/
import Derived.Test.YtpolcahpbajiaaaAwake2
import Derived.Test.YtpolcahpbajiaaaRef2
namespace Go.Proofs.Ytpolcahpbajiaaa
set_option linter.unusedVariables false
set_option linter.unusedSimpArgs false
open Go.RowKit


theorem sum_more (xs ys : List UInt8) (k : Nat) (h : k < ys.length) : sumN (xs ++ ys.take (k + 1)) = stepN (sumN (xs ++ ys.take k)) ys[k].toNat := by
  rw [List.take_succ_eq_append_getElem h, ← List.append_assoc, sumN, sumF_app]
  rfl

set_option maxHeartbeats 2000000 in
set_option maxRecDepth 100000 in
theorem steps2_walk (s : Int) (x : Nat) (hx8 : x < 256) (A : Option Addr) (l c : Nat) (xs : List UInt8) (B : Option Addr) (m d : Nat) (ys : List UInt8) (w : World) (h : Rd w A l (bv xs)) (g : Rd w B m (bv ys)) :
    Calls Try.prog 4 #[.int .i64 s, .int .u8 (x : Int), .slice A l c, .slice B m d] w fun e w' => e = .returned (.bool true) ∧ Below w.heap.size w w' := by
  have hy : ys.length = m := by rw [← bv_length]; exact g.1
  have Hh := hide h
  have Hg := hide g
  have Hy := hide hy
  clear h g hy
  by_cases hs : l ≤ 600
  · have hsm : decide (l ≤ 600) = true := by simpa using hs
    by_cases hs2 : m ≤ 600
    · have hsm2 : decide (m ≤ 600) = true := by simpa using hs2
      by_cases hw : s < 0 ∨ 65535 < s
      · have S1 := fun W => hide (step_no s x hw W)
        have I1 := fun W => hide (is_no s hw W)
        have R1 := fun (W : World) => hide trivial
        clear hw
        go_enter Try.func4, Try.ntmps4
        go_wp2_with (first
          | (go_at_call 9; refine (small2_any A l c w).mono ?_; rintro e w' ⟨rfl, rfl⟩; rw [hsm])
          | (go_at_call 9; refine (small2_any B m d w).mono ?_; rintro e w' ⟨rfl, rfl⟩; rw [hsm2])
          | (go_at_call 18; refine (S1 _).out.mono ?_; rintro e w' ⟨rfl, rfl⟩)
          | (go_at_call 19; refine (I1 _).out.mono ?_; rintro e w' ⟨rfl, rfl⟩)
          | (go_at_call 20; refine (R1 _).out.mono ?_; rintro e w' ⟨rfl, rfl⟩)
          | (go_at_call 10; refine (sum_any A l c xs w Hh.out (by omega)).mono ?_; rintro e w' ⟨rfl, rfl⟩))
        go_loop [11, 12] (fun s i => ∃ k : Nat, k ≤ m ∧ i = .int .i64 k ∧ s = .int .i64 ((sumN (xs ++ ys.take k) : Nat) : Int)) (fun _ i => m - (intOf i).toNat)
        case atStart => exact ⟨0, Nat.zero_le _, rfl, by rw [List.take_zero, List.append_nil]⟩
        case round =>
          obtain ⟨k, hk, rfl, rfl⟩ := hrel
          by_cases hlt : k < m
          · obtain ⟨b, o, rfl, hbl, hcc⟩ := Hg.out.at_ hlt
            have hlt' : k < ys.length := by rw [Hy.out]; exact hlt
            have c0 := hcc k _ (bv_get ys k hlt')
            have Hs := hide (sum_more xs ys k hlt')
            have q : (k : Int) < (m : Int) := by omega
            have hS := sumN_lt (xs ++ ys.take k)
            have hX := ys[k].toNat_lt
            clear hcc
            generalize ys[k].toNat = X at *
            generalize sumN (xs ++ ys.take k) = Y at *
            go_wp2_with (go_at_call 18; refine (step_ok Y X hS hX _).mono ?_; rintro e w' ⟨rfl, rfl⟩)
            go_round
            case rel => exact ⟨k + 1, by omega, by go_num, by rw [Hs.out]⟩
            case measure => simp [intOf]; omega
          · obtain rfl : k = m := by omega
            have Hf : Hid (sumN (xs ++ ys.take k) = sumN (xs ++ ys)) := by show _ = _; rw [List.take_of_length_le (by rw [Hy.out]; exact Nat.le_refl _)]
            rw [Hf.out]
            go_wp2_with (first
              | (go_at_call 17; refine (awake2_any _).mono ?_; rintro e w2 ⟨rfl, b2⟩)
              | (go_at_call 21; refine (both_any A B l k c d xs ys _ (Hh.out.keep b2) (Hg.out.keep b2) (by omega) (by omega)).mono ?_; rintro e w3 ⟨C, kk, rfl, hkk, r3, b3⟩)
              | (go_at_call 10; refine (sum_any C (l + k) kk (xs ++ ys) _ r3 (by omega)).mono ?_; rintro e w' ⟨rfl, rfl⟩))
            go_ret
            exact ⟨rfl, below_on b2 b3⟩
      · obtain ⟨t, rfl⟩ : ∃ t : Nat, s = (t : Int) := ⟨s.toNat, by omega⟩
        have ht : t < 65536 := by omega
        have S1 := fun W => hide (step_ok t x ht hx8 W)
        have I1 := fun W => hide (is_yes t (by omega) W)
        have R1 := fun W => hide (refStep_any t x ht hx8 W)
        clear hw
        go_enter Try.func4, Try.ntmps4
        go_wp2_with (first
          | (go_at_call 9; refine (small2_any A l c w).mono ?_; rintro e w' ⟨rfl, rfl⟩; rw [hsm])
          | (go_at_call 9; refine (small2_any B m d w).mono ?_; rintro e w' ⟨rfl, rfl⟩; rw [hsm2])
          | (go_at_call 18; refine (S1 _).out.mono ?_; rintro e w' ⟨rfl, rfl⟩)
          | (go_at_call 19; refine (I1 _).out.mono ?_; rintro e w' ⟨rfl, rfl⟩)
          | (go_at_call 20; refine (R1 _).out.mono ?_; rintro e w' ⟨rfl, rfl⟩)
          | (go_at_call 10; refine (sum_any A l c xs w Hh.out (by omega)).mono ?_; rintro e w' ⟨rfl, rfl⟩))
        go_loop [11, 12] (fun s i => ∃ k : Nat, k ≤ m ∧ i = .int .i64 k ∧ s = .int .i64 ((sumN (xs ++ ys.take k) : Nat) : Int)) (fun _ i => m - (intOf i).toNat)
        case atStart => exact ⟨0, Nat.zero_le _, rfl, by rw [List.take_zero, List.append_nil]⟩
        case round =>
          obtain ⟨k, hk, rfl, rfl⟩ := hrel
          by_cases hlt : k < m
          · obtain ⟨b, o, rfl, hbl, hcc⟩ := Hg.out.at_ hlt
            have hlt' : k < ys.length := by rw [Hy.out]; exact hlt
            have c0 := hcc k _ (bv_get ys k hlt')
            have Hs := hide (sum_more xs ys k hlt')
            have q : (k : Int) < (m : Int) := by omega
            have hS := sumN_lt (xs ++ ys.take k)
            have hX := ys[k].toNat_lt
            clear hcc
            generalize ys[k].toNat = X at *
            generalize sumN (xs ++ ys.take k) = Y at *
            go_wp2_with (go_at_call 18; refine (step_ok Y X hS hX _).mono ?_; rintro e w' ⟨rfl, rfl⟩)
            go_round
            case rel => exact ⟨k + 1, by omega, by go_num, by rw [Hs.out]⟩
            case measure => simp [intOf]; omega
          · obtain rfl : k = m := by omega
            have Hf : Hid (sumN (xs ++ ys.take k) = sumN (xs ++ ys)) := by show _ = _; rw [List.take_of_length_le (by rw [Hy.out]; exact Nat.le_refl _)]
            rw [Hf.out]
            go_wp2_with (first
              | (go_at_call 17; refine (awake2_any _).mono ?_; rintro e w2 ⟨rfl, b2⟩)
              | (go_at_call 21; refine (both_any A B l k c d xs ys _ (Hh.out.keep b2) (Hg.out.keep b2) (by omega) (by omega)).mono ?_; rintro e w3 ⟨C, kk, rfl, hkk, r3, b3⟩)
              | (go_at_call 10; refine (sum_any C (l + k) kk (xs ++ ys) _ r3 (by omega)).mono ?_; rintro e w' ⟨rfl, rfl⟩))
            go_ret
            exact ⟨rfl, below_on b2 b3⟩
    · have hsm2 : decide (m ≤ 600) = false := by simpa using hs2
      go_enter Try.func4, Try.ntmps4
      go_wp2_with (first
        | (go_at_call 9; refine (small2_any A l c w).mono ?_; rintro e w' ⟨rfl, rfl⟩; rw [hsm])
        | (go_at_call 9; refine (small2_any B m d w).mono ?_; rintro e w' ⟨rfl, rfl⟩; rw [hsm2]))
      go_ret
      exact ⟨rfl, Below.refl _ _⟩
  · have hsm : decide (l ≤ 600) = false := by simpa using hs
    go_enter Try.func4, Try.ntmps4
    go_wp2_with (go_at_call 9; refine (small2_any A l c w).mono ?_; rintro e w' ⟨rfl, rfl⟩; rw [hsm])
    go_ret
    exact ⟨rfl, Below.refl _ _⟩

end Go.Proofs.Ytpolcahpbajiaaa
