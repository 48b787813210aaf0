/-
  What is proved here: what the functions half, next, halves, Step and Sum of package crc return. Conditions: sums that are words; lengths up to a million.
-/
import Derived.Test.YtkbombdhdgdpnaaInfo
import Derived.Test.YtkbombdhdgdpnaaCrc0
import Derived.LoopTactic
import Derived.WalkMore
import Derived.ScopeJumps
namespace Go.Proofs.Ytkbombdhdgdpnaa
set_option linter.unusedVariables false
set_option linter.unusedSimpArgs false
open Go.RowKit

theorem half_even (s : Nat) (h : s % 2 = 0) : halfN s = s / 2 := by unfold halfN; rw [h]; simp
theorem half_odd (s : Nat) (h : s % 2 = 1) : halfN s = s / 2 ^^^ 40961 := by unfold halfN; rw [h]
theorem half_any (s : Nat) (hs : s < 65536) (w : World) : Calls Try.prog 30 #[.int .i64 (s : Int)] w fun e w' => e = .returned (.int .i64 ((halfN s : Nat) : Int)) ∧ w = w' := by
  have ha := i64_and_nat s 1 (by omega) (by decide)
  rw [Nat.and_one_is_mod] at ha
  have ha' : bits .and .i64 (s : Int) 1 = ((s % 2 : Nat) : Int) := ha
  have hx : bits .xor .i64 ((s : Int) / 2) 40961 = ((s / 2 ^^^ 40961 : Nat) : Int) := i64_xor_nat (s / 2) 40961 (by omega) (by decide)
  clear ha
  rcases (by omega : s % 2 = 0 ∨ s % 2 = 1) with h | h
  · have He := hide (half_even s h)
    rw [h] at ha'
    go_enter Try.func30, Try.ntmps30
    go_wp2
    go_ret
    exact ⟨by rw [He.out]; rfl, rfl⟩
  · have He := hide (half_odd s h)
    rw [h] at ha'
    go_enter Try.func30, Try.ntmps30
    go_wp2
    go_ret
    exact ⟨by rw [He.out]; rfl, rfl⟩

set_option maxHeartbeats 1000000 in
set_option maxRecDepth 100000 in
theorem next_any (s x : Nat) (hs : s < 65536) (hx : x < 256) (w : World) : Calls Try.prog 28 #[.int .i64 (s : Int), .int .u8 (x : Int)] w fun e w' => e = .returned (.int .i64 ((stepN s x : Nat) : Int)) ∧ w = w' := by
  have hxor : bits .xor .i64 (s : Int) (x : Int) = ((s ^^^ x : Nat) : Int) := i64_xor_nat s x (by omega) (by omega)
  have hlt : s ^^^ x < 65536 := Nat.xor_lt_two_pow (n := 16) (by omega) (by omega)
  have Hst : Hid (stepN s x = hv 8 (s ^^^ x)) := rfl
  go_enter Try.func28, Try.ntmps28
  go_wp2
  refine wp_scope_jumps 0 (fun a' w' => w = w' ∧ ∃ (k : Nat) (L : Int) (u6 u7 u8 u9 u10 u11 u12 u13 u14 u15 : Value), a' = { tmps := #[.int .i64 ((hv k (s ^^^ x) : Nat) : Int), .int .u8 (x : Int), undef, undef, .int .i64 0, .int .i64 L, u6, u7, u8, u9, u10, u11, u12, u13, u14, u15, undef], defers := [] } ∧ L = 8 - (k : Int) ∧ 1 ≤ k ∧ k ≤ 7) (fun a' _ => (intOf (a'.tmps.getD 5 undef)).toNat) rfl ?_ ?_
  · go_wp2
    go_step3
    go_wp2_with (go_at_call 30; refine (half_any (s ^^^ x) hlt _).mono ?_; rintro e w' ⟨rfl, rfl⟩)
    go_step3
    exact ⟨rfl, rfl, 1, _, _, _, _, _, _, _, _, _, _, _, rfl, by omega, by omega, by omega⟩
  · rintro a' w' ⟨rfl, k, L, u6, u7, u8, u9, u10, u11, u12, u13, u14, u15, rfl, hL, h1, h7⟩
    have hk := hv_lt (s ^^^ x) hlt k
    by_cases hlast : k = 7
    · subst hlast
      obtain rfl : L = 1 := by omega
      clear hL
      have H8 : Hid (halfN (hv 7 (s ^^^ x)) = hv 8 (s ^^^ x)) := rfl
      generalize hv 7 (s ^^^ x) = Y at *
      go_wp2_with (go_at_call 30; refine (half_any Y hk _).mono ?_; rintro e w' ⟨rfl, rfl⟩)
      simp only [Exit.jump]
      go_ret
      exact ⟨by rw [H8.out, ← Hst.out]; rfl, rfl⟩
    · have H8 : Hid (halfN (hv k (s ^^^ x)) = hv (k + 1) (s ^^^ x)) := rfl
      generalize hv k (s ^^^ x) = Y at *
      have q : (0 : Int) < L - 1 := by omega
      have q1 : (1 : Int) < L := by omega
      have q2 : L ≤ 8 := by omega
      have HL := hide hL
      clear hL
      go_wp2_with (go_at_call 30; refine (half_any Y hk _).mono ?_; rintro e w' ⟨rfl, rfl⟩)
      go_step3
      rw [H8.out]
      refine ⟨rfl, ⟨rfl, k + 1, L - 1, _, _, _, _, _, _, _, _, _, _, rfl, by rw [HL.out]; omega, by omega, by omega⟩, ?_⟩
      simp [intOf]
      omega

theorem halves_any (s : Nat) (hs : s < 65536) (w : World) : Calls Try.prog 24 #[.int .i64 (s : Int)] w fun e w' => e = .returned (.tuple #[.int .u8 ((s : Int) % 256), .int .u8 ((s : Int) / 256)]) ∧ w = w' := by
  go_enter Try.func24, Try.ntmps24
  go_wp2
  go_ret2
  exact ⟨rfl, rfl⟩

theorem sum_any (A : Option Addr) (n c : Nat) (xs : List UInt8) (w : World) (h : Rd w A n (bv xs)) (hn : n ≤ 1000000) :
    Calls Try.prog 25 #[.slice A n c] w fun e w' => e = .returned (.int .i64 ((sumN xs : Nat) : Int)) ∧ w = w' := by
  have hl : xs.length = n := by rw [← bv_length]; exact h.1
  have Hl := hide hl
  clear hl
  go_enter Try.func25, Try.ntmps25
  go_wp2
  go_loop [3, 8] (fun s i => ∃ k : Nat, k ≤ n ∧ i = .int .i64 k ∧ s = .int .i64 ((sumN (xs.take k) : Nat) : Int)) (fun _ i => n - (intOf i).toNat)
  case atStart => exact ⟨0, Nat.zero_le _, rfl, rfl⟩
  case round =>
    obtain ⟨k, hk, rfl, rfl⟩ := hrel
    by_cases hlt : k < n
    · obtain ⟨b, o, rfl, hbl, hc⟩ := h.at_ hlt
      have hlt' : k < xs.length := by rw [Hl.out]; exact hlt
      have c0 := hc k _ (bv_get xs k hlt')
      have Hs := hide (sumN_snoc xs k hlt')
      have q : (k : Int) < (n : Int) := by omega
      have hS := sumN_lt (xs.take k)
      have hX := xs[k].toNat_lt
      clear hc h
      generalize xs[k].toNat = X at *
      generalize sumN (xs.take k) = Y at *
      go_wp2_with (go_at_call 28; refine (next_any Y X hS hX _).mono ?_; rintro e w' ⟨rfl, rfl⟩)
      go_round
      case rel => exact ⟨k + 1, by omega, by go_num, by rw [Hs.out]⟩
      case measure => simp [intOf]; omega
    · obtain rfl : k = n := by omega
      have Hf : Hid (sumN (xs.take k) = sumN xs) := by show _ = _; rw [List.take_of_length_le (by rw [Hl.out]; exact Nat.le_refl _)]
      generalize sumN (xs.take k) = Y at *
      go_wp2
      go_ret
      exact ⟨by rw [← Hf.out]; rfl, rfl⟩

end Go.Proofs.Ytkbombdhdgdpnaa
