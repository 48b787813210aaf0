/-
  What is proved here: what the document's own functions of layer 2 (Xor, Step, Sum, Add, Good) return, and the law's own 'small'. Conditions: numbers that are words; lengths up to a hundred thousand.
-/
import Derived.Test.YtkbombdhdgdpnaaRefA
import Derived.Test.YtkbombdhdgdpnaaCrc0
namespace Go.Proofs.Ytkbombdhdgdpnaa
set_option linter.unusedVariables false
set_option linter.unusedSimpArgs false
open Go.RowKit

theorem xor_half (a b : Nat) : a ^^^ b = (if a % 2 = b % 2 then 0 else 1) + 2 * ((a / 2) ^^^ (b / 2)) := by
  have h1 : (a ^^^ b) / 2 = a / 2 ^^^ b / 2 := Nat.xor_div_two
  have h2 := Nat.xor_mod_two_eq_one (a := a) (b := b)
  rw [← h1]
  split <;> omega
theorem xor_round (O W a b X d : Nat) (h : O + W * (a ^^^ b) = X) (hd : (if a % 2 = b % 2 then 0 else 1) = d) : (O + W * d) + (2 * W) * ((a / 2) ^^^ (b / 2)) = X := by
  rw [xor_half a b, hd] at h
  rw [← h, Nat.mul_add, Nat.add_assoc, Nat.mul_comm 2 W, Nat.mul_assoc]
theorem half_room (W a : Nat) (h : W * a ≤ 65535) : 2 * W * (a / 2) ≤ 65535 := by
  rw [Nat.mul_comm 2 W, Nat.mul_assoc]
  exact Nat.le_trans (Nat.mul_le_mul_left _ (by omega)) h
theorem room_le (W a : Nat) (h : W * a ≤ 65535) (ha : 0 < a) : W ≤ 65535 := by
  have := Nat.mul_le_mul_left W ha
  omega

set_option maxHeartbeats 800000 in
theorem xor_any (a b : Nat) (ha : a < 65536) (hb : b < 65536) (w : World) : Calls Try.prog 31 #[.int .i64 (a : Int), .int .i64 (b : Int)] w fun e w' => e = .returned (.int .i64 ((a ^^^ b : Nat) : Int)) ∧ w = w' := by
  obtain ⟨X, hX⟩ : ∃ X, a ^^^ b = X := ⟨_, rfl⟩
  have hXl : X < 65536 := by rw [← hX]; exact Nat.xor_lt_two_pow (n := 16) (by omega) (by omega)
  rw [hX]
  have H0 : Hid (0 + 1 * (a ^^^ b) = X) := by show _ = _; rw [hX]; omega
  clear hX
  go_enter Try.func31, Try.ntmps31
  go_wp2
  go_loop [0, 1, 5, 6] (fun p q r s => ∃ (A B O W : Nat), p = .int .i64 (A : Int) ∧ q = .int .i64 (B : Int) ∧ r = .int .i64 (O : Int) ∧ s = .int .i64 (W : Int) ∧ A < 65536 ∧ B < 65536 ∧ O + W * (A ^^^ B) = X ∧ W * A ≤ 65535 ∧ W * B ≤ 65535) (fun p q _ _ => (intOf p).toNat + (intOf q).toNat)
  case atStart => exact ⟨a, b, 0, 1, rfl, rfl, rfl, rfl, ha, hb, H0.out, by omega, by omega⟩
  case round =>
    obtain ⟨A, B, O, W, rfl, rfl, rfl, rfl, hA, hB, hO, hWA, hWB⟩ := hrel
    have hOl : O ≤ X := by rw [← hO]; exact Nat.le_add_right _ _
    have R := fun d => hide (xor_round O W A B X d hO)
    have RA := hide (half_room W A hWA)
    have RB := hide (half_room W B hWB)
    by_cases hz : A = 0 ∧ B = 0
    · obtain ⟨rfl, rfl⟩ := hz
      have HO : Hid (O = X) := by show _ = _; rw [← hO]; simp
      clear hO R RA RB hWA hWB
      go_wp2
      go_ret
      exact ⟨by rw [HO.out]; rfl, rfl⟩
    · have hW : W ≤ 65535 := by
        by_cases h0 : A = 0
        · exact room_le W B hWB (by omega)
        · exact room_le W A hWA (by omega)
      have hpos : 0 < A ∨ 0 < B := by omega
      clear hO hWA hWB hz
      have fin : ∀ O' : Nat, (O' = O ∧ A % 2 = B % 2 ∨ O' = O + W ∧ ¬ A % 2 = B % 2) → O' + 2 * W * (A / 2 ^^^ B / 2) = X := by
        rintro O' (⟨rfl, e⟩ | ⟨rfl, e⟩)
        · have := (R 0).out (by rw [if_pos e]); simpa using this
        · have := (R 1).out (by rw [if_neg e]); simpa using this
      have Fin := hide fin
      clear fin R
      by_cases hbit : A % 2 = B % 2
      · have p1 : ((A : Int) % 2 != (B : Int) % 2) = false := by rw [bne_eq_false_iff_eq]; omega
        have HE := hide (Fin.out O (.inl ⟨rfl, hbit⟩))
        clear Fin hbit
        by_cases hA0 : 0 < A
        · have p2 : (0 : Int) < (A : Int) := by omega
          clear hpos
          go_wp2
          go_round
          case rel => exact ⟨A / 2, B / 2, O, 2 * W, by go_num, by go_num, by go_num, by go_num, by omega, by omega, HE.out, RA.out, RB.out⟩
          case measure => simp [intOf]; omega
        · have p2 : decide ((0 : Int) < (A : Int)) = false := by simp; omega
          have p3 : (0 : Int) < (B : Int) := by omega
          clear hpos
          go_wp2
          go_round
          case rel => exact ⟨A / 2, B / 2, O, 2 * W, by go_num, by go_num, by go_num, by go_num, by omega, by omega, HE.out, RA.out, RB.out⟩
          case measure => simp [intOf]; omega
      · have p1 : ((A : Int) % 2 != (B : Int) % 2) = true := by rw [bne_iff_ne]; omega
        have HE := hide (Fin.out (O + W) (.inr ⟨rfl, hbit⟩))
        clear Fin hbit
        by_cases hA0 : 0 < A
        · have p2 : (0 : Int) < (A : Int) := by omega
          clear hpos
          go_wp2
          go_round
          case rel => exact ⟨A / 2, B / 2, O + W, 2 * W, by go_num, by go_num, by go_num, by go_num, by omega, by omega, HE.out, RA.out, RB.out⟩
          case measure => simp [intOf]; omega
        · have p2 : decide ((0 : Int) < (A : Int)) = false := by simp; omega
          have p3 : (0 : Int) < (B : Int) := by omega
          clear hpos
          go_wp2
          go_round
          case rel => exact ⟨A / 2, B / 2, O + W, 2 * W, by go_num, by go_num, by go_num, by go_num, by omega, by omega, HE.out, RA.out, RB.out⟩
          case measure => simp [intOf]; omega

theorem half_evenR (s : Nat) (h : s % 2 = 0) : halfN s = s / 2 := by unfold halfN; rw [h]; simp
theorem half_oddR (s : Nat) (h : s % 2 = 1) : halfN s = s / 2 ^^^ 40961 := by unfold halfN; rw [h]
theorem refStep_any (s x : Nat) (hs : s < 65536) (hx : x < 256) (w : World) : Calls Try.prog 29 #[.int .i64 (s : Int), .int .i64 (x : Int)] w fun e w' => e = .returned (.int .i64 ((stepN s x : Nat) : Int)) ∧ w = w' := by
  have hlt : s ^^^ x < 65536 := Nat.xor_lt_two_pow (n := 16) (by omega) (by omega)
  have Hst : Hid (stepN s x = hv 8 (s ^^^ x)) := rfl
  have X0 := fun W => hide (xor_any s x hs (by omega) W)
  go_enter Try.func29, Try.ntmps29
  go_wp2_with (go_at_call 31; refine (X0 _).out.mono ?_; rintro e w' ⟨rfl, rfl⟩)
  go_loop [0, 5] (fun p i => ∃ k : Nat, k ≤ 8 ∧ i = .int .i64 (k : Int) ∧ p = .int .i64 ((hv k (s ^^^ x) : Nat) : Int)) (fun _ i => 8 - (intOf i).toNat)
  case atStart => exact ⟨0, by omega, rfl, rfl⟩
  case round =>
    obtain ⟨k, hk, rfl, rfl⟩ := hrel
    have hY := hv_lt (s ^^^ x) hlt k
    by_cases h8 : k = 8
    · subst h8
      generalize hv 8 (s ^^^ x) = Y at *
      go_wp2
      go_ret
      exact ⟨by rw [Hst.out]; rfl, rfl⟩
    · have q : (k : Int) < 8 := by omega
      have H1 : Hid (hv (k + 1) (s ^^^ x) = halfN (hv k (s ^^^ x))) := rfl
      generalize hv k (s ^^^ x) = Y at *
      rcases (by omega : Y % 2 = 0 ∨ Y % 2 = 1) with h | h
      · have He := hide (half_evenR Y h)
        have p1 : ((Y : Int) % 2 == 1) = false := by rw [beq_eq_false_iff_ne]; omega
        clear h
        go_wp2
        go_round
        case rel => exact ⟨k + 1, by omega, by go_num, by rw [H1.out, He.out]; go_num⟩
        case measure => simp [intOf]; omega
      · have He := hide (half_oddR Y h)
        have p1 : ((Y : Int) % 2 == 1) = true := by rw [beq_iff_eq]; omega
        have X1 := fun W => hide (xor_any (Y / 2) 40961 (by omega) (by decide) W)
        clear h
        go_wp2_with (go_at_call 31; refine (X1 _).out.mono ?_; rintro e w' ⟨rfl, rfl⟩)
        go_round
        case rel => exact ⟨k + 1, by omega, by go_num, by rw [H1.out, He.out]⟩
        case measure => simp [intOf]; omega

theorem refSum_any (A : Option Addr) (n c : Nat) (xs : List UInt8) (w : World) (h : Rd w A n (bv xs)) (hn : n ≤ 1000000) :
    Calls Try.prog 27 #[.slice A n c] w fun e w' => e = .returned (.int .i64 ((sumN xs : Nat) : Int)) ∧ w = w' := by
  have hl : xs.length = n := by rw [← bv_length]; exact h.1
  have Hl := hide hl
  clear hl
  go_enter Try.func27, Try.ntmps27
  go_wp2
  go_loop [3, 4] (fun s i => ∃ k : Nat, k ≤ n ∧ i = .int .i64 k ∧ s = .int .i64 ((sumN (xs.take k) : Nat) : Int)) (fun _ i => n - (intOf i).toNat)
  case atStart => exact ⟨0, Nat.zero_le _, rfl, rfl⟩
  case round =>
    obtain ⟨k, hk, rfl, rfl⟩ := hrel
    by_cases hlt : k < n
    · obtain ⟨b, o, rfl, hbl, hc⟩ := h.at_ hlt
      have hlt' : k < xs.length := by rw [Hl.out]; exact hlt
      have c0 := hc k _ (bv_get xs k hlt')
      have Hs := hide (sumN_snoc xs k hlt')
      have q : (k : Int) < (n : Int) := by omega
      have hS := sumN_lt (xs.take k)
      have hX := xs[k].toNat_lt
      clear hc h
      generalize xs[k].toNat = X at *
      generalize sumN (xs.take k) = Y at *
      go_wp2_with (go_at_call 29; refine (refStep_any Y X hS hX _).mono ?_; rintro e w' ⟨rfl, rfl⟩)
      go_round
      case rel => exact ⟨k + 1, by omega, by go_num, by rw [Hs.out]⟩
      case measure => simp [intOf]; omega
    · obtain rfl : k = n := by omega
      have Hf : Hid (sumN (xs.take k) = sumN xs) := by show _ = _; rw [List.take_of_length_le (by rw [Hl.out]; exact Nat.le_refl _)]
      generalize sumN (xs.take k) = Y at *
      go_wp2
      go_ret
      exact ⟨by rw [← Hf.out]; rfl, rfl⟩

theorem bv_tailR (n : Nat) (h : n < 65536) : bv (tailL n) = [.int .u8 ((n : Int) % 256), .int .u8 ((n : Int) / 256)] := by
  have e1 : ((n % 256 % 2 ^ 8 : Nat) : Int) = (n : Int) % 256 := by omega
  have e2 : ((n / 256 % 2 ^ 8 : Nat) : Int) = (n : Int) / 256 := by omega
  simp only [bv, tailL, List.map_cons, List.map_nil, UInt8.toNat_ofNat', e1, e2]
theorem refAdd_any (A : Option Addr) (l c : Nat) (xs : List UInt8) (w : World) (h : Rd w A l (bv xs)) (hl : l ≤ 100000) :
    Calls Try.prog 19 #[.slice A l c] w (RetSl (l + 2) (bv (xs ++ tailL (sumN xs))) w) := by
  have S := hide (refSum_any A l c xs w h (by omega))
  have hs := sumN_lt xs
  have Ht := hide (bv_tailR (sumN xs) hs)
  have Hxs : Hid (tailL (sumN xs) = tailL (sumN xs)) := rfl
  have Hh := hide h
  clear h
  obtain ⟨Y, hY⟩ : ∃ Y, sumN xs = Y := ⟨_, rfl⟩
  rw [hY] at hs S Ht ⊢
  clear hY Hxs
  go_enter Try.func19, Try.ntmps19
  go_wp2_with (first
    | (go_at_call 27; refine S.out.mono ?_; rintro e w' ⟨rfl, rfl⟩)
    | (go_at_call 20
       have b0 : Below w.heap.size w (w.alloc (.cells #[Value.int .u8 ((Y : Int) % 256), Value.int .u8 ((Y : Int) / 256)] 5)) := (Below.refl _ _).alloc (Nat.le_refl _) _
       have r0 : Rd (w.alloc (.cells #[Value.int .u8 ((Y : Int) % 256), Value.int .u8 ((Y : Int) / 256)] 5)) (some ⟨w.heap.size, 0, none⟩) 2 (bv (tailL Y)) := by rw [Ht.out]; exact (Blk.new w 5 [_, _]).rd
       refine (both_any A _ l 2 c 2 xs (tailL Y) _ (Hh.out.keep b0) r0 (by omega) (by omega)).mono ?_
       rintro e w1 ⟨C, k, rfl, hk, r1, b1⟩))
  go_ret
  exact ⟨C, k, rfl, hk, r1, below_on b0 b1⟩

end Go.Proofs.Ytkbombdhdgdpnaa
