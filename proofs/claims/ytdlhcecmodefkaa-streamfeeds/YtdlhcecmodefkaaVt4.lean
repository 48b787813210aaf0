/-
  What is proved here: the document's own At of layer 8 tells what atR says. Conditions: a slice of at most 2^63 - 1 bytes; a place that is an int not below 0.
-/
import Derived.Test.YtdlhcecmodefkaaVt3
namespace Go.Proofs.Ytdlhcecmodefkaa
set_option linter.unusedVariables false
set_option linter.unusedSimpArgs false
open Go.RowKit

set_option maxRecDepth 100000 in
set_option maxHeartbeats 400000 in
theorem rvAt_any (A : Option Addr) (l c i : Nat) (xs : List UInt8) (w : World) (hA : Rd w A l (bv xs)) (hlm : l ≤ maxLen) (hxs : xs.length = l) (hi63 : (i : Int) ≤ 9223372036854775807) :
    Calls Try.prog 41 #[.slice A l c, .int .i64 (i : Int)] w fun e w' => e = .returned (.tuple #[.int .i64 (atR xs i).1, .int .i64 (atR xs i).2.1, .int .i64 (atR xs i).2.2]) ∧ ∃ q, w' = w.drewN q := by
  unfold maxLen at hlm
  have hR : ∀ k, k < 4 → i + k < l → ((xs.drop i).take 4)[k]? = xs[i + k]? := fun k hk _ => by rw [List.getElem?_take_of_lt hk, List.getElem?_drop]
  have HRl := hide (show ((xs.drop i).take 4).length = min 4 (l - i) by simp [hxs])
  have HR := hide hR
  have HAll := hide (atR_all xs i)
  have HSt := hide (atR_stop xs i)
  clear hR
  go_enter Try.func41, Try.ntmps41
  go_wp2_with fail
  go_loopw [1, 7, 8, 9] (fun vi vn vw vk wr => ∃ (k n : Nat) (pre : List UInt8), vi = .int .i64 ((i : Int) + (k : Int)) ∧ vn = .int .i64 (n : Int) ∧ vw = .int .i64 ((128 ^ k : Nat) : Int) ∧ vk = .int .i64 (k : Int) ∧ k ≤ 4 ∧ (k = 0 ∨ i + k ≤ l) ∧ pre = ((xs.drop i).take 4).take k ∧ acc pre = n ∧ (∀ d ∈ pre, 128 ≤ d.toNat) ∧ ∃ q, wr = w.drewN q) (fun _ _ _ vk _ => 4 - (intOf vk).toNat)
  case atStart => exact ⟨0, 0, [], by simp, rfl, rfl, rfl, by omega, .inl rfl, rfl, rfl, by simp, 0, rfl⟩
  case round =>
    obtain ⟨k, n, pre, rfl, rfl, rfl, rfl, hk4, hkl, hpre, hn, hall, q, rfl⟩ := hrel
    have Hpre := hide hpre
    have Hn := hide hn
    have Hall := hide hall
    have Hkl := hide hkl
    obtain ⟨W, hW⟩ : ∃ W, 128 ^ k = W := ⟨_, rfl⟩
    rw [hW]
    have HW := hide hW
    clear hpre hn hall hkl
    by_cases hk : k < 4
    · have q1 : (k : Int) < 4 := by omega
      have hWle : W ≤ 2097152 := by
        rw [← hW]
        obtain rfl | rfl | rfl | rfl : k = 0 ∨ k = 1 ∨ k = 2 ∨ k = 3 := by omega
        all_goals simp
      have hnW : n < W := by
        have := acc_lt pre
        rw [Hn.out] at this
        have h2 : pre.length ≤ k := by rw [Hpre.out, List.length_take]; omega
        exact Nat.lt_of_lt_of_le this (by rw [← hW]; exact Nat.pow_le_pow_right (by omega) h2)
      clear hW
      by_cases hlt : i + k < l
      · have q2 : ¬ (l : Int) ≤ (i : Int) + (k : Int) := by omega
        obtain ⟨b, o, rfl, hbl, hc⟩ := hA.at_ hlt
        have hlt' : i + k < xs.length := by omega
        have cA : w.cell? ⟨b, o + (i + k), none⟩ = some (.int .u8 xs[i + k].toNat) := hc (i + k) _ (bv_get xs (i + k) hlt')
        have HRk := hide (show ((xs.drop i).take 4)[k]? = some xs[i + k] by rw [HR.out k hk hlt]; exact List.getElem?_eq_getElem hlt')
        generalize xs[i + k] = x at *
        have hx8 := x.toNat_lt
        obtain ⟨X, hX⟩ : ∃ X, x.toNat = X := ⟨_, rfl⟩
        rw [hX] at hx8 cA
        have HX := hide hX
        obtain ⟨M, hM⟩ : ∃ M, W * (X % 128) = M := ⟨_, rfl⟩
        have hMle : M ≤ 268435456 := by
          have h1 : W * (X % 128) ≤ W * 127 := Nat.mul_le_mul_left _ (by omega)
          omega
        have hw0 : (W : Int) * ((X : Int) % 128) = (M : Int) := by rw [← hM]; simp
        have HM := hide hM
        clear hX hc hM hlt'
        have HStop : Hid (X < 128 → atR xs i = ((if X = 0 ∧ 0 < k then (0, 0, 4) else (n + M, i + (k + 1), 0)) : Nat × Nat × Nat)) := by
          refine hide fun h128 => ?_
          have hR4 := HRk.out
          have hkl : k < ((xs.drop i).take 4).length := (List.getElem?_eq_some_iff.1 hR4).1
          have hpl : pre.length = k := by rw [Hpre.out, List.length_take]; omega
          have hpx : pre ++ [x] <+: (xs.drop i).take 4 := by
            rw [Hpre.out, show x = ((xs.drop i).take 4)[k] from (by have := (List.getElem?_eq_some_iff.1 hR4).2; exact this.symm), List.take_append_getElem hkl]
            exact List.take_prefix _ _
          rw [HSt.out pre x hpx Hall.out (by rw [HX.out]; exact h128)]
          unfold atP
          rw [hpl, Hn.out]
          split
          · rename_i h0; rw [atV_zero (by rw [HX.out]; exact h0.1) h0.2]; rfl
          · rename_i h0; rw [atV_ok (by rw [HX.out]; exact h128) (by rw [HX.out]; omega), HX.out, HW.out, ← HM.out, Nat.mod_eq_of_lt h128]; rfl
        have HNext : Hid (128 ≤ X → ((128 : Int) * (W : Int) = ((128 ^ (k + 1) : Nat) : Int)) ∧ (xs.drop i |>.take 4).take (k + 1) = pre ++ [x] ∧ acc (pre ++ [x]) = n + M ∧ ∀ d ∈ pre ++ [x], 128 ≤ d.toNat) := by
          refine hide fun h128 => ?_
          have hR4 := HRk.out
          have hkl : k < ((xs.drop i).take 4).length := (List.getElem?_eq_some_iff.1 hR4).1
          have hpl : pre.length = k := by rw [Hpre.out, List.length_take]; omega
          refine ⟨?_, ?_, ?_, ?_⟩
          · rw [Nat.pow_succ, HW.out]; omega
          · rw [Hpre.out, show x = ((xs.drop i).take 4)[k] from (by have := (List.getElem?_eq_some_iff.1 hR4).2; exact this.symm), List.take_append_getElem hkl]
          · rw [acc_snoc, hpl, Hn.out, HX.out, HW.out, HM.out]
          · intro d hd
            rcases List.mem_append.1 hd with hd | hd
            · exact Hall.out d hd
            · rw [List.mem_singleton] at hd; rw [hd, HX.out]; exact h128
        by_cases h128 : X < 128
        · have q3 : (X : Int) < 128 := by omega
          by_cases h0 : X = 0 ∧ 0 < k
          · have q4 : ((X : Int) == 0) = true := by simp; omega
            have q5 : (0 : Int) < (k : Int) := by omega
            have Hh := hide h0
            clear h0
            have hS := HStop.out h128
            rw [if_pos Hh.out] at hS
            have HS := hide hS
            clear h128 hS
            go_wp2_with fail
            go_ret3
            rw [HS.out]
            exact ⟨rfl, q, rfl⟩
          · have Hh := hide h0
            have hS := HStop.out h128
            rw [if_neg h0] at hS
            have HS := hide hS
            clear h0 h128 hS
            by_cases q4 : (X : Int) = 0
            · have q5 : ¬ (0 : Int) < (k : Int) := by have := Hh.out; omega
              go_wp2_with fail
              go_ret3
              rw [HS.out, ← HM.out, show X = 0 by omega]
              exact ⟨by simp [Int.add_assoc], q, rfl⟩
            · have q4' : ((X : Int) == 0) = false := by simpa using q4
              clear q4
              go_wp2_with fail
              go_ret3
              rw [HS.out]
              exact ⟨by simp [Int.add_assoc], q, rfl⟩
        · have q3 : ¬ (X : Int) < 128 := by omega
          have H128 := hide h128
          clear h128
          go_wp2_with fail
          obtain ⟨g1, g2, g3, g4⟩ := HNext.out (by have := H128.out; omega)
          exact ⟨⟨k + 1, n + M, pre ++ [x], by simp [Int.add_assoc], by simp, by rw [g1], by simp, by omega, .inr (by omega), g2.symm, g3, g4, q, rfl⟩, by simp [intOf]; omega⟩
      · have q2 : (l : Int) ≤ (i : Int) + (k : Int) := by omega
        go_wp2_with fail
        go_ret3
        have hlen : ((xs.drop i).take 4).length = k := by
          rw [HRl.out]
          rcases Hkl.out with h | h
          · omega
          · omega
        have hpe : pre = (xs.drop i).take 4 := by rw [Hpre.out, List.take_of_length_le (by omega)]
        rw [HAll.out (by rw [← hpe]; exact Hall.out), if_pos (by omega)]
        exact ⟨rfl, q, rfl⟩
    · obtain rfl : k = 4 := by omega
      go_wp2_with fail
      go_ret3
      have hpe : pre = (xs.drop i).take 4 := by rw [Hpre.out, List.take_of_length_le (by rw [HRl.out]; omega)]
      rw [HAll.out (by rw [← hpe]; exact Hall.out), if_neg (by rw [HRl.out]; have := Hkl.out; omega)]
      exact ⟨rfl, q, rfl⟩

end Go.Proofs.Ytdlhcecmodefkaa
