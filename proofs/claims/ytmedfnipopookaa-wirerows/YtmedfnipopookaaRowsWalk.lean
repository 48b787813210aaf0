/-
  What is proved here: the law WireRows returns true for every list of ints, and writes nothing that was there. No condition.
-/
import Derived.Test.YtmedfnipopookaaAwake1
import Derived.Test.YtmedfnipopookaaRef1
namespace Go.Proofs.Ytmedfnipopookaa
set_option linter.unusedVariables false
set_option linter.unusedSimpArgs false
open Go.RowKit

/-- The first k numbers as words, one behind the other. -/
def rowB (zs : List Int) : Nat → List UInt8
  | 0 => []
  | k + 1 => rowB zs k ++ word (zs[k]?.getD 0).toNat
theorem rowB_length (zs : List Int) : ∀ k, (rowB zs k).length = 2 * k
  | 0 => rfl
  | k + 1 => by rw [rowB, List.length_append, rowB_length zs k]; simp [word]; omega
theorem rowB_get (zs : List Int) (i : Nat) : ∀ k, i < k → (rowB zs k)[2 * i]? = some (UInt8.ofNat ((zs[i]?.getD 0).toNat / 256)) ∧ (rowB zs k)[2 * i + 1]? = some (UInt8.ofNat ((zs[i]?.getD 0).toNat % 256))
  | 0, h => by omega
  | k + 1, h => by
    rcases Nat.lt_or_eq_of_le (Nat.le_of_lt_succ h) with hl | rfl
    · have ih := rowB_get zs i k hl
      have hlen := rowB_length zs k
      rw [rowB, List.getElem?_append_left (by omega), List.getElem?_append_left (by omega)]
      exact ih
    · have hlen := rowB_length zs i
      rw [rowB, List.getElem?_append_right (by omega), List.getElem?_append_right (by omega), hlen, Nat.sub_self, show 2 * i + 1 - 2 * i = 1 from by omega]
      exact ⟨rfl, rfl⟩
theorem word_val2 (n : Nat) (h : n ≤ 65535) : 256 * (UInt8.ofNat (n / 256)).toNat + (UInt8.ofNat (n % 256)).toNat = n := by
  simp only [UInt8.toNat_ofNat']
  omega

set_option maxHeartbeats 4000000 in
set_option maxRecDepth 100000 in
theorem rows_walk (A : Option Addr) (n c : Nat) (zs : List Int) (w : World) (h : Rd w A n (iv zs)) (hz : zs.length = n) (hm : n ≤ maxLen) :
    Calls Try.prog 8 #[.slice A n c] w fun e w' => e = .returned (.bool true) ∧ Below w.heap.size w w' := by
  unfold maxLen at hm
  by_cases h5 : 500 < n
  · have q5 : (500 : Int) < (n : Int) := by omega
    clear h hz
    go_enter Try.func8, Try.ntmps8
    go_wp2_with fail
    go_ret
    exact ⟨rfl, Below.refl _ _⟩
  have q5 : ¬ (500 : Int) < (n : Int) := by omega
  have Hz := hide hz
  clear hz
  go_enter Try.func8, Try.ntmps8
  go_wp2_with fail
  go_loopw [3, 4] (fun v i wr => ∃ (k : Nat) (C : Option Addr) (d : Nat), k ≤ n ∧ i = .int .i64 (k : Int) ∧ v = .slice C (2 * k) d ∧ Rd wr C (2 * k) (bv (rowB zs k)) ∧ (∀ j, j < k → 0 ≤ zs[j]?.getD 0 ∧ zs[j]?.getD 0 ≤ 65535) ∧ Below w.heap.size w wr) (fun _ i _ => n - (intOf i).toNat)
  case atStart => exact ⟨0, none, 0, Nat.zero_le _, rfl, rfl, Rd.nil _ _, by omega, Below.refl _ _⟩
  case round =>
    obtain ⟨k, C, d, hk, rfl, rfl, hr, hall, hbel⟩ := hrel
    have Hall := hide hall
    have Hbel := hide hbel
    have Hr := hide hr
    clear hall hbel hr
    by_cases hlt : k < n
    · obtain ⟨b, o, rfl, hbl, hc⟩ := h.at_ hlt
      have hlt' : k < zs.length := by rw [Hz.out]; exact hlt
      have cA : wr.cell? ⟨b, o + k, none⟩ = some (.int .i64 zs[k]) := (Hbel.out.cell (p := ⟨b, o + k, none⟩) hbl).trans (hc k _ (iv_get zs k hlt'))
      have q : (k : Int) < (n : Int) := by omega
      have Hg := hide (show zs[k]?.getD 0 = zs[k] by simp [hlt'])
      generalize zs[k] = z at *
      clear hc h
      by_cases hn : z < 0 ∨ 65535 < z
      · go_wp2_with (first
          | (go_at_call 10; refine (put_no _ _ _ z wr hn).mono ?_; rintro e w' ⟨rfl, rfl⟩)
          | (go_at_call 11; refine (is_no z hn _).mono ?_; rintro e w' ⟨rfl, rfl⟩)
          | (go_at_call 12; refine (awake_any _).mono ?_; rintro e w2 ⟨rfl, b2⟩))
        go_ret
        exact ⟨rfl, below_on Hbel.out b2⟩
      · obtain ⟨m, rfl⟩ : ∃ m : Nat, z = (m : Int) := ⟨z.toNat, by omega⟩
        have hm' : m ≤ 65535 := by omega
        have qb : (2 * (k : Int) + 2 != 2 * (k : Int) + 2) = false := by simp
        clear hn
        go_wp2_with (first
          | (go_at_call 10; refine (putI C (2 * k) d (m : Int) m (2 * k + 2) rfl rfl (rowB zs k) wr Hr.out (by omega) hm').mono ?_; rintro e w2 ⟨rfl, k2, b2⟩; have cB : w2.cell? ⟨b, o + k, none⟩ = some (.int .i64 (m : Int)) := ((below_on Hbel.out b2).cell (p := ⟨b, o + k, none⟩) hbl).trans (((Hbel.out).cell (p := ⟨b, o + k, none⟩) hbl).symm.trans cA))
          | (go_at_call 11; refine (is_yes m hm' _).mono ?_; rintro e w' ⟨rfl, rfl⟩))
        refine ⟨⟨k + 1, _, _, by omega, by go_num, by rw [show 2 * k + 2 = 2 * (k + 1) from by omega], ?_, ?_, below_on Hbel.out b2⟩, by simp [intOf]; omega⟩
        · have := k2.reads (Below.refl _ _) (2 * (k + 1)) (by rw [bv_length, List.length_append, rowB_length]; simp [word]; omega)
          rw [rowB, Hg.out]
          exact this
        · intro j hj
          rcases Nat.lt_or_eq_of_le (Nat.le_of_lt_succ hj) with hl | rfl
          · exact Hall.out j hl
          · rw [Hg.out]; omega
    · obtain rfl : k = n := by omega
      obtain ⟨wo, rfl⟩ : ∃ wo : World, wo = wr := ⟨_, rfl⟩
      have hA2 := h.keep Hbel.out
      have q : ¬ (k : Int) < (k : Int) := by omega
      clear h hlt
      go_wp2_with fail
      go_loopw [7] (fun i wr => ∃ (j q : Nat), j ≤ k ∧ i = .int .i64 (j : Int) ∧ wr = wo.drewN q) (fun i _ => k - (intOf i).toNat)
      case atStart => exact ⟨0, 0, Nat.zero_le _, rfl, rfl⟩
      case round =>
        obtain ⟨j, r, hj, rfl, rfl⟩ := hrel
        by_cases hlt : j < k
        · obtain ⟨b, o, rfl, hbl, hc⟩ := hA2.at_ hlt
          have hlt' : j < zs.length := by rw [Hz.out]; exact hlt
          have cA : wo.cell? ⟨b, o + j, none⟩ = some (.int .i64 zs[j]) := hc j _ (iv_get zs j hlt')
          obtain ⟨g1, g2⟩ := rowB_get zs j k hlt
          have ga := Hall.out j hlt
          have Hg : zs[j]?.getD 0 = zs[j] := by simp [hlt']
          rw [Hg] at ga g1 g2
          generalize zs[j] = z at *
          obtain ⟨m, rfl⟩ : ∃ m : Nat, z = (m : Int) := ⟨z.toNat, by omega⟩
          rw [Int.toNat_natCast] at g1 g2
          have hm' : m ≤ 65535 := by omega
          have T := fun W hW => hide (atI C (2 * k) d (2 * (j : Int)) (2 * j) (by omega) (rowB zs k) W hW (by omega) (by unfold maxLen; omega) _ _ g1 g2 (m : Int) (by have := word_val2 m hm'; omega))
          have q2 : (j : Int) < (k : Int) := by omega
          clear hc hA2 g1 g2 ga Hg
          go_wp2_with (go_at_call 15; refine (T _ (Hr.out.drewN r)).out.mono ?_; rintro e w' ⟨rfl, n1, rfl⟩)
          exact ⟨⟨j + 1, r + n1, by omega, by go_num, by first | rfl | rw [World.drewN_drewN]⟩, by simp [intOf]; omega⟩
        · obtain rfl : j = k := by omega
          have T := fun W => hide (at_more C (2 * j) d (2 * (j : Int)) W (by omega) (by omega) (by unfold maxLen; omega))
          have q2 : ¬ (j : Int) < (j : Int) := by omega
          go_wp2_with (first
            | (go_at_call 15; refine (T _).out.mono ?_; rintro e w' ⟨rfl, rfl⟩)
            | (go_at_call 12; refine (awake_any _).mono ?_; rintro e w2 ⟨rfl, b2⟩))
          go_ret
          exact ⟨rfl, below_on Hbel.out (below_unN b2)⟩

end Go.Proofs.Ytmedfnipopookaa
