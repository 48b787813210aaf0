/-
  What is proved here: the law's own 'all': a slave and the document's slave that have the same rows are found alike. Conditions: both lie in memory; rows of at most 65536 words.
-/
import Derived.Test.YtohiblldhdglgaaRef4a
namespace Go.Proofs.Ytohiblldhdglgaa
set_option linter.unusedVariables false
set_option linter.unusedSimpArgs false
open Go.RowKit

theorem SlA.cellk {tS : TypeId} {lo hi : Nat} {w : World} {g : Nat} {b : Nat → Nat} {R : Nat → List Int} (h : SlA tS lo hi w g b R) (k : Nat) (hk : k < 4) : w.cell? ⟨g, k, none⟩ = some (.slice (some ⟨b k, 0, none⟩) (R k).length (R k).length) := by
  have hc := h.cells
  match k, hk with
  | 0, _ => exact hc.1
  | 1, _ => exact hc.2.1
  | 2, _ => exact hc.2.2.1
  | 3, _ => exact hc.2.2.2
theorem getE_row (R : Nat → List Int) (k i : Nat) (hk : k < 4) (hi : i < (R k).length) : getE R ((k : Int) + 1) (i : Int) = 0 := by
  unfold getE
  rw [if_pos]
  simp [hasB, rowL_kind R k hk]
  omega
theorem getV_row (R : Nat → List Int) (k i : Nat) (hk : k < 4) (hi : i < (R k).length) : getV R ((k : Int) + 1) (i : Int) = (R k)[i] := by
  unfold getV
  rw [if_pos]
  · rw [rowL_kind R k hk]
    simp [hi]
  · simp [hasB, rowL_kind R k hk]
    omega

set_option maxHeartbeats 1000000 in
theorem all4_any (lo hi g : Nat) (b : Nat → Nat) (lo2 hi2 g2 : Nat) (b2 : Nat → Nat) (R : Nat → List Int) (w : World) (h : SlA 58 lo hi w g b R) (h2 : SlA 50 lo2 hi2 w g2 b2 R) (hw : wellR R) :
    Calls Try.prog 19 #[.pointer (some ⟨g, 0, none⟩), .pointer (some ⟨g2, 0, none⟩)] w fun e w' => e = .returned (.bool true) ∧ Below w.heap.size w w' := by
  have H := hide h
  have H2 := hide h2
  clear h h2
  go_enter Try.func19, Try.ntmps19
  go_wp2
  go_loopw [5] (fun x wr => ∃ k : Nat, k ≤ 4 ∧ x = .int .i64 ((k : Int) + 1) ∧ Below w.heap.size w wr) (fun x _ => 5 - (intOf x).toNat)
  case atStart => exact ⟨0, by omega, rfl, Below.refl _ _⟩
  case round =>
    obtain ⟨k, hk, rfl, hb⟩ := hrel
    have HB := hide hb
    clear hb
    by_cases hlt : k < 4
    · have hL := (hw k hlt).1
      have q : decide ((k : Int) + 1 ≤ 4) = true := by simp; omega
      have k0 : 0 ≤ (k : Int) := by omega
      have k4 : (k : Int) < 4 := by omega
      go_wp2_with fail
      go_loopw [6] (fun x wr' => ∃ i : Nat, i ≤ (R k).length ∧ x = .int .i64 (i : Int) ∧ Below w.heap.size w wr') (fun x _ => (R k).length - (intOf x).toNat)
      case atStart => exact ⟨0, by omega, rfl, HB.out⟩
      case round =>
        obtain ⟨i, hil, rfl, hb'⟩ := hrel
        have HB' := hide hb'
        have HG := hide (fun W h => sGet_any lo hi g b R ((k : Int) + 1) (i : Int) W h hw)
        clear hb'
        have c0 := (H2.out.keep HB'.out).cellk k hlt
        by_cases hli : i < (R k).length
        · rw [getE_row R k i hlt hli, getV_row R k i hlt hli] at HG
          have ql : (i : Int) < ((R k).length : Int) := by omega
          go_wp2_with fail
          refine (HG.out _ (H.out.keep HB'.out)).mono ?_
          rintro e w1 ⟨rfl, b1⟩
          have B1 := hide (below_on HB'.out b1)
          clear c0 b1
          have c0 := (H2.out.keep B1.out).cellk k hlt
          have c1 : w1.cell? ⟨b2 k, i, none⟩ = some (.int .i64 ((R k)[i])) := by rw [((H2.out.keep B1.out).row k hlt).cell]; exact iv_get _ _ _
          have qx : ((R k)[i] != (R k)[i]) = false := by simp
          go_wp2_with fail
          go_roundw
          case rel => exact ⟨i + 1, by omega, by go_num, B1.out⟩
          case measure => simp [intOf]; omega
        · have ql : ¬ (i : Int) < ((R k).length : Int) := by omega
          go_wp2_with fail
          go_roundw
          case rel => exact ⟨k + 1, by omega, by go_num, HB'.out⟩
          case measure => simp [intOf]; omega
    · obtain rfl : k = 4 := by omega
      go_wp2
      go_ret
      exact ⟨rfl, HB.out⟩

end Go.Proofs.Ytohiblldhdglgaa
