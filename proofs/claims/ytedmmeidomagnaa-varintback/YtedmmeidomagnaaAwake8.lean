/-
  What is proved here: the chapter's examples of layer 8, asked by the law's own function 'awake', come out true in every world. No condition.
-/
import Derived.Test.YtedmmeidomagnaaVt3
namespace Go.Proofs.Ytedmmeidomagnaa
set_option linter.unusedVariables false
set_option linter.unusedSimpArgs false
open Go.RowKit

theorem dg128 : dg 128 = [128, 1] := by rw [dg_great (by omega), dg_small (by omega)]; rfl
theorem atR_a : atR [128, 1] 0 = (128, 2, 0) := by decide
theorem atR_b : atR [128] 0 = (0, 0, 7) := by decide

set_option maxHeartbeats 1000000 in
set_option maxRecDepth 100000 in
theorem awake_any (w : World) : Calls Try.prog 11 #[] w fun e w' => e = .returned (.bool true) ∧ Below w.heap.size w w' := by
  have h16 : dgL 16384 = 3 := by decide
  have h128 : dgL 128 = 2 := by decide
  go_enter Try.func11, Try.ntmps11
  go_wp2_with fail
  refine (vput_ok 128 (by omega) w).mono ?_
  rw [h128, dg128]
  rintro e w1 ⟨C, c, rfl, hc, r1, b1⟩
  have Hr1 := hide r1
  have Hb1 := hide b1
  clear r1 b1
  go_wp2_with fail
  refine (vat_any _ 2 2 0 [128, 1] _ (Blk.new w1 5 [.int .u8 128, .int .u8 1]).rd (by omega) (by decide) rfl).mono ?_
  rw [atR_a]
  rintro e w2 ⟨rfl, b2⟩
  rw [World.size_alloc] at b2
  have Hb2 := hide (((Below.refl w1.heap.size w1).alloc (Nat.le_refl _) (.cells #[Value.int .u8 128, Value.int .u8 1] 5)).trans (b2.mono (Nat.le_succ _)))
  clear b2
  go_wp2_with fail
  refine (vat_any _ 1 1 0 [128] _ (Blk.new w2 5 [.int .u8 128]).rd (by omega) (by decide) rfl).mono ?_
  rw [atR_b]
  rintro e w3 ⟨rfl, b3⟩
  rw [World.size_alloc] at b3
  have Hb3 := hide (((Below.refl w2.heap.size w2).alloc (Nat.le_refl _) (.cells #[Value.int .u8 128] 5)).trans (b3.mono (Nat.le_succ _)))
  clear b3
  go_wp2_with fail
  refine (vsize_ok 16384 (by omega) w3).mono ?_
  rw [h16]
  rintro e w4 ⟨rfl, b4⟩
  have B := hide (below_on (below_on (below_on Hb1.out Hb2.out) Hb3.out) b4)
  have hc1 := strOn Hr1.out w4 (below_on (below_on Hb2.out Hb3.out) b4)
  clear b4
  go_wp2_with fail
  go_ret
  exact ⟨rfl, B.out⟩

end Go.Proofs.Ytedmmeidomagnaa
