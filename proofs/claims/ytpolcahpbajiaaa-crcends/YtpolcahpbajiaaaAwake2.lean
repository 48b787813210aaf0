/-
  What is proved here: the chapter's example of layer 2, asked by the law's own function 'awake', comes out true in every world.
-/
import Derived.Test.YtpolcahpbajiaaaCrc2
namespace Go.Proofs.Ytpolcahpbajiaaa
set_option linter.unusedVariables false
set_option linter.unusedSimpArgs false
open Go.RowKit

set_option maxHeartbeats 1000000 in
set_option maxRecDepth 100000 in
theorem awake2_any (w : World) : Calls Try.prog 17 #[] w fun e w' => e = .returned (.bool true) ∧ Below w.heap.size w w' := by
  have e1 : [1, 4, 2, 255, 255] ++ tailL (sumN [1, 4, 2, 255, 255]) = [1, 4, 2, 255, 255, 184, 128] := by decide
  have e2 : goodB [255, 255] = true := by decide
  have e3 : goodB [184, 128] = false := by decide
  have e4 : goodB [1, 4, 2, 255, 255, 184, 128] = true := by decide
  go_enter Try.func17, Try.ntmps17
  go_wp2_with fail
  have b0 : Below w.heap.size w (w.alloc (.cells #[Value.int .u8 1, .int .u8 4, .int .u8 2, .int .u8 255, .int .u8 255] 5)) := (Below.refl _ _).alloc (Nat.le_refl _) _
  refine (add_any _ 5 5 7 rfl [1, 4, 2, 255, 255] _ (Blk.new w 5 [.int .u8 1, .int .u8 4, .int .u8 2, .int .u8 255, .int .u8 255]).rd (by omega)).mono ?_
  rintro e w1 ⟨rfl, k1, b1⟩
  rw [e1] at k1
  rw [World.size_alloc] at k1 b1
  have r1 : Rd w1 (some ⟨w.heap.size + 1, 0, none⟩) 7 (bv [1, 4, 2, 255, 255, 184, 128]) := k1.reads (Below.refl _ _) 7 rfl
  have s1 : Below w.heap.size w w1 := b0.trans (b1.mono (Nat.le_succ _))
  clear k1 b1 b0
  go_wp2_with fail
  have b2 : Below w1.heap.size w1 (w1.alloc (.cells #[Value.int .u8 255, .int .u8 255] 5)) := (Below.refl _ _).alloc (Nat.le_refl _) _
  refine (whole_ok _ 0 2 [255, 255] _ (Blk.new w1 5 [.int .u8 255, .int .u8 255]).rd (by omega) (by omega) e2).mono ?_
  rintro e w2 ⟨rfl, k2, b3⟩
  rw [World.size_alloc] at k2 b3
  have s2 : Below w1.heap.size w1 w2 := b2.trans (b3.mono (Nat.le_succ _))
  clear b2 b3 k2
  have r1' := r1.keep s2
  have hc1 := rdStr r1'
  have H1 := hide r1'
  have HB := hide (below_on s1 s2)
  clear r1 r1' s1 s2
  go_wp2_with fail
  refine (sum_any none 0 0 [] _ (Rd.nil _ _) (by omega)).mono ?_
  rintro e w' ⟨rfl, rfl⟩
  go_wp2_with fail
  have b4 : Below w2.heap.size w2 (w2.alloc (.cells #[Value.int .u8 184, .int .u8 128] 5)) := (Below.refl _ _).alloc (Nat.le_refl _) _
  have G1 := good_any _ 2 2 [184, 128] _ (Blk.new w2 5 [.int .u8 184, .int .u8 128]).rd (by omega) (by omega)
  rw [e3] at G1
  refine G1.mono ?_
  rintro e w' ⟨rfl, rfl⟩
  go_wp2_with fail
  have G2 := good_any _ 7 7 [1, 4, 2, 255, 255, 184, 128] _ (H1.out.keep b4) (by omega) (by omega)
  rw [e4] at G2
  refine G2.mono ?_
  rintro e w' ⟨rfl, rfl⟩
  have B := hide (below_on HB.out b4)
  clear b4 G1 G2
  go_wp2_with fail
  go_ret
  exact ⟨rfl, B.out⟩

end Go.Proofs.Ytpolcahpbajiaaa
