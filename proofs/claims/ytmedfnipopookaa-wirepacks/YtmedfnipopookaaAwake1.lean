/-
  What is proved here: the chapter's example of layer 1, asked by the law's own function 'awake', comes out true in every world.
-/
import Derived.Test.YtmedfnipopookaaWire4
namespace Go.Proofs.Ytmedfnipopookaa
set_option linter.unusedVariables false
set_option linter.unusedSimpArgs false
open Go.RowKit

set_option maxHeartbeats 1000000 in
set_option maxRecDepth 100000 in
theorem awake_any (w : World) : Calls Try.prog 12 #[] w fun e w' => e = .returned (.bool true) ∧ Below w.heap.size w w' := by
  have b0 : Below w.heap.size w (w.alloc (.cells #[Value.int .u8 7] 5)) := (Below.refl _ _).alloc (Nat.le_refl _) _
  go_enter Try.func12, Try.ntmps12
  go_wp2_with fail
  refine (putI _ 1 1 258 258 3 rfl rfl [7] _ (rd_one _ _ _) (by omega) (by omega)).mono ?_
  rintro e w1 ⟨rfl, k1, b1⟩
  rw [World.size_alloc] at k1 b1
  have r1 : Rd w1 (some ⟨w.heap.size + 1, 0, none⟩) 3 (bv [7, 1, 2]) := k1.reads (Below.refl _ _) 3 rfl
  go_wp2_with fail
  refine (atI _ 3 3 1 1 rfl [7, 1, 2] _ r1 (by omega) (by decide) 1 2 rfl rfl 258 rfl).mono ?_
  rintro e w' ⟨rfl, n1, rfl⟩
  go_wp2_with fail
  refine (putTextI none 0 0 2 4 rfl [] _ _ (Rd.nil _ _) (by omega) rfl (by omega)).mono ?_
  rintro e w2 ⟨rfl, k2, b2⟩
  have r2 : Rd w2 (some ⟨w1.heap.size, 0, none⟩) 4 (bv [0, 2, 97, 98]) := k2.reads (Below.refl _ _) 4 rfl
  have b2' : Below w1.heap.size w1 w2 := below_unN b2
  go_wp2_with fail
  refine (textAtI _ 4 4 0 0 2 rfl [0, 2, 97, 98] _ r2 (by omega) (by omega) (by omega) 0 2 rfl rfl rfl (str [97, 98]) rfl 4 rfl).mono ?_
  rintro e w' ⟨rfl, n2, rfl⟩
  go_wp2_with fail
  have b3 : Below w2.heap.size w2 ((w2.drewN n2).alloc (.cells #[Value.int .i64 1, Value.int .i64 0, Value.int .i64 1] 3)) := (below_drewN (Below.refl _ _) n2).alloc (Nat.le_refl _) _
  refine (pack_ok _ 3 3 1 [1, 0, 1] _ (Blk.new (w2.drewN n2) 3 [.int .i64 1, .int .i64 0, .int .i64 1]).rd (by omega) rfl (by omega) (by omega)).mono ?_
  rintro e w3 ⟨rfl, k3, b4⟩
  rw [World.size_alloc] at k3 b4
  have r3 : Rd w3 (some ⟨w2.heap.size + 1, 0, none⟩) 1 (bv [5]) := k3.reads (Below.refl _ _) 1 rfl
  have b5 : Below w2.heap.size w2 w3 := b3.trans (b4.mono (Nat.le_succ _))
  have r1' := (r1.keep b2').keep b5
  have r2' := r2.keep b5
  have hc1 := r1'.toStr (P := Try.prog) 22 5 9 Try.underlying22 Try.underlying5 Try.underlying9 3
  have hc2 := r2'.toStr (P := Try.prog) 22 5 9 Try.underlying22 Try.underlying5 Try.underlying9 4
  have hc3 := r3.toStr (P := Try.prog) 22 5 9 Try.underlying22 Try.underlying5 Try.underlying9 1
  have B : Below w.heap.size w w3 := ((b0.trans (b1.mono (Nat.le_succ _))).trans (b2'.mono (Nat.le_trans b0.size (by have := b1.size; simp at this ⊢; omega)))).trans (b5.mono (by have := b1.size; have := b2'.size; simp at *; omega))
  have HBel := hide B
  clear r1 r2 r3 r1' r2' b0 b1 b2 b2' b3 b4 b5 B k1 k2 k3
  go_wp2_with fail
  go_ret
  exact ⟨rfl, HBel.out⟩

end Go.Proofs.Ytmedfnipopookaa
