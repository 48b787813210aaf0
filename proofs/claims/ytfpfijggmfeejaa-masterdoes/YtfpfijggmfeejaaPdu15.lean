/-
  What is proved here: what pdu's AnswerBytes and guessAnswer return.
-/
import Derived.Test.YtfpfijggmfeejaaPdu14
namespace Go.Proofs.Ytfpfijggmfeejaa
set_option linter.unusedVariables false
set_option linter.unusedSimpArgs false
open Go.RowKit


/-- An answer is handed back. -/
def RetAn (x : An) (w : World) (e : Ending) (w' : World) : Prop := ∃ C m k, e = .returned (.agg #[.slice C m k, .int .i64 x.code]) ∧ m ≤ k ∧ Rd w' C m (iv x.us) ∧ Below w.heap.size w w' ∧ ∀ b o, C = some ⟨b, o, none⟩ → w.heap.size ≤ b


theorem guessAns_code (f a c t an o : Int) (A : Option Addr) (b o' n k d : Nat) (p : Nat) (w : World) (hf : 1 ≤ f) (hf' : f ≤ 23) (hbl : b < w.heap.size) (x0 : w.cell? ⟨b, o', none⟩ = some (.int .u8 (f + 128))) (x1 : w.cell? ⟨b, o' + 1, none⟩ = some (.int .u8 (p : Int))) (hp : p < 256) :
    Calls Try.prog 51 #[.agg #[.int .i64 f, .int .i64 a, .int .i64 c, .slice A n k, .int .i64 t, .int .i64 an, .int .i64 o], .slice (some ⟨b, o', none⟩) 2 d] w (RetAn ⟨[], (p : Int)⟩ w) := by
  have X0 := hide x0
  have X1 := hide x1
  clear x0 x1
  have q : (f + 128 == f + 128) = true := by simp
  go_enter Try.func51, Try.ntmps51
  go_wp2_with fail
  generalize hW : (w.alloc (.cells #[.int .i64 f, .int .i64 a, .int .i64 c, .slice A n k, .int .i64 t, .int .i64 an, .int .i64 o] 37)).alloc (.cells #[.slice none 0 0, .int .i64 0] 61) = W
  obtain ⟨hB1, hB2, hBel, hsz⟩ := two_boxes w [.int .i64 f, .int .i64 a, .int .i64 c, .slice A n k, .int .i64 t, .int .i64 an, .int .i64 o] [.slice none 0 0, .int .i64 0] 37 61 W hW.symm
  clear hW
  have hwW : w.heap.size < W.heap.size := by omega
  have hwW1 : w.heap.size + 1 < W.heap.size := by omega
  have x0 := (hBel.cell (p := ⟨b, o', none⟩) hbl).trans X0.out
  obtain ⟨k0, k1, k2, k3, k4, k5, k6⟩ := hB1.seven
  obtain ⟨j0, j1⟩ := hB2.two
  have jf := hB2.frozen
  have B1 := hide hB1
  have B2 := hide hB2
  have BL := hide hBel
  clear hB1 hB2 hBel hsz
  have x1 := (BL.out.cell (p := ⟨b, o' + 1, none⟩) hbl).trans X1.out
  go_quiet (fail)
  go_wp2_with fail
  (try simp only [Exit.inBlock, Exit.then])
  have kZ : Blk (W.drewN nq) (w.heap.size + 1) 61 _ := B2.out
  refine bodyPost_ret (results_cell rfl rfl (kZ.set2 _ _) Try.underlying61 rfl (by kernel_rfl)) rfl ?_
  exact ⟨none, 0, 0, rfl, Nat.le_refl _, Rd.nil _ _, below_set2 (below_drewN BL.out nq) (Nat.le_succ _) _ _, fun b o e => by cases e⟩

end Go.Proofs.Ytfpfijggmfeejaa
