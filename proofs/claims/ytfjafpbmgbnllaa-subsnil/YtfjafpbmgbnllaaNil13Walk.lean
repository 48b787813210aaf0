/-
  What is proved here: the law SubsNil returns true for every two texts and every number, and writes nothing that was there. No condition.
-/
import Derived.Test.YtfjafpbmgbnllaaSp11
namespace Go.Proofs.Ytfjafpbmgbnllaa
set_option linter.unusedVariables false
set_option linter.unusedSimpArgs false
open Go.RowKit

set_option maxHeartbeats 4000000 in
set_option maxRecDepth 100000 in
theorem nil13_walk (s0 s1 : ByteArray) (q : Int) (w : World) : Calls Try.prog 5 #[.string s0, .string s1, .int .i64 q] w fun e w' => e = .returned (.bool true) ∧ Below w.heap.size w w' := by
  obtain ⟨c, rfl⟩ : ∃ xs, s0 = str xs := ⟨_, (str_of s0).symm⟩
  obtain ⟨f, rfl⟩ : ∃ xs, s1 = str xs := ⟨_, (str_of s1).symm⟩
  go_enter Try.func5, Try.ntmps5
  go_wp2_with fail
  refine (nilAdd c f q w).mono ?_
  rintro e w1 ⟨rfl, b1⟩
  have B1 := hide b1
  clear b1
  go_wp2_with fail
  refine (nilDrop c f w1).mono ?_
  rintro e w2 ⟨rfl, rfl⟩
  go_wp2_with fail
  refine (nilGone c w2).mono ?_
  rintro e w3 ⟨rfl, rfl⟩
  go_wp2_with fail
  refine (nilFind f w3).mono ?_
  rintro e w4 ⟨rfl, rfl⟩
  go_wp2_with fail
  refine (nilOf c w4).mono ?_
  rintro e w5 ⟨rfl, b5⟩
  have B5 := hide (below_on B1.out b5)
  clear b5
  go_wp2_with fail
  refine (awake13_any w5).mono ?_
  rintro e w6 ⟨rfl, b6⟩
  have B6 := hide (below_on B5.out b6)
  clear b6
  go_wp2_with fail
  go_ret
  exact ⟨rfl, B6.out⟩
end Go.Proofs.Ytfjafpbmgbnllaa
