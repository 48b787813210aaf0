/-
  What is proved here: the law SlaveNil returns true for every input. No condition of its own.
-/
import Derived.Test.YtohiblldhdglgaaAwake4
namespace Go.Proofs.Ytohiblldhdglgaa
set_option linter.unusedVariables false
set_option linter.unusedSimpArgs false
open Go.RowKit

theorem nil4_walk (f a c t an o : Int) (A : Option Addr) (n k : Nat) (kind addr : Int) (w : World) :
    Calls Try.prog 5 #[.agg #[.int .i64 f, .int .i64 a, .int .i64 c, .slice A n k, .int .i64 t, .int .i64 an, .int .i64 o], .int .i64 kind, .int .i64 addr] w fun e w' => e = .returned (.bool true) ∧ Below w.heap.size w w' := by
  have HS := hide (fun W => ansSame_yes 0 none none 0 0 0 0 [] W (Rd.nil _ _) (Rd.nil _ _) (by omega))
  go_enter Try.func5, Try.ntmps5
  go_wp2_with fail
  generalize hV : w.alloc _ = V
  have bV : Below w.heap.size w V := by subst hV; exact (Below.refl _ _).alloc (Nat.le_refl _) _
  clear hV
  refine (sDo_nil f a c t an o A n k V).mono ?_
  rintro e w1 ⟨rfl, b1⟩
  have L1 := hide (below_on bV b1)
  clear bV b1
  go_wp2_with fail
  generalize hV : w1.alloc _ = V1
  obtain ⟨zV, bV⟩ := box2 w1 _ _ _ V1 hV.symm
  have L2 := hide (below_on L1.out bV)
  have Z1 := hide zV
  clear hV zV bV
  refine (sGet_nil kind addr _).mono ?_
  rintro e w2 ⟨rfl, rfl⟩
  go_wp2_with fail
  refine (awake4_any _).mono ?_
  rintro e w3 ⟨rfl, b3⟩
  have L3 := hide (below_on L2.out b3)
  have Z3 := hide (Z1.out.keep b3)
  clear b3
  obtain ⟨a0, a1⟩ := Z3.out.two
  go_wp2_with fail
  refine (HS.out _).mono ?_
  rintro e w4 ⟨rfl, b4⟩
  have L4 := hide (below_on L3.out b4)
  clear b4 a0 a1
  go_wp2_with fail
  refine (sSet_nil _ _ _ _).mono ?_
  rintro e w5 ⟨rfl, rfl⟩
  go_wp2
  go_ret
  exact ⟨rfl, L4.out⟩

end Go.Proofs.Ytohiblldhdglgaa
