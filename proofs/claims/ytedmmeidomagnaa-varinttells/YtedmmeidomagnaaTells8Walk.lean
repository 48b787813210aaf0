/-
  What is proved here: the law VarintTells returns true for every slice of bytes and every int, and writes nothing that was there. No condition.
-/
import Derived.Test.YtedmmeidomagnaaAwake8
import Derived.Test.YtedmmeidomagnaaVt4
namespace Go.Proofs.Ytedmmeidomagnaa
set_option linter.unusedVariables false
set_option linter.unusedSimpArgs false
open Go.RowKit

set_option maxHeartbeats 2000000 in
set_option maxRecDepth 100000 in
theorem tells8_walk (A : Option Addr) (l c : Nat) (xs : List UInt8) (i : Int) (w : World) (h : Rd w A l (bv xs)) (hx : xs.length = l) (hc : l ≤ c) (hcm : c ≤ maxLen) (hi : (Lit.int .i64 i).wf = true) :
    Calls Try.prog 4 #[.slice A l c, .int .i64 i] w fun e w' => e = .returned (.bool true) ∧ Below w.heap.size w w' := by
  by_cases hs : (1000 : Int) < (l : Int)
  · clear h hx hi
    go_enter Try.func4, Try.ntmps4
    go_wp2
    go_ret
    exact ⟨rfl, Below.refl _ _⟩
  · have hlm : l ≤ maxLen := Nat.le_trans hc hcm
    have hi2 := i64_le hi
    clear hi
    by_cases h0 : i < 0
    · clear h hx
      go_enter Try.func4, Try.ntmps4
      go_wp2_with (first
        | (go_at_call 13; refine (vat_neg A l c i h0 _).mono ?_; rintro e w1 ⟨rfl, b1⟩)
        | (go_at_call 11; refine (awake_any _).mono ?_; rintro e w2 ⟨rfl, b2⟩))
      go_ret
      exact ⟨rfl, below_on b1 b2⟩
    · obtain ⟨k, rfl⟩ : ∃ k : Nat, i = (k : Int) := ⟨i.toNat, by omega⟩
      have HA := hide (vat_any A l c k xs w h hc hlm hx)
      have HR := fun W (hW : Rd W A l (bv xs)) => hide (rvAt_any A l c k xs W hW hlm hx hi2)
      have Hh := hide h
      clear h hx hi2 hcm hlm
      generalize atR xs k = r at *
      obtain ⟨r1, r2, r3⟩ := r
      go_enter Try.func4, Try.ntmps4
      go_wp2_with fail
      refine HA.out.mono ?_
      rintro e w1 ⟨rfl, b1⟩
      have Hb1 := hide b1
      clear b1
      go_wp2_with fail
      refine (HR w1 (Hh.out.keep Hb1.out)).out.mono ?_
      rintro e w' ⟨rfl, q, rfl⟩
      go_wp2_with fail
      refine (awake_any _).mono ?_
      rintro e w2 ⟨rfl, b2⟩
      have Hb2 := hide (below_unN b2)
      clear b2
      go_wp2_with fail
      go_ret
      exact ⟨rfl, below_on Hb1.out Hb2.out⟩

end Go.Proofs.Ytedmmeidomagnaa
