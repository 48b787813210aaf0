/-
  What is proved here: what the document's Name of layer 12 returns for a text of any length. No condition.
-/
import Derived.Test.YtfjafpbmgbnllaaTr1
namespace Go.Proofs.Ytfjafpbmgbnllaa
set_option linter.unusedVariables false
set_option linter.unusedSimpArgs false
open Go.RowKit

theorem ptsU_long (xs : List UInt8) (h : 65535 < xs.length) : ptsU xs = none := by
  unfold ptsU
  rw [if_neg (by omega)]
theorem nameL_long (xs : List UInt8) (h : 65535 < xs.length) : nameL xs = false := by
  unfold nameL textL
  rw [ptsU_long xs h]
  simp
theorem rIs_long (xs : List UInt8) (hs : 65535 < xs.length) (w : World) : Calls Try.prog 20 #[.string (str xs)] w fun e w' => e = .returned (.bool false) ∧ w' = w := by
  have hsz : (str xs).size = xs.length := size_str xs
  have H : ∀ W, Calls Try.prog 34 #[.string (str xs)] W fun e w' => e = .returned (.tuple #[.slice none 0 0, .bool false]) ∧ w' = W := by
    intro W
    generalize str xs = s at *
    have q : (65535 : Int) < (s.size : Int) := by omega
    go_enter Try.func34, Try.ntmps34
    go_wp2
    go_ret2
    exact ⟨rfl, rfl⟩
  have HH := hide H
  clear H
  go_enter Try.func20, Try.ntmps20
  go_wp2_with (go_at_call 34; refine (HH.out _).mono ?_; rintro e w1 ⟨rfl, rfl⟩)
  go_ret
  exact ⟨rfl, rfl⟩
theorem rNameAny (xs : List UInt8) (w : World) : Calls Try.prog 8 #[.string (str xs)] w fun e w' => e = .returned (.bool (nameL xs)) ∧ Below w.heap.size w w' := by
  by_cases h : xs.length ≤ 65535
  · exact rName_any xs h w
  have h1 : 65535 < xs.length := by omega
  rw [nameL_long xs h1]
  have H1 := hide fun W => rIs_long xs h1 W
  have hsz : (str xs).size = xs.length := size_str xs
  have q0 : (str xs).toList ≠ [] := by
    rw [str_toList]
    intro e
    rw [e] at h1
    simp at h1
  generalize str xs = s at *
  have q1 : ((s.toList == ([] : List UInt8)) : Bool) = false := by simpa using q0
  clear h
  go_enter Try.func8, Try.ntmps8
  go_wp2_with (go_at_call 20; refine (H1.out _).mono ?_; rintro e w1 ⟨rfl, rfl⟩)
  go_ret
  exact ⟨rfl, Below.refl _ _⟩
end Go.Proofs.Ytfjafpbmgbnllaa
