/-
  What is proved here: what the document's own functions of layer 1 (Is, Both) return. Conditions: lengths up to some hundred thousand where memory is made.
-/
import Derived.Test.YtnialjikpoembaaInfo
import Derived.Test.YtnialjikpoembaaBitsMath
import Derived.LoopTactic
namespace Go.Proofs.Ytnialjikpoembaa
set_option linter.unusedVariables false
set_option linter.unusedSimpArgs false
open Go.RowKit

theorem is_yes (n : Nat) (hn : n ≤ 65535) (w : World) : Calls Try.prog 43 #[.int .i64 (n : Int)] w fun e w' => e = .returned (.bool true) ∧ w = w' := by
  have q0 : (0 : Int) ≤ (n : Int) := by omega
  have q1 : (n : Int) ≤ 65535 := by omega
  go_enter Try.func43, Try.ntmps43
  go_wp2
  go_ret
  exact ⟨rfl, rfl⟩
theorem is_no (n : Int) (hn : n < 0 ∨ 65535 < n) (w : World) : Calls Try.prog 43 #[.int .i64 n] w fun e w' => e = .returned (.bool false) ∧ w = w' := by
  rcases hn with hn | hn
  · have q0 : decide ((0 : Int) ≤ n) = false := by simpa using hn
    go_enter Try.func43, Try.ntmps43
    go_wp2
    go_ret
    exact ⟨rfl, rfl⟩
  · have q0 : (0 : Int) ≤ n := by omega
    have q1 : decide (n ≤ 65535) = false := by simpa using hn
    go_enter Try.func43, Try.ntmps43
    go_wp2
    go_ret
    exact ⟨rfl, rfl⟩

/-- Both: in memory of its own. -/
theorem both_any (A B : Option Addr) (n m c d : Nat) (xs ys : List UInt8) (w : World) (h1 : Rd w A n (bv xs)) (h2 : Rd w B m (bv ys)) (hn : n ≤ 200000) (hm : m ≤ 200000) :
    Calls Try.prog 68 #[.slice A n c, .slice B m d] w (RetSl (n + m) (bv (xs ++ ys)) w) := by
  go_enter Try.func68, Try.ntmps68
  go_wp2_with (first
    | (at_builtin; refine wpList_app rfl (.tmp 6) (.tmp 7) 38 rfl 5 _ _ Try.underlying38 u8_info rfl w.heap.size none 0 0 [] rfl (World.ownsRow_nil _ _ _ _) A n c (bv xs) rfl h1 (bv_one _) (by unfold maxLen; omega) (by omega) (Nat.le_refl _) ?_; intro A1 c1 w1 o1 g1 b1; rw [Nat.zero_add, List.nil_append] at o1)
    | (at_builtin; refine wpList_app rfl (.tmp 9) (.tmp 10) 38 rfl 5 _ _ Try.underlying38 u8_info rfl w.heap.size A1 n c1 (bv xs) rfl o1 B m d (bv ys) rfl (h2.keep b1) (bv_one _) (by unfold maxLen; omega) (by omega) b1.size ?_; intro A2 c2 w2 o2 g2 b2; rw [← bv_append] at o2))
  go_ret
  exact ⟨A2, c2, rfl, own_cap o2, own_rd o2, b1.trans b2⟩

end Go.Proofs.Ytnialjikpoembaa
