/-
  What is proved here: what the document's own functions of layer 1 (Is, Both) return. Conditions: lengths up to some hundred thousand where memory is made.
-/
import Derived.Test.YtkbombdhdgdpnaaInfo
import Derived.Test.YtkbombdhdgdpnaaBitsMath
import Derived.LoopTactic
namespace Go.Proofs.Ytkbombdhdgdpnaa
set_option linter.unusedVariables false
set_option linter.unusedSimpArgs false
open Go.RowKit

/-- Both: in memory of its own. -/
theorem both_any (A B : Option Addr) (n m c d : Nat) (xs ys : List UInt8) (w : World) (h1 : Rd w A n (bv xs)) (h2 : Rd w B m (bv ys)) (hn : n ≤ 200000) (hm : m ≤ 200000) :
    Calls Try.prog 20 #[.slice A n c, .slice B m d] w (RetSl (n + m) (bv (xs ++ ys)) w) := by
  go_enter Try.func20, Try.ntmps20
  go_wp2_with (first
    | (at_builtin; refine wpList_app rfl (.tmp 6) (.tmp 7) 22 rfl 5 _ _ Try.underlying22 u8_info rfl w.heap.size none 0 0 [] rfl (World.ownsRow_nil _ _ _ _) A n c (bv xs) rfl h1 (bv_one _) (by unfold maxLen; omega) (by omega) (Nat.le_refl _) ?_; intro A1 c1 w1 o1 g1 b1; rw [Nat.zero_add, List.nil_append] at o1)
    | (at_builtin; refine wpList_app rfl (.tmp 9) (.tmp 10) 22 rfl 5 _ _ Try.underlying22 u8_info rfl w.heap.size A1 n c1 (bv xs) rfl o1 B m d (bv ys) rfl (h2.keep b1) (bv_one _) (by unfold maxLen; omega) (by omega) b1.size ?_; intro A2 c2 w2 o2 g2 b2; rw [← bv_append] at o2))
  go_ret
  exact ⟨A2, c2, rfl, own_cap o2, own_rd o2, b1.trans b2⟩

end Go.Proofs.Ytkbombdhdgdpnaa
