/-
  What is proved here: the law PduSizes returns true for every request and every answer, and turns nothing that was there.
-/
import Derived.Test.YtemlfhoejelgbaaSizes3a
import Derived.Test.YtemlfhoejelgbaaSizes3b
import Derived.Test.YtemlfhoejelgbaaSizes3c
namespace Go.Proofs.Ytemlfhoejelgbaa
set_option linter.unusedVariables false
set_option linter.unusedSimpArgs false
open Go.RowKit
theorem sizes3_walk (f a c t an o code : Int) (A B : Option Addr) (n k m d : Nat) (vs us : List Int) (w : World) (h : Rd w A n (iv vs)) (h2 : Rd w B m (iv us)) :
    Calls Try.prog 9 #[.agg #[.int .i64 f, .int .i64 a, .int .i64 c, .slice A n k, .int .i64 t, .int .i64 an, .int .i64 o], .agg #[.slice B m d, .int .i64 code]] w fun e w' => e = .returned (.bool true) ∧ Below w.heap.size w w' := by
  by_cases hn : n ≤ 2100
  · by_cases hm : m ≤ 2100
    · cases hM : mayB f a c vs t an o
      · exact sizes_no f a c t an o code A B n k m d vs us w h h2 (.inr (.inr hM))
      · rcases may_func hM with rfl | rfl | rfl | rfl | rfl | rfl | rfl | rfl | rfl | rfl
        · exact sizes_1 a c t an o code A B n k m d vs us w h h2 hn hm hM
        · exact sizes_2 a c t an o code A B n k m d vs us w h h2 hn hm hM
        · exact sizes_3 a c t an o code A B n k m d vs us w h h2 hn hm hM
        · exact sizes_4 a c t an o code A B n k m d vs us w h h2 hn hm hM
        · exact sizes_5 a c t an o code A B n k m d vs us w h h2 hn hm hM
        · exact sizes_6 a c t an o code A B n k m d vs us w h h2 hn hm hM
        · exact sizes_15 a c t an o code A B n k m d vs us w h h2 hn hm hM
        · exact sizes_16 a c t an o code A B n k m d vs us w h h2 hn hm hM
        · exact sizes_22 a c t an o code A B n k m d vs us w h h2 hn hm hM
        · exact sizes_23 a c t an o code A B n k m d vs us w h h2 hn hm hM
    · exact sizes_no f a c t an o code A B n k m d vs us w h h2 (.inr (.inl hm))
  · exact sizes_no f a c t an o code A B n k m d vs us w h h2 (.inl hn)

end Go.Proofs.Ytemlfhoejelgbaa
