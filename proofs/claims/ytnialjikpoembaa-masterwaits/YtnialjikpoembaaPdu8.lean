/-
  What is proved here: what pdu's lay returns, of any request that may be; what guess returns.
-/
import Derived.Test.YtnialjikpoembaaPdu7
import Derived.Test.YtnialjikpoembaaPdu3
import Derived.Test.YtnialjikpoembaaPduMath2
namespace Go.Proofs.Ytnialjikpoembaa
set_option linter.unusedVariables false
set_option linter.unusedSimpArgs false
open Go.RowKit

theorem RetOwn.to {e : TypeId} {n n' : Nat} {vs vs' : List Value} {w : World} {x : Ending} {w' : World} (h : RetOwn e n vs w x w') (hn : n = n') (hv : vs = vs') : RetOwn e n' vs' w x w' := by subst hn hv; exact h

theorem lay_any (f a c t an o : Int) (A : Option Addr) (n k : Nat) (vs : List Int) (w : World) (h : Rd w A n (iv vs)) (hm : mayB f a c vs t an o = true) :
    Calls Try.prog 76 #[.agg #[.int .i64 f, .int .i64 a, .int .i64 c, .slice A n k, .int .i64 t, .int .i64 an, .int .i64 o]] w (RetOwn 5 (layL f a c vs t an o).length (bv (layL f a c vs t an o)) w) := by
  have hl : vs.length = n := by rw [← iv_length]; exact h.1
  rw [lay_length hm, hl]
  rcases may_cases hm with ⟨hf, h1, h2, h3, h4, rfl, rfl, rfl, rfl⟩ | ⟨hf, h1, h2, h3, h4, rfl, rfl, rfl, rfl⟩ | ⟨rfl, h1, h2, rfl, ⟨v, rfl, h3, h4⟩, rfl, rfl, rfl⟩ | ⟨rfl, h1, h2, rfl, ⟨v, rfl, h3, h4⟩, rfl, rfl, rfl⟩ | ⟨rfl, h1, h2, h3, h4, h5, h6, rfl, rfl, rfl⟩ | ⟨rfl, h1, h2, h3, h4, h5, h6, rfl, rfl, rfl⟩ | ⟨rfl, h1, h2, h3, h4, h5, h6, rfl, rfl, rfl⟩ | ⟨rfl, h1, h2, h3, h4, h5, h6, h7, h8, h9, rfl, rfl⟩
  · rcases hf with rfl | rfl
    · exact (lay_1 a c 0 0 0 A n k w (by omega) (by omega) (by omega) (by omega)).mono fun _ _ h => h
    · exact (lay_2 a c 0 0 0 A n k w (by omega) (by omega) (by omega) (by omega)).mono fun _ _ h => h
  · rcases hf with rfl | rfl
    · exact (lay_3 a c 0 0 0 A n k w (by omega) (by omega) (by omega) (by omega)).mono fun _ _ h => h
    · exact (lay_4 a c 0 0 0 A n k w (by omega) (by omega) (by omega) (by omega)).mono fun _ _ h => h
  · exact (lay_5 a 0 0 0 0 v A n k w h (by omega) (by omega) (by omega) (by omega)).mono fun _ _ h => h
  · exact (lay_6 a 0 0 0 0 v A n k w h (by omega) (by omega) (by omega) (by omega)).mono fun _ _ h => h
  · exact (lay_15 a c 0 0 0 A n k _ vs w h (by omega) (by omega) (by omega) (by omega) h6 (by omega) rfl).mono fun _ _ h => h
  · subst hl h1
    exact (lay_16 a _ 0 0 0 A _ k vs w h (by omega) (by omega) h6 (by omega) (by omega)).mono fun _ _ h => h
  · exact (lay_22 a 0 0 an o A n k w (by omega) (by omega) (by omega) (by omega) (by omega) (by omega)).mono fun _ _ h => h
  · subst hl
    exact (lay_23 a c t 0 0 A _ k vs w h (by omega) (by omega) (by omega) (by omega) (by omega) (by omega) h9 (by omega) (by omega)).mono fun _ _ h => h

end Go.Proofs.Ytnialjikpoembaa
