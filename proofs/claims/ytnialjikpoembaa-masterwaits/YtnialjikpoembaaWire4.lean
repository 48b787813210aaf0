/-
  What is proved here: the contracts of package wire once more, in the forms in which callers meet them (numbers as ints, worlds by what is kept).
-/
import Derived.Test.YtnialjikpoembaaWire3
namespace Go.Proofs.Ytnialjikpoembaa
set_option linter.unusedVariables false
set_option linter.unusedSimpArgs false
open Go.RowKit

theorem putI (A : Option Addr) (l c : Nat) (ni : Int) (n N : Nat) (hni : ni = (n : Int)) (hN : l + 2 = N) (xs : List UInt8) (w : World) (h : Rd w A l (bv xs)) (hl : l ≤ 100000) (hn : n ≤ 65535) :
    Calls Try.prog 84 #[.slice A l c, .int .i64 ni] w fun e w' =>
      e = .returned (.tuple #[.slice (some ⟨w.heap.size, 0, none⟩) N N, .int .i64 0]) ∧ Blk w' w.heap.size 5 (bv (xs ++ word n)) ∧ Below w.heap.size w w' := by
  subst hni hN
  exact (put_ok A l c n xs w h hl hn).mono fun e w' ⟨he, hw⟩ => by
    subst hw
    exact ⟨he, Blk.new _ _ _, (Below.refl _ _).alloc (Nat.le_refl _) _⟩

theorem atI (A : Option Addr) (l c : Nat) (ii : Int) (i : Nat) (hii : ii = (i : Int)) (xs : List UInt8) (w : World) (h : Rd w A l (bv xs)) (hi : i + 2 ≤ l) (hm : l ≤ maxLen) (x y : UInt8) (hx : xs[i]? = some x) (hy : xs[i + 1]? = some y) (r : Int) (hr : r = 256 * x.toNat + y.toNat) :
    Calls Try.prog 86 #[.slice A l c, .int .i64 ii] w fun e w' => e = .returned (.tuple #[.int .i64 r, .int .i64 0]) ∧ ∃ nq, w' = w.drewN nq := by
  subst hii hr
  exact at_ok A l c i xs w h hi hm x y hx hy

end Go.Proofs.Ytnialjikpoembaa
