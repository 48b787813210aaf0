/-
  What is proved here: the contracts of package wire once more, in the forms in which callers meet them (numbers as ints, worlds by what is kept).
-/
import Derived.Test.YtmedfnipopookaaWire3
namespace Go.Proofs.Ytmedfnipopookaa
set_option linter.unusedVariables false
set_option linter.unusedSimpArgs false
open Go.RowKit

theorem putI (A : Option Addr) (l c : Nat) (ni : Int) (n N : Nat) (hni : ni = (n : Int)) (hN : l + 2 = N) (xs : List UInt8) (w : World) (h : Rd w A l (bv xs)) (hl : l ≤ 100000) (hn : n ≤ 65535) :
    Calls Try.prog 10 #[.slice A l c, .int .i64 ni] w fun e w' =>
      e = .returned (.tuple #[.slice (some ⟨w.heap.size, 0, none⟩) N N, .int .i64 0]) ∧ Blk w' w.heap.size 5 (bv (xs ++ word n)) ∧ Below w.heap.size w w' := by
  subst hni hN
  exact (put_ok A l c n xs w h hl hn).mono fun e w' ⟨he, hw⟩ => by
    subst hw
    exact ⟨he, Blk.new _ _ _, (Below.refl _ _).alloc (Nat.le_refl _) _⟩

theorem atI (A : Option Addr) (l c : Nat) (ii : Int) (i : Nat) (hii : ii = (i : Int)) (xs : List UInt8) (w : World) (h : Rd w A l (bv xs)) (hi : i + 2 ≤ l) (hm : l ≤ maxLen) (x y : UInt8) (hx : xs[i]? = some x) (hy : xs[i + 1]? = some y) (r : Int) (hr : r = 256 * x.toNat + y.toNat) :
    Calls Try.prog 15 #[.slice A l c, .int .i64 ii] w fun e w' => e = .returned (.tuple #[.int .i64 r, .int .i64 0]) ∧ ∃ nq, w' = w.drewN nq := by
  subst hii hr
  exact at_ok A l c i xs w h hi hm x y hx hy

theorem textAtI (A : Option Addr) (l c : Nat) (ii : Int) (i n : Nat) (hii : ii = (i : Int)) (xs : List UInt8) (w : World) (h : Rd w A l (bv xs)) (hc : l ≤ c) (hi : i + 2 + n ≤ l) (hm : l ≤ 1000000) (x y : UInt8) (hx : xs[i]? = some x) (hy : xs[i + 1]? = some y)
    (hs : 256 * x.toNat + y.toNat = n) (s : ByteArray) (hse : s = str ((xs.drop (i + 2)).take n)) (r : Int) (hr : r = ((i + 2 + n : Nat) : Int)) :
    Calls Try.prog 16 #[.slice A l c, .int .i64 ii] w fun e w' => e = .returned (.tuple #[.string s, .int .i64 r, .int .i64 0]) ∧ ∃ nq, w' = w.drewN nq := by
  subst hii hr hse
  exact textAt_ok A l c i n xs w h hc hi hm x y hx hy hs

theorem putTextI (A : Option Addr) (l c n N : Nat) (hN : l + 2 + n = N) (xs : List UInt8) (s : ByteArray) (w : World) (h : Rd w A l (bv xs)) (hl : l ≤ 100000) (hs : s.size = n) (hn : n ≤ 65535) :
    Calls Try.prog 18 #[.slice A l c, .string s] w fun e w' =>
      e = .returned (.tuple #[.slice (some ⟨w.heap.size, 0, none⟩) N N, .int .i64 0]) ∧ Blk w' w.heap.size 5 (bv (xs ++ (word n ++ s.data.toList))) ∧ Below w.heap.size w w' := by
  subst hN
  exact putText_ok A l c n xs s w h hl hs hn

end Go.Proofs.Ytmedfnipopookaa
