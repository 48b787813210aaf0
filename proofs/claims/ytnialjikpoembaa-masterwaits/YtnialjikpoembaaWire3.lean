/-
  What is proved here: what wire's PutText returns. Condition: the bytes ahead of it are at most 100000.
-/
import Derived.Test.YtnialjikpoembaaWire2
namespace Go.Proofs.Ytnialjikpoembaa
set_option linter.unusedVariables false
set_option linter.unusedSimpArgs false
open Go.RowKit

theorem setWord_blk (g i l c n : Nat) (cs : List Value) (w : World) (h : Blk w g 5 cs) (hi : i + 2 ≤ l) (hl : l ≤ cs.length) (hl2 : l ≤ 200000) (hn : n ≤ 65535) :
    Calls Try.prog 88 #[.slice (some ⟨g, 0, none⟩) l c, .int .i64 (i : Int), .int .i64 (n : Int)] w fun e w' =>
      e = .returned (.tuple #[]) ∧ Blk w' g 5 ((cs.set i (.int .u8 ((n : Int) / 256))).set (i + 1) (.int .u8 ((n : Int) % 256))) ∧ (∀ B a, B ≤ g → Below B a w → Below B a w') :=
  (setWord_any g i l c n cs w h hi hl hl2 hn).mono fun e w' ⟨he, hw⟩ => by
    subst hw
    exact ⟨he, (h.set i _).set (i + 1) _, fun B a hB hb => (hb.setCell hB _).setCell hB _⟩

theorem longer_blk (A : Option Addr) (n c : Nat) (mi : Int) (m N : Nat) (hmi : mi = (m : Int)) (hN : n + m = N) (xs : List UInt8) (w : World) (h : Rd w A n (bv xs)) (hm : N ≤ 200000) :
    Calls Try.prog 87 #[.slice A n c, .int .i64 mi] w fun e w' =>
      e = .returned (.slice (some ⟨w.heap.size, 0, none⟩) N N) ∧ Blk w' w.heap.size 5 (bv xs ++ List.replicate m (.int .u8 0)) ∧ Below w.heap.size w w' := by
  subst hmi hN
  exact (longer_any A n c m xs w h hm).mono fun e w' ⟨he, hw⟩ => by
    subst hw
    exact ⟨he, Blk.new _ _ _, (Below.refl _ _).alloc (Nat.le_refl _) _⟩

end Go.Proofs.Ytnialjikpoembaa
