/-
  What is proved here: what the document's own functions of layer 1 return. Conditions: lengths up to some hundred thousand where memory is made.
-/
import Derived.Test.YtjldfefebnpdgaaWire3
import Derived.Test.YtjldfefebnpdgaaRefA
import Derived.Test.YtjldfefebnpdgaaRefBits
namespace Go.Proofs.Ytjldfefebnpdgaa
set_option linter.unusedVariables false
set_option linter.unusedSimpArgs false
open Go.RowKit

theorem number_any (A : Option Addr) (l c : Nat) (xs : List UInt8) (w : World) (h : Rd w A l (bv xs)) (hl : 2 ≤ l) (x y : UInt8) (hx : xs[0]? = some x) (hy : xs[1]? = some y) :
    Calls Try.prog 26 #[.slice A l c] w fun e w' => e = .returned (.int .i64 (256 * x.toNat + y.toNat)) ∧ ∃ nq, w' = w.drewN nq := by
  obtain ⟨b, o, rfl, _, hc⟩ := h.at_ (k := 0) (by omega)
  have c0 : w.cell? ⟨b, o, none⟩ = some (.int .u8 x.toNat) := hc 0 (.int .u8 x.toNat) (by simp [bv, hx])
  have c1 := hc 1 (.int .u8 y.toNat) (by simp [bv, hy])
  have q0 : (0 : Int) < (l : Int) := by omega
  have q1 : (1 : Int) < (l : Int) := by omega
  have q2 : 0 < l := by omega
  have q3 : 1 < l := by omega
  have hx' := x.toNat_lt
  have hy' := y.toNat_lt
  clear hx hy hc h
  go_enter Try.func26, Try.ntmps26
  go_wp2
  go_quiet (fail)
  go_wp2
  go_ret
  exact ⟨rfl, nq, rfl⟩

/-- Word: a new block of two bytes. -/
theorem word_any (n : Nat) (hn : n ≤ 65535) (w : World) : Calls Try.prog 23 #[.int .i64 (n : Int)] w fun e w' =>
    e = .returned (.slice (some ⟨w.heap.size, 0, none⟩) 2 2) ∧ Blk w' w.heap.size 5 (bv (word n)) ∧ Below w.heap.size w w' := by
  have Hw := hide (bv_word n hn)
  go_enter Try.func23, Try.ntmps23
  go_wp2
  go_ret
  exact ⟨rfl, by rw [Hw.out]; exact Blk.new w _ [_, _], (Below.refl _ _).alloc (Nat.le_refl _) _⟩

end Go.Proofs.Ytjldfefebnpdgaa
