/-
  What is proved here: what pdu's guess returns.
-/
import Derived.Test.YtnialjikpoembaaPdu8
import Derived.Test.YtnialjikpoembaaStructs
namespace Go.Proofs.Ytnialjikpoembaa
set_option linter.unusedVariables false
set_option linter.unusedSimpArgs false
open Go.RowKit

/-- A request is handed back. -/
def RetRq (r : Rq) (w : World) (e : Ending) (w' : World) : Prop := ∃ C m k, e = .returned (.agg #[.int .i64 r.f, .int .i64 r.a, .int .i64 r.c, .slice C m k, .int .i64 r.t, .int .i64 r.an, .int .i64 r.o]) ∧ m ≤ k ∧ Rd w' C m (iv r.vs) ∧ Below w.heap.size w w' ∧ ∀ b o, C = some ⟨b, o, none⟩ → w.heap.size ≤ b

theorem wAt_bounds (xs : List UInt8) (i : Nat) : 0 ≤ wAt xs i ∧ wAt xs i ≤ 65535 := by
  unfold wAt
  split
  · have h1 := (xs[i]?.getD 0).toNat_lt
    have h2 := (xs[i + 1]?.getD 0).toNat_lt
    omega
  · omega
theorem quo_word (z : Int) (h : 0 ≤ z ∧ z ≤ 65535) : wrap64 (z.tdiv 65280) = z / 65280 := by
  have e : z.tdiv 65280 = z / 65280 := Int.tdiv_eq_ediv_of_nonneg h.1
  rw [e]
  have h1 : z / 65280 ≤ 1 := by omega
  have h2 : 0 ≤ z / 65280 := by omega
  unfold wrap64
  omega

end Go.Proofs.Ytnialjikpoembaa
