/-
  What is proved here: what pdu's Bytes and Parse return, of any request and any bytes (up to some thousand).
-/
import Derived.Test.YtnialjikpoembaaPdu10
namespace Go.Proofs.Ytnialjikpoembaa
set_option linter.unusedVariables false
set_option linter.unusedSimpArgs false
open Go.RowKit

/-- A slice that reads and an error's number are handed back. -/
def RetSlE (n : Nat) (vs : List Value) (code : Int) (w : World) (e : Ending) (w' : World) : Prop := ∃ C k, e = .returned (.tuple #[.slice C n k, .int .i64 code]) ∧ n ≤ k ∧ Rd w' C n vs ∧ Below w.heap.size w w'
/-- A request and an error's number are handed back. -/
def RetRqE (r : Rq) (code : Int) (w : World) (e : Ending) (w' : World) : Prop := ∃ C m k, e = .returned (.tuple #[.agg #[.int .i64 r.f, .int .i64 r.a, .int .i64 r.c, .slice C m k, .int .i64 r.t, .int .i64 r.an, .int .i64 r.o], .int .i64 code]) ∧ m ≤ k ∧ Rd w' C m (iv r.vs) ∧ Below w.heap.size w w'

/-- bytes.Equal. -/
theorem equal_any (A B : Option Addr) (n m c d : Nat) (xs ys : List UInt8) (w : World) (h : Rd w A n (bv xs)) (h2 : Rd w B m (bv ys)) :
    Calls Try.prog 56 #[.slice A n c, .slice B m d] w fun e w' => e = .returned (.bool (decide (xs = ys))) ∧ w = w' := by
  have hs1 := rdStr h c
  have hs2 := rdStr h2 d
  have He : Hid ((xs == ys) = decide (xs = ys)) := by
    show _ = _
    rw [Bool.eq_iff_iff]
    simp
  clear h h2
  generalize decide (xs = ys) = b at *
  go_enter Try.func56, Try.ntmps56
  go_wp2
  go_ret
  exact ⟨by rw [← He.out]; simp, rfl⟩

theorem gs_length (xs : List UInt8) : (gs xs).vs.length ≤ 8 * xs.length + 1 := by
  have hw : ∀ n ys, ys.length ≤ n → (wordsL ys).length ≤ n := by
    intro n ys hn
    rw [wordsL_range _ _ (Nat.le_refl _), wordsTo, List.length_map, List.length_range]
    omega
  have hb : ∀ ys n, (bitsL ys n).length ≤ 8 * ys.length := by
    intro ys n
    unfold bitsL
    split
    · rw [unpackL_length]; omega
    · simp
  unfold gs
  repeat' split
  all_goals simp only [List.length_cons, List.length_nil]
  all_goals first | omega | skip
  · have := hb (xs.drop 6) (wAt xs 3).toNat
    simp only [List.length_drop] at this
    omega
  · have := hw xs.length (xs.drop 6) (by simp)
    omega
  · have := hw xs.length (xs.drop 10) (by simp)
    omega

theorem parse_short (xs : List UInt8) (h : xs.length < 5 ∨ 253 < xs.length) : parseL xs = none := by
  unfold parseL
  rw [if_neg]
  rintro ⟨h1, h2⟩
  have := lay_bounds (show mayB (gs xs).f (gs xs).a (gs xs).c (gs xs).vs (gs xs).t (gs xs).an (gs xs).o = true from h1)
  rw [show layL (gs xs).f (gs xs).a (gs xs).c (gs xs).vs (gs xs).t (gs xs).an (gs xs).o = xs from h2] at this
  omega

end Go.Proofs.Ytnialjikpoembaa
