/-
  What is proved here: what the document's own Parse returns, of any bytes up to 600.
-/
import Derived.Test.YtemlfhoejelgbaaRef3i
import Derived.Test.YtemlfhoejelgbaaRef3j
import Derived.Test.YtemlfhoejelgbaaRef3k
import Derived.Test.YtemlfhoejelgbaaRef3l
namespace Go.Proofs.Ytemlfhoejelgbaa
set_option linter.unusedVariables false
set_option linter.unusedSimpArgs false
open Go.RowKit

theorem refParse_short (A : Option Addr) (l c : Nat) (w : World) (hl : l < 5) : Calls Try.prog 18 #[.slice A l c] w (RetRqB Rq.none false w) := by
  have hB := hide (Blk.new w 24 [.int .i64 0, .int .i64 0, .int .i64 0, .slice none 0 0, .int .i64 0, .int .i64 0, .int .i64 0])
  have q5 : decide ((l : Int) < 5) = true := by simp; omega
  go_enter Try.func18, Try.ntmps18
  go_wp2
  (try simp only [Exit.inBlock, Exit.then])
  refine bodyPost_ret (results_cell_tmp rfl rfl hB.out Try.underlying24 rfl (by kernel_rfl)) rfl ?_
  exact ⟨none, 0, 0, rfl, Nat.le_refl _, Rd.nil _ _, (Below.refl _ _).alloc (Nat.le_refl _) _⟩

theorem refParse_any (A : Option Addr) (l c : Nat) (xs : List UInt8) (w : World) (h : Rd w A l (bv xs)) (hc : l ≤ c) (hl6 : l ≤ 600) :
    Calls Try.prog 18 #[.slice A l c] w (RetRqB ((parseL xs).getD Rq.none) (parseL xs).isSome w) := by
  have hxl : xs.length = l := by rw [← bv_length]; exact h.1
  by_cases h5 : l < 5
  · rw [parse_short xs (by omega)]
    exact refParse_short A l c w h5
  have hl0 : 5 ≤ l := by omega
  obtain ⟨b, o, rfl, hbl, hcc⟩ := h.at_ (k := 0) (by omega)
  have cx0 := hcc 0 _ (bv_get xs 0 (by omega))
  rw [Nat.add_zero] at cx0
  have hx : xs[0]?.getD 0 = xs[0] := by rw [List.getElem?_eq_getElem (by omega)]; rfl
  have hlt := xs[0].toNat_lt
  have qw : IntKind.i64.wrap (xs[0].toNat : Int) = (xs[0].toNat : Int) := wrap_nat _ (by omega)
  have hg : gs xs = gs xs := rfl
  conv at hg => rhs; unfold gs
  rw [hx] at hg
  generalize ((xs[0].toNat : Nat) : Int) = f at *
  by_cases f5 : f = 5
  · subst f5
    rw [if_pos rfl] at hg
    exact refParse_5 b o l c xs w h cx0 hc hl0 hl6 hg
  rw [if_neg f5] at hg
  by_cases f6 : f = 6
  · subst f6
    rw [if_pos rfl] at hg
    exact refParse_6 b o l c xs w h cx0 hc hl0 hl6 hg
  rw [if_neg f6] at hg
  by_cases f22 : f = 22
  · subst f22
    rw [if_pos rfl] at hg
    exact refParse_22 b o l c xs w h cx0 hc hl0 hl6 hg
  rw [if_neg f22] at hg
  by_cases f15 : f = 15
  · subst f15
    rw [if_pos rfl] at hg
    exact refParse_15 b o l c xs w h cx0 hc hl0 hl6 hg
  rw [if_neg f15] at hg
  by_cases f16 : f = 16
  · subst f16
    rw [if_pos rfl] at hg
    exact refParse_16 b o l c xs w h cx0 hc hl0 hl6 hg
  rw [if_neg f16] at hg
  by_cases f23 : f = 23
  · subst f23
    rw [if_pos rfl] at hg
    exact refParse_23 b o l c xs w h cx0 hc hl0 hl6 hg
  rw [if_neg f23] at hg
  by_cases f1 : f = 1
  · subst f1; exact refParse_1 b o l c xs w h cx0 hc hl0 hg
  by_cases f2 : f = 2
  · subst f2; exact refParse_2 b o l c xs w h cx0 hc hl0 hg
  by_cases f3 : f = 3
  · subst f3; exact refParse_3 b o l c xs w h cx0 hc hl0 hg
  by_cases f4 : f = 4
  · subst f4; exact refParse_4 b o l c xs w h cx0 hc hl0 hg
  exact refParse_else f b o l c xs w h cx0 hc hl0 hg qw (ne_beq f1) (ne_beq f2) (ne_beq f3) (ne_beq f4) (ne_beq f5) (ne_beq f6) (ne_beq f15) (ne_beq f16) (ne_beq f22) (ne_beq f23)

end Go.Proofs.Ytemlfhoejelgbaa
