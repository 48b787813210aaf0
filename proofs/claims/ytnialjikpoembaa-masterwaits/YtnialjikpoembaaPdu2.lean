/-
  What is proved here: what pdu's tests of whole requests and answers return. Condition: at most a million values.
-/
import Derived.Test.YtnialjikpoembaaPdu1
namespace Go.Proofs.Ytnialjikpoembaa
set_option linter.unusedVariables false
set_option linter.unusedSimpArgs false
open Go.RowKit

theorem writesOne_any (f a c t an o top : Int) (A : Option Addr) (n k : Nat) (vs : List Int) (w : World) (h : Rd w A n (iv vs)) (hn : n ≤ 1000000) :
    Calls Try.prog 64 #[.agg #[.int .i64 f, .int .i64 a, .int .i64 c, .slice A n k, .int .i64 t, .int .i64 an, .int .i64 o], .int .i64 top] w fun e w' => e = .returned (.bool (oneB a c vs t an o top)) ∧ Below w.heap.size w w' := by
  have hl : vs.length = n := by rw [← iv_length]; exact h.1
  have HW := hide (fun W => isWord_any a W)
  have HU := hide (fun W b => upTo_any A n k vs top W (h.keep b) hn)
  unfold oneB
  rw [hl]
  clear h hl
  generalize isW a = bW at *
  generalize upToB vs top = bU at *
  cases bW
  · go_enter Try.func64, Try.ntmps64
    go_wp2_with fail
    refine (HW.out _).mono ?_
    rintro e w1 ⟨rfl, rfl⟩
    go_wp2
    go_ret
    exact ⟨rfl, (Below.refl _ _).alloc (Nat.le_refl _) _⟩
  cases hc : c == 0
  · go_enter Try.func64, Try.ntmps64
    go_wp2_with fail
    refine (HW.out _).mono ?_
    rintro e w1 ⟨rfl, rfl⟩
    go_wp2
    go_ret
    exact ⟨rfl, (Below.refl _ _).alloc (Nat.le_refl _) _⟩
  cases hn1 : n == 1
  · have hn' : ((n : Int) == 1) = false := by simp at hn1 ⊢; omega
    go_enter Try.func64, Try.ntmps64
    go_wp2_with fail
    refine (HW.out _).mono ?_
    rintro e w1 ⟨rfl, rfl⟩
    go_wp2
    go_ret
    exact ⟨rfl, (Below.refl _ _).alloc (Nat.le_refl _) _⟩
  have hn' : ((n : Int) == 1) = true := by simp at hn1 ⊢; omega
  cases bU
  · go_enter Try.func64, Try.ntmps64
    go_wp2_with fail
    refine (HW.out _).mono ?_
    rintro e w1 ⟨rfl, rfl⟩
    go_wp2_with fail
    refine (HU.out _ ((Below.refl _ _).alloc (Nat.le_refl _) _)).mono ?_
    rintro e w1 ⟨rfl, rfl⟩
    go_wp2
    go_ret
    exact ⟨rfl, (Below.refl _ _).alloc (Nat.le_refl _) _⟩
  cases ht : t == 0
  · go_enter Try.func64, Try.ntmps64
    go_wp2_with fail
    refine (HW.out _).mono ?_
    rintro e w1 ⟨rfl, rfl⟩
    go_wp2_with fail
    refine (HU.out _ ((Below.refl _ _).alloc (Nat.le_refl _) _)).mono ?_
    rintro e w1 ⟨rfl, rfl⟩
    go_wp2
    go_ret
    exact ⟨rfl, (Below.refl _ _).alloc (Nat.le_refl _) _⟩
  go_enter Try.func64, Try.ntmps64
  go_wp2_with fail
  refine (HW.out _).mono ?_
  rintro e w1 ⟨rfl, rfl⟩
  go_wp2_with fail
  refine (HU.out _ ((Below.refl _ _).alloc (Nat.le_refl _) _)).mono ?_
  rintro e w1 ⟨rfl, rfl⟩
  go_wp2_with fail
  refine (unmasked_any f a c t an o A n k _).mono ?_
  rintro e w1 ⟨rfl, b1⟩
  have b2 := ((Below.refl _ _).alloc (Nat.le_refl _) _).trans (b1.mono (by simp))
  go_wp2
  go_ret
  exact ⟨rfl, b2⟩

theorem writesMany_any (f a c t an o most top : Int) (hm : most ≤ 100000) (A : Option Addr) (n k : Nat) (vs : List Int) (w : World) (h : Rd w A n (iv vs)) (hn : n ≤ 1000000) :
    Calls Try.prog 65 #[.agg #[.int .i64 f, .int .i64 a, .int .i64 c, .slice A n k, .int .i64 t, .int .i64 an, .int .i64 o], .int .i64 most, .int .i64 top] w fun e w' => e = .returned (.bool (manyB a c vs t an o most top)) ∧ Below w.heap.size w w' := by
  have hl : vs.length = n := by rw [← iv_length]; exact h.1
  have HL := hide (fun W => lies_any a c most hm W)
  have HU := hide (fun W b => upTo_any A n k vs top W (h.keep b) hn)
  unfold manyB
  rw [hl]
  clear h hl
  generalize liesB a c most = bL at *
  generalize upToB vs top = bU at *
  cases hc : c == (n : Int)
  · go_enter Try.func65, Try.ntmps65
    go_wp2
    go_ret
    exact ⟨rfl, (Below.refl _ _).alloc (Nat.le_refl _) _⟩
  cases bL
  · go_enter Try.func65, Try.ntmps65
    go_wp2_with fail
    refine (HL.out _).mono ?_
    rintro e w1 ⟨rfl, rfl⟩
    go_wp2
    go_ret
    exact ⟨rfl, (Below.refl _ _).alloc (Nat.le_refl _) _⟩
  cases bU
  · go_enter Try.func65, Try.ntmps65
    go_wp2_with fail
    refine (HL.out _).mono ?_
    rintro e w1 ⟨rfl, rfl⟩
    go_wp2_with fail
    refine (HU.out _ ((Below.refl _ _).alloc (Nat.le_refl _) _)).mono ?_
    rintro e w1 ⟨rfl, rfl⟩
    go_wp2
    go_ret
    exact ⟨rfl, (Below.refl _ _).alloc (Nat.le_refl _) _⟩
  cases ht : t == 0
  · go_enter Try.func65, Try.ntmps65
    go_wp2_with fail
    refine (HL.out _).mono ?_
    rintro e w1 ⟨rfl, rfl⟩
    go_wp2_with fail
    refine (HU.out _ ((Below.refl _ _).alloc (Nat.le_refl _) _)).mono ?_
    rintro e w1 ⟨rfl, rfl⟩
    go_wp2
    go_ret
    exact ⟨rfl, (Below.refl _ _).alloc (Nat.le_refl _) _⟩
  go_enter Try.func65, Try.ntmps65
  go_wp2_with fail
  refine (HL.out _).mono ?_
  rintro e w1 ⟨rfl, rfl⟩
  go_wp2_with fail
  refine (HU.out _ ((Below.refl _ _).alloc (Nat.le_refl _) _)).mono ?_
  rintro e w1 ⟨rfl, rfl⟩
  go_wp2_with fail
  refine (unmasked_any f a c t an o A n k _).mono ?_
  rintro e w1 ⟨rfl, b1⟩
  have b2 := ((Below.refl _ _).alloc (Nat.le_refl _) _).trans (b1.mono (by simp))
  go_wp2
  go_ret
  exact ⟨rfl, b2⟩

theorem masks_any (f a c t an o : Int) (A : Option Addr) (n k : Nat) (w : World) :
    Calls Try.prog 66 #[.agg #[.int .i64 f, .int .i64 a, .int .i64 c, .slice A n k, .int .i64 t, .int .i64 an, .int .i64 o]] w fun e w' => e = .returned (.bool (masksB a c n t an o)) ∧ Below w.heap.size w w' := by
  have HA := hide (fun W => isWord_any a W)
  have HN := hide (fun W => isWord_any an W)
  have HO := hide (fun W => isWord_any o W)
  unfold masksB
  generalize isW a = bA at *
  generalize isW an = bN at *
  generalize isW o = bO at *
  cases bA
  · go_enter Try.func66, Try.ntmps66
    go_wp2_with fail
    refine (HA.out _).mono ?_
    rintro e w1 ⟨rfl, rfl⟩
    go_wp2
    go_ret
    exact ⟨rfl, (Below.refl _ _).alloc (Nat.le_refl _) _⟩
  cases bN
  · go_enter Try.func66, Try.ntmps66
    go_wp2_with fail
    refine (HA.out _).mono ?_
    rintro e w1 ⟨rfl, rfl⟩
    go_wp2_with fail
    refine (HN.out _).mono ?_
    rintro e w1 ⟨rfl, rfl⟩
    go_wp2
    go_ret
    exact ⟨rfl, (Below.refl _ _).alloc (Nat.le_refl _) _⟩
  cases bO
  · go_enter Try.func66, Try.ntmps66
    go_wp2_with fail
    refine (HA.out _).mono ?_
    rintro e w1 ⟨rfl, rfl⟩
    go_wp2_with fail
    refine (HN.out _).mono ?_
    rintro e w1 ⟨rfl, rfl⟩
    go_wp2_with fail
    refine (HO.out _).mono ?_
    rintro e w1 ⟨rfl, rfl⟩
    go_wp2
    go_ret
    exact ⟨rfl, (Below.refl _ _).alloc (Nat.le_refl _) _⟩
  have hn' : (n == 0) = ((n : Int) == 0) := by rw [Bool.eq_iff_iff]; simp
  rw [hn']
  cases hc : c == 0
  all_goals cases hn1 : (n : Int) == 0
  all_goals cases ht : t == 0
  all_goals
    go_enter Try.func66, Try.ntmps66
    go_wp2_with fail
    refine (HA.out _).mono ?_
    rintro e w1 ⟨rfl, rfl⟩
    go_wp2_with fail
    refine (HN.out _).mono ?_
    rintro e w1 ⟨rfl, rfl⟩
    go_wp2_with fail
    refine (HO.out _).mono ?_
    rintro e w1 ⟨rfl, rfl⟩
    go_wp2
    go_ret
    exact ⟨rfl, (Below.refl _ _).alloc (Nat.le_refl _) _⟩

theorem swaps_any (f a c t an o : Int) (A : Option Addr) (n k : Nat) (vs : List Int) (w : World) (h : Rd w A n (iv vs)) (hn : n ≤ 1000000) :
    Calls Try.prog 67 #[.agg #[.int .i64 f, .int .i64 a, .int .i64 c, .slice A n k, .int .i64 t, .int .i64 an, .int .i64 o]] w fun e w' => e = .returned (.bool (swapsB a c vs t an o)) ∧ Below w.heap.size w w' := by
  have hl : vs.length = n := by rw [← iv_length]; exact h.1
  have HL := hide (fun W => lies_any a c 125 (by omega) W)
  have HT := hide (fun W => lies_any t n 121 (by omega) W)
  have HU := hide (fun W b => upTo_any A n k vs 65535 W (h.keep b) hn)
  unfold swapsB
  rw [hl]
  clear h hl
  generalize liesB a c 125 = bL at *
  generalize liesB t n 121 = bT at *
  generalize upToB vs 65535 = bU at *
  cases bL
  · go_enter Try.func67, Try.ntmps67
    go_wp2_with fail
    refine (HL.out _).mono ?_
    rintro e w1 ⟨rfl, rfl⟩
    go_wp2
    go_ret
    exact ⟨rfl, (Below.refl _ _).alloc (Nat.le_refl _) _⟩
  cases bT
  · go_enter Try.func67, Try.ntmps67
    go_wp2_with fail
    refine (HL.out _).mono ?_
    rintro e w1 ⟨rfl, rfl⟩
    go_wp2_with fail
    refine (HT.out _).mono ?_
    rintro e w1 ⟨rfl, rfl⟩
    go_wp2
    go_ret
    exact ⟨rfl, (Below.refl _ _).alloc (Nat.le_refl _) _⟩
  cases bU
  · go_enter Try.func67, Try.ntmps67
    go_wp2_with fail
    refine (HL.out _).mono ?_
    rintro e w1 ⟨rfl, rfl⟩
    go_wp2_with fail
    refine (HT.out _).mono ?_
    rintro e w1 ⟨rfl, rfl⟩
    go_wp2_with fail
    refine (HU.out _ ((Below.refl _ _).alloc (Nat.le_refl _) _)).mono ?_
    rintro e w1 ⟨rfl, rfl⟩
    go_wp2
    go_ret
    exact ⟨rfl, (Below.refl _ _).alloc (Nat.le_refl _) _⟩
  go_enter Try.func67, Try.ntmps67
  go_wp2_with fail
  refine (HL.out _).mono ?_
  rintro e w1 ⟨rfl, rfl⟩
  go_wp2_with fail
  refine (HT.out _).mono ?_
  rintro e w1 ⟨rfl, rfl⟩
  go_wp2_with fail
  refine (HU.out _ ((Below.refl _ _).alloc (Nat.le_refl _) _)).mono ?_
  rintro e w1 ⟨rfl, rfl⟩
  go_wp2_with fail
  refine (unmasked_any f a c t an o A n k _).mono ?_
  rintro e w1 ⟨rfl, b1⟩
  have b2 := ((Below.refl _ _).alloc (Nat.le_refl _) _).trans (b1.mono (by simp))
  go_wp2
  go_ret
  exact ⟨rfl, b2⟩

end Go.Proofs.Ytnialjikpoembaa
