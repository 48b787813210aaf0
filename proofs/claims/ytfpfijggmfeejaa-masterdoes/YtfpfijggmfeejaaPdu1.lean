/-
  What is proved here: what the small tests of package pdu return. ALSO: what pdu's tests of whole requests and answers return. Condition: at most a million values. ALSO: what pdu's mayBe, mayAnswer and Check return. Condition: at most a million values.
-/
import Derived.Test.YtfpfijggmfeejaaPduDef
namespace Go.Proofs.Ytfpfijggmfeejaa
set_option linter.unusedVariables false
set_option linter.unusedSimpArgs false
open Go.RowKit

theorem unmasked_any (f a c t an o : Int) (A : Option Addr) (n k : Nat) (w : World) :
    Calls Try.prog 76 #[.agg #[.int .i64 f, .int .i64 a, .int .i64 c, .slice A n k, .int .i64 t, .int .i64 an, .int .i64 o]] w fun e w' => e = .returned (.bool (plainB an o)) ∧ Below w.heap.size w w' := by
  unfold plainB
  cases h1 : an == 0
  all_goals cases h2 : o == 0
  all_goals
    go_enter Try.func76, Try.ntmps76
    go_wp2
    go_ret
    exact ⟨rfl, (Below.refl _ _).alloc (Nat.le_refl _) _⟩

theorem isWord_any (n : Int) (w : World) : Calls Try.prog 77 #[.int .i64 n] w fun e w' => e = .returned (.bool (isW n)) ∧ w = w' := by
  unfold isW
  cases h1 : decide (0 ≤ n)
  all_goals cases h2 : decide (n ≤ 65535)
  all_goals
    go_enter Try.func77, Try.ntmps77
    go_wp2
    go_ret
    exact ⟨rfl, rfl⟩

theorem lies_any (a n most : Int) (hm : most ≤ 100000) (w : World) : Calls Try.prog 75 #[.int .i64 a, .int .i64 n, .int .i64 most] w fun e w' => e = .returned (.bool (liesB a n most)) ∧ w = w' := by
  unfold liesB
  cases h1 : decide (1 ≤ n)
  · go_enter Try.func75, Try.ntmps75
    go_wp2
    go_ret
    exact ⟨rfl, rfl⟩
  cases h2 : decide (n ≤ most)
  · go_enter Try.func75, Try.ntmps75
    go_wp2
    go_ret
    exact ⟨rfl, rfl⟩
  cases h3 : decide (0 ≤ a)
  · go_enter Try.func75, Try.ntmps75
    go_wp2
    go_ret
    exact ⟨rfl, rfl⟩
  have hr : decide (a + n ≤ 65536) = decide (a ≤ 65536 - n) := by
    rw [decide_eq_decide]
    omega
  have e1 : IntKind.i64.wrap (65536 - n) = 65536 - n := by
    rw [decide_eq_true_eq] at h1 h2
    rw [IntKind.wrap_i64]
    omega
  rw [hr]
  cases h4 : decide (a ≤ 65536 - n)
  all_goals
    have h1' := of_decide_eq_true h1
    have h2' := of_decide_eq_true h2
    go_enter Try.func75, Try.ntmps75
    go_wp2
    go_ret
    exact ⟨rfl, rfl⟩

theorem reads_any (f a c t an o most : Int) (hm : most ≤ 100000) (A : Option Addr) (n k : Nat) (w : World) :
    Calls Try.prog 60 #[.agg #[.int .i64 f, .int .i64 a, .int .i64 c, .slice A n k, .int .i64 t, .int .i64 an, .int .i64 o], .int .i64 most] w fun e w' => e = .returned (.bool (readsB a c n t an o most)) ∧ Below w.heap.size w w' := by
  have HL := hide (fun W => lies_any a c most hm W)
  unfold readsB
  generalize liesB a c most = bL at *
  cases bL
  · go_enter Try.func60, Try.ntmps60
    go_wp2_with fail
    refine (HL.out _).mono ?_
    rintro e w1 ⟨rfl, rfl⟩
    go_wp2
    go_ret
    exact ⟨rfl, (Below.refl _ _).alloc (Nat.le_refl _) _⟩
  cases hn : n == 0
  · have hn' : ((n : Int) == 0) = false := by simp at hn ⊢; exact hn
    go_enter Try.func60, Try.ntmps60
    go_wp2_with fail
    refine (HL.out _).mono ?_
    rintro e w1 ⟨rfl, rfl⟩
    go_wp2
    go_ret
    exact ⟨rfl, (Below.refl _ _).alloc (Nat.le_refl _) _⟩
  have hn' : ((n : Int) == 0) = true := by simp at hn ⊢; exact hn
  cases ht : t == 0
  · go_enter Try.func60, Try.ntmps60
    go_wp2_with fail
    refine (HL.out _).mono ?_
    rintro e w1 ⟨rfl, rfl⟩
    go_wp2
    go_ret
    exact ⟨rfl, (Below.refl _ _).alloc (Nat.le_refl _) _⟩
  go_enter Try.func60, Try.ntmps60
  go_wp2_with fail
  refine (HL.out _).mono ?_
  rintro e w1 ⟨rfl, rfl⟩
  go_wp2_with fail
  refine (unmasked_any f a c t an o A n k _).mono ?_
  rintro e w1 ⟨rfl, b1⟩
  have b2 := ((Below.refl _ _).alloc (Nat.le_refl _) _).trans (b1.mono (by simp))
  go_wp2
  go_ret
  exact ⟨rfl, b2⟩

theorem upToB_snoc (xs : List Int) (top : Int) (k : Nat) (h : k < xs.length) : upToB (xs.take (k + 1)) top = (upToB (xs.take k) top && (decide (0 ≤ xs[k]) && decide (xs[k] ≤ top))) := by
  rw [upToB, List.take_succ_eq_append_getElem h, List.all_append]
  simp [upToB]

/-- upTo: are all from 0 to top? -/
theorem upTo_any (A : Option Addr) (n c : Nat) (xs : List Int) (top : Int) (w : World) (h : Rd w A n (iv xs)) (hn : n ≤ 1000000) :
    Calls Try.prog 69 #[.slice A n c, .int .i64 top] w fun e w' => e = .returned (.bool (upToB xs top)) ∧ w = w' := by
  have hl : xs.length = n := by rw [← iv_length]; exact h.1
  have Hl := hide hl
  clear hl
  go_enter Try.func69, Try.ntmps69
  go_wp2
  go_loop [9] (fun i => ∃ k : Nat, k ≤ n ∧ i = .int .i64 k ∧ upToB (xs.take k) top = true) (fun i => n - (intOf i).toNat)
  case atStart => exact ⟨0, Nat.zero_le _, rfl, rfl⟩
  case round =>
    obtain ⟨k, hk, rfl, htk⟩ := hrel
    have Htk := hide htk
    clear htk
    by_cases hlt : k < n
    · obtain ⟨b, o, rfl, hbl, hc⟩ := h.at_ hlt
      have hlt' : k < xs.length := by rw [Hl.out]; exact hlt
      have c0 := hc k _ (iv_get xs k hlt')
      have Hts := hide (upToB_snoc xs top k hlt')
      have Hno : Hid (¬ (0 ≤ xs[k] ∧ xs[k] ≤ top) → upToB xs top = false) := fun hne => by
        rw [upToB, List.all_eq_false]
        exact ⟨xs[k], List.getElem_mem hlt', by simpa using hne⟩
      have q : (k : Int) < (n : Int) := by omega
      clear hc h
      generalize xs[k] = z at *
      by_cases hz0 : 0 ≤ z
      · by_cases hzt : z ≤ top
        · have q1 : decide (z < 0) = false := by simp; omega
          have q2 : decide (top < z) = false := by simp; omega
          have Hb : Hid (decide (0 ≤ z) && decide (z ≤ top)) := by simp [Hid, hz0, hzt]
          go_wp2
          go_round
          case rel => exact ⟨k + 1, by omega, by go_num, by rw [Hts.out, Htk.out, Hb.out]; rfl⟩
          case measure => simp [intOf]; omega
        · have q1 : decide (z < 0) = false := by simp; omega
          have q2 : decide (top < z) = true := by simp; omega
          have Hn := hide (Hno.out (fun h => hzt h.2))
          go_wp2
          go_ret
          exact ⟨by rw [Hn.out]; rfl, rfl⟩
      · have q1 : decide (z < 0) = true := by simp; omega
        have Hn := hide (Hno.out (fun h => hz0 h.1))
        go_wp2
        go_ret
        exact ⟨by rw [Hn.out]; rfl, rfl⟩
    · obtain rfl : k = n := by omega
      have hfin : upToB xs top = true := by have := Htk.out; rwa [List.take_of_length_le (by rw [Hl.out]; exact Nat.le_refl _)] at this
      have Hfin := hide hfin
      clear hfin
      go_wp2
      go_ret
      exact ⟨by rw [Hfin.out]; rfl, rfl⟩

end Go.Proofs.Ytfpfijggmfeejaa

namespace Go.Proofs.Ytfpfijggmfeejaa
set_option linter.unusedVariables false
set_option linter.unusedSimpArgs false
open Go.RowKit

theorem writesOne_any (f a c t an o top : Int) (A : Option Addr) (n k : Nat) (vs : List Int) (w : World) (h : Rd w A n (iv vs)) (hn : n ≤ 1000000) :
    Calls Try.prog 61 #[.agg #[.int .i64 f, .int .i64 a, .int .i64 c, .slice A n k, .int .i64 t, .int .i64 an, .int .i64 o], .int .i64 top] w fun e w' => e = .returned (.bool (oneB a c vs t an o top)) ∧ Below w.heap.size w w' := by
  have hl : vs.length = n := by rw [← iv_length]; exact h.1
  have HW := hide (fun W => isWord_any a W)
  have HU := hide (fun W b => upTo_any A n k vs top W (h.keep b) hn)
  unfold oneB
  rw [hl]
  clear h hl
  generalize isW a = bW at *
  generalize upToB vs top = bU at *
  cases bW
  · go_enter Try.func61, Try.ntmps61
    go_wp2_with fail
    refine (HW.out _).mono ?_
    rintro e w1 ⟨rfl, rfl⟩
    go_wp2
    go_ret
    exact ⟨rfl, (Below.refl _ _).alloc (Nat.le_refl _) _⟩
  cases hc : c == 0
  · go_enter Try.func61, Try.ntmps61
    go_wp2_with fail
    refine (HW.out _).mono ?_
    rintro e w1 ⟨rfl, rfl⟩
    go_wp2
    go_ret
    exact ⟨rfl, (Below.refl _ _).alloc (Nat.le_refl _) _⟩
  cases hn1 : n == 1
  · have hn' : ((n : Int) == 1) = false := by simp at hn1 ⊢; omega
    go_enter Try.func61, Try.ntmps61
    go_wp2_with fail
    refine (HW.out _).mono ?_
    rintro e w1 ⟨rfl, rfl⟩
    go_wp2
    go_ret
    exact ⟨rfl, (Below.refl _ _).alloc (Nat.le_refl _) _⟩
  have hn' : ((n : Int) == 1) = true := by simp at hn1 ⊢; omega
  cases bU
  · go_enter Try.func61, Try.ntmps61
    go_wp2_with fail
    refine (HW.out _).mono ?_
    rintro e w1 ⟨rfl, rfl⟩
    go_wp2_with fail
    refine (HU.out _ ((Below.refl _ _).alloc (Nat.le_refl _) _)).mono ?_
    rintro e w1 ⟨rfl, rfl⟩
    go_wp2
    go_ret
    exact ⟨rfl, (Below.refl _ _).alloc (Nat.le_refl _) _⟩
  cases ht : t == 0
  · go_enter Try.func61, Try.ntmps61
    go_wp2_with fail
    refine (HW.out _).mono ?_
    rintro e w1 ⟨rfl, rfl⟩
    go_wp2_with fail
    refine (HU.out _ ((Below.refl _ _).alloc (Nat.le_refl _) _)).mono ?_
    rintro e w1 ⟨rfl, rfl⟩
    go_wp2
    go_ret
    exact ⟨rfl, (Below.refl _ _).alloc (Nat.le_refl _) _⟩
  go_enter Try.func61, Try.ntmps61
  go_wp2_with fail
  refine (HW.out _).mono ?_
  rintro e w1 ⟨rfl, rfl⟩
  go_wp2_with fail
  refine (HU.out _ ((Below.refl _ _).alloc (Nat.le_refl _) _)).mono ?_
  rintro e w1 ⟨rfl, rfl⟩
  go_wp2_with fail
  refine (unmasked_any f a c t an o A n k _).mono ?_
  rintro e w1 ⟨rfl, b1⟩
  have b2 := ((Below.refl _ _).alloc (Nat.le_refl _) _).trans (b1.mono (by simp))
  go_wp2
  go_ret
  exact ⟨rfl, b2⟩

theorem writesMany_any (f a c t an o most top : Int) (hm : most ≤ 100000) (A : Option Addr) (n k : Nat) (vs : List Int) (w : World) (h : Rd w A n (iv vs)) (hn : n ≤ 1000000) :
    Calls Try.prog 62 #[.agg #[.int .i64 f, .int .i64 a, .int .i64 c, .slice A n k, .int .i64 t, .int .i64 an, .int .i64 o], .int .i64 most, .int .i64 top] w fun e w' => e = .returned (.bool (manyB a c vs t an o most top)) ∧ Below w.heap.size w w' := by
  have hl : vs.length = n := by rw [← iv_length]; exact h.1
  have HL := hide (fun W => lies_any a c most hm W)
  have HU := hide (fun W b => upTo_any A n k vs top W (h.keep b) hn)
  unfold manyB
  rw [hl]
  clear h hl
  generalize liesB a c most = bL at *
  generalize upToB vs top = bU at *
  cases hc : c == (n : Int)
  · go_enter Try.func62, Try.ntmps62
    go_wp2
    go_ret
    exact ⟨rfl, (Below.refl _ _).alloc (Nat.le_refl _) _⟩
  cases bL
  · go_enter Try.func62, Try.ntmps62
    go_wp2_with fail
    refine (HL.out _).mono ?_
    rintro e w1 ⟨rfl, rfl⟩
    go_wp2
    go_ret
    exact ⟨rfl, (Below.refl _ _).alloc (Nat.le_refl _) _⟩
  cases bU
  · go_enter Try.func62, Try.ntmps62
    go_wp2_with fail
    refine (HL.out _).mono ?_
    rintro e w1 ⟨rfl, rfl⟩
    go_wp2_with fail
    refine (HU.out _ ((Below.refl _ _).alloc (Nat.le_refl _) _)).mono ?_
    rintro e w1 ⟨rfl, rfl⟩
    go_wp2
    go_ret
    exact ⟨rfl, (Below.refl _ _).alloc (Nat.le_refl _) _⟩
  cases ht : t == 0
  · go_enter Try.func62, Try.ntmps62
    go_wp2_with fail
    refine (HL.out _).mono ?_
    rintro e w1 ⟨rfl, rfl⟩
    go_wp2_with fail
    refine (HU.out _ ((Below.refl _ _).alloc (Nat.le_refl _) _)).mono ?_
    rintro e w1 ⟨rfl, rfl⟩
    go_wp2
    go_ret
    exact ⟨rfl, (Below.refl _ _).alloc (Nat.le_refl _) _⟩
  go_enter Try.func62, Try.ntmps62
  go_wp2_with fail
  refine (HL.out _).mono ?_
  rintro e w1 ⟨rfl, rfl⟩
  go_wp2_with fail
  refine (HU.out _ ((Below.refl _ _).alloc (Nat.le_refl _) _)).mono ?_
  rintro e w1 ⟨rfl, rfl⟩
  go_wp2_with fail
  refine (unmasked_any f a c t an o A n k _).mono ?_
  rintro e w1 ⟨rfl, b1⟩
  have b2 := ((Below.refl _ _).alloc (Nat.le_refl _) _).trans (b1.mono (by simp))
  go_wp2
  go_ret
  exact ⟨rfl, b2⟩

theorem masks_any (f a c t an o : Int) (A : Option Addr) (n k : Nat) (w : World) :
    Calls Try.prog 63 #[.agg #[.int .i64 f, .int .i64 a, .int .i64 c, .slice A n k, .int .i64 t, .int .i64 an, .int .i64 o]] w fun e w' => e = .returned (.bool (masksB a c n t an o)) ∧ Below w.heap.size w w' := by
  have HA := hide (fun W => isWord_any a W)
  have HN := hide (fun W => isWord_any an W)
  have HO := hide (fun W => isWord_any o W)
  unfold masksB
  generalize isW a = bA at *
  generalize isW an = bN at *
  generalize isW o = bO at *
  cases bA
  · go_enter Try.func63, Try.ntmps63
    go_wp2_with fail
    refine (HA.out _).mono ?_
    rintro e w1 ⟨rfl, rfl⟩
    go_wp2
    go_ret
    exact ⟨rfl, (Below.refl _ _).alloc (Nat.le_refl _) _⟩
  cases bN
  · go_enter Try.func63, Try.ntmps63
    go_wp2_with fail
    refine (HA.out _).mono ?_
    rintro e w1 ⟨rfl, rfl⟩
    go_wp2_with fail
    refine (HN.out _).mono ?_
    rintro e w1 ⟨rfl, rfl⟩
    go_wp2
    go_ret
    exact ⟨rfl, (Below.refl _ _).alloc (Nat.le_refl _) _⟩
  cases bO
  · go_enter Try.func63, Try.ntmps63
    go_wp2_with fail
    refine (HA.out _).mono ?_
    rintro e w1 ⟨rfl, rfl⟩
    go_wp2_with fail
    refine (HN.out _).mono ?_
    rintro e w1 ⟨rfl, rfl⟩
    go_wp2_with fail
    refine (HO.out _).mono ?_
    rintro e w1 ⟨rfl, rfl⟩
    go_wp2
    go_ret
    exact ⟨rfl, (Below.refl _ _).alloc (Nat.le_refl _) _⟩
  have hn' : (n == 0) = ((n : Int) == 0) := by rw [Bool.eq_iff_iff]; simp
  rw [hn']
  cases hc : c == 0
  all_goals cases hn1 : (n : Int) == 0
  all_goals cases ht : t == 0
  all_goals
    go_enter Try.func63, Try.ntmps63
    go_wp2_with fail
    refine (HA.out _).mono ?_
    rintro e w1 ⟨rfl, rfl⟩
    go_wp2_with fail
    refine (HN.out _).mono ?_
    rintro e w1 ⟨rfl, rfl⟩
    go_wp2_with fail
    refine (HO.out _).mono ?_
    rintro e w1 ⟨rfl, rfl⟩
    go_wp2
    go_ret
    exact ⟨rfl, (Below.refl _ _).alloc (Nat.le_refl _) _⟩

theorem swaps_any (f a c t an o : Int) (A : Option Addr) (n k : Nat) (vs : List Int) (w : World) (h : Rd w A n (iv vs)) (hn : n ≤ 1000000) :
    Calls Try.prog 64 #[.agg #[.int .i64 f, .int .i64 a, .int .i64 c, .slice A n k, .int .i64 t, .int .i64 an, .int .i64 o]] w fun e w' => e = .returned (.bool (swapsB a c vs t an o)) ∧ Below w.heap.size w w' := by
  have hl : vs.length = n := by rw [← iv_length]; exact h.1
  have HL := hide (fun W => lies_any a c 125 (by omega) W)
  have HT := hide (fun W => lies_any t n 121 (by omega) W)
  have HU := hide (fun W b => upTo_any A n k vs 65535 W (h.keep b) hn)
  unfold swapsB
  rw [hl]
  clear h hl
  generalize liesB a c 125 = bL at *
  generalize liesB t n 121 = bT at *
  generalize upToB vs 65535 = bU at *
  cases bL
  · go_enter Try.func64, Try.ntmps64
    go_wp2_with fail
    refine (HL.out _).mono ?_
    rintro e w1 ⟨rfl, rfl⟩
    go_wp2
    go_ret
    exact ⟨rfl, (Below.refl _ _).alloc (Nat.le_refl _) _⟩
  cases bT
  · go_enter Try.func64, Try.ntmps64
    go_wp2_with fail
    refine (HL.out _).mono ?_
    rintro e w1 ⟨rfl, rfl⟩
    go_wp2_with fail
    refine (HT.out _).mono ?_
    rintro e w1 ⟨rfl, rfl⟩
    go_wp2
    go_ret
    exact ⟨rfl, (Below.refl _ _).alloc (Nat.le_refl _) _⟩
  cases bU
  · go_enter Try.func64, Try.ntmps64
    go_wp2_with fail
    refine (HL.out _).mono ?_
    rintro e w1 ⟨rfl, rfl⟩
    go_wp2_with fail
    refine (HT.out _).mono ?_
    rintro e w1 ⟨rfl, rfl⟩
    go_wp2_with fail
    refine (HU.out _ ((Below.refl _ _).alloc (Nat.le_refl _) _)).mono ?_
    rintro e w1 ⟨rfl, rfl⟩
    go_wp2
    go_ret
    exact ⟨rfl, (Below.refl _ _).alloc (Nat.le_refl _) _⟩
  go_enter Try.func64, Try.ntmps64
  go_wp2_with fail
  refine (HL.out _).mono ?_
  rintro e w1 ⟨rfl, rfl⟩
  go_wp2_with fail
  refine (HT.out _).mono ?_
  rintro e w1 ⟨rfl, rfl⟩
  go_wp2_with fail
  refine (HU.out _ ((Below.refl _ _).alloc (Nat.le_refl _) _)).mono ?_
  rintro e w1 ⟨rfl, rfl⟩
  go_wp2_with fail
  refine (unmasked_any f a c t an o A n k _).mono ?_
  rintro e w1 ⟨rfl, b1⟩
  have b2 := ((Below.refl _ _).alloc (Nat.le_refl _) _).trans (b1.mono (by simp))
  go_wp2
  go_ret
  exact ⟨rfl, b2⟩

end Go.Proofs.Ytfpfijggmfeejaa

namespace Go.Proofs.Ytfpfijggmfeejaa
set_option linter.unusedVariables false
set_option linter.unusedSimpArgs false
open Go.RowKit

theorem mayBe_any (f a c t an o : Int) (A : Option Addr) (n k : Nat) (vs : List Int) (w : World) (h : Rd w A n (iv vs)) (hn : n ≤ 1000000) :
    Calls Try.prog 41 #[.agg #[.int .i64 f, .int .i64 a, .int .i64 c, .slice A n k, .int .i64 t, .int .i64 an, .int .i64 o]] w fun e w' => e = .returned (.bool (mayB f a c vs t an o)) ∧ Below w.heap.size w w' := by
  have hl : vs.length = n := by rw [← iv_length]; exact h.1
  by_cases h1 : f = 1
  · subst h1
    have HM := hide (fun W (b : Below w.heap.size w W) => reads_any 1 a c t an o 2000 (by omega) A n k W)
    rw [show mayB 1 a c vs t an o = readsB a c n t an o 2000 from by simp [mayB, hl]]
    clear h
    go_enter Try.func41, Try.ntmps41
    go_wp2_with fail
    refine (HM.out _ ((Below.refl _ _).alloc (Nat.le_refl _) _)).mono ?_
    rintro e w1 ⟨rfl, b1⟩
    have b2 := ((Below.refl _ _).alloc (Nat.le_refl _) _).trans (b1.mono (by simp))
    go_wp2
    go_ret
    exact ⟨rfl, b2⟩
  by_cases h2 : f = 2
  · subst h2
    have HM := hide (fun W (b : Below w.heap.size w W) => reads_any 2 a c t an o 2000 (by omega) A n k W)
    rw [show mayB 2 a c vs t an o = readsB a c n t an o 2000 from by simp [mayB, hl]]
    clear h
    go_enter Try.func41, Try.ntmps41
    go_wp2_with fail
    refine (HM.out _ ((Below.refl _ _).alloc (Nat.le_refl _) _)).mono ?_
    rintro e w1 ⟨rfl, b1⟩
    have b2 := ((Below.refl _ _).alloc (Nat.le_refl _) _).trans (b1.mono (by simp))
    go_wp2
    go_ret
    exact ⟨rfl, b2⟩
  by_cases h3 : f = 3
  · subst h3
    have HM := hide (fun W (b : Below w.heap.size w W) => reads_any 3 a c t an o 125 (by omega) A n k W)
    rw [show mayB 3 a c vs t an o = readsB a c n t an o 125 from by simp [mayB, hl]]
    clear h
    go_enter Try.func41, Try.ntmps41
    go_wp2_with fail
    refine (HM.out _ ((Below.refl _ _).alloc (Nat.le_refl _) _)).mono ?_
    rintro e w1 ⟨rfl, b1⟩
    have b2 := ((Below.refl _ _).alloc (Nat.le_refl _) _).trans (b1.mono (by simp))
    go_wp2
    go_ret
    exact ⟨rfl, b2⟩
  by_cases h4 : f = 4
  · subst h4
    have HM := hide (fun W (b : Below w.heap.size w W) => reads_any 4 a c t an o 125 (by omega) A n k W)
    rw [show mayB 4 a c vs t an o = readsB a c n t an o 125 from by simp [mayB, hl]]
    clear h
    go_enter Try.func41, Try.ntmps41
    go_wp2_with fail
    refine (HM.out _ ((Below.refl _ _).alloc (Nat.le_refl _) _)).mono ?_
    rintro e w1 ⟨rfl, b1⟩
    have b2 := ((Below.refl _ _).alloc (Nat.le_refl _) _).trans (b1.mono (by simp))
    go_wp2
    go_ret
    exact ⟨rfl, b2⟩
  by_cases h5 : f = 5
  · subst h5
    have HM := hide (fun W (b : Below w.heap.size w W) => writesOne_any 5 a c t an o 1 A n k vs W (h.keep b) hn)
    rw [show mayB 5 a c vs t an o = oneB a c vs t an o 1 from by simp [mayB, hl]]
    clear h
    go_enter Try.func41, Try.ntmps41
    go_wp2_with fail
    refine (HM.out _ ((Below.refl _ _).alloc (Nat.le_refl _) _)).mono ?_
    rintro e w1 ⟨rfl, b1⟩
    have b2 := ((Below.refl _ _).alloc (Nat.le_refl _) _).trans (b1.mono (by simp))
    go_wp2
    go_ret
    exact ⟨rfl, b2⟩
  by_cases h6 : f = 6
  · subst h6
    have HM := hide (fun W (b : Below w.heap.size w W) => writesOne_any 6 a c t an o 65535 A n k vs W (h.keep b) hn)
    rw [show mayB 6 a c vs t an o = oneB a c vs t an o 65535 from by simp [mayB, hl]]
    clear h
    go_enter Try.func41, Try.ntmps41
    go_wp2_with fail
    refine (HM.out _ ((Below.refl _ _).alloc (Nat.le_refl _) _)).mono ?_
    rintro e w1 ⟨rfl, b1⟩
    have b2 := ((Below.refl _ _).alloc (Nat.le_refl _) _).trans (b1.mono (by simp))
    go_wp2
    go_ret
    exact ⟨rfl, b2⟩
  by_cases h15 : f = 15
  · subst h15
    have HM := hide (fun W (b : Below w.heap.size w W) => writesMany_any 15 a c t an o 1968 1 (by omega) A n k vs W (h.keep b) hn)
    rw [show mayB 15 a c vs t an o = manyB a c vs t an o 1968 1 from by simp [mayB, hl]]
    clear h
    go_enter Try.func41, Try.ntmps41
    go_wp2_with fail
    refine (HM.out _ ((Below.refl _ _).alloc (Nat.le_refl _) _)).mono ?_
    rintro e w1 ⟨rfl, b1⟩
    have b2 := ((Below.refl _ _).alloc (Nat.le_refl _) _).trans (b1.mono (by simp))
    go_wp2
    go_ret
    exact ⟨rfl, b2⟩
  by_cases h16 : f = 16
  · subst h16
    have HM := hide (fun W (b : Below w.heap.size w W) => writesMany_any 16 a c t an o 123 65535 (by omega) A n k vs W (h.keep b) hn)
    rw [show mayB 16 a c vs t an o = manyB a c vs t an o 123 65535 from by simp [mayB, hl]]
    clear h
    go_enter Try.func41, Try.ntmps41
    go_wp2_with fail
    refine (HM.out _ ((Below.refl _ _).alloc (Nat.le_refl _) _)).mono ?_
    rintro e w1 ⟨rfl, b1⟩
    have b2 := ((Below.refl _ _).alloc (Nat.le_refl _) _).trans (b1.mono (by simp))
    go_wp2
    go_ret
    exact ⟨rfl, b2⟩
  by_cases h22 : f = 22
  · subst h22
    have HM := hide (fun W (b : Below w.heap.size w W) => masks_any 22 a c t an o A n k W)
    rw [show mayB 22 a c vs t an o = masksB a c n t an o from by simp [mayB, hl]]
    clear h
    go_enter Try.func41, Try.ntmps41
    go_wp2_with fail
    refine (HM.out _ ((Below.refl _ _).alloc (Nat.le_refl _) _)).mono ?_
    rintro e w1 ⟨rfl, b1⟩
    have b2 := ((Below.refl _ _).alloc (Nat.le_refl _) _).trans (b1.mono (by simp))
    go_wp2
    go_ret
    exact ⟨rfl, b2⟩
  by_cases h23 : f = 23
  · subst h23
    have HM := hide (fun W (b : Below w.heap.size w W) => swaps_any 23 a c t an o A n k vs W (h.keep b) hn)
    rw [show mayB 23 a c vs t an o = swapsB a c vs t an o from by simp [mayB, hl]]
    clear h
    go_enter Try.func41, Try.ntmps41
    go_wp2_with fail
    refine (HM.out _ ((Below.refl _ _).alloc (Nat.le_refl _) _)).mono ?_
    rintro e w1 ⟨rfl, b1⟩
    have b2 := ((Below.refl _ _).alloc (Nat.le_refl _) _).trans (b1.mono (by simp))
    go_wp2
    go_ret
    exact ⟨rfl, b2⟩
  rw [show mayB f a c vs t an o = false from by simp [mayB, *]]
  replace h1 := ne_beq h1; replace h2 := ne_beq h2; replace h3 := ne_beq h3; replace h4 := ne_beq h4; replace h5 := ne_beq h5; replace h6 := ne_beq h6; replace h15 := ne_beq h15; replace h16 := ne_beq h16; replace h22 := ne_beq h22; replace h23 := ne_beq h23
  clear h
  go_enter Try.func41, Try.ntmps41
  go_wp2
  go_ret
  exact ⟨rfl, (Below.refl _ _).alloc (Nat.le_refl _) _⟩

theorem check_any (f a c t an o : Int) (A : Option Addr) (n k : Nat) (vs : List Int) (w : World) (h : Rd w A n (iv vs)) (hn : n ≤ 1000000) :
    Calls Try.prog 22 #[.agg #[.int .i64 f, .int .i64 a, .int .i64 c, .slice A n k, .int .i64 t, .int .i64 an, .int .i64 o]] w fun e w' => e = .returned (.int .i64 (if mayB f a c vs t an o then 0 else 1)) ∧ Below w.heap.size w w' := by
  have HM := hide (fun W (b : Below w.heap.size w W) => mayBe_any f a c t an o A n k vs W (h.keep b) hn)
  clear h
  generalize mayB f a c vs t an o = bM at *
  cases bM
  all_goals
    go_enter Try.func22, Try.ntmps22
    go_wp2_with fail
    refine (HM.out _ ((Below.refl _ _).alloc (Nat.le_refl _) _)).mono ?_
    rintro e w1 ⟨rfl, b1⟩
    have b2 := ((Below.refl _ _).alloc (Nat.le_refl _) _).trans (b1.mono (by simp))
    go_wp2
    go_ret
    exact ⟨rfl, b2⟩

theorem mayAnswer_any (f a c t an o code : Int) (A B : Option Addr) (n k m d : Nat) (us : List Int) (w : World) (h : Rd w B m (iv us)) (hm : m ≤ 1000000) :
    Calls Try.prog 52 #[.agg #[.int .i64 f, .int .i64 a, .int .i64 c, .slice A n k, .int .i64 t, .int .i64 an, .int .i64 o], .agg #[.slice B m d, .int .i64 code]] w fun e w' => e = .returned (.bool (ansMayB f c code us)) ∧ Below w.heap.size w w' := by
  have hl : us.length = m := by rw [← iv_length]; exact h.1
  unfold ansMayB
  rw [hl]
  have hm' : (m == 0) = ((m : Int) == 0) := by rw [Bool.eq_iff_iff]; simp
  rw [hm']
  by_cases hc0 : code = 0
  · subst hc0
    rw [if_pos rfl]
    by_cases h1 : f = 1
    · subst h1
      rw [if_pos (Or.inl rfl)]
      cases hc : (m : Int) == c
      · go_enter Try.func52, Try.ntmps52
        go_wp2
        go_ret
        exact ⟨rfl, ((Below.refl _ _).alloc (Nat.le_refl _) _).alloc (by simp) _⟩
      have HM := hide (fun W (b : Below w.heap.size w W) => upTo_any B m d us 1 W (h.keep b) hm)
      clear h
      generalize upToB us 1 = bU at *
      go_enter Try.func52, Try.ntmps52
      go_wp2_with fail
      refine (HM.out _ (((Below.refl _ _).alloc (Nat.le_refl _) _).alloc (by simp) _)).mono ?_
      rintro e w1 ⟨rfl, rfl⟩
      go_wp2
      go_ret
      exact ⟨rfl, ((Below.refl _ _).alloc (Nat.le_refl _) _).alloc (by simp) _⟩
    by_cases h2 : f = 2
    · subst h2
      rw [if_pos (Or.inr rfl)]
      cases hc : (m : Int) == c
      · go_enter Try.func52, Try.ntmps52
        go_wp2
        go_ret
        exact ⟨rfl, ((Below.refl _ _).alloc (Nat.le_refl _) _).alloc (by simp) _⟩
      have HM := hide (fun W (b : Below w.heap.size w W) => upTo_any B m d us 1 W (h.keep b) hm)
      clear h
      generalize upToB us 1 = bU at *
      go_enter Try.func52, Try.ntmps52
      go_wp2_with fail
      refine (HM.out _ (((Below.refl _ _).alloc (Nat.le_refl _) _).alloc (by simp) _)).mono ?_
      rintro e w1 ⟨rfl, rfl⟩
      go_wp2
      go_ret
      exact ⟨rfl, ((Below.refl _ _).alloc (Nat.le_refl _) _).alloc (by simp) _⟩
    rw [if_neg (by omega)]
    by_cases h3 : f = 3
    · subst h3
      rw [if_pos (by omega)]
      cases hc : (m : Int) == c
      · go_enter Try.func52, Try.ntmps52
        go_wp2
        go_ret
        exact ⟨rfl, ((Below.refl _ _).alloc (Nat.le_refl _) _).alloc (by simp) _⟩
      have HM := hide (fun W (b : Below w.heap.size w W) => upTo_any B m d us 65535 W (h.keep b) hm)
      clear h
      generalize upToB us 65535 = bU at *
      go_enter Try.func52, Try.ntmps52
      go_wp2_with fail
      refine (HM.out _ (((Below.refl _ _).alloc (Nat.le_refl _) _).alloc (by simp) _)).mono ?_
      rintro e w1 ⟨rfl, rfl⟩
      go_wp2
      go_ret
      exact ⟨rfl, ((Below.refl _ _).alloc (Nat.le_refl _) _).alloc (by simp) _⟩
    by_cases h4 : f = 4
    · subst h4
      rw [if_pos (by omega)]
      cases hc : (m : Int) == c
      · go_enter Try.func52, Try.ntmps52
        go_wp2
        go_ret
        exact ⟨rfl, ((Below.refl _ _).alloc (Nat.le_refl _) _).alloc (by simp) _⟩
      have HM := hide (fun W (b : Below w.heap.size w W) => upTo_any B m d us 65535 W (h.keep b) hm)
      clear h
      generalize upToB us 65535 = bU at *
      go_enter Try.func52, Try.ntmps52
      go_wp2_with fail
      refine (HM.out _ (((Below.refl _ _).alloc (Nat.le_refl _) _).alloc (by simp) _)).mono ?_
      rintro e w1 ⟨rfl, rfl⟩
      go_wp2
      go_ret
      exact ⟨rfl, ((Below.refl _ _).alloc (Nat.le_refl _) _).alloc (by simp) _⟩
    by_cases h23 : f = 23
    · subst h23
      rw [if_pos (by omega)]
      cases hc : (m : Int) == c
      · go_enter Try.func52, Try.ntmps52
        go_wp2
        go_ret
        exact ⟨rfl, ((Below.refl _ _).alloc (Nat.le_refl _) _).alloc (by simp) _⟩
      have HM := hide (fun W (b : Below w.heap.size w W) => upTo_any B m d us 65535 W (h.keep b) hm)
      clear h
      generalize upToB us 65535 = bU at *
      go_enter Try.func52, Try.ntmps52
      go_wp2_with fail
      refine (HM.out _ (((Below.refl _ _).alloc (Nat.le_refl _) _).alloc (by simp) _)).mono ?_
      rintro e w1 ⟨rfl, rfl⟩
      go_wp2
      go_ret
      exact ⟨rfl, ((Below.refl _ _).alloc (Nat.le_refl _) _).alloc (by simp) _⟩
    rw [if_neg (by omega)]
    replace h1 := ne_beq h1; replace h2 := ne_beq h2; replace h3 := ne_beq h3; replace h4 := ne_beq h4; replace h23 := ne_beq h23
    go_enter Try.func52, Try.ntmps52
    go_wp2
    go_ret
    exact ⟨rfl, ((Below.refl _ _).alloc (Nat.le_refl _) _).alloc (by simp) _⟩
  · rw [if_neg hc0]
    have hc1 : (code != 0) = true := by rw [bne_iff_ne]; exact hc0
    cases h1 : decide (0 < code)
    · go_enter Try.func52, Try.ntmps52
      go_wp2
      go_ret
      exact ⟨rfl, ((Below.refl _ _).alloc (Nat.le_refl _) _).alloc (by simp) _⟩
    cases h2 : decide (code ≤ 255)
    all_goals
      go_enter Try.func52, Try.ntmps52
      go_wp2
      go_ret
      exact ⟨rfl, ((Below.refl _ _).alloc (Nat.le_refl _) _).alloc (by simp) _⟩

end Go.Proofs.Ytfpfijggmfeejaa
