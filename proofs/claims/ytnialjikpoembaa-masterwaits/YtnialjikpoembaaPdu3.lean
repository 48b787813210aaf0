/-
  What is proved here: what pdu's mayBe, mayAnswer and Check return. Condition: at most a million values.
-/
import Derived.Test.YtnialjikpoembaaPdu2
namespace Go.Proofs.Ytnialjikpoembaa
set_option linter.unusedVariables false
set_option linter.unusedSimpArgs false
open Go.RowKit

theorem mayBe_any (f a c t an o : Int) (A : Option Addr) (n k : Nat) (vs : List Int) (w : World) (h : Rd w A n (iv vs)) (hn : n ≤ 1000000) :
    Calls Try.prog 45 #[.agg #[.int .i64 f, .int .i64 a, .int .i64 c, .slice A n k, .int .i64 t, .int .i64 an, .int .i64 o]] w fun e w' => e = .returned (.bool (mayB f a c vs t an o)) ∧ Below w.heap.size w w' := by
  have hl : vs.length = n := by rw [← iv_length]; exact h.1
  by_cases h1 : f = 1
  · subst h1
    have HM := hide (fun W (b : Below w.heap.size w W) => reads_any 1 a c t an o 2000 (by omega) A n k W)
    rw [show mayB 1 a c vs t an o = readsB a c n t an o 2000 from by simp [mayB, hl]]
    clear h
    go_enter Try.func45, Try.ntmps45
    go_wp2_with fail
    refine (HM.out _ ((Below.refl _ _).alloc (Nat.le_refl _) _)).mono ?_
    rintro e w1 ⟨rfl, b1⟩
    have b2 := ((Below.refl _ _).alloc (Nat.le_refl _) _).trans (b1.mono (by simp))
    go_wp2
    go_ret
    exact ⟨rfl, b2⟩
  by_cases h2 : f = 2
  · subst h2
    have HM := hide (fun W (b : Below w.heap.size w W) => reads_any 2 a c t an o 2000 (by omega) A n k W)
    rw [show mayB 2 a c vs t an o = readsB a c n t an o 2000 from by simp [mayB, hl]]
    clear h
    go_enter Try.func45, Try.ntmps45
    go_wp2_with fail
    refine (HM.out _ ((Below.refl _ _).alloc (Nat.le_refl _) _)).mono ?_
    rintro e w1 ⟨rfl, b1⟩
    have b2 := ((Below.refl _ _).alloc (Nat.le_refl _) _).trans (b1.mono (by simp))
    go_wp2
    go_ret
    exact ⟨rfl, b2⟩
  by_cases h3 : f = 3
  · subst h3
    have HM := hide (fun W (b : Below w.heap.size w W) => reads_any 3 a c t an o 125 (by omega) A n k W)
    rw [show mayB 3 a c vs t an o = readsB a c n t an o 125 from by simp [mayB, hl]]
    clear h
    go_enter Try.func45, Try.ntmps45
    go_wp2_with fail
    refine (HM.out _ ((Below.refl _ _).alloc (Nat.le_refl _) _)).mono ?_
    rintro e w1 ⟨rfl, b1⟩
    have b2 := ((Below.refl _ _).alloc (Nat.le_refl _) _).trans (b1.mono (by simp))
    go_wp2
    go_ret
    exact ⟨rfl, b2⟩
  by_cases h4 : f = 4
  · subst h4
    have HM := hide (fun W (b : Below w.heap.size w W) => reads_any 4 a c t an o 125 (by omega) A n k W)
    rw [show mayB 4 a c vs t an o = readsB a c n t an o 125 from by simp [mayB, hl]]
    clear h
    go_enter Try.func45, Try.ntmps45
    go_wp2_with fail
    refine (HM.out _ ((Below.refl _ _).alloc (Nat.le_refl _) _)).mono ?_
    rintro e w1 ⟨rfl, b1⟩
    have b2 := ((Below.refl _ _).alloc (Nat.le_refl _) _).trans (b1.mono (by simp))
    go_wp2
    go_ret
    exact ⟨rfl, b2⟩
  by_cases h5 : f = 5
  · subst h5
    have HM := hide (fun W (b : Below w.heap.size w W) => writesOne_any 5 a c t an o 1 A n k vs W (h.keep b) hn)
    rw [show mayB 5 a c vs t an o = oneB a c vs t an o 1 from by simp [mayB, hl]]
    clear h
    go_enter Try.func45, Try.ntmps45
    go_wp2_with fail
    refine (HM.out _ ((Below.refl _ _).alloc (Nat.le_refl _) _)).mono ?_
    rintro e w1 ⟨rfl, b1⟩
    have b2 := ((Below.refl _ _).alloc (Nat.le_refl _) _).trans (b1.mono (by simp))
    go_wp2
    go_ret
    exact ⟨rfl, b2⟩
  by_cases h6 : f = 6
  · subst h6
    have HM := hide (fun W (b : Below w.heap.size w W) => writesOne_any 6 a c t an o 65535 A n k vs W (h.keep b) hn)
    rw [show mayB 6 a c vs t an o = oneB a c vs t an o 65535 from by simp [mayB, hl]]
    clear h
    go_enter Try.func45, Try.ntmps45
    go_wp2_with fail
    refine (HM.out _ ((Below.refl _ _).alloc (Nat.le_refl _) _)).mono ?_
    rintro e w1 ⟨rfl, b1⟩
    have b2 := ((Below.refl _ _).alloc (Nat.le_refl _) _).trans (b1.mono (by simp))
    go_wp2
    go_ret
    exact ⟨rfl, b2⟩
  by_cases h15 : f = 15
  · subst h15
    have HM := hide (fun W (b : Below w.heap.size w W) => writesMany_any 15 a c t an o 1968 1 (by omega) A n k vs W (h.keep b) hn)
    rw [show mayB 15 a c vs t an o = manyB a c vs t an o 1968 1 from by simp [mayB, hl]]
    clear h
    go_enter Try.func45, Try.ntmps45
    go_wp2_with fail
    refine (HM.out _ ((Below.refl _ _).alloc (Nat.le_refl _) _)).mono ?_
    rintro e w1 ⟨rfl, b1⟩
    have b2 := ((Below.refl _ _).alloc (Nat.le_refl _) _).trans (b1.mono (by simp))
    go_wp2
    go_ret
    exact ⟨rfl, b2⟩
  by_cases h16 : f = 16
  · subst h16
    have HM := hide (fun W (b : Below w.heap.size w W) => writesMany_any 16 a c t an o 123 65535 (by omega) A n k vs W (h.keep b) hn)
    rw [show mayB 16 a c vs t an o = manyB a c vs t an o 123 65535 from by simp [mayB, hl]]
    clear h
    go_enter Try.func45, Try.ntmps45
    go_wp2_with fail
    refine (HM.out _ ((Below.refl _ _).alloc (Nat.le_refl _) _)).mono ?_
    rintro e w1 ⟨rfl, b1⟩
    have b2 := ((Below.refl _ _).alloc (Nat.le_refl _) _).trans (b1.mono (by simp))
    go_wp2
    go_ret
    exact ⟨rfl, b2⟩
  by_cases h22 : f = 22
  · subst h22
    have HM := hide (fun W (b : Below w.heap.size w W) => masks_any 22 a c t an o A n k W)
    rw [show mayB 22 a c vs t an o = masksB a c n t an o from by simp [mayB, hl]]
    clear h
    go_enter Try.func45, Try.ntmps45
    go_wp2_with fail
    refine (HM.out _ ((Below.refl _ _).alloc (Nat.le_refl _) _)).mono ?_
    rintro e w1 ⟨rfl, b1⟩
    have b2 := ((Below.refl _ _).alloc (Nat.le_refl _) _).trans (b1.mono (by simp))
    go_wp2
    go_ret
    exact ⟨rfl, b2⟩
  by_cases h23 : f = 23
  · subst h23
    have HM := hide (fun W (b : Below w.heap.size w W) => swaps_any 23 a c t an o A n k vs W (h.keep b) hn)
    rw [show mayB 23 a c vs t an o = swapsB a c vs t an o from by simp [mayB, hl]]
    clear h
    go_enter Try.func45, Try.ntmps45
    go_wp2_with fail
    refine (HM.out _ ((Below.refl _ _).alloc (Nat.le_refl _) _)).mono ?_
    rintro e w1 ⟨rfl, b1⟩
    have b2 := ((Below.refl _ _).alloc (Nat.le_refl _) _).trans (b1.mono (by simp))
    go_wp2
    go_ret
    exact ⟨rfl, b2⟩
  rw [show mayB f a c vs t an o = false from by simp [mayB, *]]
  replace h1 := ne_beq h1; replace h2 := ne_beq h2; replace h3 := ne_beq h3; replace h4 := ne_beq h4; replace h5 := ne_beq h5; replace h6 := ne_beq h6; replace h15 := ne_beq h15; replace h16 := ne_beq h16; replace h22 := ne_beq h22; replace h23 := ne_beq h23
  clear h
  go_enter Try.func45, Try.ntmps45
  go_wp2
  go_ret
  exact ⟨rfl, (Below.refl _ _).alloc (Nat.le_refl _) _⟩

theorem check_any (f a c t an o : Int) (A : Option Addr) (n k : Nat) (vs : List Int) (w : World) (h : Rd w A n (iv vs)) (hn : n ≤ 1000000) :
    Calls Try.prog 26 #[.agg #[.int .i64 f, .int .i64 a, .int .i64 c, .slice A n k, .int .i64 t, .int .i64 an, .int .i64 o]] w fun e w' => e = .returned (.int .i64 (if mayB f a c vs t an o then 0 else 1)) ∧ Below w.heap.size w w' := by
  have HM := hide (fun W (b : Below w.heap.size w W) => mayBe_any f a c t an o A n k vs W (h.keep b) hn)
  clear h
  generalize mayB f a c vs t an o = bM at *
  cases bM
  all_goals
    go_enter Try.func26, Try.ntmps26
    go_wp2_with fail
    refine (HM.out _ ((Below.refl _ _).alloc (Nat.le_refl _) _)).mono ?_
    rintro e w1 ⟨rfl, b1⟩
    have b2 := ((Below.refl _ _).alloc (Nat.le_refl _) _).trans (b1.mono (by simp))
    go_wp2
    go_ret
    exact ⟨rfl, b2⟩

theorem mayAnswer_any (f a c t an o code : Int) (A B : Option Addr) (n k m d : Nat) (us : List Int) (w : World) (h : Rd w B m (iv us)) (hm : m ≤ 1000000) :
    Calls Try.prog 55 #[.agg #[.int .i64 f, .int .i64 a, .int .i64 c, .slice A n k, .int .i64 t, .int .i64 an, .int .i64 o], .agg #[.slice B m d, .int .i64 code]] w fun e w' => e = .returned (.bool (ansMayB f c code us)) ∧ Below w.heap.size w w' := by
  have hl : us.length = m := by rw [← iv_length]; exact h.1
  unfold ansMayB
  rw [hl]
  have hm' : (m == 0) = ((m : Int) == 0) := by rw [Bool.eq_iff_iff]; simp
  rw [hm']
  by_cases hc0 : code = 0
  · subst hc0
    rw [if_pos rfl]
    by_cases h1 : f = 1
    · subst h1
      rw [if_pos (Or.inl rfl)]
      cases hc : (m : Int) == c
      · go_enter Try.func55, Try.ntmps55
        go_wp2
        go_ret
        exact ⟨rfl, ((Below.refl _ _).alloc (Nat.le_refl _) _).alloc (by simp) _⟩
      have HM := hide (fun W (b : Below w.heap.size w W) => upTo_any B m d us 1 W (h.keep b) hm)
      clear h
      generalize upToB us 1 = bU at *
      go_enter Try.func55, Try.ntmps55
      go_wp2_with fail
      refine (HM.out _ (((Below.refl _ _).alloc (Nat.le_refl _) _).alloc (by simp) _)).mono ?_
      rintro e w1 ⟨rfl, rfl⟩
      go_wp2
      go_ret
      exact ⟨rfl, ((Below.refl _ _).alloc (Nat.le_refl _) _).alloc (by simp) _⟩
    by_cases h2 : f = 2
    · subst h2
      rw [if_pos (Or.inr rfl)]
      cases hc : (m : Int) == c
      · go_enter Try.func55, Try.ntmps55
        go_wp2
        go_ret
        exact ⟨rfl, ((Below.refl _ _).alloc (Nat.le_refl _) _).alloc (by simp) _⟩
      have HM := hide (fun W (b : Below w.heap.size w W) => upTo_any B m d us 1 W (h.keep b) hm)
      clear h
      generalize upToB us 1 = bU at *
      go_enter Try.func55, Try.ntmps55
      go_wp2_with fail
      refine (HM.out _ (((Below.refl _ _).alloc (Nat.le_refl _) _).alloc (by simp) _)).mono ?_
      rintro e w1 ⟨rfl, rfl⟩
      go_wp2
      go_ret
      exact ⟨rfl, ((Below.refl _ _).alloc (Nat.le_refl _) _).alloc (by simp) _⟩
    rw [if_neg (by omega)]
    by_cases h3 : f = 3
    · subst h3
      rw [if_pos (by omega)]
      cases hc : (m : Int) == c
      · go_enter Try.func55, Try.ntmps55
        go_wp2
        go_ret
        exact ⟨rfl, ((Below.refl _ _).alloc (Nat.le_refl _) _).alloc (by simp) _⟩
      have HM := hide (fun W (b : Below w.heap.size w W) => upTo_any B m d us 65535 W (h.keep b) hm)
      clear h
      generalize upToB us 65535 = bU at *
      go_enter Try.func55, Try.ntmps55
      go_wp2_with fail
      refine (HM.out _ (((Below.refl _ _).alloc (Nat.le_refl _) _).alloc (by simp) _)).mono ?_
      rintro e w1 ⟨rfl, rfl⟩
      go_wp2
      go_ret
      exact ⟨rfl, ((Below.refl _ _).alloc (Nat.le_refl _) _).alloc (by simp) _⟩
    by_cases h4 : f = 4
    · subst h4
      rw [if_pos (by omega)]
      cases hc : (m : Int) == c
      · go_enter Try.func55, Try.ntmps55
        go_wp2
        go_ret
        exact ⟨rfl, ((Below.refl _ _).alloc (Nat.le_refl _) _).alloc (by simp) _⟩
      have HM := hide (fun W (b : Below w.heap.size w W) => upTo_any B m d us 65535 W (h.keep b) hm)
      clear h
      generalize upToB us 65535 = bU at *
      go_enter Try.func55, Try.ntmps55
      go_wp2_with fail
      refine (HM.out _ (((Below.refl _ _).alloc (Nat.le_refl _) _).alloc (by simp) _)).mono ?_
      rintro e w1 ⟨rfl, rfl⟩
      go_wp2
      go_ret
      exact ⟨rfl, ((Below.refl _ _).alloc (Nat.le_refl _) _).alloc (by simp) _⟩
    by_cases h23 : f = 23
    · subst h23
      rw [if_pos (by omega)]
      cases hc : (m : Int) == c
      · go_enter Try.func55, Try.ntmps55
        go_wp2
        go_ret
        exact ⟨rfl, ((Below.refl _ _).alloc (Nat.le_refl _) _).alloc (by simp) _⟩
      have HM := hide (fun W (b : Below w.heap.size w W) => upTo_any B m d us 65535 W (h.keep b) hm)
      clear h
      generalize upToB us 65535 = bU at *
      go_enter Try.func55, Try.ntmps55
      go_wp2_with fail
      refine (HM.out _ (((Below.refl _ _).alloc (Nat.le_refl _) _).alloc (by simp) _)).mono ?_
      rintro e w1 ⟨rfl, rfl⟩
      go_wp2
      go_ret
      exact ⟨rfl, ((Below.refl _ _).alloc (Nat.le_refl _) _).alloc (by simp) _⟩
    rw [if_neg (by omega)]
    replace h1 := ne_beq h1; replace h2 := ne_beq h2; replace h3 := ne_beq h3; replace h4 := ne_beq h4; replace h23 := ne_beq h23
    go_enter Try.func55, Try.ntmps55
    go_wp2
    go_ret
    exact ⟨rfl, ((Below.refl _ _).alloc (Nat.le_refl _) _).alloc (by simp) _⟩
  · rw [if_neg hc0]
    have hc1 : (code != 0) = true := by rw [bne_iff_ne]; exact hc0
    cases h1 : decide (0 < code)
    · go_enter Try.func55, Try.ntmps55
      go_wp2
      go_ret
      exact ⟨rfl, ((Below.refl _ _).alloc (Nat.le_refl _) _).alloc (by simp) _⟩
    cases h2 : decide (code ≤ 255)
    all_goals
      go_enter Try.func55, Try.ntmps55
      go_wp2
      go_ret
      exact ⟨rfl, ((Below.refl _ _).alloc (Nat.le_refl _) _).alloc (by simp) _⟩

end Go.Proofs.Ytnialjikpoembaa
