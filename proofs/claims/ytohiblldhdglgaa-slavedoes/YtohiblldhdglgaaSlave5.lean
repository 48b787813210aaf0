/-
  What is proved here: what slave's write does for each request that may be, once its span is there.
-/
import Derived.Test.YtohiblldhdglgaaSlave4
namespace Go.Proofs.Ytohiblldhdglgaa
set_option linter.unusedVariables false
set_option linter.unusedSimpArgs false
open Go.RowKit

theorem may_f {f a c t an o : Int} {vs : List Int} (h : mayB f a c vs t an o = true) : f = 1 ∨ f = 2 ∨ f = 3 ∨ f = 4 ∨ f = 5 ∨ f = 6 ∨ f = 15 ∨ f = 16 ∨ f = 22 ∨ f = 23 := by
  by_cases h1 : f = 1 ∨ f = 2 ∨ f = 3 ∨ f = 4 ∨ f = 5 ∨ f = 6 ∨ f = 15 ∨ f = 16 ∨ f = 22 ∨ f = 23
  · exact h1
  · rw [mayB, if_neg (by omega), if_neg (by omega), if_neg (by omega), if_neg (by omega), if_neg (by omega), if_neg (by omega), if_neg (by omega), if_neg (by omega)] at h
    cases h
theorem may_read {f a c t an o : Int} {vs : List Int} (h : mayB f a c vs t an o = true) (hf : f = 1 ∨ f = 2 ∨ f = 3 ∨ f = 4 ∨ f = 22) : vs.length = 0 := by
  rcases hf with rfl | rfl | rfl | rfl | rfl <;> simp [mayB, readsB, masksB] at h ⊢ <;> simp [h]
theorem may_mask {a c t an o : Int} {vs : List Int} (h : mayB 22 a c vs t an o = true) : (0 ≤ a ∧ a ≤ 65535) ∧ (0 ≤ an ∧ an ≤ 65535) ∧ (0 ≤ o ∧ o ≤ 65535) := by
  simp [mayB, masksB, isW] at h
  omega
theorem hasB_yes {R : Nat → List Int} {kind addr count : Int} (h : hasB R kind addr count = true) : 0 ≤ addr ∧ addr ≤ ((rowL R kind).length : Int) - count := by
  simpa [hasB] using h

theorem sWrite_all (lo hi g : Nat) (b : Nat → Nat) (R : Nat → List Int) (f a c t an o : Int) (A : Option Addr) (n nk : Nat) (vs : List Int) (w : World) (h : SlA 58 lo hi w g b R) (hv : Rd w A n (iv vs)) (hw : wellR R) (hM : mayB f a c vs t an o = true)
    (hB : hasB R (wrS f a n t).1 (wrS f a n t).2.1 (wrS f a n t).2.2 = true) :
    Calls Try.prog 27 #[.pointer (some ⟨g, 0, none⟩), .agg #[.int .i64 (wrS f a n t).1, .int .i64 (wrS f a n t).2.1, .int .i64 (wrS f a n t).2.2], .agg #[.int .i64 f, .int .i64 a, .int .i64 c, .slice A n nk, .int .i64 t, .int .i64 an, .int .i64 o]] w fun e w' =>
      e = .returned (.tuple #[]) ∧ SlA 58 lo hi w' g b (nextR R f a vs t an o) ∧ Oth lo hi w w' := by
  have hl : vs.length = n := by rw [← iv_length]; exact hv.1
  have hb := hasB_yes hB
  have none_ : ∀ f, (f = 1 ∨ f = 2 ∨ f = 3 ∨ f = 4) → mayB f a c vs t an o = true → Calls Try.prog 27 #[.pointer (some ⟨g, 0, none⟩), .agg #[.int .i64 (wrS f a n t).1, .int .i64 (wrS f a n t).2.1, .int .i64 (wrS f a n t).2.2], .agg #[.int .i64 f, .int .i64 a, .int .i64 c, .slice A n nk, .int .i64 t, .int .i64 an, .int .i64 o]] w fun e w' =>
      e = .returned (.tuple #[]) ∧ SlA 58 lo hi w' g b (nextR R f a vs t an o) ∧ Oth lo hi w w' := by
    intro f hf hM
    have h0 := may_read hM (by omega)
    rw [show wrS f a n t = (0, 0, 0) by unfold wrS; rw [if_neg (by omega), if_neg (by omega), if_neg (by omega), if_neg (by omega)], show nextR R f a vs t an o = R by unfold nextR; rw [if_neg (by omega), if_neg (by omega), if_neg (by omega)]]
    exact (sWrite_none lo hi g b R f a c t an o A n nk (by omega) w h (ne_beq (by omega))).mono fun e w' ⟨e1, e2⟩ => ⟨e1, h.keep e2, Oth.ofBelow e2 _ _⟩
  have r0 : rowL R 1 = R 0 := rowL_kind R 0 (by omega)
  have r2 : rowL R 3 = R 2 := rowL_kind R 2 (by omega)
  rcases may_f hM with rfl | rfl | rfl | rfl | rfl | rfl | rfl | rfl | rfl | rfl
  · exact none_ 1 (by omega) hM
  · exact none_ 2 (by omega) hM
  · exact none_ 3 (by omega) hM
  · exact none_ 4 (by omega) hM
  · simp only [wrS, true_or, if_true] at hb ⊢
    rw [r0] at hb
    exact sWrite_copy lo hi g b R 0 (by omega) 1 a n a.toNat n 5 a c t an o A n nk vs w h hv rfl (by omega) rfl rfl (hw 0 (by omega)).1 (by omega) rfl
  · simp only [wrS, show ¬ ((6 : Int) = 5 ∨ (6 : Int) = 15) by omega, if_false, true_or, if_true] at hb ⊢
    rw [r2] at hb
    exact sWrite_copy lo hi g b R 2 (by omega) 3 a n a.toNat n 6 a c t an o A n nk vs w h hv rfl (by omega) rfl rfl (hw 2 (by omega)).1 (by omega) rfl
  · simp only [show wrS 15 a n t = (1, a, (n : Int)) by simp [wrS]] at hb ⊢
    rw [r0] at hb
    exact sWrite_copy lo hi g b R 0 (by omega) 1 a n a.toNat n 15 a c t an o A n nk vs w h hv rfl (by omega) rfl rfl (hw 0 (by omega)).1 (by omega) rfl
  · simp only [show wrS 16 a n t = (3, a, (n : Int)) by simp [wrS]] at hb ⊢
    rw [r2] at hb
    exact sWrite_copy lo hi g b R 2 (by omega) 3 a n a.toNat n 16 a c t an o A n nk vs w h hv rfl (by omega) rfl rfl (hw 2 (by omega)).1 (by omega) rfl
  · simp only [wrS, show ¬ ((22 : Int) = 5 ∨ (22 : Int) = 15) by omega, show ¬ ((22 : Int) = 6 ∨ (22 : Int) = 16) by omega, if_false, if_true] at hb ⊢
    rw [r2] at hb
    obtain ⟨_, ha, ho⟩ := may_mask hM
    have hlt : a.toNat < (R 2).length := by omega
    have hx := List.getElem?_eq_getElem hlt
    have hwx := (hw 2 (by omega)).2 _ (List.getElem_mem hlt)
    have ex : (R 2)[a.toNat] = (((R 2)[a.toNat].toNat : Nat) : Int) := by omega
    have := sWrite_mask lo hi g b R a a.toNat (R 2)[a.toNat].toNat an.toNat o.toNat a c t A n nk w h (by omega) (hw 2 (by omega)).1 (by omega) (by rw [hx, ← ex]) (by omega) (by omega) (by omega)
    rw [show ((an.toNat : Nat) : Int) = an by omega, show ((o.toNat : Nat) : Int) = o by omega, ← ex] at this
    have en : nextR R 22 a vs t an o = upd R 2 (over (R 2) a.toNat [maskI (R 2)[a.toNat] an o]) := by
      simp [nextR, newV, r2, hx]
    rw [en]
    exact this
  · simp only [wrS, show ¬ ((23 : Int) = 5 ∨ (23 : Int) = 15) by omega, show ¬ ((23 : Int) = 6 ∨ (23 : Int) = 16) by omega, show ¬ ((23 : Int) = 22) by omega, if_false, if_true] at hb ⊢
    rw [r2] at hb
    exact sWrite_copy lo hi g b R 2 (by omega) 3 t n t.toNat n 23 a c t an o A n nk vs w h hv rfl (by omega) rfl rfl (hw 2 (by omega)).1 (by omega) rfl

theorem rdS_count {f a c t an o : Int} {vs : List Int} (h : mayB f a c vs t an o = true) : 0 ≤ (rdS f a c).2.2 ∧ (rdS f a c).2.2 ≤ 1000000 := by
  rcases may_f h with rfl | rfl | rfl | rfl | rfl | rfl | rfl | rfl | rfl | rfl <;> simp [mayB, readsB, liesB, swapsB] at h <;> simp [rdS] <;> omega
theorem wrS_count (f a t : Int) (n : Nat) (hn : n ≤ 1000000) : 0 ≤ (wrS f a n t).2.2 ∧ (wrS f a n t).2.2 ≤ 1000000 := by
  unfold wrS
  repeat' split
  all_goals simp only
  all_goals omega

/-- What is written fits, so no row gets longer. -/
theorem next_len {R : Nat → List Int} {f a c t an o : Int} {vs : List Int} (hM : mayB f a c vs t an o = true) (hB : hasB R (wrS f a vs.length t).1 (wrS f a vs.length t).2.1 (wrS f a vs.length t).2.2 = true) (k : Nat) : (nextR R f a vs t an o k).length = (R k).length := by
  have hb := hasB_yes hB
  have r0 : rowL R 1 = R 0 := rowL_kind R 0 (by omega)
  have r2 : rowL R 3 = R 2 := rowL_kind R 2 (by omega)
  have hu : ∀ (j at_ : Nat) (l : List Int), at_ + l.length ≤ (R j).length → (upd R j (over (R j) at_ l) k).length = (R k).length := by
    intro j at_ l hl
    by_cases e : k = j
    · subst e; rw [upd_same, over_length _ _ _ hl]
    · rw [upd_oth _ _ _ _ e]
  rcases may_f hM with rfl | rfl | rfl | rfl | rfl | rfl | rfl | rfl | rfl | rfl
  all_goals simp [wrS, r0, r2] at hb
  all_goals simp [nextR, newV]
  all_goals exact hu _ _ _ (by first | omega | (simp; omega))
theorem next_rowL {R : Nat → List Int} {f a c t an o : Int} {vs : List Int} (hM : mayB f a c vs t an o = true) (hB : hasB R (wrS f a vs.length t).1 (wrS f a vs.length t).2.1 (wrS f a vs.length t).2.2 = true) (kind : Int) : (rowL (nextR R f a vs t an o) kind).length = (rowL R kind).length := by
  rcases kind_or kind with ⟨k, hk, rfl⟩ | hn
  · rw [rowL_kind _ k hk, rowL_kind _ k hk]; exact next_len hM hB k
  · rw [rowL_no _ kind hn, rowL_no _ kind hn]
theorem mask_le (x an o : Int) (hx : 0 ≤ x ∧ x ≤ 65535) (ho : 0 ≤ o ∧ o ≤ 65535) : 0 ≤ maskI x an o ∧ maskI x an o ≤ 65535 := by
  unfold maskI
  have l1 : x.toNat &&& an.toNat < 2 ^ 16 := Nat.lt_of_le_of_lt Nat.and_le_left (by omega)
  have l2 : o.toNat &&& (65535 - an.toNat) < 2 ^ 16 := Nat.lt_of_le_of_lt Nat.and_le_left (by omega)
  have := Nat.or_lt_two_pow l1 l2
  omega
theorem may_vals {f a c t an o : Int} {vs : List Int} (h : mayB f a c vs t an o = true) : ∀ x ∈ vs, 0 ≤ x ∧ x ≤ 65535 := by
  intro x hx
  rcases may_f h with rfl | rfl | rfl | rfl | rfl | rfl | rfl | rfl | rfl | rfl <;> simp [mayB, readsB, liesB, swapsB, oneB, manyB, masksB, upToB] at h
  case inl => simp [h] at hx
  case inr.inl => simp [h] at hx
  case inr.inr.inl => simp [h] at hx
  case inr.inr.inr.inl => simp [h] at hx
  case inr.inr.inr.inr.inl => have := h.1.1.2 x hx; omega
  case inr.inr.inr.inr.inr.inl => have := h.1.1.2 x hx; omega
  case inr.inr.inr.inr.inr.inr.inl => have := h.1.1.2 x hx; omega
  case inr.inr.inr.inr.inr.inr.inr.inl => have := h.1.1.2 x hx; omega
  case inr.inr.inr.inr.inr.inr.inr.inr.inl => simp [h] at hx
  case inr.inr.inr.inr.inr.inr.inr.inr.inr => have := h.1.2 x hx; omega
theorem over_mem {l vs : List Int} {at_ : Nat} {x : Int} (h : x ∈ over l at_ vs) : x ∈ l ∨ x ∈ vs := by
  unfold over at h
  rw [List.mem_append, List.mem_append] at h
  rcases h with (h | h) | h
  · exact Or.inl (List.mem_of_mem_take h)
  · exact Or.inr h
  · exact Or.inl (List.mem_of_mem_drop h)
theorem well_upd {R : Nat → List Int} (hw : wellR R) (j : Nat) (hj : j < 4) (at_ : Nat) (vs : List Int) (hl : at_ + vs.length ≤ (R j).length) (hv : ∀ x ∈ vs, 0 ≤ x ∧ x ≤ 65535) : wellR (upd R j (over (R j) at_ vs)) := by
  intro k hk
  by_cases e : k = j
  · subst e
    rw [upd_same, over_length _ _ _ hl]
    refine ⟨(hw k hk).1, fun x hx => ?_⟩
    rcases over_mem hx with h | h
    · exact (hw k hk).2 x h
    · exact hv x h
  · rw [upd_oth _ _ _ _ e]
    exact hw k hk
theorem well_next {R : Nat → List Int} {f a c t an o : Int} {vs : List Int} (hw : wellR R) (hM : mayB f a c vs t an o = true) (hB : hasB R (wrS f a vs.length t).1 (wrS f a vs.length t).2.1 (wrS f a vs.length t).2.2 = true) : wellR (nextR R f a vs t an o) := by
  have hb := hasB_yes hB
  have hv := may_vals hM
  have r0 : rowL R 1 = R 0 := rowL_kind R 0 (by omega)
  have r2 : rowL R 3 = R 2 := rowL_kind R 2 (by omega)
  rcases may_f hM with rfl | rfl | rfl | rfl | rfl | rfl | rfl | rfl | rfl | rfl
  all_goals simp [wrS, r0, r2] at hb
  all_goals simp [nextR, newV]
  case inl => exact hw
  case inr.inl => exact hw
  case inr.inr.inl => exact hw
  case inr.inr.inr.inl => exact hw
  case inr.inr.inr.inr.inr.inr.inr.inr.inl =>
    obtain ⟨_, ha, ho⟩ := may_mask hM
    refine well_upd hw 2 (by omega) _ _ (by simp; omega) fun x hx => ?_
    have hlt : a.toNat < (R 2).length := by omega
    have ex : x = maskI ((R 2)[a.toNat]) an o := by simpa [r2, List.getElem?_eq_getElem hlt] using hx
    rw [ex]
    exact mask_le _ _ _ ((hw 2 (by omega)).2 _ (List.getElem_mem hlt)) ho
  all_goals exact well_upd hw _ (by omega) _ _ (by omega) hv

end Go.Proofs.Ytohiblldhdglgaa
