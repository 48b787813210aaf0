/-
  What is proved here: what the walk of SlaveReads needs of slaves and of lists. No condition of its own.
-/
import Derived.Test.YtohiblldhdglgaaAll4
import Derived.Test.YtohiblldhdglgaaDoMath
namespace Go.Proofs.Ytohiblldhdglgaa
set_option linter.unusedVariables false
set_option linter.unusedSimpArgs false
open Go.RowKit

/-- Set, whatever is asked: a slave is left a slave, with rows as long. -/
theorem sSet_some (lo hi g : Nat) (b : Nat → Nat) (R : Nat → List Int) (kind addr value : Int) (w : World) (h : SlA 58 lo hi w g b R) (hw : wellR R) :
    Calls Try.prog 15 #[.pointer (some ⟨g, 0, none⟩), .int .i64 kind, .int .i64 addr, .int .i64 value] w fun e w' =>
      ∃ v R', e = .returned v ∧ SlA 58 lo hi w' g b R' ∧ wellR R' ∧ (∀ k, (R' k).length = (R k).length) ∧ Oth lo hi w w' := by
  cases hB : setB R kind addr value
  · exact (sSet_no lo hi g b R kind addr value w h hw hB).mono fun e w' ⟨h1, h2⟩ => ⟨_, R, h1, h.keep h2, hw, fun _ => rfl, Oth.ofBelow h2 _ _⟩
  · refine (sSet_yes lo hi g b R kind addr value w h hw hB).mono fun e w' ⟨h1, h2, h3⟩ => ⟨_, _, h1, h2, setR_well hw hB, ?_, h3⟩
    intro k
    unfold setB at hB
    rw [Bool.and_eq_true] at hB
    obtain ⟨j, hj, rfl, h4, h5⟩ := hasB_kind hB.1 (by omega)
    rw [setR_upd]
    by_cases e : k = j
    · subst e
      rw [upd_same, over_length _ _ _ (by simp; omega)]
    · rw [upd_oth _ _ _ _ e]

theorem SlA.congr {tS : TypeId} {lo hi : Nat} {w : World} {g : Nat} {b : Nat → Nat} {R R' : Nat → List Int} (h : SlA tS lo hi w g b R) (e : ∀ k, k < 4 → R k = R' k) : SlA tS lo hi w g b R' := by
  refine ⟨?_, fun k hk => by rw [← e k hk]; exact h.row k hk, h.gl, h.gh, h.bl, h.ap, h.hi⟩
  have hs := h.str
  unfold rowV at hs ⊢
  rw [← e 0 (by omega), ← e 1 (by omega), ← e 2 (by omega), ← e 3 (by omega)]
  exact hs

theorem upd_self (R : Nat → List Int) (k : Nat) : upd R k (R k) = R := by
  funext j
  unfold upd
  split
  · subst j; rfl
  · rfl

/-- Rows copied up to row k, element i. -/
def mixR (R N : Nat → List Int) (k i : Nat) : Nat → List Int := fun j => if j < k then R j else if j = k then (R k).take i ++ (N k).drop i else N j
theorem mix_zero (R N : Nat → List Int) : mixR R N 0 0 = N := by
  funext j
  unfold mixR
  rw [if_neg (by omega)]
  split
  · subst j; simp
  · rfl
theorem mix_row (R N : Nat → List Int) (k : Nat) (hl : (R k).length = (N k).length) : mixR R N k (R k).length = mixR R N (k + 1) 0 := by
  funext j
  unfold mixR
  by_cases h1 : j < k
  · rw [if_pos h1, if_pos (by omega)]
  · by_cases h2 : j = k
    · subst h2
      rw [if_neg h1, if_pos rfl, if_pos (by omega), List.take_length, List.drop_of_length_le (by omega), List.append_nil]
    · rw [if_neg h1, if_neg h2, if_neg (by omega)]
      split
      · subst j; simp
      · rfl
theorem mix_len (R N : Nat → List Int) (k i j : Nat) (hl : ∀ k, (R k).length = (N k).length) : (mixR R N k i j).length = (R j).length := by
  unfold mixR
  split
  · rfl
  · split
    · subst j; simp [← hl k]; omega
    · exact (hl j).symm
theorem mix_all (R N : Nat → List Int) (j : Nat) (hj : j < 4) : mixR R N 4 0 j = R j := by
  unfold mixR
  rw [if_pos hj]
theorem mix_step (R N : Nat → List Int) (k i : Nat) (hi : i < (R k).length) (hl : ∀ k, (R k).length = (N k).length) : upd (mixR R N k i) k (over (mixR R N k i k) i [(R k)[i]]) = mixR R N k (i + 1) := by
  funext j
  by_cases e : j = k
  · subst e
    rw [upd_same]
    have hN := hl j
    have e1 : mixR R N j i j = (R j).take i ++ (N j).drop i := by unfold mixR; rw [if_neg (by omega), if_pos rfl]
    have e2 : mixR R N j (i + 1) j = (R j).take (i + 1) ++ (N j).drop (i + 1) := by unfold mixR; rw [if_neg (by omega), if_pos rfl]
    rw [e1, e2]
    unfold over
    have t1 : ((R j).take i ++ (N j).drop i).take i = (R j).take i := by
      rw [List.take_append_of_le_length (by simp; omega), List.take_of_length_le (by simp; omega)]
    have t2 : ((R j).take i ++ (N j).drop i).drop (i + 1) = (N j).drop (i + 1) := by
      rw [List.drop_append, List.drop_of_length_le (by simp; omega), List.nil_append, List.drop_drop]
      congr 1
      simp
      omega
    simp only [List.length_cons, List.length_nil, Nat.zero_add]
    rw [t1, t2, List.take_succ_eq_append_getElem hi]
  · rw [upd_oth _ _ _ _ e]
    unfold mixR
    split
    · rfl
    · rfl

theorem may_one {f a c t an o : Int} {vs : List Int} (h : mayB f a c vs t an o = true) (hf : 4 < f) (h22 : f ≠ 22) : 1 ≤ vs.length := by
  rcases may_f h with rfl | rfl | rfl | rfl | rfl | rfl | rfl | rfl | rfl | rfl <;> simp [mayB, readsB, liesB, swapsB, oneB, manyB, masksB, upToB] at h <;> omega

/-- What a request that writes, and may, writes: into which row, from where on, what. -/
theorem next_wr {R : Nat → List Int} {f a c t an o : Int} {vs : List Int} {n : Nat} (hn : vs.length = n) (hM : mayB f a c vs t an o = true) (hG : goesB R f a c n t = true) (hf : 4 < f) (hw : wellR R) :
    ∃ (kk to_ : Nat) (us : List Int), kk < 4 ∧ (kk : Int) + 1 = (if f = 5 ∨ f = 15 then 1 else 3) ∧ (to_ : Int) = (if f = 23 then t else a) ∧ nextR R f a vs t an o = upd R kk (over (R kk) to_ us) ∧ to_ + us.length ≤ (R kk).length ∧ us.length = max n 1 ∧ (f ≠ 22 → us = vs) := by
  subst hn
  have hb := hasB_yes (goesB_wr hG)
  have r0 : rowL R 1 = R 0 := rowL_kind R 0 (by omega)
  have r2 : rowL R 3 = R 2 := rowL_kind R 2 (by omega)
  have hv0 := may_read hM
  have hlen : f ≠ 22 → 1 ≤ vs.length := may_one hM hf
  rcases may_f hM with rfl | rfl | rfl | rfl | rfl | rfl | rfl | rfl | rfl | rfl
  · omega
  · omega
  · omega
  · omega
  · simp [wrS, r0, r2] at hb
    exact ⟨0, a.toNat, vs, by omega, by simp, by simp; omega, by simp [nextR], by omega, by have := hlen (by omega); omega, fun _ => rfl⟩
  · simp [wrS, r0, r2] at hb
    exact ⟨2, a.toNat, vs, by omega, by simp, by simp; omega, by simp [nextR, newV], by omega, by have := hlen (by omega); omega, fun _ => rfl⟩
  · simp [wrS, r0, r2] at hb
    exact ⟨0, a.toNat, vs, by omega, by simp, by simp; omega, by simp [nextR], by omega, by have := hlen (by omega); omega, fun _ => rfl⟩
  · simp [wrS, r0, r2] at hb
    exact ⟨2, a.toNat, vs, by omega, by simp, by simp; omega, by simp [nextR, newV], by omega, by have := hlen (by omega); omega, fun _ => rfl⟩
  · simp [wrS, r0, r2] at hb
    have := hv0 (by omega)
    exact ⟨2, a.toNat, [maskI ((rowL R 3)[a.toNat]?.getD 0) an o], by omega, by simp, by simp; omega, by simp [nextR, newV], by simp; omega, by simp; omega, fun h => absurd rfl h⟩
  · simp [wrS, r0, r2] at hb
    exact ⟨2, t.toNat, vs, by omega, by simp, by simp; omega, by simp [nextR], by omega, by have := hlen (by omega); omega, fun _ => rfl⟩

theorem over_get (l : List Int) (at_ : Nat) (us : List Int) (h : at_ + us.length ≤ l.length) (i : Nat) (hi : i < us.length) : (over l at_ us)[at_ + i]? = some us[i] := by
  unfold over
  rw [List.append_assoc, List.getElem?_append_right (by simp; omega)]
  rw [List.length_take, Nat.min_eq_left (by omega), Nat.add_sub_cancel_left, List.getElem?_append_left hi, List.getElem?_eq_getElem hi]
theorem over_step (l : List Int) (at_ : Nat) (us : List Int) (h : at_ + us.length ≤ l.length) (i : Nat) (hi : i < us.length) : over (over l at_ (us.take i)) (at_ + i) [us[i]] = over l at_ (us.take (i + 1)) := by
  unfold over
  have e0 : (us.take i).length = i := by simp; omega
  have e1 : (us.take (i + 1)).length = i + 1 := by simp; omega
  rw [e0, e1]
  have t1 : (l.take at_ ++ us.take i ++ l.drop (at_ + i)).take (at_ + i) = l.take at_ ++ us.take i := by
    rw [List.take_append_of_le_length (by simp; omega), List.take_of_length_le (by simp; omega)]
  have t2 : (l.take at_ ++ us.take i ++ l.drop (at_ + i)).drop (at_ + i + 1) = l.drop (at_ + (i + 1)) := by
    rw [List.drop_append, List.drop_of_length_le (by simp; omega), List.nil_append, List.drop_drop]
    congr 1
    simp
    omega
  simp only [List.length_cons, List.length_nil, Nat.zero_add]
  rw [t1, t2, List.take_succ_eq_append_getElem hi]
  simp

end Go.Proofs.Ytohiblldhdglgaa
