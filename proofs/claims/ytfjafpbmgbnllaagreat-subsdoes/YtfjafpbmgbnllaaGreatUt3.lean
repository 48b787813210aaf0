/-
  What is proved here: what Is, Points and Text of package utf return, for every text and every list of at most 2^40 ints. Condition: so long lists.
-/
import Derived.Test.YtfjafpbmgbnllaaGreatUt2
namespace Go.Proofs.YtfjafpbmgbnllaaGreat
set_option linter.unusedVariables false
set_option linter.unusedSimpArgs false
open Go.RowKit

theorem utIs_any (s : ByteArray) (w : World) : Calls Tryz.prog 50 #[.string s] w fun e w' => e = .returned (.bool (ptsU s.data.toList).isSome) ∧ Below w.heap.size w w' := by
  obtain ⟨xs, rfl⟩ : ∃ xs, s = str xs := ⟨_, (str_of s).symm⟩
  rw [str_data]
  go_enter Tryz.func50, Tryz.ntmps50
  go_wp2_with (go_at_call 70; refine (walkI_any xs _ rfl w.heap.size 0 w trivial (Nat.le_refl _)).mono ?_; rintro e w1 ⟨r, rfl, hr, b1⟩)
  go_ret
  refine ⟨?_, b1⟩
  rcases hr with ⟨rfl, h⟩ | ⟨ps, rfl, h, _⟩
  · rw [h]; rfl
  · rw [h]; rfl

/-- Points: what comes out. -/
def RetPts (xs : List UInt8) (w : World) (e : Ending) (w' : World) : Prop :=
  (ptsU xs = none ∧ e = .returned (.tuple #[.slice none 0 0, .int .i64 90]) ∧ Below w.heap.size w w') ∨
  ∃ ps A c, ptsU xs = some ps ∧ e = .returned (.tuple #[.slice A ps.length c, .int .i64 0]) ∧ ps.length ≤ c ∧ Rd w' A ps.length (iv (nts ps)) ∧ Below w.heap.size w w'

/-- Text: what the points make. -/
def txtG (b : List UInt8) : List Int → Option (List UInt8)
  | [] => some b
  | p :: ps => if isPt p = true ∧ (b ++ enc p.toNat).length ≤ 65535 then txtG (b ++ enc p.toNat) ps else none
def txtU (ps : List Int) : Option (List UInt8) := txtG [] ps

/-- Text: what comes out. -/
def RetTxt (ps : List Int) (w : World) (e : Ending) (w' : World) : Prop :=
  ((txtU ps = none ∧ e = .returned (.tuple #[.string (str []), .int .i64 1])) ∨ ∃ xs, txtU ps = some xs ∧ e = .returned (.tuple #[.string (str xs), .int .i64 0])) ∧ Below w.heap.size w w'

/-! ### What Text tells, in other words -/
def encsI (ps : List Int) : List UInt8 := encs (ps.map Int.toNat)
theorem txtG_small (ps : List Int) (b : List UInt8) (h : b.length + 4 * ps.length ≤ 65535) : txtG b ps = if ps.all isPt = true then some (b ++ encsI ps) else none := by
  induction ps generalizing b with
  | nil => simp [txtG, encsI, encs]
  | cons p ps ih =>
    have h4 := (szP_le p.toNat).2
    rw [List.length_cons] at h
    rw [txtG]
    cases hp : isPt p with
    | false => rw [if_neg (by simp), if_neg (by simp [hp])]
    | true =>
      rw [if_pos ⟨rfl, by rw [List.length_append, enc_length]; omega⟩, ih _ (by rw [List.length_append, enc_length]; omega)]
      simp [hp, encsI, encs]
theorem txtU_small (ps : List Int) (h : 4 * ps.length ≤ 65535) : txtU ps = if ps.all isPt = true then some (encsI ps) else none := by
  unfold txtU
  rw [txtG_small ps [] (by simpa using h)]
  rfl
theorem ptsU_small (xs : List UInt8) (h : xs.length ≤ 65535) : ptsU xs = ptsL xs := by unfold ptsU; rw [if_pos h]
theorem nts_of (ps : List Int) (h : ps.all isPt = true) : nts (ps.map Int.toNat) = ps ∧ allPt (ps.map Int.toNat) := by
  induction ps with
  | nil => exact ⟨rfl, by simp [allPt]⟩
  | cons p ps ih =>
    simp only [List.all_cons, Bool.and_eq_true] at h
    obtain ⟨k1, k2⟩ := ih h.2
    obtain ⟨q, rfl, _, _⟩ := isPt_nat h.1
    refine ⟨by simp only [nts, List.map_cons] at k1 ⊢; rw [k1]; rfl, fun r hr => ?_⟩
    simp only [List.map_cons, List.mem_cons, Int.toNat_natCast] at hr
    rcases hr with rfl | hr
    · exact h.1
    · exact k2 r hr
theorem all_nts (ps : List Nat) (h : allPt ps) : (nts ps).all isPt = true ∧ (nts ps).map Int.toNat = ps := by
  induction ps with
  | nil => exact ⟨rfl, rfl⟩
  | cons p ps ih =>
    obtain ⟨k1, k2⟩ := ih fun q hq => h q (by simp [hq])
    have hp := h p (by simp)
    refine ⟨?_, ?_⟩
    · simp only [nts, List.map_cons, List.all_cons, Bool.and_eq_true] at k1 ⊢
      exact ⟨hp, k1⟩
    · simp only [nts, List.map_cons] at k2 ⊢
      rw [k2]
      rfl
theorem encsI_len (ps : List Int) : (encsI ps).length ≤ 4 * ps.length := by
  have := encs_len_ge (ps.map Int.toNat)
  simpa [encsI] using this
/-- The text of points, if they are points, is told as these. -/
theorem pts_of_txt (ps : List Int) (h : ps.all isPt = true) : ∃ qs, ptsL (encsI ps) = some qs ∧ nts qs = ps ∧ qs.length = ps.length := by
  obtain ⟨k1, k2⟩ := nts_of ps h
  exact ⟨_, ptsL_of k2, k1, by simp⟩
/-- The points of a text have it as their text. -/
theorem txt_of_pts {xs : List UInt8} {ps : List Nat} (h : ptsL xs = some ps) : (nts ps).all isPt = true ∧ encsI (nts ps) = xs := by
  obtain ⟨k1, k2⟩ := (ptsL_iff _ _).1 h
  obtain ⟨j1, j2⟩ := all_nts ps k1
  exact ⟨j1, by unfold encsI; rw [j2, k2]⟩

end Go.Proofs.YtfjafpbmgbnllaaGreat
