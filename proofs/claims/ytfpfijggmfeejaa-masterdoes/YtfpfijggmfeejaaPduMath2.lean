/-
  What is proved here: an answer that is laid down is read as itself, and how long it is: on plain numbers and lists.
-/
import Derived.Test.YtfpfijggmfeejaaPduMath
namespace Go.Proofs.Ytfpfijggmfeejaa
set_option linter.unusedVariables false
set_option linter.unusedSimpArgs false
open Go.RowKit

/-- The function of a request that may be. -/
theorem may_func {f a c : Int} {vs : List Int} {t an o : Int} (h : mayB f a c vs t an o = true) :
    f = 1 ∨ f = 2 ∨ f = 3 ∨ f = 4 ∨ f = 5 ∨ f = 6 ∨ f = 15 ∨ f = 16 ∨ f = 22 ∨ f = 23 := by
  rcases may_cases h with ⟨hf, _⟩ | ⟨hf, _⟩ | ⟨rfl, _⟩ | ⟨rfl, _⟩ | ⟨rfl, _⟩ | ⟨rfl, _⟩ | ⟨rfl, _⟩ | ⟨rfl, _⟩ <;> omega
theorem may_count {f a c : Int} {vs : List Int} {t an o : Int} (h : mayB f a c vs t an o = true) : 0 ≤ c ∧ c ≤ 2000 ∧ 0 ≤ a ∧ a ≤ 65535 ∧ ((f = 1 ∨ f = 2) → 1 ≤ c) ∧ ((f = 3 ∨ f = 4 ∨ f = 23) → 1 ≤ c ∧ c ≤ 125) ∧ vs.length ≤ 1968 := by
  rcases may_cases h with ⟨hf, h1, h2, h3, h4, rfl, rfl, rfl, rfl⟩ | ⟨hf, h1, h2, h3, h4, rfl, rfl, rfl, rfl⟩ | ⟨rfl, h1, h2, rfl, ⟨v, rfl, h3, h4⟩, rfl, rfl, rfl⟩ | ⟨rfl, h1, h2, rfl, ⟨v, rfl, h3, h4⟩, rfl, rfl, rfl⟩ | ⟨rfl, h1, h2, h3, h4, h5, h6, rfl, rfl, rfl⟩ | ⟨rfl, h1, h2, h3, h4, h5, h6, rfl, rfl, rfl⟩ | ⟨rfl, h1, h2, h3, h4, h5, h6, rfl, rfl, rfl⟩ | ⟨rfl, h1, h2, h3, h4, h5, h6, h7, h8, h9, rfl, rfl⟩
  all_goals simp
  all_goals omega
theorem lay_head {f a c : Int} {vs : List Int} {t an o : Int} (h : mayB f a c vs t an o = true) : (((layL f a c vs t an o)[0]?.getD 0).toNat : Int) = f := by
  rcases may_func h with rfl | rfl | rfl | rfl | rfl | rfl | rfl | rfl | rfl | rfl <;> rfl

/-- An answer that may be, function by function. -/
theorem ans_cases {f a c : Int} {vs : List Int} {t an o code : Int} {us : List Int} (h : mayB f a c vs t an o = true) (hx : ansMayB f c code us = true) :
    (code ≠ 0 ∧ 1 ≤ code ∧ code ≤ 255 ∧ us = []) ∨ (code = 0 ∧ (f = 1 ∨ f = 2) ∧ (us.length : Int) = c ∧ upToB us 1 = true) ∨ (code = 0 ∧ (f = 3 ∨ f = 4 ∨ f = 23) ∧ (us.length : Int) = c ∧ upToB us 65535 = true) ∨
    (code = 0 ∧ (f = 15 ∨ f = 16) ∧ us = []) ∨ (code = 0 ∧ (f = 5 ∨ f = 6 ∨ f = 22) ∧ us = []) := by
  have hf := may_func h
  unfold ansMayB at hx
  split at hx
  · next h0 =>
    split at hx
    · next h1 =>
      simp only [Bool.and_eq_true, beq_iff_eq] at hx
      exact .inr (.inl ⟨h0, h1, hx⟩)
    · next h1 =>
      split at hx
      · next h2 =>
        simp only [Bool.and_eq_true, beq_iff_eq] at hx
        exact .inr (.inr (.inl ⟨h0, h2, hx⟩))
      · next h2 =>
        have hu := List.eq_nil_of_length_eq_zero (beq_iff_eq.1 hx)
        by_cases h3 : f = 15 ∨ f = 16
        · exact .inr (.inr (.inr (.inl ⟨h0, h3, hu⟩)))
        · exact .inr (.inr (.inr (.inr ⟨h0, by omega, hu⟩)))
  · next h0 =>
    simp only [Bool.and_eq_true, decide_eq_true_eq, beq_iff_eq] at hx
    exact .inl ⟨h0, by omega, by omega, List.eq_nil_of_length_eq_zero hx.2⟩

def sizeOfAn (f code : Int) (n m : Nat) : Nat :=
  if code = 0 then (if f = 1 ∨ f = 2 then 2 + (m + 7) / 8 else if f = 3 ∨ f = 4 ∨ f = 23 then 2 + 2 * m else if f = 15 ∨ f = 16 then 5 else sizeOfRq f n) else 2
theorem ans_length {f a c : Int} {vs : List Int} {t an o code : Int} {us : List Int} (h : mayB f a c vs t an o = true) (hx : ansMayB f c code us = true) : (ansL f a c vs t an o code us).length = sizeOfAn f code vs.length us.length := by
  have hL := lay_length h
  rcases ans_cases h hx with ⟨h0, _⟩ | ⟨rfl, hf, _⟩ | ⟨rfl, hf, _⟩ | ⟨rfl, hf, _⟩ | ⟨rfl, hf, _⟩
  · simp [ansL, sizeOfAn, h0]
  · rcases hf with rfl | rfl <;> simp [ansL, sizeOfAn, cntL, packL_length] <;> omega
  · rcases hf with rfl | rfl | rfl <;> simp [ansL, sizeOfAn, cntL, putL_length] <;> omega
  · rcases hf with rfl | rfl <;> simp [ansL, sizeOfAn, putL_length]
  · rcases hf with rfl | rfl | rfl <;> simp [ansL, sizeOfAn, hL]
theorem ans_bounds {f a c : Int} {vs : List Int} {t an o code : Int} {us : List Int} (h : mayB f a c vs t an o = true) (hx : ansMayB f c code us = true) : 2 ≤ (ansL f a c vs t an o code us).length ∧ (ansL f a c vs t an o code us).length ≤ 253 := by
  have hL := lay_bounds h
  rw [lay_length h] at hL
  have hc := may_count h
  rw [ans_length h hx]
  rcases ans_cases h hx with ⟨h0, _⟩ | ⟨rfl, hf, h1, _⟩ | ⟨rfl, hf, h1, _⟩ | ⟨rfl, hf, _⟩ | ⟨rfl, hf, _⟩
  · simp [sizeOfAn, h0]
  · rcases hf with rfl | rfl <;> simp [sizeOfAn] <;> omega
  · rcases hf with rfl | rfl | rfl <;> simp [sizeOfAn] <;> omega
  · rcases hf with rfl | rfl <;> simp [sizeOfAn]
  · rcases hf with rfl | rfl | rfl <;> simp [sizeOfAn] <;> omega
/-- The first byte of an answer. -/
theorem ans_head {f a c : Int} {vs : List Int} {t an o code : Int} {us : List Int} (h : mayB f a c vs t an o = true) (hx : ansMayB f c code us = true) :
    ((((ansL f a c vs t an o code us)[0]?.getD 0).toNat : Nat) : Int) = if code = 0 then f else f + 128 := by
  have hf := may_func h
  have hL := lay_head h
  rcases ans_cases h hx with ⟨h0, h1, h2, _⟩ | ⟨rfl, hf, h1, _⟩ | ⟨rfl, hf, h1, _⟩ | ⟨rfl, hf, _⟩ | ⟨rfl, hf, _⟩
  · simp only [ansL, h0, if_false]
    simp
    omega
  · rcases hf with rfl | rfl <;> simp [ansL]
  · rcases hf with rfl | rfl | rfl <;> simp [ansL]
  · rcases hf with rfl | rfl <;> simp [ansL]
  · rcases hf with rfl | rfl | rfl <;> simpa [ansL] using hL

theorem ag_lay (r : Rq) (h : r.may = true) (x : An) (hx : x.may r = true) : ag r (x.lay r) = x := by
  obtain ⟨f, a, c, vs, t, an, o⟩ := r
  obtain ⟨us, code⟩ := x
  have h' : mayB f a c vs t an o = true := h
  have hx' : ansMayB f c code us = true := hx
  have hlen := ans_length h' hx'
  have hhd := ans_head h' hx'
  have hf := may_func h'
  have hc := may_count h'
  have hb := lay_bounds h'
  rw [lay_length h'] at hb
  show ag ⟨f, a, c, vs, t, an, o⟩ (ansL f a c vs t an o code us) = ⟨us, code⟩
  clear h hx
  rcases ans_cases h' hx' with ⟨h0, h1, h2, rfl⟩ | ⟨rfl, hf, h1, h2⟩ | ⟨rfl, hf, h1, h2⟩ | ⟨rfl, hf, rfl⟩ | ⟨rfl, hf, rfl⟩
  · unfold ag
    rw [if_pos ⟨by rw [hlen]; simp [sizeOfAn, h0], by rw [hhd]; simp [h0]⟩]
    simp only [ansL, h0, if_false]
    simp
    omega
  · unfold ag
    rw [if_neg (by rintro ⟨_, e⟩; rw [hhd, if_pos rfl] at e; have e' : f = f + 128 := e; omega), if_pos hf]
    have e := bits_pack us h2 c.toNat (by omega)
    rcases hf with rfl | rfl <;> simp [ansL, cntL, e]
  · unfold ag
    rw [if_neg (by rintro ⟨_, e⟩; rw [hhd, if_pos rfl] at e; have e' : f = f + 128 := e; omega), if_neg (show ¬ (f = 1 ∨ f = 2) by omega), if_pos hf]
    have e := words_put us h2
    rcases hf with rfl | rfl | rfl <;> simp [ansL, cntL, e]
  · unfold ag
    rw [if_neg (by rintro ⟨_, e⟩; rw [hhd, if_pos rfl] at e; have e' : f = f + 128 := e; omega), if_neg (show ¬ (f = 1 ∨ f = 2) by omega), if_neg (show ¬ (f = 3 ∨ f = 4 ∨ f = 23) by omega)]
    rfl
  · unfold ag
    rw [if_neg (by rintro ⟨_, e⟩; rw [hhd, if_pos rfl] at e; have e' : f = f + 128 := e; omega), if_neg (show ¬ (f = 1 ∨ f = 2) by omega), if_neg (show ¬ (f = 3 ∨ f = 4 ∨ f = 23) by omega)]
    rfl

theorem ansParse_lay (r : Rq) (h : r.may = true) (x : An) (hx : x.may r = true) : ansParseL r (x.lay r) = some x := by
  rw [ansParseL, ag_lay r h x hx, if_pos ⟨hx, rfl⟩]
theorem ansParse_some {r : Rq} {b : List UInt8} {x : An} (h : ansParseL r b = some x) : x.may r = true ∧ x.lay r = b ∧ ag r b = x := by
  unfold ansParseL at h
  split at h
  · next hc => injection h with h; subst h; exact ⟨hc.1, hc.2, rfl⟩
  · cases h

end Go.Proofs.Ytfpfijggmfeejaa
