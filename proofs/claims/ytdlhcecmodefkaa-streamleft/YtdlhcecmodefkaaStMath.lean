/-
  What is proved here: layer 11 as plain functions of lists: what comes next in a stream's bytes, that it hangs on the bytes from its beginning on, that a packet's bytes are told as itself, and that what is told has just these bytes. No condition of its own; nothing of the program is named.
-/
import Derived.Test.YtdlhcecmodefkaaCutMath
import Derived.Test.YtdlhcecmodefkaaPkMath
import Derived.Test.YtdlhcecmodefkaaPrMath
namespace Go.Proofs.Ytdlhcecmodefkaa
set_option linter.unusedVariables false
set_option linter.unusedSimpArgs false
open Go.RowKit

theorem atV_app : ∀ (l z : List UInt8) (k n : Nat), (l ++ z).length + k ≤ 4 → (atV l k n).2.2 ≠ 7 → atV (l ++ z) k n = atV l k n
  | [], z, k, n, h, h7 => by
    unfold atV at h7
    by_cases hk : k < 4
    · rw [if_pos hk] at h7
      exact absurd rfl h7
    · have : z = [] := by
        apply List.eq_nil_of_length_eq_zero
        simp at h
        omega
      rw [this]
      rfl
  | c :: t, z, k, n, h, h7 => by
    rw [List.cons_append]
    by_cases hc : 128 ≤ c.toNat
    · rw [atV_on hc] at h7
      rw [atV_on hc, atV_on hc]
      exact atV_app t z (k + 1) _ (by simp at h ⊢; omega) h7
    · rw [atV, atV]
      simp only [if_neg hc]
theorem atV_err : ∀ (l : List UInt8) (k n : Nat), (atV l k n).2.2 = 0 ∨ (atV l k n).2.2 = 4 ∨ (atV l k n).2.2 = 7
  | [], k, n => by
    unfold atV
    by_cases hk : k < 4
    · rw [if_pos hk]; exact Or.inr (Or.inr rfl)
    · rw [if_neg hk]; exact Or.inr (Or.inl rfl)
  | c :: t, k, n => by
    by_cases hc : 128 ≤ c.toNat
    · rw [atV_on hc]; exact atV_err t _ _
    · rw [atV, if_neg hc]
      split
      · exact Or.inr (Or.inl rfl)
      · exact Or.inl rfl
theorem take_app4 (a y : List UInt8) : ∃ z, (a ++ y).take 4 = a.take 4 ++ z ∧ (a.take 4 ++ z).length ≤ 4 := by
  refine ⟨y.take (4 - a.length), by rw [List.take_append], ?_⟩
  simp only [List.length_append, List.length_take]
  omega
/-- Told so far, told for ever. -/
theorem atR_app (b y : List UInt8) (h7 : (atR b 1).2.2 ≠ 7) : atR (b ++ y) 1 = atR b 1 := by
  cases b with
  | nil => exact absurd rfl h7
  | cons c b =>
    unfold atR at h7 ⊢
    simp only [List.cons_append, List.drop_succ_cons, List.drop_zero] at h7 ⊢
    obtain ⟨z, hz, hl⟩ := take_app4 b y
    rw [hz, atV_app (b.take 4) z 0 0 (by simpa using hl) h7]
theorem atR_err (b : List UInt8) : (atR b 1).2.2 = 0 ∨ (atR b 1).2.2 = 4 ∨ (atR b 1).2.2 = 7 := atV_err _ _ _

/-- What comes next. -/
def stNx (most : Nat) (b : List UInt8) : Nx Pk :=
  if (atR b 1).2.2 = 4 then .bad
  else if (atR b 1).2.2 ≠ 0 then .wait
  else if most < (atR b 1).2.1 + (atR b 1).1 then .bad
  else if b.length < (atR b 1).2.1 + (atR b 1).1 then .wait
  else match readP (b.take ((atR b 1).2.1 + (atR b 1).1)) with
    | none => .bad
    | some p => .cut p ((atR b 1).2.1 + (atR b 1).1)
/-- What breaks it. -/
def stC (most : Nat) (b : List UInt8) : Int := if (atR b 1).2.2 = 4 then 100 else if most < (atR b 1).2.1 + (atR b 1).1 then 101 else 100

theorem stNx_or (most : Nat) (b : List UInt8) :
    ((atR b 1).2.2 = 4 ∧ stNx most b = .bad ∧ stC most b = 100) ∨
    ((atR b 1).2.2 = 7 ∧ stNx most b = .wait) ∨
    ((atR b 1).2.2 = 0 ∧ most < (atR b 1).2.1 + (atR b 1).1 ∧ stNx most b = .bad ∧ stC most b = 101) ∨
    ((atR b 1).2.2 = 0 ∧ ¬ most < (atR b 1).2.1 + (atR b 1).1 ∧ b.length < (atR b 1).2.1 + (atR b 1).1 ∧ stNx most b = .wait) ∨
    ((atR b 1).2.2 = 0 ∧ ¬ most < (atR b 1).2.1 + (atR b 1).1 ∧ ¬ b.length < (atR b 1).2.1 + (atR b 1).1 ∧ readP (b.take ((atR b 1).2.1 + (atR b 1).1)) = none ∧ stNx most b = .bad ∧ stC most b = 100) ∨
    ∃ p, (atR b 1).2.2 = 0 ∧ ¬ most < (atR b 1).2.1 + (atR b 1).1 ∧ ¬ b.length < (atR b 1).2.1 + (atR b 1).1 ∧ readP (b.take ((atR b 1).2.1 + (atR b 1).1)) = some p ∧ stNx most b = .cut p ((atR b 1).2.1 + (atR b 1).1) := by
  unfold stNx stC
  rcases atR_err b with h | h | h
  · rw [h]
    by_cases h1 : most < (atR b 1).2.1 + (atR b 1).1
    · exact Or.inr (Or.inr (Or.inl ⟨rfl, h1, by rw [if_neg (by omega), if_neg (by omega), if_pos h1], by rw [if_neg (by omega), if_pos h1]⟩))
    · by_cases h2 : b.length < (atR b 1).2.1 + (atR b 1).1
      · exact Or.inr (Or.inr (Or.inr (Or.inl ⟨rfl, h1, h2, by rw [if_neg (by omega), if_neg (by omega), if_neg h1, if_pos h2]⟩)))
      · cases hr : readP (b.take ((atR b 1).2.1 + (atR b 1).1)) with
        | none => exact Or.inr (Or.inr (Or.inr (Or.inr (Or.inl ⟨rfl, h1, h2, rfl, by rw [if_neg (by omega), if_neg (by omega), if_neg h1, if_neg h2], by rw [if_neg (by omega), if_neg h1]⟩))))
        | some p => exact Or.inr (Or.inr (Or.inr (Or.inr (Or.inr ⟨p, rfl, h1, h2, rfl, by rw [if_neg (by omega), if_neg (by omega), if_neg h1, if_neg h2]⟩))))
  · rw [h]
    exact Or.inl ⟨rfl, by rw [if_pos rfl], by rw [if_pos rfl]⟩
  · rw [h]
    exact Or.inr (Or.inl ⟨rfl, by rw [if_neg (by omega), if_pos (by omega)]⟩)
/-- What is told has just these bytes. -/
theorem stNx_back (most : Nat) (b : List UInt8) (p : Pk) (n : Nat) (h : stNx most b = .cut p n) : mayP p = true ∧ layP p = b.take n ∧ n ≤ most ∧ n ≤ b.length ∧ 2 ≤ n := by
  rcases stNx_or most b with ⟨_, e, _⟩ | ⟨_, e⟩ | ⟨_, _, e, _⟩ | ⟨_, _, _, e⟩ | ⟨_, _, _, _, e, _⟩ | ⟨q, h0, h1, h2, hr, e⟩
  all_goals rw [h] at e
  all_goals first
    | (cases e; done)
    | skip
  injection e with e1 e2
  subst e1 e2
  obtain ⟨a1, a2⟩ := readP_some hr
  obtain ⟨j, hj, _, _, hk, _⟩ := atR_putQ b 1 h0
  exact ⟨a1, a2, by omega, by omega, by omega⟩
theorem stCuts (most : Nat) : Cuts (stNx most) := by
  refine ⟨rfl, ?_, ?_, ?_⟩
  · intro b a n hn
    have := stNx_back most b a n hn
    omega
  · intro b y a n hn
    rcases stNx_or most b with ⟨_, e, _⟩ | ⟨_, e⟩ | ⟨_, _, e, _⟩ | ⟨_, _, _, e⟩ | ⟨_, _, _, _, e, _⟩ | ⟨q, h0, h1, h2, hr, e⟩
    all_goals rw [hn] at e
    all_goals first
      | (cases e; done)
      | skip
    have ha := atR_app b y (by omega)
    unfold stNx
    rw [ha, if_neg (by omega), if_neg (by omega), if_neg h1, if_neg (by rw [List.length_append]; omega), List.take_append_of_le_length (by omega), hr]
    exact e.symm
  · intro b y hn
    rcases stNx_or most b with ⟨h0, e, _⟩ | ⟨_, e⟩ | ⟨h0, h1, e, _⟩ | ⟨_, _, _, e⟩ | ⟨h0, h1, h2, hr, e, _⟩ | ⟨q, h0, h1, h2, hr, e⟩
    all_goals rw [hn] at e
    all_goals first
      | (cases e; done)
      | skip
    · have ha := atR_app b y (by omega)
      unfold stNx
      rw [ha, if_pos h0]
    · have ha := atR_app b y (by omega)
      unfold stNx
      rw [ha, if_neg (by omega), if_neg (by omega), if_pos h1]
    · have ha := atR_app b y (by omega)
      unfold stNx
      rw [ha, if_neg (by omega), if_neg (by omega), if_neg h1, if_neg (by rw [List.length_append]; omega), List.take_append_of_le_length (by omega), hr]
theorem stC_app (most : Nat) (b y : List UInt8) (h : stNx most b = .bad) : stC most (b ++ y) = stC most b := by
  have h7 : (atR b 1).2.2 ≠ 7 := by
    intro h7
    unfold stNx at h
    rw [if_neg (by omega), if_pos (by omega)] at h
    cases h
  unfold stC
  rw [atR_app b y h7]
theorem stC_or (most : Nat) (b : List UInt8) : stC most b = 100 ∨ stC most b = 101 := by
  unfold stC
  split
  · exact Or.inl rfl
  · split
    · exact Or.inr rfl
    · exact Or.inl rfl
/-- A packet's bytes are told as itself, whatever stands behind. -/
theorem stNx_lay (most : Nat) (p : Pk) (h : mayP p = true) (hm : (layP p).length ≤ most) (y : List UInt8) : stNx most (layP p ++ y) = .cut p (layP p).length := by
  have h4 := (mayP_parts h).2.2.2
  have ha := lay_at p h4 y
  have hl : 1 + (dg (bodyP p).length).length + (bodyP p).length = (layP p).length := lay_len.symm
  unfold stNx
  rw [ha, hl]
  simp only []
  rw [if_neg (by omega), if_neg (by omega), if_neg (by omega), if_neg (by rw [List.length_append]; omega), List.take_left' rfl, readP_lay h]

/-- What breaks what is cut is met at its rest. -/
theorem cutAll_badleft {α : Type} {nx : List UInt8 → Nx α} (h0 : Cuts nx) : ∀ (k : Nat) (x : List UInt8), x.length ≤ k → (cutAll nx x).2.2 = true → nx (cutAll nx x).2.1 = .bad := by
  intro k
  induction k using Nat.strongRecOn with
  | ind k ih =>
    intro x hk hf
    match hn : nx x with
    | .wait =>
      rw [cutAll_wait x h0 hn] at hf
      cases hf
    | .bad =>
      rw [cutAll_bad x h0 hn]
      exact hn
    | .cut a n =>
      have hp := h0.pos _ _ _ hn
      rw [cutAll_cut x h0 a n hn] at hf ⊢
      have hl : (x.drop n).length < k := by rw [List.length_drop]; omega
      exact ih (x.drop n).length hl (x.drop n) (Nat.le_refl _) hf
theorem cutAll_short {α : Type} {nx : List UInt8 → Nx α} (h0 : Cuts nx) : ∀ (k : Nat) (x : List UInt8), x.length ≤ k → (cutAll nx x).2.1.length + (cutAll nx x).1.length ≤ x.length := by
  intro k
  induction k using Nat.strongRecOn with
  | ind k ih =>
    intro x hk
    match hn : nx x with
    | .wait => rw [cutAll_wait x h0 hn]; exact Nat.le_refl _
    | .bad => rw [cutAll_bad x h0 hn]; exact Nat.le_refl _
    | .cut a n =>
      have hp := h0.pos _ _ _ hn
      rw [cutAll_cut x h0 a n hn]
      have hl : (x.drop n).length < k := by rw [List.length_drop]; omega
      have := ih (x.drop n).length hl (x.drop n) (Nat.le_refl _)
      rw [List.length_drop] at this
      show (cutAll nx (x.drop n)).2.1.length + ((cutAll nx (x.drop n)).1.length + 1) ≤ _
      omega

/-- What is told of bytes, whether they are broken, what is left, by what they are broken. -/
def toP (most : Nat) (xs : List UInt8) : List Pk := (cutAll (stNx most) xs).1
def brP (most : Nat) (xs : List UInt8) : Bool := (cutAll (stNx most) xs).2.2
def lfP (most : Nat) (xs : List UInt8) : List UInt8 := if brP most xs then [] else (cutAll (stNx most) xs).2.1
def erP (most : Nat) (xs : List UInt8) : Int := if brP most xs then stC most (cutAll (stNx most) xs).2.1 else 0
theorem erP_zero (most : Nat) (xs : List UInt8) : (erP most xs != 0) = brP most xs := by
  unfold erP
  cases brP most xs
  · rfl
  · rcases stC_or most (cutAll (stNx most) xs).2.1 with h | h <;> simp [h]
theorem lfP_len (most : Nat) (xs : List UInt8) : (lfP most xs).length + (toP most xs).length ≤ xs.length := by
  have := cutAll_short (stCuts most) _ xs (Nat.le_refl _)
  unfold lfP toP
  split
  · simp only [List.length_nil]; omega
  · exact this

end Go.Proofs.Ytdlhcecmodefkaa
