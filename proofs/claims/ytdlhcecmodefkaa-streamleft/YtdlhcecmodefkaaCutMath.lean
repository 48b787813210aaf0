/-
  What is proved here: what is cut out of bytes, one after the other, hangs on all the bytes alone, not on how they are parted. No condition of its own; nothing of the program is named.
-/
import Derived.Test.YtdlhcecmodefkaaBase
namespace Go.Proofs.Ytdlhcecmodefkaa
set_option linter.unusedVariables false
set_option linter.unusedSimpArgs false
open Go.RowKit

/-- What comes next: nothing yet; it is broken; one of n bytes. -/
inductive Nx (α : Type) where
  | wait : Nx α
  | bad : Nx α
  | cut (a : α) (n : Nat) : Nx α

/-- What may be said of a 'next' that hangs on the bytes from its beginning on. -/
structure Cuts {α : Type} (nx : List UInt8 → Nx α) : Prop where
  nil : nx [] = .wait
  pos : ∀ b a n, nx b = .cut a n → 0 < n ∧ n ≤ b.length
  on : ∀ b y a n, nx b = .cut a n → nx (b ++ y) = .cut a n
  onBad : ∀ b y, nx b = .bad → nx (b ++ y) = .bad

def cutF {α : Type} (nx : List UInt8 → Nx α) : Nat → List UInt8 → List α × List UInt8 × Bool
  | 0, b => ([], b, false)
  | f + 1, b => match nx b with
    | .wait => ([], b, false)
    | .bad => ([], b, true)
    | .cut a n => (a :: (cutF nx f (b.drop n)).1, (cutF nx f (b.drop n)).2)
/-- All that is cut out of b, what is left, whether it is broken. -/
def cutAll {α : Type} (nx : List UInt8 → Nx α) (b : List UInt8) : List α × List UInt8 × Bool := cutF nx b.length b

section
variable {α : Type} {nx : List UInt8 → Nx α}
theorem cutF_fuel (h : Cuts nx) : ∀ (f : Nat) (b : List UInt8), b.length ≤ f → cutF nx f b = cutAll nx b := by
  intro f
  induction f using Nat.strongRecOn with
  | ind f ih =>
    intro b hb
    match f, b, hb, ih with
    | 0, [], _, _ => rfl
    | f + 1, [], _, _ =>
      show (match nx [] with | .wait => _ | .bad => _ | .cut a n => _) = _
      rw [h.nil]
      rfl
    | f + 1, x :: b, hb, ih =>
      show (match nx (x :: b) with | .wait => _ | .bad => _ | .cut a n => _) = (match nx (x :: b) with | .wait => _ | .bad => _ | .cut a n => _)
      match hn : nx (x :: b) with
      | .wait => rfl
      | .bad => rfl
      | .cut a n =>
        have hp := h.pos _ _ _ hn
        have hl : ((x :: b).drop n).length ≤ b.length := by simp only [List.length_drop, List.length_cons]; omega
        have hb' : b.length ≤ f := by simp only [List.length_cons] at hb; omega
        simp only []
        rw [ih f (Nat.lt_succ_self f) _ (Nat.le_trans hl hb')]
        rcases Nat.lt_or_ge b.length (f + 1) with hlt | hge
        · rw [ih b.length (by omega) _ hl]
        · omega
theorem cutAll_wait (b : List UInt8) (h0 : Cuts nx) (h : nx b = .wait) : cutAll nx b = ([], b, false) := by
  rw [← cutF_fuel h0 (b.length + 1) b (Nat.le_succ _)]
  show (match nx b with | .wait => _ | .bad => _ | .cut a n => _) = _
  rw [h]
theorem cutAll_bad (b : List UInt8) (h0 : Cuts nx) (h : nx b = .bad) : cutAll nx b = ([], b, true) := by
  rw [← cutF_fuel h0 (b.length + 1) b (Nat.le_succ _)]
  show (match nx b with | .wait => _ | .bad => _ | .cut a n => _) = _
  rw [h]
theorem cutAll_cut (b : List UInt8) (h0 : Cuts nx) (a : α) (n : Nat) (h : nx b = .cut a n) : cutAll nx b = (a :: (cutAll nx (b.drop n)).1, (cutAll nx (b.drop n)).2) := by
  rw [← cutF_fuel h0 (b.length + 1) b (Nat.le_succ _)]
  show (match nx b with | .wait => _ | .bad => _ | .cut a n => _) = _
  rw [h]
  simp only []
  rw [cutF_fuel h0 b.length (b.drop n) (by rw [List.length_drop]; omega)]
/-- Fed in two parts. -/
theorem cutAll_app (h0 : Cuts nx) : ∀ (k : Nat) (x y : List UInt8), x.length ≤ k → cutAll nx (x ++ y) =
    if (cutAll nx x).2.2 then ((cutAll nx x).1, (cutAll nx x).2.1 ++ y, true)
    else ((cutAll nx x).1 ++ (cutAll nx ((cutAll nx x).2.1 ++ y)).1, (cutAll nx ((cutAll nx x).2.1 ++ y)).2) := by
  intro k
  induction k using Nat.strongRecOn with
  | ind k ih =>
    intro x y hk
    match hn : nx x with
    | .wait =>
      rw [cutAll_wait x h0 hn]
      simp
    | .bad =>
      rw [cutAll_bad x h0 hn, cutAll_bad (x ++ y) h0 (h0.onBad x y hn)]
      simp
    | .cut a n =>
      have hp := h0.pos _ _ _ hn
      have hd : (x ++ y).drop n = x.drop n ++ y := by rw [List.drop_append_of_le_length hp.2]
      rw [cutAll_cut x h0 a n hn, cutAll_cut (x ++ y) h0 a n (h0.on x y a n hn), hd]
      have hl : (x.drop n).length < k := by rw [List.length_drop]; omega
      rw [ih (x.drop n).length hl (x.drop n) y (Nat.le_refl _)]
      simp only []
      split
      · rfl
      · rfl
theorem cutAll_parts (h0 : Cuts nx) (x y : List UInt8) : cutAll nx (x ++ y) =
    if (cutAll nx x).2.2 then ((cutAll nx x).1, (cutAll nx x).2.1 ++ y, true)
    else ((cutAll nx x).1 ++ (cutAll nx ((cutAll nx x).2.1 ++ y)).1, (cutAll nx ((cutAll nx x).2.1 ++ y)).2) := cutAll_app h0 x.length x y (Nat.le_refl _)
/-- What is left, if it is not broken, waits. -/
theorem cutAll_left (h0 : Cuts nx) : ∀ (k : Nat) (x : List UInt8), x.length ≤ k → (cutAll nx x).2.2 = false → nx (cutAll nx x).2.1 = .wait := by
  intro k
  induction k using Nat.strongRecOn with
  | ind k ih =>
    intro x hk hf
    match hn : nx x with
    | .wait =>
      rw [cutAll_wait x h0 hn]
      exact hn
    | .bad =>
      rw [cutAll_bad x h0 hn] at hf
      cases hf
    | .cut a n =>
      have hp := h0.pos _ _ _ hn
      rw [cutAll_cut x h0 a n hn] at hf ⊢
      have hl : (x.drop n).length < k := by rw [List.length_drop]; omega
      exact ih (x.drop n).length hl (x.drop n) (Nat.le_refl _) hf
end

end Go.Proofs.Ytdlhcecmodefkaa
