/-
  What is proved here: the bytes of a length as a function (dg), and how a row of bytes is told (atV): plain lists, nothing of the program. No condition.
-/
import Derived.Test.YtkgidimaiedocaaBase
namespace Go.Proofs.Ytkgidimaiedocaa
set_option linter.unusedVariables false
set_option linter.unusedSimpArgs false
open Go.RowKit

/-- The bytes of a length. -/
def dg (n : Nat) : List UInt8 := if n < 128 then [UInt8.ofNat n] else UInt8.ofNat (n % 128 + 128) :: dg (n / 128)
termination_by n
decreasing_by omega
theorem dg_small {n : Nat} (h : n < 128) : dg n = [UInt8.ofNat n] := by rw [dg, if_pos h]
theorem dg_great {n : Nat} (h : 128 ≤ n) : dg n = UInt8.ofNat (n % 128 + 128) :: dg (n / 128) := by rw [dg, if_neg (by omega)]
/-- How many they are. -/
def dgL (n : Nat) : Nat := if n < 128 then 1 else if n < 16384 then 2 else if n < 2097152 then 3 else 4
theorem dg_length (n : Nat) (h : n ≤ 268435455) : (dg n).length = dgL n := by
  unfold dgL
  by_cases h1 : n < 128
  · simp [dg_small h1, h1]
  · rw [dg_great (by omega), if_neg h1]
    by_cases h2 : n < 16384
    · rw [dg_small (by omega), if_pos h2]; rfl
    · rw [dg_great (by omega), if_neg h2]
      by_cases h3 : n < 2097152
      · rw [dg_small (by omega), if_pos h3]; rfl
      · rw [dg_great (by omega), if_neg h3, dg_small (by omega)]; rfl
theorem dgL_le (n : Nat) : 1 ≤ dgL n ∧ dgL n ≤ 4 := by
  unfold dgL
  split
  · omega
  · split
    · omega
    · split <;> omega
theorem dgL_mono {n m : Nat} (h : n ≤ m) : dgL n ≤ dgL m := by
  unfold dgL
  repeat' split
  all_goals omega

/-- How a row of bytes is told, k bytes having been read, which say n: the number, how many bytes, the error. -/
def atV : List UInt8 → Nat → Nat → Nat × Nat × Nat
  | [], k, _ => (0, 0, if k < 4 then 7 else 4)
  | c :: t, k, n => if 128 ≤ c.toNat then atV t (k + 1) (n + 128 ^ k * (c.toNat % 128)) else if c.toNat = 0 ∧ 0 < k then (0, 0, 4) else (n + 128 ^ k * c.toNat, k + 1, 0)
theorem atV_on {c : UInt8} {t : List UInt8} {k n : Nat} (h : 128 ≤ c.toNat) : atV (c :: t) k n = atV t (k + 1) (n + 128 ^ k * (c.toNat % 128)) := by rw [atV, if_pos h]
theorem atV_zero {c : UInt8} {t : List UInt8} {k n : Nat} (h : c.toNat = 0) (hk : 0 < k) : atV (c :: t) k n = (0, 0, 4) := by rw [atV, if_neg (by omega), if_pos ⟨h, hk⟩]
theorem atV_ok {c : UInt8} {t : List UInt8} {k n : Nat} (h : c.toNat < 128) (h0 : 0 < c.toNat ∨ k = 0) : atV (c :: t) k n = (n + 128 ^ k * c.toNat, k + 1, 0) := by rw [atV, if_neg (by omega), if_neg (by omega)]
/-- What the bytes from i on are told as: the number, the place behind, the error. -/
def atR (xs : List UInt8) (i : Nat) : Nat × Nat × Nat :=
  let r := atV ((xs.drop i).take 4) 0 0
  (r.1, if r.2.2 = 0 then i + r.2.1 else 0, r.2.2)

/-- What the bytes so far say. -/
def acc : List UInt8 → Nat
  | [] => 0
  | c :: t => c.toNat % 128 + 128 * acc t
theorem acc_snoc (pre : List UInt8) (x : UInt8) : acc (pre ++ [x]) = acc pre + 128 ^ pre.length * (x.toNat % 128) := by
  induction pre with
  | nil => simp [acc]
  | cons c t ih =>
    rw [List.cons_append, acc, ih, acc, List.length_cons, Nat.pow_succ, Nat.mul_add, ← Nat.mul_assoc, Nat.mul_comm (128 ^ t.length) 128, Nat.add_assoc]
theorem acc_lt (pre : List UInt8) : acc pre < 128 ^ pre.length := by
  induction pre with
  | nil => simp [acc]
  | cons c t ih => rw [acc, List.length_cons, Nat.pow_succ]; omega
theorem atV_pre (pre rest : List UInt8) (h : ∀ c ∈ pre, 128 ≤ c.toNat) : ∀ (k n : Nat), atV (pre ++ rest) k n = atV rest (k + pre.length) (n + 128 ^ k * acc pre) := by
  induction pre with
  | nil => intro k n; simp [acc]
  | cons c t ih =>
    intro k n
    rw [List.cons_append, atV_on (h c (by simp)), ih (fun d hd => h d (by simp [hd])), List.length_cons, acc, Nat.pow_succ]
    congr 1
    · omega
    · rw [Nat.mul_add, ← Nat.mul_assoc]; omega
theorem atV_from (pre rest : List UInt8) (h : ∀ c ∈ pre, 128 ≤ c.toNat) : atV (pre ++ rest) 0 0 = atV rest pre.length (acc pre) := by
  rw [atV_pre pre rest h]; simp

/-- What is put is told as itself. -/
theorem atV_dg (n : Nat) : ∀ (k m : Nat) (t : List UInt8), (k = 0 ∨ 0 < n) → atV (dg n ++ t) k m = (m + 128 ^ k * n, k + (dg n).length, 0) := by
  induction n using Nat.strongRecOn with
  | _ n ih =>
    intro k m t hk
    by_cases h : n < 128
    · rw [dg_small h, List.cons_append, atV_ok (by simp; omega) (by simp; omega)]
      simp
      congr 1
      omega
    · have hx : (UInt8.ofNat (n % 128 + 128)).toNat = n % 128 + 128 := by simp; omega
      rw [dg_great (by omega), List.cons_append, atV_on (by rw [hx]; omega), ih (n / 128) (by omega) _ _ _ (.inr (by omega)), hx, List.length_cons, Nat.pow_succ]
      have e : n = n % 128 + 128 * (n / 128) := by omega
      congr 1
      · rw [show (n % 128 + 128) % 128 = n % 128 by omega, Nat.add_assoc, Nat.mul_assoc, ← Nat.mul_add, ← e]
      · congr 1; omega
/-- Without its last byte more is needed. -/
theorem atV_short (n : Nat) : ∀ (k m : Nat), k + (dg n).length ≤ 4 → atV ((dg n).take ((dg n).length - 1)) k m = (0, 0, 7) := by
  induction n using Nat.strongRecOn with
  | _ n ih =>
    intro k m hk
    by_cases h : n < 128
    · rw [dg_small h] at hk ⊢
      simp at hk
      simp [atV]
      omega
    · have hx : (UInt8.ofNat (n % 128 + 128)).toNat = n % 128 + 128 := by simp; omega
      have hp : 1 ≤ (dg (n / 128)).length := by rw [dg]; split <;> simp
      rw [dg_great (by omega)] at hk ⊢
      rw [List.length_cons] at hk ⊢
      rw [show (dg (n / 128)).length + 1 - 1 = ((dg (n / 128)).length - 1) + 1 by omega, List.take_succ_cons, atV_on (by rw [hx]; omega), ih (n / 128) (by omega) _ _ (by omega)]
/-- What is told is put as the same bytes. -/
theorem dg_atV : ∀ (l : List UInt8) (k m : Nat), (atV l k m).2.2 = 0 → ∃ n j, (atV l k m).1 = m + 128 ^ k * n ∧ (atV l k m).2.1 = k + j ∧ 0 < j ∧ j ≤ l.length ∧ l.take j = dg n ∧ n < 128 ^ j ∧ (k = 0 ∨ 0 < n)
  | [], k, m, h => by simp only [atV] at h; split at h <;> omega
  | c :: t, k, m, h => by
    by_cases hc : 128 ≤ c.toNat
    · rw [atV_on hc] at h ⊢
      obtain ⟨n, j, h1, h2, h3, h4, h5, h6, h7⟩ := dg_atV t (k + 1) _ h
      have h7' : 0 < n := by omega
      have hlt := c.toNat_lt
      refine ⟨c.toNat % 128 + 128 * n, j + 1, ?_, by omega, by omega, by simp; omega, ?_, by rw [Nat.pow_succ]; omega, .inr (by omega)⟩
      · rw [h1, Nat.pow_succ, Nat.mul_add, Nat.mul_assoc, Nat.add_assoc]
      · rw [dg_great (by omega), List.take_succ_cons, h5, show (c.toNat % 128 + 128 * n) / 128 = n by omega]
        congr 1
        apply UInt8.toNat_inj.1
        simp
        omega
    · by_cases h0 : c.toNat = 0 ∧ 0 < k
      · rw [atV_zero h0.1 h0.2] at h; cases h
      · rw [atV_ok (by omega) (by omega)]
        refine ⟨c.toNat, 1, rfl, rfl, by omega, by simp, ?_, by omega, by omega⟩
        rw [dg_small (by omega)]
        simp
/-- What is refused says nothing. -/
theorem atV_no : ∀ (l : List UInt8) (k m : Nat), (atV l k m).2.2 ≠ 0 → (atV l k m).1 = 0
  | [], k, m, _ => rfl
  | c :: t, k, m, h => by
    by_cases hc : 128 ≤ c.toNat
    · rw [atV_on hc] at h ⊢; exact atV_no t _ _ h
    · by_cases h0 : c.toNat = 0 ∧ 0 < k
      · rw [atV_zero h0.1 h0.2]
      · rw [atV_ok (by omega) (by omega)] at h; exact absurd rfl h

end Go.Proofs.Ytkgidimaiedocaa
