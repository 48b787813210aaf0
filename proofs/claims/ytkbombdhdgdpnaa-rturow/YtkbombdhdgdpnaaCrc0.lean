/-
  What is proved here: plain facts on the sum of layer 2, as numbers: halves and steps turn with the bits that are unlike, none but 0 becomes 0, what ends with its sum has the sum 0, and bits turned within sixteen are found. Nothing of the program is named.
-/
import Derived.Test.YtkbombdhdgdpnaaBitsMath
namespace Go.Proofs.Ytkbombdhdgdpnaa
set_option linter.unusedVariables false
set_option linter.unusedSimpArgs false
open Go.RowKit

/-- Half of a sum, turned if a bit fell out. -/
def halfN (s : Nat) : Nat := (s / 2) ^^^ (s % 2 * 40961)
/-- Halved n times. -/
def hv : Nat → Nat → Nat
  | 0, s => s
  | n + 1, s => halfN (hv n s)
/-- One byte more. -/
def stepN (s x : Nat) : Nat := hv 8 (s ^^^ x)
/-- From s on, the bytes. -/
def sumF (s : Nat) (xs : List UInt8) : Nat := xs.foldl (fun s x => stepN s x.toNat) s
def sumN (xs : List UInt8) : Nat := sumF 65535 xs
/-- The two bytes of a sum. -/
def tailL (n : Nat) : List UInt8 := [UInt8.ofNat (n % 256), UInt8.ofNat (n / 256)]
def goodB (xs : List UInt8) : Bool := decide (2 ≤ xs.length ∧ xs.drop (xs.length - 2) = tailL (sumN (xs.take (xs.length - 2))))

theorem half_xor (a b : Nat) : halfN (a ^^^ b) = halfN a ^^^ halfN b := by
  unfold halfN
  have h1 : (a ^^^ b) / 2 = a / 2 ^^^ b / 2 := Nat.xor_div_two
  have h2 : (a ^^^ b) % 2 = (a + b) % 2 := by
    have := Nat.xor_mod_two_eq_one (a := a) (b := b)
    omega
  rw [h1, h2]
  have ha : a % 2 = 0 ∨ a % 2 = 1 := by omega
  have hb : b % 2 = 0 ∨ b % 2 = 1 := by omega
  rcases ha with ha | ha <;> rcases hb with hb | hb
  · rw [show (a + b) % 2 = 0 by omega, ha, hb]; simp
  · rw [show (a + b) % 2 = 1 by omega, ha, hb]; simp [Nat.xor_assoc]
  · rw [show (a + b) % 2 = 1 by omega, ha, hb]
    simp only [Nat.zero_mul, Nat.one_mul, Nat.xor_zero]
    rw [Nat.xor_assoc, Nat.xor_assoc, Nat.xor_comm 40961]
  · rw [show (a + b) % 2 = 0 by omega, ha, hb]
    simp only [Nat.zero_mul, Nat.one_mul, Nat.xor_zero]
    rw [Nat.xor_assoc, Nat.xor_comm 40961, Nat.xor_assoc, Nat.xor_self, Nat.xor_zero]
theorem half_lt (s : Nat) (h : s < 65536) : halfN s < 65536 := by
  unfold halfN
  have : s % 2 = 0 ∨ s % 2 = 1 := by omega
  refine Nat.xor_lt_two_pow (n := 16) (by omega) ?_
  rcases this with e | e <;> rw [e] <;> decide
theorem half_ne (s : Nat) (h : s < 65536) (h0 : s ≠ 0) : halfN s ≠ 0 := by
  unfold halfN
  have : s % 2 = 0 ∨ s % 2 = 1 := by omega
  rcases this with e | e
  · rw [e]; simp; omega
  · rw [e, Nat.one_mul]
    intro hx
    have hb := congrArg (fun n => n.testBit 15) hx
    simp only [Nat.testBit_xor, Nat.zero_testBit] at hb
    have h1 : (s / 2).testBit 15 = false := Nat.testBit_lt_two_pow (by omega)
    rw [h1] at hb
    revert hb; decide
theorem hv_xor (a b : Nat) : ∀ n, hv n (a ^^^ b) = hv n a ^^^ hv n b
  | 0 => rfl
  | n + 1 => by rw [hv, hv_xor a b n, half_xor]; rfl
theorem hv_lt (s : Nat) (h : s < 65536) : ∀ n, hv n s < 65536
  | 0 => h
  | n + 1 => half_lt _ (hv_lt s h n)
theorem hv_ne (s : Nat) (h : s < 65536) (h0 : s ≠ 0) : ∀ n, hv n s ≠ 0
  | 0 => h0
  | n + 1 => half_ne _ (hv_lt s h n) (hv_ne s h h0 n)
theorem hv_zero : ∀ n, hv n 0 = 0
  | 0 => rfl
  | n + 1 => by rw [hv, hv_zero n]; rfl
theorem half_two (y : Nat) : halfN (2 * y) = y := by
  unfold halfN
  rw [show 2 * y / 2 = y by omega, show 2 * y % 2 = 0 by omega]
  simp
theorem hv_pow : ∀ (t y : Nat), hv t (2 ^ t * y) = y
  | 0, y => by simp [hv]
  | t + 1, y => by rw [hv, show 2 ^ (t + 1) * y = 2 ^ t * (2 * y) by rw [Nat.pow_succ, Nat.mul_assoc], hv_pow t (2 * y), half_two]
theorem step_lt (s x : Nat) (hs : s < 65536) (hx : x < 256) : stepN s x < 65536 := hv_lt _ (Nat.xor_lt_two_pow (n := 16) (by omega) (by omega)) 8
theorem sumF_lt : ∀ (xs : List UInt8) (s : Nat), s < 65536 → sumF s xs < 65536
  | [], _, h => h
  | x :: xs, s, h => sumF_lt xs _ (step_lt s x.toNat h x.toNat_lt)
theorem sumN_lt (xs : List UInt8) : sumN xs < 65536 := sumF_lt xs _ (by decide)
theorem sumF_app (s : Nat) (xs ys : List UInt8) : sumF s (xs ++ ys) = sumF (sumF s xs) ys := by simp [sumF]
theorem sumN_snoc (xs : List UInt8) (k : Nat) (h : k < xs.length) : sumN (xs.take (k + 1)) = stepN (sumN (xs.take k)) xs[k].toNat := by
  rw [List.take_succ_eq_append_getElem h, sumN, sumF_app]
  rfl
theorem xor_eq_zero (a b : Nat) : a ^^^ b = 0 ↔ a = b := by
  constructor
  · intro h
    have : a ^^^ b ^^^ b = b := by rw [h]; simp
    rwa [Nat.xor_assoc, Nat.xor_self, Nat.xor_zero] at this
  · rintro rfl; exact Nat.xor_self a
theorem xor_add (x y : Nat) (hx : x < 256) : x ^^^ 256 * y = 256 * y + x := by
  have h1 := Nat.two_pow_add_eq_or_of_lt (i := 8) (b := x) (by omega) y
  rw [show (2 : Nat) ^ 8 = 256 from rfl] at h1
  rw [h1]
  apply Nat.eq_of_testBit_eq
  intro i
  rw [Nat.testBit_xor, Nat.testBit_or]
  rcases Nat.lt_or_ge i 8 with hi | hi
  · have : (256 * y).testBit i = false := by
      rw [show 256 * y = 2 ^ 8 * y from rfl, Nat.testBit_two_pow_mul]
      simp; omega
    rw [this]; simp
  · have : x.testBit i = false := Nat.testBit_lt_two_pow (Nat.lt_of_lt_of_le hx (by rw [show 256 = 2 ^ 8 from rfl]; exact Nat.pow_le_pow_right (by decide) hi))
    rw [this]; simp
/-- Two bytes more make 0: they are those of the sum. -/
theorem two_more (s x y : Nat) (hs : s < 65536) (hx : x < 256) (hy : y < 256) : stepN (stepN s x) y = 0 ↔ x = s % 256 ∧ y = s / 256 := by
  have e1 : stepN (stepN s x) y = hv 8 (hv 8 (s ^^^ (x ^^^ 256 * y))) := by
    unfold stepN
    congr 1
    rw [← Nat.xor_assoc, hv_xor (s ^^^ x), show 256 * y = 2 ^ 8 * y from rfl, hv_pow 8 y]
  rw [e1, xor_add x y hx]
  have hlt : s ^^^ (256 * y + x) < 65536 := Nat.xor_lt_two_pow (n := 16) (by omega) (by omega)
  constructor
  · intro h
    have h0 : s ^^^ (256 * y + x) = 0 := by
      refine Decidable.byContradiction fun hne => ?_
      exact hv_ne _ (hv_lt _ hlt 8) (hv_ne _ hlt hne 8) 8 h
    have := (xor_eq_zero _ _).1 h0
    omega
  · rintro ⟨rfl, rfl⟩
    rw [show 256 * (s / 256) + s % 256 = s by omega, Nat.xor_self, hv_zero, hv_zero]

theorem u8_eq (x : UInt8) (n : Nat) (h : n < 256) : x = UInt8.ofNat n ↔ x.toNat = n := by
  constructor
  · rintro rfl; rw [UInt8.toNat_ofNat']; omega
  · intro e; rw [← e]; simp
theorem sum_two (ys : List UInt8) (x y : UInt8) : sumN (ys ++ [x, y]) = 0 ↔ [x, y] = tailL (sumN ys) := by
  have h := two_more (sumN ys) x.toNat y.toNat (sumN_lt ys) x.toNat_lt y.toNat_lt
  have hl := sumN_lt ys
  rw [sumN, sumF_app]
  show stepN (stepN (sumN ys) x.toNat) y.toNat = 0 ↔ _
  rw [h, tailL]
  simp only [List.cons.injEq, and_true]
  rw [u8_eq x _ (by omega), u8_eq y _ (by omega)]
theorem last_two (xs : List UInt8) (h : 2 ≤ xs.length) : ∃ ys x y, xs = ys ++ [x, y] ∧ ys = xs.take (xs.length - 2) ∧ xs.drop (xs.length - 2) = [x, y] := by
  have hd : (xs.drop (xs.length - 2)).length = 2 := by rw [List.length_drop]; omega
  match hm : xs.drop (xs.length - 2), hd with
  | [x, y], _ => exact ⟨xs.take (xs.length - 2), x, y, by rw [← hm, List.take_append_drop], rfl, rfl⟩
/-- What is Good has the Sum 0, and nothing else of two bytes or more has. -/
theorem good_sum (xs : List UInt8) (h : 2 ≤ xs.length) : goodB xs = decide (sumN xs = 0) := by
  obtain ⟨ys, x, y, e, e1, e2⟩ := last_two xs h
  rw [goodB, decide_eq_decide, e2, ← e1]
  rw [e] at h ⊢
  rw [sum_two]
  simp
theorem good_tail (ys : List UInt8) : goodB (ys ++ tailL (sumN ys)) = true := by
  rw [good_sum _ (by simp [tailL]), decide_eq_true_eq, tailL, sum_two]
  rfl
theorem sum_tail (ys : List UInt8) : sumN (ys ++ tailL (sumN ys)) = 0 := by rw [tailL, sum_two]; rfl
theorem good_is (xs : List UInt8) (l : Nat) (hl : xs.length = l) (h : goodB xs = true) : 2 ≤ l ∧ xs.take (l - 2) ++ tailL (sumN (xs.take (l - 2))) = xs := by
  subst hl
  rw [goodB, decide_eq_true_eq] at h
  exact ⟨h.1, by rw [← h.2, List.take_append_drop]⟩
theorem good_short (xs : List UInt8) (h : xs.length < 2) : goodB xs = false := by
  rw [goodB, decide_eq_false_iff_not]
  omega
theorem good_two (xs : List UInt8) (n : Nat) (hl : xs.length = n + 2) (x y : UInt8) (hx : xs[n]? = some x) (hy : xs[n + 1]? = some y) :
    goodB xs = (decide (x.toNat = sumN (xs.take n) % 256) && decide (y.toNat = sumN (xs.take n) / 256)) := by
  have hd : xs.drop n = [x, y] := by
    apply List.ext_getElem?
    intro i
    rw [List.getElem?_drop]
    match i with
    | 0 => simpa using hx
    | 1 => simpa using hy
    | i + 2 => rw [List.getElem?_eq_none (by omega)]; rfl
  have hs := sumN_lt (xs.take n)
  rw [goodB, hl, Nat.add_sub_cancel, hd, ← Bool.decide_and, decide_eq_decide, tailL]
  simp only [List.cons.injEq, and_true]
  rw [u8_eq x _ (by omega), u8_eq y _ (by omega)]
  constructor
  · exact fun h => h.2
  · exact fun h => ⟨by omega, h⟩

/-! ### Rows that are unlike -/
def xor3 (x y z : UInt8) : UInt8 := x ^^^ y ^^^ z
theorem xor3_nat (x y z : UInt8) : (xor3 x y z).toNat = x.toNat ^^^ y.toNat ^^^ z.toNat := by simp [xor3, UInt8.toNat_xor]
theorem step_xor (s t u x y z : Nat) : stepN (s ^^^ t ^^^ u) (x ^^^ y ^^^ z) = stepN s x ^^^ stepN t y ^^^ stepN u z := by
  unfold stepN
  rw [← hv_xor, ← hv_xor]
  congr 1
  simp only [Nat.xor_assoc]
  congr 1
  simp only [← Nat.xor_assoc]
  congr 1
  rw [Nat.xor_comm x t]
  simp only [Nat.xor_assoc]
  congr 1
  rw [← Nat.xor_assoc u x y, Nat.xor_comm u x, Nat.xor_assoc, Nat.xor_comm u y]
/-- The first k bytes of three rows, each what they are unlike in. -/
def unl (a b c : List UInt8) : Nat → List UInt8
  | 0 => []
  | k + 1 => unl a b c k ++ [xor3 (a[k]?.getD 0) (b[k]?.getD 0) (c[k]?.getD 0)]
theorem unl_length (a b c : List UInt8) : ∀ k, (unl a b c k).length = k
  | 0 => rfl
  | k + 1 => by rw [unl, List.length_append, unl_length a b c k]; rfl
theorem unl_sum (a b c : List UInt8) : ∀ k, k ≤ a.length → k ≤ b.length → k ≤ c.length → sumN (unl a b c k) = sumN (a.take k) ^^^ sumN (b.take k) ^^^ sumN (c.take k)
  | 0, _, _, _ => by simp only [List.take_zero, unl]; decide
  | k + 1, ha, hb, hc => by
    rw [sumN_snoc a k (by omega), sumN_snoc b k (by omega), sumN_snoc c k (by omega), ← step_xor, ← unl_sum a b c k (by omega) (by omega) (by omega), unl, sumN, sumF_app]
    simp only [List.getElem?_eq_getElem (show k < a.length by omega), List.getElem?_eq_getElem (show k < b.length by omega), List.getElem?_eq_getElem (show k < c.length by omega), Option.getD_some]
    rw [← xor3_nat]
    rfl

/-! ### Bits that are turned -/
/-- The sum, bit by bit. -/
def bst (bs : List Int) : Nat → Nat
  | 0 => 65535
  | k + 1 => halfN (bst bs k ^^^ bitAt bs k)
theorem bst_byte (bs : List Int) (hb : bitsB bs = true) (j : Nat) : ∀ t, t ≤ 8 → bst bs (8 * j + t) = hv t (bst bs (8 * j) ^^^ byteTo bs j t)
  | 0, _ => by simp [hv, byteTo]
  | t + 1, ht => by
    have hx : byteTo bs j t + 2 ^ t * bitAt bs (8 * j + t) = byteTo bs j t ^^^ 2 ^ t * bitAt bs (8 * j + t) := by
      have hlt := byteTo_lt bs hb j t
      have h1 := Nat.two_pow_add_eq_or_of_lt hlt (bitAt bs (8 * j + t))
      rw [Nat.add_comm, h1]
      apply Nat.eq_of_testBit_eq
      intro i
      rw [Nat.testBit_xor, Nat.testBit_or]
      rcases Nat.lt_or_ge i t with hi | hi
      · have : (2 ^ t * bitAt bs (8 * j + t)).testBit i = false := by
          rw [Nat.testBit_two_pow_mul]
          simp; omega
        rw [this]; simp
      · have : (byteTo bs j t).testBit i = false := Nat.testBit_lt_two_pow (Nat.lt_of_lt_of_le hlt (Nat.pow_le_pow_right (by decide) hi))
        rw [this]; simp
    show halfN (bst bs (8 * j + t) ^^^ bitAt bs (8 * j + t)) = halfN (hv t _)
    rw [bst_byte bs hb j t (by omega), byteTo, hx, ← Nat.xor_assoc, hv_xor (_ ^^^ _) (2 ^ t * _), hv_pow]
theorem bst_sum (bs : List Int) (hb : bitsB bs = true) (m : Nat) : ∀ k, k ≤ m → sumN (pkTo bs k (8 * m)) = bst bs (8 * k)
  | 0, _ => rfl
  | k + 1, hk => by
    have hlt := byteTo_lt bs hb k 8
    rw [pkTo_snoc, sumN, sumF_app]
    show stepN (sumN (pkTo bs k (8 * m))) (UInt8.ofNat (byteTo bs k (min 8 (8 * m - 8 * k)))).toNat = _
    rw [bst_sum bs hb m k (by omega), show min 8 (8 * m - 8 * k) = 8 by omega, UInt8.toNat_ofNat', Nat.mod_eq_of_lt hlt, show 8 * (k + 1) = 8 * k + 8 by omega, bst_byte bs hb k 8 (Nat.le_refl _)]
    rfl
theorem bst_lt (bs : List Int) (hb : bitsB bs = true) : ∀ k, bst bs k < 65536
  | 0 => by show 65535 < 65536; decide
  | k + 1 => half_lt _ (Nat.xor_lt_two_pow (n := 16) (by have := bst_lt bs hb k; omega) (by have := bitAt_le bs hb k; omega))
/-- The bits of M from the place p on are turned. -/
def Turned (bs cs : List Int) (p M : Nat) : Prop := ∀ i, bitAt cs i = (bitAt bs i ^^^ (if i < p then 0 else M / 2 ^ (i - p) % 2))
theorem turned_bst (bs cs : List Int) (p M n : Nat) (h : ∀ i, i < n → bitAt cs i = (bitAt bs i ^^^ (if i < p then 0 else M / 2 ^ (i - p) % 2))) :
    ∀ k, k ≤ n → bst cs k = bst bs k ^^^ (if k ≤ p then 0 else hv (k - p) (M % 2 ^ (k - p)))
  | 0, _ => by simp [bst]
  | k + 1, hk => by
    show halfN (bst cs k ^^^ bitAt cs k) = halfN (bst bs k ^^^ bitAt bs k) ^^^ _
    rw [turned_bst bs cs p M n h k (by omega), h k (by omega)]
    have hre : ∀ a b x y : Nat, (a ^^^ x) ^^^ (b ^^^ y) = (a ^^^ b) ^^^ (x ^^^ y) := by
      intro a b x y
      rw [Nat.xor_assoc, Nat.xor_assoc, ← Nat.xor_assoc x, Nat.xor_comm x b, Nat.xor_assoc]
    rw [hre, half_xor]
    congr 1
    rcases Nat.lt_or_ge k p with hp | hp
    · rw [if_pos (by omega), if_pos hp, if_pos (by omega)]; rfl
    · rw [if_neg (by omega : ¬ k < p), if_neg (by omega : ¬ k + 1 ≤ p)]
      obtain ⟨t, rfl⟩ : ∃ t, k = p + t := ⟨k - p, by omega⟩
      rw [show p + t + 1 - p = t + 1 by omega, show p + t - p = t by omega, hv]
      congr 1
      have hm : M % 2 ^ (t + 1) = M % 2 ^ t ^^^ 2 ^ t * (M / 2 ^ t % 2) := by
        rw [Nat.mod_pow_succ]
        have hlt : M % 2 ^ t < 2 ^ t := Nat.mod_lt _ (Nat.two_pow_pos t)
        rw [Nat.add_comm, Nat.two_pow_add_eq_or_of_lt hlt]
        apply Nat.eq_of_testBit_eq
        intro i
        rw [Nat.testBit_xor, Nat.testBit_or]
        rcases Nat.lt_or_ge i t with hi | hi
        · have : (2 ^ t * (M / 2 ^ t % 2)).testBit i = false := by
            rw [Nat.testBit_two_pow_mul]
            simp; omega
          rw [this]; simp
        · have : (M % 2 ^ t).testBit i = false := Nat.testBit_lt_two_pow (Nat.lt_of_lt_of_le hlt (Nat.pow_le_pow_right (by decide) hi))
          rw [this]; simp
      rw [hm, hv_xor, hv_pow]
      congr 1
      rcases Nat.eq_zero_or_pos t with h0 | h0
      · subst h0
        rw [if_pos (by omega), Nat.pow_zero, Nat.mod_one]; rfl
      · rw [if_neg (by omega)]
/-- What was Good is not so any more. -/
theorem turned_bad (bs cs : List Int) (hb : bitsB bs = true) (hc : bitsB cs = true) (p M m : Nat) (hp : p < 8 * m) (hM : M < 65536) (ho : M % 2 = 1) (hm : 2 ≤ m)
    (h : ∀ i, i < 8 * m → bitAt cs i = (bitAt bs i ^^^ (if i < p then 0 else M / 2 ^ (i - p) % 2))) (hg : goodB (pkTo bs m (8 * m)) = true) : goodB (pkTo cs m (8 * m)) = false := by
  rw [good_sum _ (by rw [pkTo_length]; exact hm), decide_eq_true_eq, bst_sum bs hb m m (Nat.le_refl _)] at hg
  rw [good_sum _ (by rw [pkTo_length]; exact hm), decide_eq_false_iff_not, bst_sum cs hc m m (Nat.le_refl _), turned_bst bs cs p M (8 * m) h (8 * m) (Nat.le_refl _), hg, if_neg (by omega), Nat.zero_xor]
  obtain ⟨t, ht⟩ : ∃ t, 8 * m - p = t + 1 := ⟨8 * m - p - 1, by omega⟩
  rw [ht]
  refine hv_ne _ (Nat.lt_of_le_of_lt (Nat.mod_le _ _) hM) ?_ _
  intro h0
  have : M % 2 ^ (t + 1) % 2 = M % 2 := Nat.mod_mod_of_dvd _ ⟨2 ^ t, by rw [Nat.pow_succ, Nat.mul_comm]⟩
  rw [h0] at this
  omega

end Go.Proofs.Ytkbombdhdgdpnaa
