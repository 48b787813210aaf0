/-
  What is proved here: plain facts on bits as bytes (package wire's Pack and Unpack). Nothing of the program is named.
-/
import Derived.Test.YtkgidimaiedocaaBase
namespace Go.Proofs.Ytkgidimaiedocaa
set_option linter.unusedVariables false
set_option linter.unusedSimpArgs false
open Go.RowKit

/-- The bit at the place i, 0 where there is none. -/
def bitAt (xs : List Int) (i : Nat) : Nat := (xs[i]?.getD 0).toNat
/-- The first t bits of the byte j. -/
def byteTo (xs : List Int) (j : Nat) : Nat → Nat
  | 0 => 0
  | t + 1 => byteTo xs j t + 2 ^ t * bitAt xs (8 * j + t)
/-- All are 0 or 1. -/
def bitsB (xs : List Int) : Bool := xs.all fun x => x == 0 || x == 1

theorem bitsB_snoc (xs : List Int) (k : Nat) (h : k < xs.length) : bitsB (xs.take (k + 1)) = (bitsB (xs.take k) && (xs[k] == 0 || xs[k] == 1)) := by
  rw [List.take_succ_eq_append_getElem h]
  unfold bitsB
  rw [List.all_append, List.all_cons, List.all_nil, Bool.and_true]
theorem bitAt_le (xs : List Int) (h : bitsB xs = true) (i : Nat) : bitAt xs i ≤ 1 := by
  unfold bitAt
  rcases Nat.lt_or_ge i xs.length with hi | hi
  · have := (List.all_eq_true.1 h) xs[i] (List.getElem_mem hi)
    rw [List.getElem?_eq_getElem hi]
    simp only [Option.getD_some]
    simp only [Bool.or_eq_true, beq_iff_eq] at this
    rcases this with e | e <;> rw [e] <;> decide
  · rw [List.getElem?_eq_none hi]
    decide

theorem byteTo_lt (xs : List Int) (h : bitsB xs = true) (j t : Nat) : byteTo xs j t < 2 ^ t := by
  induction t with
  | zero => simp [byteTo]
  | succ t ih =>
    have hb := bitAt_le xs h (8 * j + t)
    simp only [byteTo]
    have : 2 ^ t * bitAt xs (8 * j + t) ≤ 2 ^ t := by
      rcases Nat.le_one_iff_eq_zero_or_eq_one.1 hb with e | e <;> rw [e] <;> simp
    have e2 : 2 ^ (t + 1) = 2 * 2 ^ t := by rw [Nat.pow_succ, Nat.mul_comm]
    omega

/-- m bytes of the first k bits. -/
def pkTo (xs : List Int) (m k : Nat) : List UInt8 := (List.range m).map fun j => UInt8.ofNat (byteTo xs j (min 8 (k - 8 * j)))
/-- The bytes of the bits. -/
def packL (xs : List Int) : List UInt8 := pkTo xs ((xs.length + 7) / 8) xs.length

theorem pkTo_length (xs : List Int) (m k : Nat) : (pkTo xs m k).length = m := by simp [pkTo]
theorem pkTo_zero (xs : List Int) (m : Nat) : bv (pkTo xs m 0) = List.replicate m (.int .u8 0) := by
  apply List.ext_getElem
  · simp [bv, pkTo]
  · intro i h1 h2
    simp [bv, pkTo, byteTo]
theorem pkTo_get (xs : List Int) (m k j : Nat) (hj : j < m) : (pkTo xs m k)[j]? = some (UInt8.ofNat (byteTo xs j (min 8 (k - 8 * j)))) := by
  simp [pkTo, hj]

theorem pkTo_succ (xs : List Int) (m k : Nat) (h : bitsB xs = true) (hk : k / 8 < m) :
    bv (pkTo xs m (k + 1)) = (bv (pkTo xs m k)).set (k / 8) (.int .u8 ((byteTo xs (k / 8) (k % 8) + 2 ^ (k % 8) * bitAt xs k : Nat) : Int)) := by
  have hb := byteTo_lt xs h (k / 8) (k % 8 + 1)
  have h8 : 2 ^ (k % 8 + 1) ≤ 2 ^ 8 := Nat.pow_le_pow_right (by decide) (by omega)
  apply List.ext_getElem
  · simp [bv, pkTo]
  · intro i h1 h2
    have hi : i < m := by simpa [bv, pkTo] using h1
    rw [List.getElem_set]
    by_cases e : k / 8 = i
    · subst e
      rw [if_pos rfl]
      have e1 : min 8 (k + 1 - 8 * (k / 8)) = k % 8 + 1 := by omega
      have e2 : 8 * (k / 8) + k % 8 = k := by omega
      simp only [bv, pkTo, List.map_map, List.getElem_map, List.getElem_range, Function.comp, e1]
      simp only [byteTo, e2] at hb ⊢
      rw [UInt8.toNat_ofNat', Nat.mod_eq_of_lt (by omega)]
    · rw [if_neg e]
      have e1 : min 8 (k + 1 - 8 * i) = min 8 (k - 8 * i) := by omega
      simp only [bv, pkTo, List.map_map, List.getElem_map, List.getElem_range, Function.comp, e1]

theorem pkTo_snoc (xs : List Int) (j n : Nat) : pkTo xs (j + 1) n = pkTo xs j n ++ [UInt8.ofNat (byteTo xs j (min 8 (n - 8 * j)))] := by
  simp [pkTo, List.range_succ]
theorem bv_byte (B : Nat) (h : B < 256) : bv [UInt8.ofNat B] = [.int .u8 (B : Int)] := by
  simp only [bv, List.map_cons, List.map_nil, UInt8.toNat_ofNat']
  rw [Nat.mod_eq_of_lt (by omega)]
theorem or_bit (a b t : Nat) (ha : a < 2 ^ t) : a ||| (2 ^ t * b) = a + 2 ^ t * b := by
  rw [Nat.or_comm, ← Nat.two_pow_add_eq_or_of_lt ha]
  omega

theorem or0_u8 (B : Nat) (hB : B < 256) : bits .or .u8 (B : Int) 0 = (B : Int) := by
  have := u8_or_nat B 0 hB (by decide)
  simpa using this
theorem two_pow_lt (t : Nat) (ht : t < 8) : 2 ^ t < 256 := by
  have : 2 ^ t ≤ 2 ^ 7 := Nat.pow_le_pow_right (by decide) (by omega)
  omega
theorem or1_u8 (B t : Nat) (hB : B < 2 ^ t) (ht : t < 8) : bits .or .u8 (B : Int) (2 ^ t % 256) = ((B + 2 ^ t : Nat) : Int) := by
  have h := two_pow_lt t ht
  have e : (2 : Int) ^ t % 256 = ((2 ^ t : Nat) : Int) := by
    have e0 : (2 : Int) ^ t = ((2 ^ t : Nat) : Int) := by rw [Int.natCast_pow]; rfl
    rw [e0]
    omega
  rw [e, u8_or_nat B _ (by omega) h]
  have := or_bit B 1 t hB
  rw [Nat.mul_one] at this
  rw [this]
/-- A bit that is 0, or 1, is laid into its byte. -/
theorem pk_bit0 (xs : List Int) (m k : Nat) (h : bitsB xs = true) (hk : k / 8 < m) (e : bitAt xs k = 0) :
    (bv (pkTo xs m k)).set (k / 8) (.int .u8 (bits .or .u8 ((byteTo xs (k / 8) (k % 8) : Nat) : Int) 0)) = bv (pkTo xs m (k + 1)) := by
  have hb := byteTo_lt xs h (k / 8) (k % 8)
  have h2 := two_pow_lt (k % 8) (by omega)
  rw [or0_u8 _ (by omega), pkTo_succ xs m k h hk, e, Nat.mul_zero, Nat.add_zero]
theorem pk_bit1 (xs : List Int) (m k : Nat) (h : bitsB xs = true) (hk : k / 8 < m) (e : bitAt xs k = 1) :
    (bv (pkTo xs m k)).set (k / 8) (.int .u8 (bits .or .u8 ((byteTo xs (k / 8) (k % 8) : Nat) : Int) (2 ^ (k % 8) % 256))) = bv (pkTo xs m (k + 1)) := by
  have hb := byteTo_lt xs h (k / 8) (k % 8)
  rw [or1_u8 _ _ hb (by omega), pkTo_succ xs m k h hk, e, Nat.mul_one]
theorem pk_cell (xs : List Int) (m k : Nat) (h : bitsB xs = true) (hk : k / 8 < m) : (bv (pkTo xs m k))[k / 8]? = some (.int .u8 ((byteTo xs (k / 8) (k % 8) : Nat) : Int)) := by
  have hb := byteTo_lt xs h (k / 8) (k % 8)
  have h2 := two_pow_lt (k % 8) (by omega)
  have e : min 8 (k - 8 * (k / 8)) = k % 8 := by omega
  rw [bv, List.getElem?_map, pkTo_get xs m k _ hk, e]
  simp only [Option.map_some, UInt8.toNat_ofNat']
  rw [Nat.mod_eq_of_lt (by omega)]

/-- The first n bits of bytes. -/
def bitOf (x : UInt8) (t : Nat) : Int := ((x.toNat / 2 ^ t % 2 : Nat) : Int)
def unpackL (b : List UInt8) (n : Nat) : List Int := (List.range n).map fun i => bitOf (b[i / 8]?.getD 0) (i % 8)
theorem unpackL_length (b : List UInt8) (n : Nat) : (unpackL b n).length = n := by simp [unpackL]
theorem unpackL_succ (b : List UInt8) (n : Nat) : unpackL b (n + 1) = unpackL b n ++ [bitOf (b[n / 8]?.getD 0) (n % 8)] := by
  simp [unpackL, List.range_succ]

theorem and1_i64 (x t : Nat) (hx : x < 256) : bits .and .i64 (wrap64 ((x : Int) / 2 ^ t)) 1 = ((x / 2 ^ t % 2 : Nat) : Int) := by
  have e0 : (x : Int) / 2 ^ t = ((x / 2 ^ t : Nat) : Int) := by rw [Int.natCast_ediv, Int.natCast_pow]; rfl
  have hd : x / 2 ^ t ≤ x := Nat.div_le_self _ _
  rw [e0]
  generalize x / 2 ^ t = d at *
  have e1 : wrap64 ((d : Nat) : Int) = (d : Int) := IntWalk.wrap64_in _ (by omega)
  rw [e1]
  have := i64_and_nat d 1 (by omega) (by decide)
  rw [Nat.and_one_is_mod] at this
  exact this
theorem unpack_set (xs : List UInt8) (n k : Nat) (h : k < n) : (iv (unpackL xs k ++ List.replicate (n - k) 0)).set k (.int .i64 (bitOf (xs[k / 8]?.getD 0) (k % 8))) = iv (unpackL xs (k + 1) ++ List.replicate (n - (k + 1)) 0) := by
  have e : n - k = (n - (k + 1)) + 1 := by omega
  rw [iv, ← List.map_set, e, List.replicate_succ, List.set_append_right _ _ (by rw [unpackL_length]; exact Nat.le_refl _), unpackL_length, Nat.sub_self, unpackL_succ]
  simp [iv]

theorem byteTo_bit (xs : List Int) (h : bitsB xs = true) (j T t : Nat) (ht : t < T) : byteTo xs j T / 2 ^ t % 2 = bitAt xs (8 * j + t) := by
  induction T with
  | zero => omega
  | succ T ih =>
    have hlt := byteTo_lt xs h j T
    have hb := bitAt_le xs h (8 * j + T)
    simp only [byteTo]
    rcases Nat.lt_or_eq_of_le (Nat.le_of_lt_succ ht) with hl | rfl
    · have e : 2 ^ T = 2 ^ t * (2 * 2 ^ (T - t - 1)) := by
        rw [← Nat.pow_succ', ← Nat.pow_add]
        congr 1
        omega
      rw [e, Nat.mul_assoc, Nat.add_mul_div_left _ _ (Nat.two_pow_pos t), Nat.mul_assoc, Nat.add_mul_mod_self_left]
      exact ih hl
    · rw [Nat.add_mul_div_left _ _ (Nat.two_pow_pos t), Nat.div_eq_of_lt hlt, Nat.zero_add]
      omega
theorem unpack_pack (xs : List Int) (n m : Nat) (hn : xs.length = n) (h : bitsB xs = true) (hm : n ≤ 8 * m) : unpackL (pkTo xs m n) n = xs := by
  apply List.ext_getElem
  · rw [unpackL_length, hn]
  · intro i h1 h2
    have hi : i < n := by rw [← hn]; exact h2
    simp only [unpackL, List.getElem_map, List.getElem_range]
    have hb := byteTo_lt xs h (i / 8) (min 8 (n - 8 * (i / 8)))
    have h8 : 2 ^ (min 8 (n - 8 * (i / 8))) ≤ 2 ^ 8 := Nat.pow_le_pow_right (by decide) (by omega)
    rw [pkTo_get xs m n (i / 8) (by omega), Option.getD_some, bitOf, UInt8.toNat_ofNat', Nat.mod_eq_of_lt (show byteTo xs (i / 8) (min 8 (n - 8 * (i / 8))) < 2 ^ 8 from by omega), byteTo_bit xs h _ _ _ (by omega), show 8 * (i / 8) + i % 8 = i from by omega]
    have hbit : xs[i] = 0 ∨ xs[i] = 1 := by simpa using List.all_eq_true.1 h xs[i] (List.getElem_mem h2)
    unfold bitAt
    rw [List.getElem?_eq_getElem h2, Option.getD_some]
    rcases hbit with e | e <;> rw [e] <;> rfl
theorem bits_unpack (b : List UInt8) (n : Nat) : bitsB (unpackL b n) = true := by
  unfold bitsB unpackL
  rw [List.all_eq_true]
  intro x hx
  simp only [List.mem_map] at hx
  obtain ⟨i, _, rfl⟩ := hx
  unfold bitOf
  have := Nat.mod_two_eq_zero_or_one ((b[i / 8]?.getD 0).toNat / 2 ^ (i % 8))
  rcases this with e | e <;> rw [e] <;> rfl
theorem byteTo_unpack (b : List UInt8) (j l : Nat) (hj : j < l) : ∀ T, T ≤ 8 → byteTo (unpackL b (8 * l)) j T = (b[j]?.getD 0).toNat % 2 ^ T
  | 0, _ => by simp [byteTo, Nat.mod_one]
  | T + 1, hT => by
    rw [byteTo, byteTo_unpack b j l hj T (by omega), Nat.mod_pow_succ]
    congr 2
    unfold bitAt unpackL
    rw [List.getElem?_map, List.getElem?_range (by omega)]
    simp only [Option.map_some, Option.getD_some, bitOf, Int.toNat_natCast]
    rw [show (8 * j + T) / 8 = j from by omega, show (8 * j + T) % 8 = T from by omega]
theorem pack_unpack (b : List UInt8) (l : Nat) (hl : b.length = l) : pkTo (unpackL b (8 * l)) l (8 * l) = b := by
  apply List.ext_getElem
  · rw [pkTo_length, hl]
  · intro i h1 h2
    have hi : i < l := by rw [← hl]; exact h2
    simp only [pkTo, List.getElem_map, List.getElem_range]
    rw [show min 8 (8 * l - 8 * i) = 8 from by omega, byteTo_unpack b i l hi 8 (by omega), List.getElem?_eq_getElem h2, Option.getD_some]
    have := b[i].toNat_lt
    rw [Nat.mod_eq_of_lt (by omega)]
    exact UInt8.ofNat_toNat

end Go.Proofs.Ytkgidimaiedocaa
