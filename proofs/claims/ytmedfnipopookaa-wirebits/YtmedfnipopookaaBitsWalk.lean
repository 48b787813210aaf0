/-
  What is proved here: the law WireBits returns true for every list of ints and every slice of bytes, and writes nothing that was there. No condition.
-/
import Derived.Test.YtmedfnipopookaaAwake1
import Derived.Test.YtmedfnipopookaaRef1
namespace Go.Proofs.Ytmedfnipopookaa
set_option linter.unusedVariables false
set_option linter.unusedSimpArgs false
open Go.RowKit

theorem byteTo_bit (xs : List Int) (h : bitsB xs = true) (j T t : Nat) (ht : t < T) : byteTo xs j T / 2 ^ t % 2 = bitAt xs (8 * j + t) := by
  induction T with
  | zero => omega
  | succ T ih =>
    have hlt := byteTo_lt xs h j T
    have hb := bitAt_le xs h (8 * j + T)
    simp only [byteTo]
    rcases Nat.lt_or_eq_of_le (Nat.le_of_lt_succ ht) with hl | rfl
    · have e : 2 ^ T = 2 ^ t * (2 * 2 ^ (T - t - 1)) := by
        rw [← Nat.pow_succ', ← Nat.pow_add]
        congr 1
        omega
      rw [e, Nat.mul_assoc, Nat.add_mul_div_left _ _ (Nat.two_pow_pos t), Nat.mul_assoc, Nat.add_mul_mod_self_left]
      exact ih hl
    · rw [Nat.add_mul_div_left _ _ (Nat.two_pow_pos t), Nat.div_eq_of_lt hlt, Nat.zero_add]
      omega
theorem unpack_pack (xs : List Int) (n m : Nat) (hn : xs.length = n) (h : bitsB xs = true) (hm : n ≤ 8 * m) : unpackL (pkTo xs m n) n = xs := by
  apply List.ext_getElem
  · rw [unpackL_length, hn]
  · intro i h1 h2
    have hi : i < n := by rw [← hn]; exact h2
    simp only [unpackL, List.getElem_map, List.getElem_range]
    have hb := byteTo_lt xs h (i / 8) (min 8 (n - 8 * (i / 8)))
    have h8 : 2 ^ (min 8 (n - 8 * (i / 8))) ≤ 2 ^ 8 := Nat.pow_le_pow_right (by decide) (by omega)
    rw [pkTo_get xs m n (i / 8) (by omega), Option.getD_some, bitOf, UInt8.toNat_ofNat', Nat.mod_eq_of_lt (show byteTo xs (i / 8) (min 8 (n - 8 * (i / 8))) < 2 ^ 8 from by omega), byteTo_bit xs h _ _ _ (by omega), show 8 * (i / 8) + i % 8 = i from by omega]
    have hbit : xs[i] = 0 ∨ xs[i] = 1 := by simpa using List.all_eq_true.1 h xs[i] (List.getElem_mem h2)
    unfold bitAt
    rw [List.getElem?_eq_getElem h2, Option.getD_some]
    rcases hbit with e | e <;> rw [e] <;> rfl
theorem bits_unpack (b : List UInt8) (n : Nat) : bitsB (unpackL b n) = true := by
  unfold bitsB unpackL
  rw [List.all_eq_true]
  intro x hx
  simp only [List.mem_map] at hx
  obtain ⟨i, _, rfl⟩ := hx
  unfold bitOf
  have := Nat.mod_two_eq_zero_or_one ((b[i / 8]?.getD 0).toNat / 2 ^ (i % 8))
  rcases this with e | e <;> rw [e] <;> rfl
theorem byteTo_unpack (b : List UInt8) (j l : Nat) (hj : j < l) : ∀ T, T ≤ 8 → byteTo (unpackL b (8 * l)) j T = (b[j]?.getD 0).toNat % 2 ^ T
  | 0, _ => by simp [byteTo, Nat.mod_one]
  | T + 1, hT => by
    rw [byteTo, byteTo_unpack b j l hj T (by omega), Nat.mod_pow_succ]
    congr 2
    unfold bitAt unpackL
    rw [List.getElem?_map, List.getElem?_range (by omega)]
    simp only [Option.map_some, Option.getD_some, bitOf, Int.toNat_natCast]
    rw [show (8 * j + T) / 8 = j from by omega, show (8 * j + T) % 8 = T from by omega]
theorem pack_unpack (b : List UInt8) (l : Nat) (hl : b.length = l) : pkTo (unpackL b (8 * l)) l (8 * l) = b := by
  apply List.ext_getElem
  · rw [pkTo_length, hl]
  · intro i h1 h2
    have hi : i < l := by rw [← hl]; exact h2
    simp only [pkTo, List.getElem_map, List.getElem_range]
    rw [show min 8 (8 * l - 8 * i) = 8 from by omega, byteTo_unpack b i l hi 8 (by omega), List.getElem?_eq_getElem h2, Option.getD_some]
    have := b[i].toNat_lt
    rw [Nat.mod_eq_of_lt (by omega)]
    exact UInt8.ofNat_toNat

set_option maxHeartbeats 4000000 in
set_option maxRecDepth 100000 in
theorem bits_walk (B : Option Addr) (bl bc : Nat) (bs : List Int) (A : Option Addr) (l c : Nat) (xs : List UInt8) (w : World) (hB : Rd w B bl (iv bs)) (hbs : bs.length = bl) (h : Rd w A l (bv xs)) (hx : xs.length = l) (hbm : bl ≤ maxLen) :
    Calls Try.prog 7 #[.slice B bl bc, .slice A l c] w fun e w' => e = .returned (.bool true) ∧ Below w.heap.size w w' := by
  unfold maxLen at hbm
  by_cases h3 : 3000 < bl
  · have q3 : (3000 : Int) < (bl : Int) := by omega
    clear hB hbs h hx
    go_enter Try.func7, Try.ntmps7
    go_wp2_with fail
    go_ret
    exact ⟨rfl, Below.refl _ _⟩
  have q3 : ¬ (3000 : Int) < (bl : Int) := by omega
  by_cases hs : l ≤ 2000
  · have hsm : decide (l ≤ 2000) = true := by simpa using hs
    cases hb : bitsB bs
    · have HBt := hide (bits_any B bl bc bs w hB (by omega))
      rw [hb] at HBt
      clear hb hbs hx h hB
      go_enter Try.func7, Try.ntmps7
      go_wp2_with (first
        | (go_at_call 9; refine (small_any A l c w).mono ?_; rintro e w' ⟨rfl, rfl⟩; rw [hsm])
        | (go_at_call 22; refine HBt.out.mono ?_; rintro e w' ⟨rfl, rfl⟩))
      go_ret
      exact ⟨rfl, Below.refl _ _⟩
    · obtain ⟨m8, hm1, hm2⟩ : ∃ m, bl ≤ 8 * m ∧ 8 * m < bl + 8 := ⟨(bl + 7) / 8, by omega, by omega⟩
      have HBt := hide (bits_any B bl bc bs w hB (by omega))
      rw [hb] at HBt
      have P1 := hide (pack_ok B bl bc m8 bs w hB (by omega) hb hm1 hm2)
      have Hpl := hide (show (bv (pkTo bs m8 bl)).length = m8 by rw [bv_length, pkTo_length])
      have Hup := hide (unpack_pack bs bl m8 hbs hb hm1)
      have Hpu := hide (pack_unpack xs l hx)
      have qm : ((bl : Int) + 7) / 8 = (m8 : Int) := by omega
      have qb : ((m8 : Int) == ((bl : Int) + 7) / 8) = true := by rw [qm]; exact beq_self_eq_true _
      have Hbl := hide hbs
      have Hxl := hide hx
      clear hb hbs hx qm
      go_enter Try.func7, Try.ntmps7
      go_wp2_with (first
        | (go_at_call 9; refine (small_any A l c w).mono ?_; rintro e w' ⟨rfl, rfl⟩; rw [hsm])
        | (go_at_call 22; refine HBt.out.mono ?_; rintro e w' ⟨rfl, rfl⟩))
      refine P1.out.mono ?_
      rintro e w1 ⟨rfl, k1, b1⟩
      go_wp2_with fail
      refine (unpack_ok _ m8 m8 bl _ w1 (k1.reads (Below.refl _ _) m8 Hpl.out) hm1 (by omega)).mono ?_
      rintro e w2 ⟨rfl, k2, b2⟩
      rw [Hup.out] at k2
      go_wp2_with fail
      have U := unpack_ok A l c (8 * l) xs w2 (h.keep (below_on b1 b2)) (Nat.le_refl _) (by omega)
      rw [show ((8 * l : Nat) : Int) = 8 * (l : Int) from by omega] at U
      refine U.mono ?_
      clear U
      rintro e w3 ⟨rfl, k3, b3⟩
      go_wp2_with fail
      refine (pack_ok _ (8 * l) (8 * l) l _ w3 (k3.reads (Below.refl _ _) (8 * l) (by rw [iv_length, unpackL_length])) (by omega) (bits_unpack xs (8 * l)) (Nat.le_refl _) (by omega)).mono ?_
      rintro e w4 ⟨rfl, k4, b4⟩
      rw [Hpu.out] at k4
      have s24 := below_on b3 b4
      have s4 := below_on (below_on b1 b2) s24
      go_wp2_with (first
        | (go_at_call 12; refine (awake_any _).mono ?_; rintro e w5 ⟨rfl, b5⟩; have s5 := below_on s4 b5; have r2 := k2.reads (below_on s24 b5) bl (by rw [iv_length]; exact Hbl.out); have r4 := (k4.reads b5 l (by rw [bv_length]; exact Hxl.out)).toStr (P := Try.prog) 22 5 9 Try.underlying22 Try.underlying5 Try.underlying9; have r0 := (h.keep s5).toStr (P := Try.prog) 22 5 9 Try.underlying22 Try.underlying5 Try.underlying9)
        | (go_at_call 24; refine (ints_any _ B bl bl bl bc bs bs _ r2 (hB.keep s5) (by omega) (by omega)).mono ?_; rintro e w' ⟨rfl, q9, rfl⟩; rw [decide_eq_true rfl]; have r4' := (((k4.reads b5 l (by rw [bv_length]; exact Hxl.out)).drewN q9).toStr (P := Try.prog) 22 5 9 Try.underlying22 Try.underlying5 Try.underlying9); have r0' := (((h.keep s5).drewN q9).toStr (P := Try.prog) 22 5 9 Try.underlying22 Try.underlying5 Try.underlying9)))
      go_ret
      exact ⟨rfl, below_drewN s5 _⟩
  · have hsm : decide (l ≤ 2000) = false := by simpa using hs
    go_enter Try.func7, Try.ntmps7
    go_wp2_with (go_at_call 9; refine (small_any A l c w).mono ?_; rintro e w' ⟨rfl, rfl⟩; rw [hsm])
    go_ret
    exact ⟨rfl, Below.refl _ _⟩

end Go.Proofs.Ytmedfnipopookaa
