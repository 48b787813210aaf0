/-
  What is proved here: the law CrcTurned returns true for every slice of bytes and every two ints, and writes nothing that was there. No condition.
-/
import Derived.Test.YtpolcahpbajiaaaAwake2
import Derived.Test.YtpolcahpbajiaaaRef2
import Derived.Test.YtpolcahpbajiaaaRefBits
namespace Go.Proofs.Ytpolcahpbajiaaa
set_option linter.unusedVariables false
set_option linter.unusedSimpArgs false
open Go.RowKit

theorem set_bits (bs : List Int) (hb : bitsB bs = true) (j : Nat) (x : Int) (hx : x = 0 ∨ x = 1) : bitsB (bs.set j (1 - x)) = true := by
  rw [bitsB, List.all_eq_true] at *
  intro y hy
  rcases List.mem_or_eq_of_mem_set hy with h | h
  · exact hb y h
  · subst h
    rcases hx with rfl | rfl <;> decide
theorem set_at (bs : List Int) (j : Nat) (hj : j < bs.length) (hx : bs[j] = 0 ∨ bs[j] = 1) (i : Nat) : bitAt (bs.set j (1 - bs[j])) i = bitAt bs i ^^^ (if i = j then 1 else 0) := by
  unfold bitAt
  by_cases h : i = j
  · subst h
    rw [if_pos rfl, List.getElem?_set_self hj, List.getElem?_eq_getElem hj]
    rcases hx with e | e <;> rw [e] <;> decide
  · rw [if_neg h, List.getElem?_set_ne (fun e => h e.symm), Nat.xor_zero]
theorem bits_get (bs : List Int) (hb : bitsB bs = true) (j : Nat) (hj : j < bs.length) : bs[j] = 0 ∨ bs[j] = 1 := by
  simpa using List.all_eq_true.1 hb bs[j] (List.getElem_mem hj)
theorem iv_set (bs : List Int) (rest : List Value) (j : Nat) (hj : j < bs.length) (x : Int) : (iv bs ++ rest).set j (.int .i64 x) = iv (bs.set j x) ++ rest := by
  rw [List.set_append_left _ _ (by rw [iv_length]; exact hj), iv, iv, List.map_set]

/-- So far bits are turned: those below p + K. -/
def SoFar (b0 bs : List Int) (p M K : Nat) : Prop := bitsB bs = true ∧ bs.length = b0.length ∧ ∀ i, bitAt bs i = bitAt b0 i ^^^ (if i < p then 0 else if i < p + K then M / 2 ^ (i - p) % 2 else 0)
theorem soFar_zero (b0 : List Int) (h : bitsB b0 = true) (p M : Nat) : SoFar b0 b0 p M 0 := by
  refine ⟨h, rfl, fun i => ?_⟩
  by_cases hp : i < p
  · rw [if_pos hp, Nat.xor_zero]
  · rw [if_neg hp, if_neg (by omega), Nat.xor_zero]
theorem soFar_same (b0 bs : List Int) (p M K : Nat) (h : SoFar b0 bs p M K) (hM : M / 2 ^ K % 2 = 0) : SoFar b0 bs p M (K + 1) := by
  refine ⟨h.1, h.2.1, fun i => ?_⟩
  rw [h.2.2 i]
  congr 1
  by_cases hp : i < p
  · rw [if_pos hp, if_pos hp]
  · rw [if_neg hp, if_neg hp]
    by_cases hk : i < p + K
    · rw [if_pos hk, if_pos (by omega)]
    · rw [if_neg hk]
      by_cases he : i = p + K
      · subst he
        rw [if_pos (by omega), show p + K - p = K by omega, hM]
      · rw [if_neg (by omega)]
theorem soFar_turn (b0 bs : List Int) (p M K : Nat) (h : SoFar b0 bs p M K) (hM : M / 2 ^ K % 2 = 1) (hj : p + K < bs.length) : SoFar b0 (bs.set (p + K) (1 - bs[p + K])) p M (K + 1) := by
  have hx := bits_get bs h.1 (p + K) hj
  refine ⟨set_bits bs h.1 _ _ hx, by rw [List.length_set]; exact h.2.1, fun i => ?_⟩
  rw [set_at bs (p + K) hj hx, h.2.2 i, Nat.xor_assoc]
  congr 1
  by_cases hp : i < p
  · rw [if_pos hp, if_pos hp, if_neg (by omega)]; rfl
  · rw [if_neg hp, if_neg hp]
    by_cases hk : i < p + K
    · rw [if_pos hk, if_pos (show i < p + (K + 1) by omega), if_neg (show ¬ i = p + K by omega), Nat.xor_zero]
    · rw [if_neg hk]
      by_cases he : i = p + K
      · subst he
        rw [if_pos rfl, if_pos (by omega), show p + K - p = K by omega, hM]; rfl
      · rw [if_neg he, if_neg (show ¬ i < p + (K + 1) by omega)]; rfl
theorem soFar_done (b0 bs : List Int) (p M K n : Nat) (h : SoFar b0 bs p M K) (hM : M < 65536) (hK : 16 ≤ K ∨ n ≤ p + K) : ∀ i, i < n → bitAt bs i = (bitAt b0 i ^^^ (if i < p then 0 else M / 2 ^ (i - p) % 2)) := by
  intro i hi
  rw [h.2.2 i]
  congr 1
  by_cases hp : i < p
  · rw [if_pos hp, if_pos hp]
  · rw [if_neg hp, if_neg hp]
    by_cases hk : i < p + K
    · rw [if_pos hk]
    · rw [if_neg hk]
      have h16 : 2 ^ 16 ≤ 2 ^ (i - p) := Nat.pow_le_pow_right (by decide) (by omega)
      rw [Nat.div_eq_of_lt (Nat.lt_of_lt_of_le hM (by rw [show 65536 = 2 ^ 16 from rfl]; exact h16))]
/-- Turned so, it is not Good any more. -/
theorem soFar_bad (ys : List UInt8) (m : Nat) (hm : ys.length + 2 = m) (bs : List Int) (p M K : Nat) (h : SoFar (unpackL (ys ++ tailL (sumN ys)) (8 * m)) bs p M K) (hp : p < 8 * m) (hM : M < 65536) (ho : M % 2 = 1) (hK : 16 ≤ K ∨ 8 * m ≤ p + K) :
    goodB (pkTo bs m (8 * m)) = false := by
  have hl : (ys ++ tailL (sumN ys)).length = m := by rw [List.length_append]; exact hm
  refine turned_bad (unpackL (ys ++ tailL (sumN ys)) (8 * m)) bs (bits_unpack _ _) h.1 p M m hp hM ho (by omega) (soFar_done _ _ p M K _ h hM hK) ?_
  rw [pack_unpack _ m hl]
  exact good_tail ys
theorem bitM (O K : Nat) : (1 + 2 * O) / 2 ^ (K + 1) = O / 2 ^ K := by
  rw [Nat.pow_succ, Nat.mul_comm (2 ^ K) 2, ← Nat.div_div_eq_div_mul]
  congr 1
  omega


set_option maxHeartbeats 4000000 in
set_option maxRecDepth 100000 in
theorem turned2_walk (A : Option Addr) (l c : Nat) (xs : List UInt8) (p o : Int) (w : World) (h : Rd w A l (bv xs)) (hp63 : p ≤ 9223372036854775807) :
    Calls Try.prog 6 #[.slice A l c, .int .i64 p, .int .i64 o] w fun e w' => e = .returned (.bool true) ∧ Below w.heap.size w w' := by
  have hx : xs.length = l := by rw [← bv_length]; exact h.1
  have Hh := hide h
  have Hx := hide hx
  clear h hx
  by_cases hs : l ≤ 600
  case neg =>
    have hsm : decide (l ≤ 600) = false := by simpa using hs
    go_enter Try.func6, Try.ntmps6
    go_wp2_with (go_at_call 9; refine (small2_any A l c w).mono ?_; rintro e w' ⟨rfl, rfl⟩; rw [hsm])
    go_ret
    exact ⟨rfl, Below.refl _ _⟩
  have hsm : decide (l ≤ 600) = true := by simpa using hs
  by_cases hp0 : p < 0
  · go_enter Try.func6, Try.ntmps6
    go_wp2_with (go_at_call 9; refine (small2_any A l c w).mono ?_; rintro e w' ⟨rfl, rfl⟩; rw [hsm])
    go_ret
    exact ⟨rfl, Below.refl _ _⟩
  by_cases ho0 : o < 0
  · go_enter Try.func6, Try.ntmps6
    go_wp2_with (go_at_call 9; refine (small2_any A l c w).mono ?_; rintro e w' ⟨rfl, rfl⟩; rw [hsm])
    go_ret
    exact ⟨rfl, Below.refl _ _⟩
  by_cases ho1 : 32767 < o
  · go_enter Try.func6, Try.ntmps6
    go_wp2_with (go_at_call 9; refine (small2_any A l c w).mono ?_; rintro e w' ⟨rfl, rfl⟩; rw [hsm])
    go_ret
    exact ⟨rfl, Below.refl _ _⟩
  obtain ⟨P, rfl⟩ : ∃ P : Nat, p = (P : Int) := ⟨p.toNat, by omega⟩
  obtain ⟨O, rfl⟩ : ∃ O : Nat, o = (O : Int) := ⟨o.toNat, by omega⟩
  have hO : O ≤ 32767 := by omega
  have Hlen := hide (show (bv (xs ++ tailL (sumN xs))).length = l + 2 by rw [bv_length, List.length_append, Hx.out]; rfl)
  have q0 : ((l : Int) + 2 != (l : Int) + 2) = false := by simp
  by_cases hpn : 8 * (l + 2) ≤ P
  · have q1 : decide (8 * ((l : Int) + 2) ≤ (P : Int)) = true := by simp; omega
    go_enter Try.func6, Try.ntmps6
    go_wp2_with fail
    refine (small2_any A l c w).mono ?_
    rintro e w' ⟨rfl, rfl⟩
    rw [hsm]
    go_wp2_with fail
    refine (add_any A l c (l + 2) rfl xs w Hh.out (by omega)).mono ?_
    rintro e w1 ⟨rfl, k1, b1⟩
    go_wp2_with fail
    refine (awake2_any _).mono ?_
    rintro e w2 ⟨rfl, b2⟩
    go_wp2_with fail
    go_ret
    exact ⟨rfl, below_on b1 b2⟩
  have q1 : decide (8 * ((l : Int) + 2) ≤ (P : Int)) = false := by simp; omega
  go_enter Try.func6, Try.ntmps6
  go_wp2_with fail
  refine (small2_any A l c w).mono ?_
  rintro e w' ⟨rfl, rfl⟩
  rw [hsm]
  go_wp2_with fail
  refine (add_any A l c (l + 2) rfl xs w Hh.out (by omega)).mono ?_
  rintro e w1 ⟨rfl, k1, b1⟩
  have r1 := k1.reads (Below.refl _ _) (l + 2) Hlen.out
  have U := refUnpack_own (some ⟨w.heap.size, 0, none⟩) (l + 2) (l + 2) (8 * (l + 2)) (xs ++ tailL (sumN xs)) w1 r1 (Nat.le_refl _) (by omega)
  rw [show ((8 * (l + 2) : Nat) : Int) = 8 * ((l : Int) + 2) by omega] at U
  have HU := hide U
  have Hb1 := hide b1
  clear k1 r1 b1 U
  go_wp2_with fail
  refine HU.out.mono ?_
  rintro e w2 ⟨C, kk, rfl, o2, b2⟩
  obtain ⟨g, rest, rfl, hg, k2⟩ := own_blk o2 (by omega)
  obtain ⟨b0, hb0⟩ : ∃ b0, unpackL (xs ++ tailL (sumN xs)) (8 * (l + 2)) = b0 := ⟨_, rfl⟩
  have bad := soFar_bad xs (l + 2) (by rw [Hx.out])
  have hl0 : b0.length = 8 * (l + 2) := by rw [← hb0, unpackL_length]
  have hbits : bitsB b0 = true := by rw [← hb0]; exact bits_unpack _ _
  rw [hb0] at k2 bad
  have Hbad := hide bad
  clear hb0 bad o2 HU
  have hP : P < b0.length := by omega
  have S0 : SoFar b0 (b0.set P (1 - b0[P])) P (1 + 2 * O) 1 := soFar_turn b0 b0 P (1 + 2 * O) 0 (soFar_zero b0 hbits P _) (by rw [Nat.pow_zero, Nat.div_one]; omega) hP
  have hX := bits_get b0 hbits P hP
  have c0 : w2.cell? ⟨g, P, none⟩ = some (.int .i64 b0[P]) := by
    rw [k2.cell, List.getElem?_append_left (by rw [iv_length]; exact hP)]
    exact iv_get b0 P hP
  have f0 := k2.frozen P
  have k3 := k2.set P (.int .i64 (1 - b0[P]))
  rw [iv_set b0 rest P hP] at k3
  have hgw : w.heap.size ≤ g := Nat.le_trans Hb1.out.size hg
  have b3 := (below_on Hb1.out b2).setCell (p := ⟨g, P, none⟩) hgw (.int .i64 (1 - b0[P]))
  generalize b0[P] = X at *
  have hX0 : 0 ≤ X := by omega
  have hX1 : X ≤ 1 := by omega
  have HS := hide S0
  have Hk3 := hide k3
  have Hb3 := hide b3
  have Hl0 := hide hl0
  have q2 : (P : Int) < 8 * ((l : Int) + 2) := by omega
  have q3 : P < 8 * (l + 2) := by omega
  clear k2 k3 b2 b3 S0 hX hbits hP hl0
  go_wp2_with fail
  go_loopw [2, 9] (fun oo k wr => ∃ (J : Nat) (bs : List Int), J ≤ 15 ∧ k = .int .i64 ((J + 1 : Nat) : Int) ∧ oo = .int .i64 ((O / 2 ^ J : Nat) : Int) ∧ SoFar b0 bs P (1 + 2 * O) (J + 1) ∧ Blk wr g 3 (iv bs ++ rest) ∧ Below w.heap.size w wr) (fun _ k _ => 17 - (intOf k).toNat)
  case atStart => exact ⟨0, _, by omega, rfl, by rw [Nat.pow_zero, Nat.div_one], HS.out, Hk3.out, Hb3.out⟩
  case round =>
    obtain ⟨J, bs, hJ, rfl, rfl, hso, hblk, hbel⟩ := hrel
    have hlen : bs.length = 8 * (l + 2) := by rw [hso.2.1]; exact Hl0.out
    have hQ : O / 2 ^ J ≤ 32767 := Nat.le_trans (Nat.div_le_self _ _) hO
    have eM : (1 + 2 * O) / 2 ^ (J + 1) = O / 2 ^ J := bitM O J
    have eQ : O / 2 ^ (J + 1) = O / 2 ^ J / 2 := by rw [Nat.pow_succ, Nat.div_div_eq_div_mul]
    have HeM := hide eM
    have HeQ := hide eQ
    have Hso := hide hso
    have Hblk := hide hblk
    have Hbel := hide hbel
    clear eM eQ hso hbel
    by_cases hgo : J < 15 ∧ P + (J + 1) < 8 * (l + 2)
    · obtain ⟨h15, hPJ⟩ := hgo
      have p0 : (J : Int) + 1 < 16 := by omega
      have p1 : (P : Int) + ((J : Int) + 1) < 8 * ((l : Int) + 2) := by omega
      rcases (by omega : O / 2 ^ J % 2 = 0 ∨ O / 2 ^ J % 2 = 1) with hz | hz
      · have Hn := hide (soFar_same b0 bs P (1 + 2 * O) (J + 1) Hso.out (by rw [HeM.out]; exact hz))
        have p2 : ((O / 2 ^ J : Nat) : Int) % 2 ≠ 1 := by omega
        clear hblk hz
        generalize O / 2 ^ J = Q at *
        have p3 : ((Q : Int) % 2 == 1) = false := by rw [beq_eq_false_iff_ne]; exact p2
        go_wp2_with fail
        exact ⟨⟨J + 1, bs, by omega, by go_num, by rw [HeQ.out]; go_num, Hn.out, Hblk.out, Hbel.out⟩, by simp [intOf]; omega⟩
      · have hj : P + (J + 1) < bs.length := by omega
        have Hn := hide (soFar_turn b0 bs P (1 + 2 * O) (J + 1) Hso.out (by rw [HeM.out]; exact hz) hj)
        have hX := bits_get bs Hso.out.1 (P + (J + 1)) hj
        have c0 : wr.cell? ⟨g, P + (J + 1), none⟩ = some (.int .i64 bs[P + (J + 1)]) := by
          rw [hblk.cell, List.getElem?_append_left (by rw [iv_length]; exact hj)]
          exact iv_get bs _ hj
        have f0 := hblk.frozen (P + (J + 1))
        have k4 := hblk.set (P + (J + 1)) (.int .i64 (1 - bs[P + (J + 1)]))
        rw [iv_set bs rest _ hj] at k4
        have b4 := Hbel.out.setCell (p := ⟨g, P + (J + 1), none⟩) hgw (.int .i64 (1 - bs[P + (J + 1)]))
        generalize bs[P + (J + 1)] = Y at *
        have hY0 : 0 ≤ Y := by omega
        have hY1 : Y ≤ 1 := by omega
        have Hk4 := hide k4
        have Hb4 := hide b4
        have p2 : ((O / 2 ^ J : Nat) : Int) % 2 = 1 := by omega
        clear hblk hz hX k4 b4 hj
        generalize O / 2 ^ J = Q at *
        have p3 : ((Q : Int) % 2 == 1) = true := by rw [beq_iff_eq]; exact p2
        go_wp2_with fail
        exact ⟨⟨J + 1, _, by omega, by go_num, by rw [HeQ.out]; go_num, Hn.out, Hk4.out, Hb4.out⟩, by simp [intOf]; omega⟩
    · have Hg := hide (Hbad.out bs P (1 + 2 * O) (J + 1) Hso.out q3 (by omega) (by omega) (by omega))
      have Hrd := hide (hblk.front (8 * (l + 2)) (by rw [iv_length]; exact hlen))
      have hbb := Hso.out.1
      clear hblk hlen
      by_cases h15 : J = 15
      · subst h15
        clear hgo
        go_wp2_with fail
        refine (awake2_any _).mono ?_
        rintro e w4 ⟨rfl, b4⟩
        go_wp2_with fail
        refine (refPack_any (some ⟨g, 0, none⟩) (8 * (l + 2)) kk (l + 2) bs w4 (Hrd.out.keep b4) (by omega) hbb (by omega) (by omega)).mono ?_
        rintro e w5 ⟨D, dk, rfl, hdk, r5, b5⟩
        go_wp2_with fail
        have G := good_any D (l + 2) dk (pkTo bs (l + 2) (8 * (l + 2))) w5 r5 hdk (by omega)
        rw [Hg.out] at G
        refine G.mono ?_
        rintro e w' ⟨rfl, rfl⟩
        go_wp2_with fail
        go_ret
        exact ⟨rfl, below_on (below_on Hbel.out b4) b5⟩
      · have p0 : (J : Int) + 1 < 16 := by omega
        have p1 : decide ((P : Int) + ((J : Int) + 1) < 8 * ((l : Int) + 2)) = false := by simp; omega
        clear hgo
        go_wp2_with fail
        refine (awake2_any _).mono ?_
        rintro e w4 ⟨rfl, b4⟩
        go_wp2_with fail
        refine (refPack_any (some ⟨g, 0, none⟩) (8 * (l + 2)) kk (l + 2) bs w4 (Hrd.out.keep b4) (by omega) hbb (by omega) (by omega)).mono ?_
        rintro e w5 ⟨D, dk, rfl, hdk, r5, b5⟩
        go_wp2_with fail
        have G := good_any D (l + 2) dk (pkTo bs (l + 2) (8 * (l + 2))) w5 r5 hdk (by omega)
        rw [Hg.out] at G
        refine G.mono ?_
        rintro e w' ⟨rfl, rfl⟩
        go_wp2_with fail
        go_ret
        exact ⟨rfl, below_on (below_on Hbel.out b4) b5⟩

end Go.Proofs.Ytpolcahpbajiaaa
