/-
  What is proved here: the law PduAgain returns true for every bytes and every request, and turns nothing that was there.
-/
import Derived.Test.YtemlfhoejelgbaaAwake3
namespace Go.Proofs.Ytemlfhoejelgbaa
set_option linter.unusedVariables false
set_option linter.unusedSimpArgs false
open Go.RowKit

set_option maxHeartbeats 1000000 in
theorem again3_walk (f a c t an o : Int) (A B : Option Addr) (n k l d : Nat) (vs : List Int) (xs : List UInt8) (w : World) (h : Rd w A n (iv vs)) (h2 : Rd w B l (bv xs)) (hd : l ≤ d) :
    Calls Try.prog 8 #[.slice B l d, .agg #[.int .i64 f, .int .i64 a, .int .i64 c, .slice A n k, .int .i64 t, .int .i64 an, .int .i64 o]] w fun e w' => e = .returned (.bool true) ∧ Below w.heap.size w w' := by
  have HS := hide (fun W => small3_any f a c t an o A n k W)
  have H0 := hide h
  have H2 := hide h2
  have HX : Hid (xs.length = l) := by show _ = _; rw [← bv_length]; exact h2.1
  clear h h2
  by_cases hn : n ≤ 2100
  · rw [show decide (n ≤ 2100) = true from by simpa using hn] at HS
    by_cases hl : l ≤ 600
    · have ql : decide (600 < (l : Int)) = false := by simp; omega
      have HP := hide (fun W (b : Below w.heap.size w W) => parse_any B l d xs W (H2.out.keep b) hd)
      cases hp : parseL xs with
      | none =>
        rw [hp] at HP
        clear hp
        go_enter Try.func8, Try.ntmps8
        go_wp2_with fail
        generalize hW : w.alloc _ = W
        have hB1 : Blk W w.heap.size 24 [.int .i64 f, .int .i64 a, .int .i64 c, .slice A n k, .int .i64 t, .int .i64 an, .int .i64 o] := by subst hW; exact Blk.new _ _ _
        have hBel : Below w.heap.size w W := by subst hW; exact (Below.refl _ _).alloc (Nat.le_refl _) _
        clear hW
        refine (HS.out _).mono ?_
        rintro e w1 ⟨rfl, b1⟩
        have K := hide (hB1.keep b1)
        have L := hide (below_on hBel b1)
        clear hB1 hBel b1
        obtain ⟨k0, k1, k2, k3, k4, k5, k6⟩ := K.out.seven
        go_wp2_with fail
        refine (HP.out _ L.out).mono ?_
        rintro e w3 ⟨D, mD, kD, rfl, lD, rD, b3⟩
        clear rD
        have K' := hide (K.out.keep b3)
        have L' := hide (below_on L.out b3)
        clear k0 k1 k2 k3 k4 k5 k6 b3
        clear K L
        have K := K'
        have L := L'
        clear K' L'
        obtain ⟨k0, k1, k2, k3, k4, k5, k6⟩ := K.out.seven
        have hlt3 := K.out.lt
        cases hM : mayB f a c vs t an o
        · have HQ := hide (fun W (b : Below w.heap.size w W) => pansP_no f a c t an o A B n k l d vs W (H0.out.keep b) (by omega) hM)
          clear hM
          go_wp2_with fail
          refine (HQ.out _ (below_on L.out ((Below.refl w3.heap.size w3).alloc (Nat.le_refl _) _))).mono ?_
          rintro e w8 ⟨F, mF, kF, rfl, lF, rF, b8⟩
          have b8x := below_on ((Below.refl w3.heap.size w3).alloc (Nat.le_refl _) _) b8
          clear rF b8
          have K' := hide (K.out.keep b8x)
          have L' := hide (below_on L.out b8x)
          clear k0 k1 k2 k3 k4 k5 k6 b8x
          clear K L
          have K := K'
          have L := L'
          clear K' L'
          obtain ⟨k0, k1, k2, k3, k4, k5, k6⟩ := K.out.seven
          go_wp2_with fail
          refine (awake3_any _).mono ?_
          rintro e w9 ⟨rfl, b9⟩
          have b10 := below_on ((Below.refl w8.heap.size w8).alloc (Nat.le_refl _) _) b9
          clear b9
          have K' := hide (K.out.keep b10)
          have L' := hide (below_on L.out b10)
          clear k0 k1 k2 k3 k4 k5 k6 b10
          clear K L
          have K := K'
          have L := L'
          clear K' L'
          obtain ⟨k0, k1, k2, k3, k4, k5, k6⟩ := K.out.seven
          go_wp2
          go_ret
          exact ⟨rfl, L.out⟩
        · have HQ := hide (fun W (b : Below w.heap.size w W) => pansP_any f a c t an o A B n k l d vs xs W (H0.out.keep b) (by omega) (H2.out.keep b) hd hM)
          cases hx : ansParseL ⟨f, a, c, vs, t, an, o⟩ xs with
          | none =>
            rw [hx] at HQ
            clear hM hx
            go_wp2_with fail
            refine (HQ.out _ (below_on L.out ((Below.refl w3.heap.size w3).alloc (Nat.le_refl _) _))).mono ?_
            rintro e w8 ⟨F, mF, kF, rfl, lF, rF, b8⟩
            have b8x := below_on ((Below.refl w3.heap.size w3).alloc (Nat.le_refl _) _) b8
            clear rF b8
            have K' := hide (K.out.keep b8x)
            have L' := hide (below_on L.out b8x)
            clear k0 k1 k2 k3 k4 k5 k6 b8x
            clear K L
            have K := K'
            have L := L'
            clear K' L'
            obtain ⟨k0, k1, k2, k3, k4, k5, k6⟩ := K.out.seven
            go_wp2_with fail
            refine (awake3_any _).mono ?_
            rintro e w9 ⟨rfl, b9⟩
            have b10 := below_on ((Below.refl w8.heap.size w8).alloc (Nat.le_refl _) _) b9
            clear b9
            have K' := hide (K.out.keep b10)
            have L' := hide (below_on L.out b10)
            clear k0 k1 k2 k3 k4 k5 k6 b10
            clear K L
            have K := K'
            have L := L'
            clear K' L'
            obtain ⟨k0, k1, k2, k3, k4, k5, k6⟩ := K.out.seven
            go_wp2
            go_ret
            exact ⟨rfl, L.out⟩
          | some x =>
            obtain ⟨hx1, hx2, _⟩ := ansParse_some hx
            rw [hx] at HQ
            obtain ⟨us, code⟩ := x
            have HB := hide (fun F mF kF W (b : Below w.heap.size w W) hr hmF => pansB_ok f a c t an o code A F n k mF kF vs us W (H0.out.keep b) hr (by omega) hmF hM hx1)
            rw [show ansL f a c vs t an o code us = xs from hx2] at HB
            have hul := ag_length ⟨f, a, c, vs, t, an, o⟩ xs
            rw [(ansParse_some hx).2.2] at hul
            have HU : Hid (us.length ≤ 8 * xs.length) := hul
            clear hM hx hx1 hx2 hul
            go_wp2_with fail
            refine (HQ.out _ (below_on L.out ((Below.refl w3.heap.size w3).alloc (Nat.le_refl _) _))).mono ?_
            rintro e w8 ⟨F, mF, kF, rfl, lF, rF, b8⟩
            have b8x := below_on ((Below.refl w3.heap.size w3).alloc (Nat.le_refl _) _) b8
            have RF : Hid (Rd w8 F mF (iv us)) := rF
            have hmF : mF ≤ 1000000 := by have := HU.out; have := HX.out; have h1 : (iv us).length = mF := rF.1; rw [iv_length] at h1; omega
            clear rF b8
            have K' := hide (K.out.keep b8x)
            have L' := hide (below_on L.out b8x)
            clear k0 k1 k2 k3 k4 k5 k6 b8x
            clear K L
            have K := K'
            have L := L'
            clear K' L'
            obtain ⟨k0, k1, k2, k3, k4, k5, k6⟩ := K.out.seven
            have hlt := K.out.lt
            go_wp2_with fail
            have b9 : Below w8.heap.size w8 (w8.alloc (.cells #[.slice F mF kF, .int .i64 code] 40)) := (Below.refl _ _).alloc (Nat.le_refl _) _
            refine (HB.out F mF kF _ (below_on L.out b9) (RF.out.keep b9) hmF).mono ?_
            rintro e w10 ⟨E, kE, rfl, lE, rE, b10⟩
            have b11 := below_on b9 b10
            have RE := hide rE
            clear rE b9 b10 hlt
            have K' := hide (K.out.keep b11)
            have L' := hide (below_on L.out b11)
            clear k0 k1 k2 k3 k4 k5 k6 b11
            clear K L
            have K := K'
            have L := L'
            clear K' L'
            obtain ⟨k0, k1, k2, k3, k4, k5, k6⟩ := K.out.seven
            go_wp2_with fail
            refine (awake3_any _).mono ?_
            rintro e w12 ⟨rfl, b12⟩
            have hs1 := rdStr (RE.out.keep b12) kE
            have K' := hide (K.out.keep b12)
            have L' := hide (below_on L.out b12)
            clear k0 k1 k2 k3 k4 k5 k6 b12
            clear K L
            have K := K'
            have L := L'
            clear K' L'
            obtain ⟨k0, k1, k2, k3, k4, k5, k6⟩ := K.out.seven
            have hs2 := rdStr (H2.out.keep L.out) d
            go_wp2
            go_ret
            exact ⟨by simp, L.out⟩
      | some r =>
        obtain ⟨hr1, hr2, _⟩ := parse_some hp
        rw [hp] at HP
        obtain ⟨f', a', c', vs', t', an', o'⟩ := r
        have HB := hide (fun D mD kD W hr hmD => pbytes_ok f' a' c' t' an' o' D mD kD vs' W hr hmD hr1)
        rw [show layL f' a' c' vs' t' an' o' = xs from hr2] at HB
        have hV := gs_length xs
        rw [(parse_some hp).2.2] at hV
        have HV : Hid (vs'.length ≤ 8 * xs.length + 1) := hV
        clear hp hr1 hr2 hV
        go_enter Try.func8, Try.ntmps8
        go_wp2_with fail
        generalize hW : w.alloc _ = W
        have hB1 : Blk W w.heap.size 24 [.int .i64 f, .int .i64 a, .int .i64 c, .slice A n k, .int .i64 t, .int .i64 an, .int .i64 o] := by subst hW; exact Blk.new _ _ _
        have hBel : Below w.heap.size w W := by subst hW; exact (Below.refl _ _).alloc (Nat.le_refl _) _
        clear hW
        refine (HS.out _).mono ?_
        rintro e w1 ⟨rfl, b1⟩
        have K := hide (hB1.keep b1)
        have L := hide (below_on hBel b1)
        clear hB1 hBel b1
        obtain ⟨k0, k1, k2, k3, k4, k5, k6⟩ := K.out.seven
        go_wp2_with fail
        refine (HP.out _ L.out).mono ?_
        rintro e w3 ⟨D, mD, kD, rfl, lD, rD, b3⟩
        have RD : Hid (Rd w3 D mD (iv vs')) := rD
        have hmD : mD ≤ 1000000 := by have := HV.out; have := HX.out; have h1 : (iv vs').length = mD := rD.1; rw [iv_length] at h1; omega
        clear rD
        have K' := hide (K.out.keep b3)
        have L' := hide (below_on L.out b3)
        clear k0 k1 k2 k3 k4 k5 k6 b3
        clear K L
        have K := K'
        have L := L'
        clear K' L'
        obtain ⟨k0, k1, k2, k3, k4, k5, k6⟩ := K.out.seven
        have hlt3 := K.out.lt
        go_wp2_with fail
        have b4 : Below w3.heap.size w3 (w3.alloc (.cells #[.int .i64 f', .int .i64 a', .int .i64 c', .slice D mD kD, .int .i64 t', .int .i64 an', .int .i64 o'] 24)) := (Below.refl _ _).alloc (Nat.le_refl _) _
        refine (HB.out D mD kD _ (RD.out.keep b4) hmD).mono ?_
        rintro e w5 ⟨E5, kE5, rfl, lE5, rE5, b5⟩
        have b6 := below_on b4 b5
        have hs1 := rdStr rE5 kE5
        clear rE5 b4 b5 hlt3
        have K' := hide (K.out.keep b6)
        have L' := hide (below_on L.out b6)
        clear k0 k1 k2 k3 k4 k5 k6 b6
        clear K L
        have K := K'
        have L := L'
        clear K' L'
        obtain ⟨k0, k1, k2, k3, k4, k5, k6⟩ := K.out.seven
        have hs2 := rdStr (H2.out.keep L.out) d
        have qs : (xs != xs) = false := by simp
        cases hM : mayB f a c vs t an o
        · have HQ := hide (fun W (b : Below w.heap.size w W) => pansP_no f a c t an o A B n k l d vs W (H0.out.keep b) (by omega) hM)
          clear hM
          go_wp2_with fail
          refine (HQ.out _ (below_on L.out (Below.refl w5.heap.size w5))).mono ?_
          rintro e w8 ⟨F, mF, kF, rfl, lF, rF, b8⟩
          have b8x := below_on (Below.refl w5.heap.size w5) b8
          clear rF b8
          have K' := hide (K.out.keep b8x)
          have L' := hide (below_on L.out b8x)
          clear k0 k1 k2 k3 k4 k5 k6 b8x
          clear K L
          have K := K'
          have L := L'
          clear K' L'
          obtain ⟨k0, k1, k2, k3, k4, k5, k6⟩ := K.out.seven
          go_wp2_with fail
          refine (awake3_any _).mono ?_
          rintro e w9 ⟨rfl, b9⟩
          have b10 := below_on ((Below.refl w8.heap.size w8).alloc (Nat.le_refl _) _) b9
          clear b9
          have K' := hide (K.out.keep b10)
          have L' := hide (below_on L.out b10)
          clear k0 k1 k2 k3 k4 k5 k6 b10
          clear K L
          have K := K'
          have L := L'
          clear K' L'
          obtain ⟨k0, k1, k2, k3, k4, k5, k6⟩ := K.out.seven
          go_wp2
          go_ret
          exact ⟨rfl, L.out⟩
        · have HQ := hide (fun W (b : Below w.heap.size w W) => pansP_any f a c t an o A B n k l d vs xs W (H0.out.keep b) (by omega) (H2.out.keep b) hd hM)
          cases hx : ansParseL ⟨f, a, c, vs, t, an, o⟩ xs with
          | none =>
            rw [hx] at HQ
            clear hM hx
            go_wp2_with fail
            refine (HQ.out _ (below_on L.out (Below.refl w5.heap.size w5))).mono ?_
            rintro e w8 ⟨F, mF, kF, rfl, lF, rF, b8⟩
            have b8x := below_on (Below.refl w5.heap.size w5) b8
            clear rF b8
            have K' := hide (K.out.keep b8x)
            have L' := hide (below_on L.out b8x)
            clear k0 k1 k2 k3 k4 k5 k6 b8x
            clear K L
            have K := K'
            have L := L'
            clear K' L'
            obtain ⟨k0, k1, k2, k3, k4, k5, k6⟩ := K.out.seven
            go_wp2_with fail
            refine (awake3_any _).mono ?_
            rintro e w9 ⟨rfl, b9⟩
            have b10 := below_on ((Below.refl w8.heap.size w8).alloc (Nat.le_refl _) _) b9
            clear b9
            have K' := hide (K.out.keep b10)
            have L' := hide (below_on L.out b10)
            clear k0 k1 k2 k3 k4 k5 k6 b10
            clear K L
            have K := K'
            have L := L'
            clear K' L'
            obtain ⟨k0, k1, k2, k3, k4, k5, k6⟩ := K.out.seven
            go_wp2
            go_ret
            exact ⟨rfl, L.out⟩
          | some x =>
            obtain ⟨hx1, hx2, _⟩ := ansParse_some hx
            rw [hx] at HQ
            obtain ⟨us, code⟩ := x
            have HB := hide (fun F mF kF W (b : Below w.heap.size w W) hr hmF => pansB_ok f a c t an o code A F n k mF kF vs us W (H0.out.keep b) hr (by omega) hmF hM hx1)
            rw [show ansL f a c vs t an o code us = xs from hx2] at HB
            have hul := ag_length ⟨f, a, c, vs, t, an, o⟩ xs
            rw [(ansParse_some hx).2.2] at hul
            have HU : Hid (us.length ≤ 8 * xs.length) := hul
            clear hM hx hx1 hx2 hul
            go_wp2_with fail
            refine (HQ.out _ (below_on L.out (Below.refl w5.heap.size w5))).mono ?_
            rintro e w8 ⟨F, mF, kF, rfl, lF, rF, b8⟩
            have b8x := below_on (Below.refl w5.heap.size w5) b8
            have RF : Hid (Rd w8 F mF (iv us)) := rF
            have hmF : mF ≤ 1000000 := by have := HU.out; have := HX.out; have h1 : (iv us).length = mF := rF.1; rw [iv_length] at h1; omega
            clear rF b8
            have K' := hide (K.out.keep b8x)
            have L' := hide (below_on L.out b8x)
            clear k0 k1 k2 k3 k4 k5 k6 b8x
            clear K L
            have K := K'
            have L := L'
            clear K' L'
            obtain ⟨k0, k1, k2, k3, k4, k5, k6⟩ := K.out.seven
            have hlt := K.out.lt
            go_wp2_with fail
            have b9 : Below w8.heap.size w8 (w8.alloc (.cells #[.slice F mF kF, .int .i64 code] 40)) := (Below.refl _ _).alloc (Nat.le_refl _) _
            refine (HB.out F mF kF _ (below_on L.out b9) (RF.out.keep b9) hmF).mono ?_
            rintro e w10 ⟨E, kE, rfl, lE, rE, b10⟩
            have b11 := below_on b9 b10
            have RE := hide rE
            clear rE b9 b10 hlt
            have K' := hide (K.out.keep b11)
            have L' := hide (below_on L.out b11)
            clear k0 k1 k2 k3 k4 k5 k6 b11
            clear K L
            have K := K'
            have L := L'
            clear K' L'
            obtain ⟨k0, k1, k2, k3, k4, k5, k6⟩ := K.out.seven
            go_wp2_with fail
            refine (awake3_any _).mono ?_
            rintro e w12 ⟨rfl, b12⟩
            have hs1 := rdStr (RE.out.keep b12) kE
            have K' := hide (K.out.keep b12)
            have L' := hide (below_on L.out b12)
            clear k0 k1 k2 k3 k4 k5 k6 b12
            clear K L
            have K := K'
            have L := L'
            clear K' L'
            obtain ⟨k0, k1, k2, k3, k4, k5, k6⟩ := K.out.seven
            have hs2 := rdStr (H2.out.keep L.out) d
            go_wp2
            go_ret
            exact ⟨by simp, L.out⟩
    · have ql : decide (600 < (l : Int)) = true := by simp; omega
      go_enter Try.func8, Try.ntmps8
      go_wp2_with fail
      generalize hW : w.alloc _ = W
      have hB1 : Blk W w.heap.size 24 [.int .i64 f, .int .i64 a, .int .i64 c, .slice A n k, .int .i64 t, .int .i64 an, .int .i64 o] := by subst hW; exact Blk.new _ _ _
      have hBel : Below w.heap.size w W := by subst hW; exact (Below.refl _ _).alloc (Nat.le_refl _) _
      clear hW
      refine (HS.out _).mono ?_
      rintro e w1 ⟨rfl, b1⟩
      have K := hide (hB1.keep b1)
      have L := hide (below_on hBel b1)
      clear hB1 hBel b1
      obtain ⟨k0, k1, k2, k3, k4, k5, k6⟩ := K.out.seven
      go_wp2
      go_ret
      exact ⟨rfl, L.out⟩
  · rw [show decide (n ≤ 2100) = false from by simpa using hn] at HS
    go_enter Try.func8, Try.ntmps8
    go_wp2_with fail
    generalize hW : w.alloc _ = W
    have hB1 : Blk W w.heap.size 24 [.int .i64 f, .int .i64 a, .int .i64 c, .slice A n k, .int .i64 t, .int .i64 an, .int .i64 o] := by subst hW; exact Blk.new _ _ _
    have hBel : Below w.heap.size w W := by subst hW; exact (Below.refl _ _).alloc (Nat.le_refl _) _
    clear hW
    refine (HS.out _).mono ?_
    rintro e w1 ⟨rfl, b1⟩
    have K := hide (hB1.keep b1)
    have L := hide (below_on hBel b1)
    clear hB1 hBel b1
    obtain ⟨k0, k1, k2, k3, k4, k5, k6⟩ := K.out.seven
    go_wp2
    go_ret
    exact ⟨rfl, L.out⟩

end Go.Proofs.Ytemlfhoejelgbaa
