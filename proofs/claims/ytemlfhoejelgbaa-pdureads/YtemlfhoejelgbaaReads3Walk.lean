/-
  What is proved here: the law PduReads returns true for every request and all bytes, and turns nothing that was there.
-/
import Derived.Test.YtemlfhoejelgbaaAwake3
import Derived.Test.YtemlfhoejelgbaaRef3o
namespace Go.Proofs.Ytemlfhoejelgbaa
set_option linter.unusedVariables false
set_option linter.unusedSimpArgs false
open Go.RowKit

set_option maxHeartbeats 1000000 in
theorem reads3_walk (f a c t an o : Int) (A B : Option Addr) (n k l d : Nat) (vs : List Int) (xs : List UInt8) (w : World) (h : Rd w A n (iv vs)) (h2 : Rd w B l (bv xs)) (hd : l ≤ d) :
    Calls Try.prog 6 #[.agg #[.int .i64 f, .int .i64 a, .int .i64 c, .slice A n k, .int .i64 t, .int .i64 an, .int .i64 o], .slice B l d] w fun e w' => e = .returned (.bool true) ∧ Below w.heap.size w w' := by
  have HS := hide (fun W => small3_any f a c t an o A n k W)
  have H0 := hide h
  have H2 := hide h2
  have HX : Hid (xs.length = l) := by show _ = _; rw [← bv_length]; exact h2.1
  clear h h2
  by_cases hn : n ≤ 2100
  · rw [show decide (n ≤ 2100) = true from by simpa using hn] at HS
    by_cases hl : l ≤ 600
    · have ql : decide (600 < (l : Int)) = false := by simp; omega
      have HM := hide (fun W (b : Below w.heap.size w W) => refMay_any f a c t an o A n k vs W (H0.out.keep b) (by omega))
      cases hM : mayB f a c vs t an o
      · have HP := hide (fun W (b : Below w.heap.size w W) => pansP_no f a c t an o A B n k l d vs W (H0.out.keep b) (by omega) hM)
        rw [hM] at HM
        clear hM
        have HE := hide (fun C m kC W hr hm => ansSame_yes 0 C none m 0 kC 0 [] W hr (Rd.nil _ _) hm)
        go_enter Try.func6, Try.ntmps6
        go_wp2_with fail
        generalize hW : w.alloc _ = W
        have hB1 : Blk W w.heap.size 24 [.int .i64 f, .int .i64 a, .int .i64 c, .slice A n k, .int .i64 t, .int .i64 an, .int .i64 o] := by subst hW; exact Blk.new _ _ _
        have hBel : Below w.heap.size w W := by subst hW; exact (Below.refl _ _).alloc (Nat.le_refl _) _
        clear hW
        refine (HS.out _).mono ?_
        rintro e w1 ⟨rfl, b1⟩
        have K := hide (hB1.keep b1)
        have L := hide (below_on hBel b1)
        clear hB1 hBel b1
        obtain ⟨k0, k1, k2, k3, k4, k5, k6⟩ := K.out.seven
        go_wp2_with fail
        refine (HP.out _ L.out).mono ?_
        rintro e w4 ⟨C, m, kC, rfl, lC, rC, b4⟩
        have RC : Hid (Rd w4 C m (iv [])) := rC
        have K4 := hide (K.out.keep b4)
        have L4 := hide (below_on L.out b4)
        clear rC b4 K L k0 k1 k2 k3 k4 k5 k6
        have hlt := K4.out.lt
        obtain ⟨k0, k1, k2, k3, k4, k5, k6⟩ := K4.out.seven
        go_wp2_with fail
        generalize hX : w4.alloc _ = X
        have bX : Below w4.heap.size w4 X := by subst hX; exact (Below.refl _ _).alloc (Nat.le_refl _) _
        have GX := hide (show Blk X w4.heap.size 40 [.slice C m kC, .int .i64 0] from by subst hX; exact Blk.new _ _ _)
        clear hX
        refine (HM.out _ (below_on L4.out bX)).mono ?_
        rintro e w5 ⟨rfl, b5⟩
        have s5 := below_on bX b5
        have R5 := hide (RC.out.keep s5)
        have K5 := hide (K4.out.keep s5)
        have G5 := hide (GX.out.keep b5)
        have L5 := hide (below_on L4.out s5)
        clear b5 s5 bX GX RC K4 L4 hlt k0 k1 k2 k3 k4 k5 k6
        obtain ⟨k0, k1, k2, k3, k4, k5, k6⟩ := K5.out.seven
        have hm0 : m ≤ 1000000 := by have h1 : (iv []).length = m := R5.out.1; rw [iv_length] at h1; simp only [List.length_nil] at h1; omega
        go_wp2_with fail
        refine (awake3_any _).mono ?_
        rintro e w6 ⟨rfl, b6⟩
        have R6 := hide (R5.out.keep b6)
        have G6 := hide (G5.out.keep b6)
        have L6 := hide (below_on L5.out b6)
        clear b6 R5 G5 L5 K5 k0 k1 k2 k3 k4 k5 k6
        obtain ⟨j0, j1⟩ := G6.out.two
        go_wp2_with fail
        refine (HE.out C m kC _ R6.out hm0).mono ?_
        rintro e w7 ⟨rfl, b7⟩
        have L7 := hide (below_on L6.out b7)
        clear b7
        go_wp2
        go_ret
        exact ⟨rfl, L7.out⟩
      · have HP := hide (fun W (b : Below w.heap.size w W) => pansP_any f a c t an o A B n k l d vs xs W (H0.out.keep b) (by omega) (H2.out.keep b) hd hM)
        have HQ := hide (fun W (b : Below w.heap.size w W) => refAnsP_any f a c t an o A B n k l d vs xs W (H0.out.keep b) (H2.out.keep b) hd hl hM)
        rw [hM] at HM
        clear hM
        cases hx : ansParseL ⟨f, a, c, vs, t, an, o⟩ xs with
        | none =>
          rw [hx] at HP HQ
          clear hx
          have HE := hide (fun C m kC W hr hm => ansSame_yes 0 C none m 0 kC 0 [] W hr (Rd.nil _ _) hm)
          go_enter Try.func6, Try.ntmps6
          go_wp2_with fail
          generalize hW : w.alloc _ = W
          have hB1 : Blk W w.heap.size 24 [.int .i64 f, .int .i64 a, .int .i64 c, .slice A n k, .int .i64 t, .int .i64 an, .int .i64 o] := by subst hW; exact Blk.new _ _ _
          have hBel : Below w.heap.size w W := by subst hW; exact (Below.refl _ _).alloc (Nat.le_refl _) _
          clear hW
          refine (HS.out _).mono ?_
          rintro e w1 ⟨rfl, b1⟩
          have K := hide (hB1.keep b1)
          have L := hide (below_on hBel b1)
          clear hB1 hBel b1
          obtain ⟨k0, k1, k2, k3, k4, k5, k6⟩ := K.out.seven
          go_wp2_with fail
          refine (HP.out _ L.out).mono ?_
          rintro e w4 ⟨C, m, kC, rfl, lC, rC, b4⟩
          have RC : Hid (Rd w4 C m (iv [])) := rC
          have K4 := hide (K.out.keep b4)
          have L4 := hide (below_on L.out b4)
          clear rC b4 K L k0 k1 k2 k3 k4 k5 k6
          have hlt := K4.out.lt
          obtain ⟨k0, k1, k2, k3, k4, k5, k6⟩ := K4.out.seven
          go_wp2_with fail
          generalize hX : w4.alloc _ = X
          have bX : Below w4.heap.size w4 X := by subst hX; exact (Below.refl _ _).alloc (Nat.le_refl _) _
          have GX := hide (show Blk X w4.heap.size 40 [.slice C m kC, .int .i64 0] from by subst hX; exact Blk.new _ _ _)
          clear hX
          refine (HM.out _ (below_on L4.out bX)).mono ?_
          rintro e w5 ⟨rfl, b5⟩
          have s5 := below_on bX b5
          have R5 := hide (RC.out.keep s5)
          have K5 := hide (K4.out.keep s5)
          have G5 := hide (GX.out.keep b5)
          have L5 := hide (below_on L4.out s5)
          clear b5 s5 bX GX RC K4 L4 hlt k0 k1 k2 k3 k4 k5 k6
          obtain ⟨k0, k1, k2, k3, k4, k5, k6⟩ := K5.out.seven
          have hm0 : m ≤ 1000000 := by have h1 : (iv []).length = m := R5.out.1; rw [iv_length] at h1; simp only [List.length_nil] at h1; omega
          go_wp2_with fail
          refine (HQ.out _ L5.out).mono ?_
          rintro e w6 ⟨D, mD, kD, rfl, lD, rD, b6⟩
          have RD : Hid (Rd w6 D mD (iv [])) := rD
          have R6 := hide (R5.out.keep b6)
          have G6 := hide (G5.out.keep b6)
          have L6 := hide (below_on L5.out b6)
          clear rD b6 R5 G5 L5 K5 k0 k1 k2 k3 k4 k5 k6
          go_wp2_with fail
          refine (awake3_any _).mono ?_
          rintro e w7 ⟨rfl, b7⟩
          have s7 := below_on ((Below.refl w6.heap.size w6).alloc (Nat.le_refl _) _) b7
          have R7 := hide (R6.out.keep s7)
          have G7 := hide (G6.out.keep s7)
          have L7 := hide (below_on L6.out s7)
          have Q7 := hide (RD.out.keep s7)
          have F7 := hide ((Blk.new w6 40 [.slice D mD kD, .int .i64 0]).keep b7)
          clear b7 s7 R6 G6 L6 RD
          obtain ⟨j0, j1⟩ := G7.out.two
          obtain ⟨i0, i1⟩ := F7.out.two
          go_wp2_with fail
          refine (HE.out C m kC _ R7.out hm0).mono ?_
          rintro e w8 ⟨rfl, b8⟩
          have L8 := hide (below_on L7.out b8)
          clear b8
          go_wp2
          go_ret
          exact ⟨rfl, L8.out⟩
        | some x =>
          have hul := ag_length ⟨f, a, c, vs, t, an, o⟩ xs
          rw [(ansParse_some hx).2.2, HX.out] at hul
          rw [hx] at HP HQ
          obtain ⟨us, code⟩ := x
          have HU : Hid (us.length ≤ 8 * l) := hul
          clear hx hul
          have HE := hide (fun C D m mD kC kD W hr hr2 hm => ansSame_yes code C D m mD kC kD us W hr hr2 hm)
          go_enter Try.func6, Try.ntmps6
          go_wp2_with fail
          generalize hW : w.alloc _ = W
          have hB1 : Blk W w.heap.size 24 [.int .i64 f, .int .i64 a, .int .i64 c, .slice A n k, .int .i64 t, .int .i64 an, .int .i64 o] := by subst hW; exact Blk.new _ _ _
          have hBel : Below w.heap.size w W := by subst hW; exact (Below.refl _ _).alloc (Nat.le_refl _) _
          clear hW
          refine (HS.out _).mono ?_
          rintro e w1 ⟨rfl, b1⟩
          have K := hide (hB1.keep b1)
          have L := hide (below_on hBel b1)
          clear hB1 hBel b1
          obtain ⟨k0, k1, k2, k3, k4, k5, k6⟩ := K.out.seven
          go_wp2_with fail
          refine (HP.out _ L.out).mono ?_
          rintro e w4 ⟨C, m, kC, rfl, lC, rC, b4⟩
          have RC : Hid (Rd w4 C m (iv us)) := rC
          have K4 := hide (K.out.keep b4)
          have L4 := hide (below_on L.out b4)
          clear rC b4 K L k0 k1 k2 k3 k4 k5 k6
          have hlt := K4.out.lt
          obtain ⟨k0, k1, k2, k3, k4, k5, k6⟩ := K4.out.seven
          go_wp2_with fail
          generalize hX : w4.alloc _ = X
          have bX : Below w4.heap.size w4 X := by subst hX; exact (Below.refl _ _).alloc (Nat.le_refl _) _
          have GX := hide (show Blk X w4.heap.size 40 [.slice C m kC, .int .i64 code] from by subst hX; exact Blk.new _ _ _)
          clear hX
          refine (HM.out _ (below_on L4.out bX)).mono ?_
          rintro e w5 ⟨rfl, b5⟩
          have s5 := below_on bX b5
          have R5 := hide (RC.out.keep s5)
          have K5 := hide (K4.out.keep s5)
          have G5 := hide (GX.out.keep b5)
          have L5 := hide (below_on L4.out s5)
          clear b5 s5 bX GX RC K4 L4 hlt k0 k1 k2 k3 k4 k5 k6
          obtain ⟨k0, k1, k2, k3, k4, k5, k6⟩ := K5.out.seven
          have hm0 : m ≤ 1000000 := by have := HU.out; have h1 : (iv us).length = m := R5.out.1; rw [iv_length] at h1; omega
          go_wp2_with fail
          refine (HQ.out _ L5.out).mono ?_
          rintro e w6 ⟨D, mD, kD, rfl, lD, rD, b6⟩
          have RD : Hid (Rd w6 D mD (iv us)) := rD
          have R6 := hide (R5.out.keep b6)
          have G6 := hide (G5.out.keep b6)
          have L6 := hide (below_on L5.out b6)
          clear rD b6 R5 G5 L5 K5 k0 k1 k2 k3 k4 k5 k6
          go_wp2_with fail
          refine (awake3_any _).mono ?_
          rintro e w7 ⟨rfl, b7⟩
          have s7 := below_on ((Below.refl w6.heap.size w6).alloc (Nat.le_refl _) _) b7
          have R7 := hide (R6.out.keep s7)
          have G7 := hide (G6.out.keep s7)
          have L7 := hide (below_on L6.out s7)
          have Q7 := hide (RD.out.keep s7)
          have F7 := hide ((Blk.new w6 40 [.slice D mD kD, .int .i64 code]).keep b7)
          clear b7 s7 R6 G6 L6 RD
          obtain ⟨j0, j1⟩ := G7.out.two
          obtain ⟨i0, i1⟩ := F7.out.two
          go_wp2_with fail
          refine (HE.out C D m mD kC kD _ R7.out Q7.out hm0).mono ?_
          rintro e w8 ⟨rfl, b8⟩
          have L8 := hide (below_on L7.out b8)
          clear b8
          go_wp2
          go_ret
          exact ⟨rfl, L8.out⟩
    · have ql : decide (600 < (l : Int)) = true := by simp; omega
      go_enter Try.func6, Try.ntmps6
      go_wp2_with fail
      generalize hW : w.alloc _ = W
      have hB1 : Blk W w.heap.size 24 [.int .i64 f, .int .i64 a, .int .i64 c, .slice A n k, .int .i64 t, .int .i64 an, .int .i64 o] := by subst hW; exact Blk.new _ _ _
      have hBel : Below w.heap.size w W := by subst hW; exact (Below.refl _ _).alloc (Nat.le_refl _) _
      clear hW
      refine (HS.out _).mono ?_
      rintro e w1 ⟨rfl, b1⟩
      have K := hide (hB1.keep b1)
      have L := hide (below_on hBel b1)
      clear hB1 hBel b1
      obtain ⟨k0, k1, k2, k3, k4, k5, k6⟩ := K.out.seven
      go_wp2
      go_ret
      exact ⟨rfl, L.out⟩
  · rw [show decide (n ≤ 2100) = false from by simpa using hn] at HS
    go_enter Try.func6, Try.ntmps6
    go_wp2_with fail
    generalize hW : w.alloc _ = W
    have hB1 : Blk W w.heap.size 24 [.int .i64 f, .int .i64 a, .int .i64 c, .slice A n k, .int .i64 t, .int .i64 an, .int .i64 o] := by subst hW; exact Blk.new _ _ _
    have hBel : Below w.heap.size w W := by subst hW; exact (Below.refl _ _).alloc (Nat.le_refl _) _
    clear hW
    refine (HS.out _).mono ?_
    rintro e w1 ⟨rfl, b1⟩
    have K := hide (hB1.keep b1)
    have L := hide (below_on hBel b1)
    clear hB1 hBel b1
    obtain ⟨k0, k1, k2, k3, k4, k5, k6⟩ := K.out.seven
    go_wp2
    go_ret
    exact ⟨rfl, L.out⟩

end Go.Proofs.Ytemlfhoejelgbaa
