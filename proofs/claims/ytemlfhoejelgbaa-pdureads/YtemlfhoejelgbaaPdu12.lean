/-
  What is proved here: what pdu's Parse returns, of any bytes.
-/
import Derived.Test.YtemlfhoejelgbaaPdu11
namespace Go.Proofs.Ytemlfhoejelgbaa
set_option linter.unusedVariables false
set_option linter.unusedSimpArgs false
open Go.RowKit

theorem parse_eq (xs : List UInt8) (f a c : Int) (vs : List Int) (t an o : Int) (h : gs xs = ⟨f, a, c, vs, t, an, o⟩) :
    parseL xs = if mayB f a c vs t an o = true ∧ layL f a c vs t an o = xs then some ⟨f, a, c, vs, t, an, o⟩ else none := by
  unfold parseL
  rw [h]
  rfl


set_option maxHeartbeats 1000000 in
theorem parse_in (A : Option Addr) (l c : Nat) (xs : List UInt8) (w : World) (h : Rd w A l (bv xs)) (hc : l ≤ c) (hl0 : 0 < l) (hl : l ≤ 253) :
    Calls Try.prog 17 #[.slice A l c] w (RetRqE ((parseL xs).getD Rq.none) (if (parseL xs).isSome then 0 else 4) w) := by
  have hxl : xs.length = l := by rw [← bv_length]; exact h.1
  have q0 : ((l : Int) == 0) = false := by rw [beq_eq_false_iff_ne]; omega
  have q1 : decide (253 < (l : Int)) = false := by simp; omega
  have HG := hide (fun W (hr : Rd W A l (bv xs)) => guess_any A l c xs W hr hc hl0 hl)
  have hV := gs_length xs
  rw [hxl] at hV
  obtain ⟨f, a, c', vs, t, an, o, hgs⟩ : ∃ f a c' vs t an o, gs xs = ⟨f, a, c', vs, t, an, o⟩ := ⟨_, _, _, _, _, _, _, rfl⟩
  rw [parse_eq xs f a c' vs t an o hgs]
  rw [hgs] at HG hV
  have HV : Hid (vs.length ≤ 8 * l + 1) := hV
  have H0 := hide h
  have HM := hide (fun C m kC W (hr : Rd W C m (iv vs)) hm => mayBe_any f a c' t an o C m kC vs W hr hm)
  have HL := hide (fun C m kC W (hr : Rd W C m (iv vs)) hm => lay_any f a c' t an o C m kC vs W hr hm)
  have HE := hide (fun B n c2 d W hr1 hr2 => equal_any B A n l c2 d (layL f a c' vs t an o) xs W hr1 hr2)
  clear h hgs hV hxl
  generalize layL f a c' vs t an o = L at *
  generalize mayB f a c' vs t an o = bM at *
  cases bM
  · rw [if_neg (by simp)]
    go_enter Try.func17, Try.ntmps17
    go_wp2_with fail
    generalize hW : w.alloc _ = W
    have hBel : Below w.heap.size w W := by subst hW; exact (Below.refl _ _).alloc (Nat.le_refl _) _
    have hB0 : Blk W w.heap.size 24 [.int .i64 0, .int .i64 0, .int .i64 0, .slice none 0 0, .int .i64 0, .int .i64 0, .int .i64 0] := by subst hW; exact Blk.new _ _ _
    clear hW
    have hwW : w.heap.size < W.heap.size := hB0.lt
    refine (HG.out _ (H0.out.keep hBel)).mono ?_
    rintro e U ⟨C, m, kC, rfl, lC, rC, bU, nC⟩
    have hB1 := hB0.keep bU
    have hwU : w.heap.size < U.heap.size := hB1.lt
    have B1 := hide hB1
    have BU := hide (below_on hBel bU)
    have RC := hide rC
    have NC : Hid (∀ b o, C = some ⟨b, o, none⟩ → b ≠ w.heap.size) := fun b o e => by have := nC b o e; omega
    have hm : m ≤ 1000000 := by
      have := HV.out
      have h1 : (iv vs).length = m := rC.1
      rw [iv_length] at h1
      omega
    clear hB1 hBel hB0 bU rC nC
    go_wp2_with fail
    have bX := (Below.refl U.heap.size U).alloc (Nat.le_refl _) (.cells #[.int .i64 f, .int .i64 a, .int .i64 c', .slice C m kC, .int .i64 t, .int .i64 an, .int .i64 o] 24)
    refine (HM.out C m kC _ (RC.out.keep bX) hm).mono ?_
    rintro e w1 ⟨rfl, b1⟩
    have kX := (Blk.new U 24 [.int .i64 f, .int .i64 a, .int .i64 c', .slice C m kC, .int .i64 t, .int .i64 an, .int .i64 o]).keep b1
    have bY := below_on bX b1
    have jX := B1.out.keep bY
    obtain ⟨k0, k1, k2, k3, k4, k5, k6⟩ := kX.seven
    obtain ⟨j0, j1, j2, j3, j4, j5, j6⟩ := jX.seven
    have kf := kX.frozen
    have jf := jX.frozen
    have KX := hide kX
    have JX := hide jX
    have BY := hide bY
    clear bX b1 kX bY jX
    go_wp2_with fail
    (try simp only [Exit.inBlock, Exit.then])
    refine bodyPost_ret (results_cell_tmp rfl rfl (JX.out.set7 _ _ _ _ _ _ _) Try.underlying24 rfl (by kernel_rfl)) rfl ?_
    exact ⟨none, 0, 0, rfl, Nat.le_refl _, Rd.nil _ _, below_set7 (below_on BU.out BY.out) (Nat.le_refl _) _ _ _ _ _ _ _⟩
  · by_cases hLx : L = xs
    · rw [if_pos ⟨rfl, hLx⟩]
      rw [show decide (L = xs) = true from by simpa using hLx] at HE
      clear hLx
      go_enter Try.func17, Try.ntmps17
      go_wp2_with fail
      generalize hW : w.alloc _ = W
      have hBel : Below w.heap.size w W := by subst hW; exact (Below.refl _ _).alloc (Nat.le_refl _) _
      have hB0 : Blk W w.heap.size 24 [.int .i64 0, .int .i64 0, .int .i64 0, .slice none 0 0, .int .i64 0, .int .i64 0, .int .i64 0] := by subst hW; exact Blk.new _ _ _
      clear hW
      have hwW : w.heap.size < W.heap.size := hB0.lt
      refine (HG.out _ (H0.out.keep hBel)).mono ?_
      rintro e U ⟨C, m, kC, rfl, lC, rC, bU, nC⟩
      have hB1 := hB0.keep bU
      have hwU : w.heap.size < U.heap.size := hB1.lt
      have B1 := hide hB1
      have BU := hide (below_on hBel bU)
      have RC := hide rC
      have NC : Hid (∀ b o, C = some ⟨b, o, none⟩ → b ≠ w.heap.size) := fun b o e => by have := nC b o e; omega
      have hm : m ≤ 1000000 := by
        have := HV.out
        have h1 : (iv vs).length = m := rC.1
        rw [iv_length] at h1
        omega
      clear hB1 hBel hB0 bU rC nC
      go_wp2_with fail
      have bX := (Below.refl U.heap.size U).alloc (Nat.le_refl _) (.cells #[.int .i64 f, .int .i64 a, .int .i64 c', .slice C m kC, .int .i64 t, .int .i64 an, .int .i64 o] 24)
      refine (HM.out C m kC _ (RC.out.keep bX) hm).mono ?_
      rintro e w1 ⟨rfl, b1⟩
      have kX := (Blk.new U 24 [.int .i64 f, .int .i64 a, .int .i64 c', .slice C m kC, .int .i64 t, .int .i64 an, .int .i64 o]).keep b1
      have bY := below_on bX b1
      have jX := B1.out.keep bY
      obtain ⟨k0, k1, k2, k3, k4, k5, k6⟩ := kX.seven
      obtain ⟨j0, j1, j2, j3, j4, j5, j6⟩ := jX.seven
      have kf := kX.frozen
      have jf := jX.frozen
      have KX := hide kX
      have JX := hide jX
      have BY := hide bY
      clear bX b1 kX bY jX
      go_wp2_with fail
      refine (HL.out C m kC _ (RC.out.keep BY.out) (by first | trivial | rfl)).mono ?_
      rintro e w2 ⟨D, kD, rfl, oD, bD⟩
      have kX := KX.out.keep bD
      have jX := JX.out.keep bD
      have bZ := hide (below_on BY.out bD)
      clear k0 k1 k2 k3 k4 k5 k6 j0 j1 j2 j3 j4 j5 j6 kf jf
      obtain ⟨k0, k1, k2, k3, k4, k5, k6⟩ := kX.seven
      obtain ⟨j0, j1, j2, j3, j4, j5, j6⟩ := jX.seven
      have kf := kX.frozen
      have jf := jX.frozen
      have JZ := hide jX
      have OD := hide oD
      clear kX jX oD bD
      go_wp2_with fail
      refine (HE.out D _ kD c _ (own_rd OD.out) (H0.out.keep (below_on BU.out bZ.out))).mono ?_
      rintro e w3 ⟨rfl, rfl⟩
      go_wp2_with fail
      (try simp only [Exit.inBlock, Exit.then])
      refine bodyPost_ret (results_cell_tmp rfl rfl (JZ.out.set7 _ _ _ _ _ _ _) Try.underlying24 rfl (by kernel_rfl)) rfl ?_
      exact ⟨C, m, kC, rfl, lC, (RC.out.keep bZ.out).set7 NC.out _ _ _ _ _ _ _, below_set7 (below_on BU.out bZ.out) (Nat.le_refl _) _ _ _ _ _ _ _⟩
    · rw [if_neg (fun h => hLx h.2)]
      rw [show decide (L = xs) = false from by simpa using hLx] at HE
      clear hLx
      go_enter Try.func17, Try.ntmps17
      go_wp2_with fail
      generalize hW : w.alloc _ = W
      have hBel : Below w.heap.size w W := by subst hW; exact (Below.refl _ _).alloc (Nat.le_refl _) _
      have hB0 : Blk W w.heap.size 24 [.int .i64 0, .int .i64 0, .int .i64 0, .slice none 0 0, .int .i64 0, .int .i64 0, .int .i64 0] := by subst hW; exact Blk.new _ _ _
      clear hW
      have hwW : w.heap.size < W.heap.size := hB0.lt
      refine (HG.out _ (H0.out.keep hBel)).mono ?_
      rintro e U ⟨C, m, kC, rfl, lC, rC, bU, nC⟩
      have hB1 := hB0.keep bU
      have hwU : w.heap.size < U.heap.size := hB1.lt
      have B1 := hide hB1
      have BU := hide (below_on hBel bU)
      have RC := hide rC
      have NC : Hid (∀ b o, C = some ⟨b, o, none⟩ → b ≠ w.heap.size) := fun b o e => by have := nC b o e; omega
      have hm : m ≤ 1000000 := by
        have := HV.out
        have h1 : (iv vs).length = m := rC.1
        rw [iv_length] at h1
        omega
      clear hB1 hBel hB0 bU rC nC
      go_wp2_with fail
      have bX := (Below.refl U.heap.size U).alloc (Nat.le_refl _) (.cells #[.int .i64 f, .int .i64 a, .int .i64 c', .slice C m kC, .int .i64 t, .int .i64 an, .int .i64 o] 24)
      refine (HM.out C m kC _ (RC.out.keep bX) hm).mono ?_
      rintro e w1 ⟨rfl, b1⟩
      have kX := (Blk.new U 24 [.int .i64 f, .int .i64 a, .int .i64 c', .slice C m kC, .int .i64 t, .int .i64 an, .int .i64 o]).keep b1
      have bY := below_on bX b1
      have jX := B1.out.keep bY
      obtain ⟨k0, k1, k2, k3, k4, k5, k6⟩ := kX.seven
      obtain ⟨j0, j1, j2, j3, j4, j5, j6⟩ := jX.seven
      have kf := kX.frozen
      have jf := jX.frozen
      have KX := hide kX
      have JX := hide jX
      have BY := hide bY
      clear bX b1 kX bY jX
      go_wp2_with fail
      refine (HL.out C m kC _ (RC.out.keep BY.out) (by first | trivial | rfl)).mono ?_
      rintro e w2 ⟨D, kD, rfl, oD, bD⟩
      have kX := KX.out.keep bD
      have jX := JX.out.keep bD
      have bZ := hide (below_on BY.out bD)
      clear k0 k1 k2 k3 k4 k5 k6 j0 j1 j2 j3 j4 j5 j6 kf jf
      obtain ⟨j0, j1, j2, j3, j4, j5, j6⟩ := jX.seven
      have jf := jX.frozen
      have JZ := hide jX
      have OD := hide oD
      clear kX jX oD bD
      go_wp2_with fail
      refine (HE.out D _ kD c _ (own_rd OD.out) (H0.out.keep (below_on BU.out bZ.out))).mono ?_
      rintro e w3 ⟨rfl, rfl⟩
      go_wp2_with fail
      (try simp only [Exit.inBlock, Exit.then])
      refine bodyPost_ret (results_cell_tmp rfl rfl (JZ.out.set7 _ _ _ _ _ _ _) Try.underlying24 rfl (by kernel_rfl)) rfl ?_
      exact ⟨none, 0, 0, rfl, Nat.le_refl _, Rd.nil _ _, below_set7 (below_on BU.out bZ.out) (Nat.le_refl _) _ _ _ _ _ _ _⟩

/-- Parse, of any bytes. -/
theorem parse_any (A : Option Addr) (l c : Nat) (xs : List UInt8) (w : World) (h : Rd w A l (bv xs)) (hc : l ≤ c) :
    Calls Try.prog 17 #[.slice A l c] w (RetRqE ((parseL xs).getD Rq.none) (if (parseL xs).isSome then 0 else 4) w) := by
  have hxl : xs.length = l := by rw [← bv_length]; exact h.1
  by_cases h0 : 0 < l ∧ l ≤ 253
  · exact parse_in A l c xs w h hc h0.1 h0.2
  · rw [parse_short xs (by omega)]
    exact parse_no A l c xs w (by omega)

end Go.Proofs.Ytemlfhoejelgbaa
