/-
  What is proved here: the law RtuFrames returns true for every unit and every two slices of bytes, and writes nothing that was there. No condition.
-/
import Derived.Test.YtkbombdhdgdpnaaRtu4
namespace Go.Proofs.Ytkbombdhdgdpnaa
set_option linter.unusedVariables false
set_option linter.unusedSimpArgs false
open Go.RowKit

theorem bne_self5 (n : Int) : (n != n) = false := by simp
theorem own_empty (w : World) : (w.alloc (.cells #[] 5)).ownsRow w.heap.size 5 1 (.slice (some ⟨w.heap.size, 0, none⟩) 0 0) 0 [] := (Blk.new w 5 []).own (Nat.le_refl _) 0 rfl (by decide)

/-- Frame, its answer by name. -/
theorem frame_is (u : Int) (A : Option Addr) (l c : Nat) (xs : List UInt8) (w : World) (hr : Rd w A l (bv xs)) (hx : xs.length = l) (E : Int) (N : Nat) (L : List UInt8) (hE : frE u l = E) (hL : frL u xs = L) (hN : L.length = N) :
    Calls Try.prog 7 #[.int .i64 u, .slice A l c] w fun e w' => ∃ F k, e = .returned (.tuple #[.slice F N k, .int .i64 E]) ∧ N ≤ k ∧ Rd w' F N (bv L) ∧ Below w.heap.size w w' := by
  have := frame_any u A l c xs w hr hx
  unfold RetFr at this
  rw [hL, hN, hx, hE] at this
  exact this


set_option maxHeartbeats 2000000 in
set_option maxRecDepth 100000 in
theorem frames5_walk (u : Int) (A : Option Addr) (l c : Nat) (xs : List UInt8) (B : Option Addr) (m d : Nat) (ys : List UInt8) (w : World) (hA : Rd w A l (bv xs)) (hB : Rd w B m (bv ys)) (hd : m ≤ d) :
    Calls Try.prog 3 #[.int .i64 u, .slice A l c, .slice B m d] w fun e w' => e = .returned (.bool true) ∧ Below w.heap.size w w' := by
  have HA := hide hA
  have HB := hide hB
  have Hx : Hid (xs.length = l) := by show _ = _; rw [← bv_length]; exact hA.1
  have Hy : Hid (ys.length = m) := by show _ = _; rw [← bv_length]; exact hB.1
  clear hA hB
  by_cases h1 : 600 < l
  · have q : (600 : Int) < (l : Int) := by omega
    go_enter Try.func3, Try.ntmps3
    go_wp2
    go_ret
    exact ⟨rfl, Below.refl _ _⟩
  have q1 : ¬ (600 : Int) < (l : Int) := by omega
  by_cases h2 : 600 < m
  · have q : (600 : Int) < (m : Int) := by omega
    go_enter Try.func3, Try.ntmps3
    go_wp2
    go_ret
    exact ⟨rfl, Below.refl _ _⟩
  have q2 : ¬ (600 : Int) < (m : Int) := by omega
  cases hok : frOk u l with
  | false =>
    have HE : Hid (frE u l = 1) := by show _ = _; unfold frE; rw [hok]; rfl
    have HL : Hid (frL u xs = []) := by show _ = _; unfold frL; rw [Hx.out, hok]; rfl
    have HN : Hid (([] : List UInt8).length = 0) := rfl
    have h' : u < 0 ∨ 247 < u ∨ l < 1 ∨ 253 < l := by
      unfold frOk at hok
      rw [decide_eq_false_iff_not] at hok
      omega
    clear hok
    by_cases p1 : u < 0
    · skip
      go_enter Try.func3, Try.ntmps3
      go_wp2_with (first
        | (at_builtin; refine wpList_app rfl (.tmp 25) (.tmp 26) 22 rfl 5 _ _ Try.underlying22 u8_info rfl w.heap.size (some ⟨w.heap.size, 0, none⟩) 0 0 [] rfl (own_empty w) A l c (bv xs) rfl (HA.out.keep ((Below.refl _ _).alloc (Nat.le_refl _) _)) (bv_one _) (by unfold maxLen; omega) (by omega) (by simp) ?_; intro A1 c1 w1 o1 g1 b1; rw [Nat.zero_add, List.nil_append] at o1; have R1 := hide (own_rd o1); have S1 := hide (((Below.refl _ _).alloc (Nat.le_refl _) _).trans b1 : Below w.heap.size w w1); clear o1 g1 b1)
        | (at_builtin; refine wpList_app rfl (.tmp 28) (.tmp 29) 22 rfl 5 _ _ Try.underlying22 u8_info rfl w1.heap.size (some ⟨w1.heap.size, 0, none⟩) 0 0 [] rfl (own_empty w1) B m d (bv ys) rfl ((HB.out.keep S1.out).keep ((Below.refl _ _).alloc (Nat.le_refl _) _)) (bv_one _) (by unfold maxLen; omega) (by omega) (by simp) ?_; intro A2 c2 w2 o2 g2 b2; rw [Nat.zero_add, List.nil_append] at o2; have hc2 := own_cap o2; have R2 := hide (own_rd o2); have S2 := hide (((Below.refl _ _).alloc (Nat.le_refl _) _).trans b2 : Below w1.heap.size w1 w2); clear o2 g2 b2)
        | (go_at_call 7; refine (frame_is _ A1 l c1 xs w2 (R1.out.keep S2.out) Hx.out _ _ _ HE.out HL.out HN.out).mono ?_; rintro e w3 ⟨F, fk, rfl, hfk, rF, bF⟩; have RF := hide rF; have BF := hide bF; clear rF bF)
        | (go_at_call 8; refine (split_any A2 m c2 ys w3 (R2.out.keep BF.out) Hy.out hc2).mono ?_; rintro e w4 ⟨P, pk, rfl, rP, bP⟩; have RP := hide rP; have BP := hide bP; clear rP bP))
      refine (refSplit_any B m d ys w4 ((((HB.out.keep S1.out).keep S2.out).keep BF.out).keep BP.out) Hy.out hd).mono ?_
      rintro e w5 ⟨Q, qk, rfl, rQ, bQ⟩
      have RQ := hide rQ
      have BQ := hide bQ
      clear rQ bQ
      have T1 := hide (below_on S1.out (below_on S2.out (below_on BF.out (below_on BP.out BQ.out))))
      have R1' := hide ((((R1.out.keep S2.out).keep BF.out).keep BP.out).keep BQ.out)
      have R2' := hide (((R2.out.keep BF.out).keep BP.out).keep BQ.out)
      have RF' := hide ((RF.out.keep BP.out).keep BQ.out)
      have d1 := rdStr R1'.out
      have d2 := rdStr R2'.out
      have d3 := rdStr (HA.out.keep T1.out)
      have d4 := rdStr (HB.out.keep T1.out)
      have d5 := rdStr (RP.out.keep BQ.out)
      have d6 := rdStr RQ.out
      have z1 := bne_self5 (splitU ys)
      have z2 := bne_self5 (splitE ys)
      generalize splitU ys = U at *
      generalize splitE ys = E at *
      generalize splitP ys = PP at *
      go_wp2_with (go_at_call 10; refine (awake5_any _).mono ?_; rintro e w6 ⟨rfl, b6⟩)
      go_ret
      exact ⟨rfl, below_on T1.out b6⟩
    by_cases p2 : 247 < u
    · skip
      go_enter Try.func3, Try.ntmps3
      go_wp2_with (first
        | (at_builtin; refine wpList_app rfl (.tmp 25) (.tmp 26) 22 rfl 5 _ _ Try.underlying22 u8_info rfl w.heap.size (some ⟨w.heap.size, 0, none⟩) 0 0 [] rfl (own_empty w) A l c (bv xs) rfl (HA.out.keep ((Below.refl _ _).alloc (Nat.le_refl _) _)) (bv_one _) (by unfold maxLen; omega) (by omega) (by simp) ?_; intro A1 c1 w1 o1 g1 b1; rw [Nat.zero_add, List.nil_append] at o1; have R1 := hide (own_rd o1); have S1 := hide (((Below.refl _ _).alloc (Nat.le_refl _) _).trans b1 : Below w.heap.size w w1); clear o1 g1 b1)
        | (at_builtin; refine wpList_app rfl (.tmp 28) (.tmp 29) 22 rfl 5 _ _ Try.underlying22 u8_info rfl w1.heap.size (some ⟨w1.heap.size, 0, none⟩) 0 0 [] rfl (own_empty w1) B m d (bv ys) rfl ((HB.out.keep S1.out).keep ((Below.refl _ _).alloc (Nat.le_refl _) _)) (bv_one _) (by unfold maxLen; omega) (by omega) (by simp) ?_; intro A2 c2 w2 o2 g2 b2; rw [Nat.zero_add, List.nil_append] at o2; have hc2 := own_cap o2; have R2 := hide (own_rd o2); have S2 := hide (((Below.refl _ _).alloc (Nat.le_refl _) _).trans b2 : Below w1.heap.size w1 w2); clear o2 g2 b2)
        | (go_at_call 7; refine (frame_is _ A1 l c1 xs w2 (R1.out.keep S2.out) Hx.out _ _ _ HE.out HL.out HN.out).mono ?_; rintro e w3 ⟨F, fk, rfl, hfk, rF, bF⟩; have RF := hide rF; have BF := hide bF; clear rF bF)
        | (go_at_call 8; refine (split_any A2 m c2 ys w3 (R2.out.keep BF.out) Hy.out hc2).mono ?_; rintro e w4 ⟨P, pk, rfl, rP, bP⟩; have RP := hide rP; have BP := hide bP; clear rP bP))
      refine (refSplit_any B m d ys w4 ((((HB.out.keep S1.out).keep S2.out).keep BF.out).keep BP.out) Hy.out hd).mono ?_
      rintro e w5 ⟨Q, qk, rfl, rQ, bQ⟩
      have RQ := hide rQ
      have BQ := hide bQ
      clear rQ bQ
      have T1 := hide (below_on S1.out (below_on S2.out (below_on BF.out (below_on BP.out BQ.out))))
      have R1' := hide ((((R1.out.keep S2.out).keep BF.out).keep BP.out).keep BQ.out)
      have R2' := hide (((R2.out.keep BF.out).keep BP.out).keep BQ.out)
      have RF' := hide ((RF.out.keep BP.out).keep BQ.out)
      have d1 := rdStr R1'.out
      have d2 := rdStr R2'.out
      have d3 := rdStr (HA.out.keep T1.out)
      have d4 := rdStr (HB.out.keep T1.out)
      have d5 := rdStr (RP.out.keep BQ.out)
      have d6 := rdStr RQ.out
      have z1 := bne_self5 (splitU ys)
      have z2 := bne_self5 (splitE ys)
      generalize splitU ys = U at *
      generalize splitE ys = E at *
      generalize splitP ys = PP at *
      go_wp2_with (go_at_call 10; refine (awake5_any _).mono ?_; rintro e w6 ⟨rfl, b6⟩)
      go_ret
      exact ⟨rfl, below_on T1.out b6⟩
    by_cases p3 : l < 1
    · have p3' : (l : Int) < 1 := by omega
      go_enter Try.func3, Try.ntmps3
      go_wp2_with (first
        | (at_builtin; refine wpList_app rfl (.tmp 25) (.tmp 26) 22 rfl 5 _ _ Try.underlying22 u8_info rfl w.heap.size (some ⟨w.heap.size, 0, none⟩) 0 0 [] rfl (own_empty w) A l c (bv xs) rfl (HA.out.keep ((Below.refl _ _).alloc (Nat.le_refl _) _)) (bv_one _) (by unfold maxLen; omega) (by omega) (by simp) ?_; intro A1 c1 w1 o1 g1 b1; rw [Nat.zero_add, List.nil_append] at o1; have R1 := hide (own_rd o1); have S1 := hide (((Below.refl _ _).alloc (Nat.le_refl _) _).trans b1 : Below w.heap.size w w1); clear o1 g1 b1)
        | (at_builtin; refine wpList_app rfl (.tmp 28) (.tmp 29) 22 rfl 5 _ _ Try.underlying22 u8_info rfl w1.heap.size (some ⟨w1.heap.size, 0, none⟩) 0 0 [] rfl (own_empty w1) B m d (bv ys) rfl ((HB.out.keep S1.out).keep ((Below.refl _ _).alloc (Nat.le_refl _) _)) (bv_one _) (by unfold maxLen; omega) (by omega) (by simp) ?_; intro A2 c2 w2 o2 g2 b2; rw [Nat.zero_add, List.nil_append] at o2; have hc2 := own_cap o2; have R2 := hide (own_rd o2); have S2 := hide (((Below.refl _ _).alloc (Nat.le_refl _) _).trans b2 : Below w1.heap.size w1 w2); clear o2 g2 b2)
        | (go_at_call 7; refine (frame_is _ A1 l c1 xs w2 (R1.out.keep S2.out) Hx.out _ _ _ HE.out HL.out HN.out).mono ?_; rintro e w3 ⟨F, fk, rfl, hfk, rF, bF⟩; have RF := hide rF; have BF := hide bF; clear rF bF)
        | (go_at_call 8; refine (split_any A2 m c2 ys w3 (R2.out.keep BF.out) Hy.out hc2).mono ?_; rintro e w4 ⟨P, pk, rfl, rP, bP⟩; have RP := hide rP; have BP := hide bP; clear rP bP))
      refine (refSplit_any B m d ys w4 ((((HB.out.keep S1.out).keep S2.out).keep BF.out).keep BP.out) Hy.out hd).mono ?_
      rintro e w5 ⟨Q, qk, rfl, rQ, bQ⟩
      have RQ := hide rQ
      have BQ := hide bQ
      clear rQ bQ
      have T1 := hide (below_on S1.out (below_on S2.out (below_on BF.out (below_on BP.out BQ.out))))
      have R1' := hide ((((R1.out.keep S2.out).keep BF.out).keep BP.out).keep BQ.out)
      have R2' := hide (((R2.out.keep BF.out).keep BP.out).keep BQ.out)
      have RF' := hide ((RF.out.keep BP.out).keep BQ.out)
      have d1 := rdStr R1'.out
      have d2 := rdStr R2'.out
      have d3 := rdStr (HA.out.keep T1.out)
      have d4 := rdStr (HB.out.keep T1.out)
      have d5 := rdStr (RP.out.keep BQ.out)
      have d6 := rdStr RQ.out
      have z1 := bne_self5 (splitU ys)
      have z2 := bne_self5 (splitE ys)
      generalize splitU ys = U at *
      generalize splitE ys = E at *
      generalize splitP ys = PP at *
      go_wp2_with (go_at_call 10; refine (awake5_any _).mono ?_; rintro e w6 ⟨rfl, b6⟩)
      go_ret
      exact ⟨rfl, below_on T1.out b6⟩
    · have p3' : ¬ (l : Int) < 1 := by omega
      have p4 : (253 : Int) < (l : Int) := by omega
      clear h' p3
      go_enter Try.func3, Try.ntmps3
      go_wp2_with (first
        | (at_builtin; refine wpList_app rfl (.tmp 25) (.tmp 26) 22 rfl 5 _ _ Try.underlying22 u8_info rfl w.heap.size (some ⟨w.heap.size, 0, none⟩) 0 0 [] rfl (own_empty w) A l c (bv xs) rfl (HA.out.keep ((Below.refl _ _).alloc (Nat.le_refl _) _)) (bv_one _) (by unfold maxLen; omega) (by omega) (by simp) ?_; intro A1 c1 w1 o1 g1 b1; rw [Nat.zero_add, List.nil_append] at o1; have R1 := hide (own_rd o1); have S1 := hide (((Below.refl _ _).alloc (Nat.le_refl _) _).trans b1 : Below w.heap.size w w1); clear o1 g1 b1)
        | (at_builtin; refine wpList_app rfl (.tmp 28) (.tmp 29) 22 rfl 5 _ _ Try.underlying22 u8_info rfl w1.heap.size (some ⟨w1.heap.size, 0, none⟩) 0 0 [] rfl (own_empty w1) B m d (bv ys) rfl ((HB.out.keep S1.out).keep ((Below.refl _ _).alloc (Nat.le_refl _) _)) (bv_one _) (by unfold maxLen; omega) (by omega) (by simp) ?_; intro A2 c2 w2 o2 g2 b2; rw [Nat.zero_add, List.nil_append] at o2; have hc2 := own_cap o2; have R2 := hide (own_rd o2); have S2 := hide (((Below.refl _ _).alloc (Nat.le_refl _) _).trans b2 : Below w1.heap.size w1 w2); clear o2 g2 b2)
        | (go_at_call 7; refine (frame_is _ A1 l c1 xs w2 (R1.out.keep S2.out) Hx.out _ _ _ HE.out HL.out HN.out).mono ?_; rintro e w3 ⟨F, fk, rfl, hfk, rF, bF⟩; have RF := hide rF; have BF := hide bF; clear rF bF)
        | (go_at_call 8; refine (split_any A2 m c2 ys w3 (R2.out.keep BF.out) Hy.out hc2).mono ?_; rintro e w4 ⟨P, pk, rfl, rP, bP⟩; have RP := hide rP; have BP := hide bP; clear rP bP))
      refine (refSplit_any B m d ys w4 ((((HB.out.keep S1.out).keep S2.out).keep BF.out).keep BP.out) Hy.out hd).mono ?_
      rintro e w5 ⟨Q, qk, rfl, rQ, bQ⟩
      have RQ := hide rQ
      have BQ := hide bQ
      clear rQ bQ
      have T1 := hide (below_on S1.out (below_on S2.out (below_on BF.out (below_on BP.out BQ.out))))
      have R1' := hide ((((R1.out.keep S2.out).keep BF.out).keep BP.out).keep BQ.out)
      have R2' := hide (((R2.out.keep BF.out).keep BP.out).keep BQ.out)
      have RF' := hide ((RF.out.keep BP.out).keep BQ.out)
      have d1 := rdStr R1'.out
      have d2 := rdStr R2'.out
      have d3 := rdStr (HA.out.keep T1.out)
      have d4 := rdStr (HB.out.keep T1.out)
      have d5 := rdStr (RP.out.keep BQ.out)
      have d6 := rdStr RQ.out
      have z1 := bne_self5 (splitU ys)
      have z2 := bne_self5 (splitE ys)
      generalize splitU ys = U at *
      generalize splitE ys = E at *
      generalize splitP ys = PP at *
      go_wp2_with (go_at_call 10; refine (awake5_any _).mono ?_; rintro e w6 ⟨rfl, b6⟩)
      go_ret
      exact ⟨rfl, below_on T1.out b6⟩
  | true =>
    have hb : 0 ≤ u ∧ u ≤ 247 ∧ 1 ≤ l ∧ l ≤ 253 := by
      unfold frOk at hok
      rw [decide_eq_true_iff] at hok
      omega
    obtain ⟨hu0, hu, hl1, hl2⟩ := hb
    obtain ⟨n, rfl⟩ : ∃ n : Nat, u = (n : Int) := ⟨u.toNat, by omega⟩
    have HE : Hid (frE (n : Int) l = 0) := by show _ = _; unfold frE; rw [hok]; rfl
    have HL : Hid (frL (n : Int) xs = frameL n xs) := by show _ = _; unfold frL; rw [Hx.out, hok]; rfl
    have HN : Hid ((frameL n xs).length = l + 3) := by show _ = _; rw [frameL_length, Hx.out]
    have p1 : ¬ (n : Int) < 0 := by omega
    have p2 : ¬ (247 : Int) < (n : Int) := by omega
    have p3 : ¬ (l : Int) < 1 := by omega
    have p4 : ¬ (253 : Int) < (l : Int) := by omega
    clear hok hu0
    go_enter Try.func3, Try.ntmps3
    go_wp2_with (first
      | (at_builtin; refine wpList_app rfl (.tmp 25) (.tmp 26) 22 rfl 5 _ _ Try.underlying22 u8_info rfl w.heap.size (some ⟨w.heap.size, 0, none⟩) 0 0 [] rfl (own_empty w) A l c (bv xs) rfl (HA.out.keep ((Below.refl _ _).alloc (Nat.le_refl _) _)) (bv_one _) (by unfold maxLen; omega) (by omega) (by simp) ?_; intro A1 c1 w1 o1 g1 b1; rw [Nat.zero_add, List.nil_append] at o1; have R1 := hide (own_rd o1); have S1 := hide (((Below.refl _ _).alloc (Nat.le_refl _) _).trans b1 : Below w.heap.size w w1); clear o1 g1 b1)
      | (at_builtin; refine wpList_app rfl (.tmp 28) (.tmp 29) 22 rfl 5 _ _ Try.underlying22 u8_info rfl w1.heap.size (some ⟨w1.heap.size, 0, none⟩) 0 0 [] rfl (own_empty w1) B m d (bv ys) rfl ((HB.out.keep S1.out).keep ((Below.refl _ _).alloc (Nat.le_refl _) _)) (bv_one _) (by unfold maxLen; omega) (by omega) (by simp) ?_; intro A2 c2 w2 o2 g2 b2; rw [Nat.zero_add, List.nil_append] at o2; have hc2 := own_cap o2; have R2 := hide (own_rd o2); have S2 := hide (((Below.refl _ _).alloc (Nat.le_refl _) _).trans b2 : Below w1.heap.size w1 w2); clear o2 g2 b2)
      | (go_at_call 7; refine (frame_is _ A1 l c1 xs w2 (R1.out.keep S2.out) Hx.out _ _ _ HE.out HL.out HN.out).mono ?_; rintro e w3 ⟨F, fk, rfl, hfk, rF, bF⟩; have RF := hide rF; have BF := hide bF; clear rF bF)
      | (go_at_call 8; refine (split_any A2 m c2 ys w3 (R2.out.keep BF.out) Hy.out hc2).mono ?_; rintro e w4 ⟨P, pk, rfl, rP, bP⟩; have RP := hide rP; have BP := hide bP; clear rP bP))
    refine (refSplit_any B m d ys w4 ((((HB.out.keep S1.out).keep S2.out).keep BF.out).keep BP.out) Hy.out hd).mono ?_
    rintro e w5 ⟨Q, qk, rfl, rQ, bQ⟩
    have RQ := hide rQ
    have BQ := hide bQ
    clear rQ bQ
    have T1 := hide (below_on S1.out (below_on S2.out (below_on BF.out (below_on BP.out BQ.out))))
    have R1' := hide ((((R1.out.keep S2.out).keep BF.out).keep BP.out).keep BQ.out)
    have R2' := hide (((R2.out.keep BF.out).keep BP.out).keep BQ.out)
    have RF' := hide ((RF.out.keep BP.out).keep BQ.out)
    have d1 := rdStr R1'.out
    have d2 := rdStr R2'.out
    have d3 := rdStr (HA.out.keep T1.out)
    have d4 := rdStr (HB.out.keep T1.out)
    have d5 := rdStr (RP.out.keep BQ.out)
    have d6 := rdStr RQ.out
    have z1 := bne_self5 (splitU ys)
    have z2 := bne_self5 (splitE ys)
    generalize splitU ys = U at *
    generalize splitE ys = E at *
    generalize splitP ys = PP at *
    go_wp2_with fail
    clear d1 d2 d3 d4 d5 d6
    have HX := hide (HA.out.keep T1.out)
    refine wp_region_held_drew (S := fun w' => Below w5.heap.size w5 w') (by kernel_rfl) ?_ (fun hHeld => ?_)
    · exact (Below.refl _ _).drew
    refine wpAnyH_ready (rs := [0]) (by kernel_rfl) (by simp) (AllReadyH.cons (o := { dst := some 104, op := _, type := _, pos := _, after := _, guard := _ }) rfl (fun K hK => ?_) AllReadyH.nil)
    go_simp
    refine (awake5_any _).mono ?_
    rintro e w6 ⟨rfl, b6⟩
    have s6 := below_on hHeld b6
    have dF := strOn (RF'.out.keep s6)
    go_wp2_with fail
    refine hK.out _ _ ?_ (fun hHeld => ?_)
    · exact below_on hHeld b6
    clear hK K
    try simp only [Act.put, List.setIfInBounds_toArray, List.set_cons_zero, List.set_cons_succ]
    refine wpAnyH_strong (S' := fun w' => Below w6.heap.size w6 w') (by intro w' h; exact below_on hHeld h) ?_
    replace hHeld : (fun w' => Below w6.heap.size w6 w') _ := Below.refl _ _
    refine wpAnyH_take (i := 1) (oi := { dst := some 105, op := _, type := _, pos := _, after := _, guard := _ }) (v := ?v1x2) rfl (by kernel_rfl) (by kernel_rfl) (by kernel_rfl) (fun _ _ _ h => h) (Or.inl ⟨by rfl, ?hy1x2⟩) hHeld ?rest1x2
    case hy1x2 => (intro w hSw; go_simp <;> with_reducible rfl)
    try simp only [Act.put, List.setIfInBounds_toArray, List.set_cons_zero, List.set_cons_succ]
    refine wpAnyH_take (i := 2) (oi := { dst := some 106, op := _, type := _, pos := _, after := _, guard := _ }) (v := ?v1x3) rfl (by kernel_rfl) (by kernel_rfl) (by kernel_rfl) (fun _ _ _ h => h) (Or.inl ⟨by rfl, ?hy1x3⟩) hHeld ?rest1x3
    case hy1x3 => (intro w hSw; go_simp <;> with_reducible rfl)
    try simp only [Act.put, List.setIfInBounds_toArray, List.set_cons_zero, List.set_cons_succ]
    refine wpAnyH_take (i := 3) (oi := { dst := some 107, op := _, type := _, pos := _, after := _, guard := _ }) (v := ?v1x4) rfl (by kernel_rfl) (by kernel_rfl) (by kernel_rfl) (fun _ _ _ h => h) (Or.inl ⟨by rfl, ?hy1x4⟩) hHeld ?rest1x4
    case hy1x4 => (intro w hSw; go_simp <;> with_reducible rfl)
    try simp only [Act.put, List.setIfInBounds_toArray, List.set_cons_zero, List.set_cons_succ]
    refine wpAnyH_take (i := 4) (oi := { dst := some 108, op := _, type := _, pos := _, after := _, guard := _ }) (v := ?v1x5) rfl (by kernel_rfl) (by kernel_rfl) (by kernel_rfl) (fun _ _ _ h => h) (Or.inl ⟨by rfl, ?hy1x5⟩) hHeld ?rest1x5
    case hy1x5 => (intro w hSw; go_simp <;> with_reducible rfl)
    try simp only [Act.put, List.setIfInBounds_toArray, List.set_cons_zero, List.set_cons_succ]
    refine wpAnyH_take (i := 5) (oi := { dst := some 109, op := _, type := _, pos := _, after := _, guard := _ }) (v := ?v1x6) rfl (by kernel_rfl) (by kernel_rfl) (by kernel_rfl) (fun _ _ _ h => h) (Or.inl ⟨by rfl, ?hy1x6⟩) hHeld ?rest1x6
    case hy1x6 => (intro w hSw; go_simp <;> with_reducible rfl)
    try simp only [Act.put, List.setIfInBounds_toArray, List.set_cons_zero, List.set_cons_succ]
    refine wpAnyH_take (i := 6) (oi := { dst := some 110, op := _, type := _, pos := _, after := _, guard := _ }) (v := ?v1x7) rfl (by kernel_rfl) (by kernel_rfl) (by kernel_rfl) (fun _ _ _ h => h) (Or.inl ⟨by rfl, ?hy1x7⟩) hHeld ?rest1x7
    case hy1x7 => (intro w hSw; go_simp <;> with_reducible rfl)
    try simp only [Act.put, List.setIfInBounds_toArray, List.set_cons_zero, List.set_cons_succ]
    refine wpAnyH_take (i := 7) (oi := { dst := some 111, op := _, type := _, pos := _, after := _, guard := _ }) (v := ?v1x8) rfl (by kernel_rfl) (by kernel_rfl) (by kernel_rfl) (fun _ _ _ h => h) (Or.inl ⟨by rfl, ?hy1x8⟩) hHeld ?rest1x8
    case hy1x8 => (intro w hSw; go_simp <;> with_reducible rfl)
    try simp only [Act.put, List.setIfInBounds_toArray, List.set_cons_zero, List.set_cons_succ]
    refine wpAnyH_take (i := 8) (oi := { dst := some 112, op := _, type := _, pos := _, after := _, guard := _ }) (v := ?v1x9) rfl (by kernel_rfl) (by kernel_rfl) (by kernel_rfl) (fun _ _ _ h => h) (Or.inl ⟨by rfl, ?hy1x9⟩) hHeld ?rest1x9
    case hy1x9 => (intro w hSw; go_simp <;> with_reducible rfl)
    try simp only [Act.put, List.setIfInBounds_toArray, List.set_cons_zero, List.set_cons_succ]
    refine wpAnyH_take (i := 9) (oi := { dst := some 113, op := _, type := _, pos := _, after := _, guard := _ }) (v := ?v1x10) rfl (by kernel_rfl) (by kernel_rfl) (by kernel_rfl) (fun _ _ _ h => h) (Or.inl ⟨by rfl, ?hy1x10⟩) hHeld ?rest1x10
    case hy1x10 => (intro w hSw; go_simp <;> with_reducible rfl)
    try simp only [Act.put, List.setIfInBounds_toArray, List.set_cons_zero, List.set_cons_succ]
    refine wpAnyH_ready (rs := [10]) (by kernel_rfl) (by simp) (AllReadyH.cons (o := { dst := some 114, op := _, type := _, pos := _, after := _, guard := _ }) rfl (fun K hK => ?_) AllReadyH.nil)
    go_simp
    refine (refFrame_yes n A l c xs _ ((HX.out.keep s6).keep hHeld) Hx.out (by omega) (by omega)).mono ?_
    rintro e w7 ⟨G, gk, rfl, hgk, r7, b7⟩
    have s7 := below_on s6 (below_on hHeld b7)
    have dG := strOn r7
    go_wp2_with fail
    refine hK.out _ _ ?_ (fun hHeld => ?_)
    · exact below_on hHeld b7
    clear hK K
    try simp only [Act.put, List.setIfInBounds_toArray, List.set_cons_zero, List.set_cons_succ]
    refine wpAnyH_strong (S' := fun w' => Below w7.heap.size w7 w') (by intro w' h; exact below_on hHeld h) ?_
    replace hHeld : (fun w' => Below w7.heap.size w7 w') _ := Below.refl _ _
    refine wpAnyH_take (i := 11) (oi := { dst := some 115, op := _, type := _, pos := _, after := _, guard := _ }) (v := ?v1x12) rfl (by kernel_rfl) (by kernel_rfl) (by kernel_rfl) (fun _ _ _ h => h) (Or.inl ⟨by rfl, ?hy1x12⟩) hHeld ?rest1x12
    case hy1x12 => (intro w hSw; go_simp <;> with_reducible rfl)
    try simp only [Act.put, List.setIfInBounds_toArray, List.set_cons_zero, List.set_cons_succ]
    refine wpAnyH_take (i := 12) (oi := { dst := some 116, op := _, type := _, pos := _, after := _, guard := _ }) (v := ?v1x13) rfl (by kernel_rfl) (by kernel_rfl) (by kernel_rfl) (fun _ _ _ h => h) (Or.inl ⟨by rfl, ?hy1x13⟩) hHeld ?rest1x13
    case hy1x13 => (intro w hSw; go_simp <;> with_reducible rfl)
    try simp only [Act.put, List.setIfInBounds_toArray, List.set_cons_zero, List.set_cons_succ]
    refine wpAnyH_take (i := 13) (oi := { dst := some 117, op := _, type := _, pos := _, after := _, guard := _ }) (v := ?v1x14) rfl (by kernel_rfl) (by kernel_rfl) (by kernel_rfl) (fun _ _ _ h => h) (Or.inl ⟨by rfl, ?hy1x14⟩) hHeld ?rest1x14
    case hy1x14 => (intro w hSw; go_simp <;> with_reducible rfl)
    try simp only [Act.put, List.setIfInBounds_toArray, List.set_cons_zero, List.set_cons_succ]
    refine wpAnyH_take (i := 14) (oi := { dst := some 6, op := _, type := _, pos := _, after := _, guard := _ }) (v := ?v1x15) rfl (by kernel_rfl) (by kernel_rfl) (by kernel_rfl) (fun _ _ _ h => h) (Or.inl ⟨by rfl, ?hy1x15⟩) hHeld ?rest1x15
    case hy1x15 => (intro w hSw; go_simp <;> with_reducible rfl)
    try simp only [Act.put, List.setIfInBounds_toArray, List.set_cons_zero, List.set_cons_succ]
    refine wpAnyH_done (by kernel_rfl) ?_ _
    go_wp2_with fail
    go_ret
    exact ⟨rfl, below_on T1.out s7⟩

end Go.Proofs.Ytkbombdhdgdpnaa
