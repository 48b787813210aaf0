/-
  What is proved here: what the document's own AnswerMay and AnswerBytes return.
-/
import Derived.Test.YtfpfijggmfeejaaPdu15
import Derived.Test.YtfpfijggmfeejaaRef3c
import Derived.Test.YtfpfijggmfeejaaRef3f
namespace Go.Proofs.Ytfpfijggmfeejaa
set_option linter.unusedVariables false
set_option linter.unusedSimpArgs false
open Go.RowKit

theorem refAnsMay_any (f a c t an o code : Int) (A B : Option Addr) (n k m d : Nat) (us : List Int) (w : World) (h : Rd w B m (iv us)) (hm : m ≤ 1000000) :
    Calls Try.prog 57 #[.agg #[.int .i64 f, .int .i64 a, .int .i64 c, .slice A n k, .int .i64 t, .int .i64 an, .int .i64 o], .agg #[.slice B m d, .int .i64 code]] w fun e w' => e = .returned (.bool (ansMayB f c code us)) ∧ Below w.heap.size w w' := by
  have hl : us.length = m := by rw [← iv_length]; exact h.1
  unfold ansMayB
  rw [hl]
  have hm' : (m == 0) = ((m : Int) == 0) := by rw [Bool.eq_iff_iff]; simp
  rw [hm']
  by_cases hc0 : code = 0
  · subst hc0
    rw [if_pos rfl]
    by_cases h1 : f = 1
    · subst h1
      rw [if_pos (Or.inl rfl)]
      cases hc : (m : Int) == c
      · go_enter Try.func57, Try.ntmps57
        go_wp2
        go_ret
        exact ⟨by first | rfl | simp, ((Below.refl _ _).alloc (Nat.le_refl _) _).alloc (by simp) _⟩
      have HM := hide (fun W (b : Below w.heap.size w W) => bits_any B m d us W (h.keep b) hm)
      rw [← upTo_bits us] at HM
      clear h
      generalize upToB us 1 = bU at *
      go_enter Try.func57, Try.ntmps57
      go_wp2_with fail
      refine (HM.out _ (((Below.refl _ _).alloc (Nat.le_refl _) _).alloc (by simp) _)).mono ?_
      rintro e w1 ⟨rfl, rfl⟩
      go_wp2
      go_ret
      exact ⟨by first | rfl | simp, ((Below.refl _ _).alloc (Nat.le_refl _) _).alloc (by simp) _⟩
    by_cases h2 : f = 2
    · subst h2
      rw [if_pos (Or.inr rfl)]
      cases hc : (m : Int) == c
      · go_enter Try.func57, Try.ntmps57
        go_wp2
        go_ret
        exact ⟨by first | rfl | simp, ((Below.refl _ _).alloc (Nat.le_refl _) _).alloc (by simp) _⟩
      have HM := hide (fun W (b : Below w.heap.size w W) => bits_any B m d us W (h.keep b) hm)
      rw [← upTo_bits us] at HM
      clear h
      generalize upToB us 1 = bU at *
      go_enter Try.func57, Try.ntmps57
      go_wp2_with fail
      refine (HM.out _ (((Below.refl _ _).alloc (Nat.le_refl _) _).alloc (by simp) _)).mono ?_
      rintro e w1 ⟨rfl, rfl⟩
      go_wp2
      go_ret
      exact ⟨by first | rfl | simp, ((Below.refl _ _).alloc (Nat.le_refl _) _).alloc (by simp) _⟩
    rw [if_neg (by omega)]
    by_cases h3 : f = 3
    · subst h3
      rw [if_pos (by omega)]
      cases hc : (m : Int) == c
      · go_enter Try.func57, Try.ntmps57
        go_wp2
        go_ret
        exact ⟨by first | rfl | simp, ((Below.refl _ _).alloc (Nat.le_refl _) _).alloc (by simp) _⟩
      have HM := hide (fun W (b : Below w.heap.size w W) => words_any B m d us W (h.keep b) hm)
      skip
      clear h
      generalize upToB us 65535 = bU at *
      go_enter Try.func57, Try.ntmps57
      go_wp2_with fail
      refine (HM.out _ (((Below.refl _ _).alloc (Nat.le_refl _) _).alloc (by simp) _)).mono ?_
      rintro e w1 ⟨rfl, rfl⟩
      go_wp2
      go_ret
      exact ⟨by first | rfl | simp, ((Below.refl _ _).alloc (Nat.le_refl _) _).alloc (by simp) _⟩
    by_cases h4 : f = 4
    · subst h4
      rw [if_pos (by omega)]
      cases hc : (m : Int) == c
      · go_enter Try.func57, Try.ntmps57
        go_wp2
        go_ret
        exact ⟨by first | rfl | simp, ((Below.refl _ _).alloc (Nat.le_refl _) _).alloc (by simp) _⟩
      have HM := hide (fun W (b : Below w.heap.size w W) => words_any B m d us W (h.keep b) hm)
      skip
      clear h
      generalize upToB us 65535 = bU at *
      go_enter Try.func57, Try.ntmps57
      go_wp2_with fail
      refine (HM.out _ (((Below.refl _ _).alloc (Nat.le_refl _) _).alloc (by simp) _)).mono ?_
      rintro e w1 ⟨rfl, rfl⟩
      go_wp2
      go_ret
      exact ⟨by first | rfl | simp, ((Below.refl _ _).alloc (Nat.le_refl _) _).alloc (by simp) _⟩
    by_cases h23 : f = 23
    · subst h23
      rw [if_pos (by omega)]
      cases hc : (m : Int) == c
      · go_enter Try.func57, Try.ntmps57
        go_wp2
        go_ret
        exact ⟨by first | rfl | simp, ((Below.refl _ _).alloc (Nat.le_refl _) _).alloc (by simp) _⟩
      have HM := hide (fun W (b : Below w.heap.size w W) => words_any B m d us W (h.keep b) hm)
      skip
      clear h
      generalize upToB us 65535 = bU at *
      go_enter Try.func57, Try.ntmps57
      go_wp2_with fail
      refine (HM.out _ (((Below.refl _ _).alloc (Nat.le_refl _) _).alloc (by simp) _)).mono ?_
      rintro e w1 ⟨rfl, rfl⟩
      go_wp2
      go_ret
      exact ⟨by first | rfl | simp, ((Below.refl _ _).alloc (Nat.le_refl _) _).alloc (by simp) _⟩
    rw [if_neg (by omega)]
    replace h1 := ne_beq h1; replace h2 := ne_beq h2; replace h3 := ne_beq h3; replace h4 := ne_beq h4; replace h23 := ne_beq h23
    go_enter Try.func57, Try.ntmps57
    go_wp2
    go_ret
    exact ⟨by first | rfl | simp, ((Below.refl _ _).alloc (Nat.le_refl _) _).alloc (by simp) _⟩
  · rw [if_neg hc0]
    have hc1 : (code != 0) = true := ne_bne hc0
    rw [show decide (0 < code) = decide (1 ≤ code) from by rw [decide_eq_decide]; omega]
    cases h1 : decide (1 ≤ code)
    · go_enter Try.func57, Try.ntmps57
      go_wp2
      go_ret
      exact ⟨by first | rfl | simp, ((Below.refl _ _).alloc (Nat.le_refl _) _).alloc (by simp) _⟩
    cases h2 : decide (code ≤ 255)
    all_goals
      go_enter Try.func57, Try.ntmps57
      go_wp2
      go_ret
      exact ⟨by first | rfl | simp, ((Below.refl _ _).alloc (Nat.le_refl _) _).alloc (by simp) _⟩

set_option maxRecDepth 100000 in
theorem refAns_1 (a c t an o : Int) (A B : Option Addr) (n k m d M : Nat) (us : List Int) (w : World) (h : Rd w B m (iv us)) (hv : upToB us 1 = true) (hm : m ≤ 2000) (hM : M = (m + 7) / 8) :
    Calls Try.prog 34 #[.agg #[.int .i64 1, .int .i64 a, .int .i64 c, .slice A n k, .int .i64 t, .int .i64 an, .int .i64 o], .agg #[.slice B m d, .int .i64 0]] w (RetSl (1 + (1 + M)) (bv ([1] ++ cntL (packL us))) w) := by
  have hl : us.length = m := by rw [← iv_length]; exact h.1
  have hb : bitsB us = true := by rw [← upTo_bits]; exact hv
  have HPk := hide (fun W (b : Below w.heap.size w W) => refPack_any B m d M us W (h.keep b) (by omega) hb (by omega) (by omega))
  rw [show pkTo us M m = packL us from by rw [packL, hl, hM]] at HPk
  have hM2 : M ≤ 255 := by omega
  clear hM h hl hb hv
  go_enter Try.func34, Try.ntmps34
  go_wp2_with fail
  generalize hW : ((w.alloc (.cells #[.int .i64 1, .int .i64 a, .int .i64 c, .slice A n k, .int .i64 t, .int .i64 an, .int .i64 o] 37)).alloc (.cells #[.slice B m d, .int .i64 0] 61)).alloc (.cells #[.int .u8 1] 5) = W
  obtain ⟨_, _, hB3, hBel, hsz⟩ := three_new w [.int .i64 1, .int .i64 a, .int .i64 c, .slice A n k, .int .i64 t, .int .i64 an, .int .i64 o] [.slice B m d, .int .i64 0] 37 61 5 (.int .u8 1) W hW.symm
  clear hW
  refine (HPk.out _ hBel).mono ?_
  rintro e w4 ⟨E, kE, rfl, lE, rE, b4⟩
  have O4 : Hid (w4.ownsRow (w.heap.size + 2) 5 1 (.slice (some ⟨w.heap.size + 2, 0, none⟩) 1 1) 1 (bv [1])) := own_keep (hB3.own (Nat.le_refl _) 1 rfl (by decide)) b4
  have B4 := hide (below_on hBel b4)
  have S4 : Hid (w.heap.size + 2 ≤ w4.heap.size) := by have h1 := b4.size; have h2 := hsz; show _ ≤ _; omega
  clear b4 hBel hsz hB3
  go_wp2_with fail
  refine (refCounted_any E M kE (packL us) _ rE (by omega)).mono ?_
  rintro e w5 ⟨F, kF, rfl, lF, rF, b5⟩
  have O5 := hide (own_keep O4.out b5)
  have B5 := hide (below_on B4.out b5)
  have S5 : Hid (w.heap.size + 2 ≤ w5.heap.size) := Nat.le_trans S4.out b5.size
  have RF := hide rF
  clear b5 rF O4 B4
  go_wp2_with (at_builtin; refine wpList_app rfl (.tmp 26) (.tmp 30) 38 rfl 5 _ _ Try.underlying38 u8_info rfl (w.heap.size + 2) _ 1 1 _ rfl O5.out F (1 + M) kF _ rfl RF.out (bv_one _) (by unfold maxLen; omega) (by omega) S5.out ?_; intro A6 c6 w6 o6 g6 b6; rw [← bv_append] at o6)
  go_ret
  exact ⟨A6, c6, rfl, own_cap o6, own_rd o6, B5.out.trans (b6.mono (by omega))⟩
set_option maxRecDepth 100000 in
theorem refAns_2 (a c t an o : Int) (A B : Option Addr) (n k m d M : Nat) (us : List Int) (w : World) (h : Rd w B m (iv us)) (hv : upToB us 1 = true) (hm : m ≤ 2000) (hM : M = (m + 7) / 8) :
    Calls Try.prog 34 #[.agg #[.int .i64 2, .int .i64 a, .int .i64 c, .slice A n k, .int .i64 t, .int .i64 an, .int .i64 o], .agg #[.slice B m d, .int .i64 0]] w (RetSl (1 + (1 + M)) (bv ([2] ++ cntL (packL us))) w) := by
  have hl : us.length = m := by rw [← iv_length]; exact h.1
  have hb : bitsB us = true := by rw [← upTo_bits]; exact hv
  have HPk := hide (fun W (b : Below w.heap.size w W) => refPack_any B m d M us W (h.keep b) (by omega) hb (by omega) (by omega))
  rw [show pkTo us M m = packL us from by rw [packL, hl, hM]] at HPk
  have hM2 : M ≤ 255 := by omega
  clear hM h hl hb hv
  go_enter Try.func34, Try.ntmps34
  go_wp2_with fail
  generalize hW : ((w.alloc (.cells #[.int .i64 2, .int .i64 a, .int .i64 c, .slice A n k, .int .i64 t, .int .i64 an, .int .i64 o] 37)).alloc (.cells #[.slice B m d, .int .i64 0] 61)).alloc (.cells #[.int .u8 2] 5) = W
  obtain ⟨_, _, hB3, hBel, hsz⟩ := three_new w [.int .i64 2, .int .i64 a, .int .i64 c, .slice A n k, .int .i64 t, .int .i64 an, .int .i64 o] [.slice B m d, .int .i64 0] 37 61 5 (.int .u8 2) W hW.symm
  clear hW
  refine (HPk.out _ hBel).mono ?_
  rintro e w4 ⟨E, kE, rfl, lE, rE, b4⟩
  have O4 : Hid (w4.ownsRow (w.heap.size + 2) 5 1 (.slice (some ⟨w.heap.size + 2, 0, none⟩) 1 1) 1 (bv [2])) := own_keep (hB3.own (Nat.le_refl _) 1 rfl (by decide)) b4
  have B4 := hide (below_on hBel b4)
  have S4 : Hid (w.heap.size + 2 ≤ w4.heap.size) := by have h1 := b4.size; have h2 := hsz; show _ ≤ _; omega
  clear b4 hBel hsz hB3
  go_wp2_with fail
  refine (refCounted_any E M kE (packL us) _ rE (by omega)).mono ?_
  rintro e w5 ⟨F, kF, rfl, lF, rF, b5⟩
  have O5 := hide (own_keep O4.out b5)
  have B5 := hide (below_on B4.out b5)
  have S5 : Hid (w.heap.size + 2 ≤ w5.heap.size) := Nat.le_trans S4.out b5.size
  have RF := hide rF
  clear b5 rF O4 B4
  go_wp2_with (at_builtin; refine wpList_app rfl (.tmp 26) (.tmp 30) 38 rfl 5 _ _ Try.underlying38 u8_info rfl (w.heap.size + 2) _ 1 1 _ rfl O5.out F (1 + M) kF _ rfl RF.out (bv_one _) (by unfold maxLen; omega) (by omega) S5.out ?_; intro A6 c6 w6 o6 g6 b6; rw [← bv_append] at o6)
  go_ret
  exact ⟨A6, c6, rfl, own_cap o6, own_rd o6, B5.out.trans (b6.mono (by omega))⟩
set_option maxRecDepth 100000 in
theorem refAns_3 (a c t an o : Int) (A B : Option Addr) (n k m d : Nat) (us : List Int) (w : World) (h : Rd w B m (iv us)) (hv : upToB us 65535 = true) (hm : m ≤ 125) :
    Calls Try.prog 34 #[.agg #[.int .i64 3, .int .i64 a, .int .i64 c, .slice A n k, .int .i64 t, .int .i64 an, .int .i64 o], .agg #[.slice B m d, .int .i64 0]] w (RetSl (1 + (1 + 2 * m)) (bv ([3] ++ cntL (putL us))) w) := by
  have HPk := hide (fun W (b : Below w.heap.size w W) => refLay_any B m d us W (h.keep b) hv (by omega))
  clear h hv
  go_enter Try.func34, Try.ntmps34
  go_wp2_with fail
  generalize hW : ((w.alloc (.cells #[.int .i64 3, .int .i64 a, .int .i64 c, .slice A n k, .int .i64 t, .int .i64 an, .int .i64 o] 37)).alloc (.cells #[.slice B m d, .int .i64 0] 61)).alloc (.cells #[.int .u8 3] 5) = W
  obtain ⟨_, _, hB3, hBel, hsz⟩ := three_new w [.int .i64 3, .int .i64 a, .int .i64 c, .slice A n k, .int .i64 t, .int .i64 an, .int .i64 o] [.slice B m d, .int .i64 0] 37 61 5 (.int .u8 3) W hW.symm
  clear hW
  refine (HPk.out _ hBel).mono ?_
  rintro e w4 ⟨E, kE, rfl, oE, b4⟩
  have O4 : Hid (w4.ownsRow (w.heap.size + 2) 5 1 (.slice (some ⟨w.heap.size + 2, 0, none⟩) 1 1) 1 (bv [3])) := own_keep (hB3.own (Nat.le_refl _) 1 rfl (by decide)) b4
  have B4 := hide (below_on hBel b4)
  have S4 : Hid (w.heap.size + 2 ≤ w4.heap.size) := by have h1 := b4.size; have h2 := hsz; show _ ≤ _; omega
  clear b4 hBel hsz hB3
  go_wp2_with fail
  refine (refCounted_any E (2 * m) kE (putL us) _ (own_rd oE) (by omega)).mono ?_
  rintro e w5 ⟨F, kF, rfl, lF, rF, b5⟩
  have O5 := hide (own_keep O4.out b5)
  have B5 := hide (below_on B4.out b5)
  have S5 : Hid (w.heap.size + 2 ≤ w5.heap.size) := Nat.le_trans S4.out b5.size
  have RF := hide rF
  clear b5 rF O4 B4
  go_wp2_with (at_builtin; refine wpList_app rfl (.tmp 37) (.tmp 41) 38 rfl 5 _ _ Try.underlying38 u8_info rfl (w.heap.size + 2) _ 1 1 _ rfl O5.out F (1 + (2 * m)) kF _ rfl RF.out (bv_one _) (by unfold maxLen; omega) (by omega) S5.out ?_; intro A6 c6 w6 o6 g6 b6; rw [← bv_append] at o6)
  go_ret
  exact ⟨A6, c6, rfl, own_cap o6, own_rd o6, B5.out.trans (b6.mono (by omega))⟩
set_option maxRecDepth 100000 in
theorem refAns_4 (a c t an o : Int) (A B : Option Addr) (n k m d : Nat) (us : List Int) (w : World) (h : Rd w B m (iv us)) (hv : upToB us 65535 = true) (hm : m ≤ 125) :
    Calls Try.prog 34 #[.agg #[.int .i64 4, .int .i64 a, .int .i64 c, .slice A n k, .int .i64 t, .int .i64 an, .int .i64 o], .agg #[.slice B m d, .int .i64 0]] w (RetSl (1 + (1 + 2 * m)) (bv ([4] ++ cntL (putL us))) w) := by
  have HPk := hide (fun W (b : Below w.heap.size w W) => refLay_any B m d us W (h.keep b) hv (by omega))
  clear h hv
  go_enter Try.func34, Try.ntmps34
  go_wp2_with fail
  generalize hW : ((w.alloc (.cells #[.int .i64 4, .int .i64 a, .int .i64 c, .slice A n k, .int .i64 t, .int .i64 an, .int .i64 o] 37)).alloc (.cells #[.slice B m d, .int .i64 0] 61)).alloc (.cells #[.int .u8 4] 5) = W
  obtain ⟨_, _, hB3, hBel, hsz⟩ := three_new w [.int .i64 4, .int .i64 a, .int .i64 c, .slice A n k, .int .i64 t, .int .i64 an, .int .i64 o] [.slice B m d, .int .i64 0] 37 61 5 (.int .u8 4) W hW.symm
  clear hW
  refine (HPk.out _ hBel).mono ?_
  rintro e w4 ⟨E, kE, rfl, oE, b4⟩
  have O4 : Hid (w4.ownsRow (w.heap.size + 2) 5 1 (.slice (some ⟨w.heap.size + 2, 0, none⟩) 1 1) 1 (bv [4])) := own_keep (hB3.own (Nat.le_refl _) 1 rfl (by decide)) b4
  have B4 := hide (below_on hBel b4)
  have S4 : Hid (w.heap.size + 2 ≤ w4.heap.size) := by have h1 := b4.size; have h2 := hsz; show _ ≤ _; omega
  clear b4 hBel hsz hB3
  go_wp2_with fail
  refine (refCounted_any E (2 * m) kE (putL us) _ (own_rd oE) (by omega)).mono ?_
  rintro e w5 ⟨F, kF, rfl, lF, rF, b5⟩
  have O5 := hide (own_keep O4.out b5)
  have B5 := hide (below_on B4.out b5)
  have S5 : Hid (w.heap.size + 2 ≤ w5.heap.size) := Nat.le_trans S4.out b5.size
  have RF := hide rF
  clear b5 rF O4 B4
  go_wp2_with (at_builtin; refine wpList_app rfl (.tmp 37) (.tmp 41) 38 rfl 5 _ _ Try.underlying38 u8_info rfl (w.heap.size + 2) _ 1 1 _ rfl O5.out F (1 + (2 * m)) kF _ rfl RF.out (bv_one _) (by unfold maxLen; omega) (by omega) S5.out ?_; intro A6 c6 w6 o6 g6 b6; rw [← bv_append] at o6)
  go_ret
  exact ⟨A6, c6, rfl, own_cap o6, own_rd o6, B5.out.trans (b6.mono (by omega))⟩
set_option maxRecDepth 100000 in
theorem refAns_23 (a c t an o : Int) (A B : Option Addr) (n k m d : Nat) (us : List Int) (w : World) (h : Rd w B m (iv us)) (hv : upToB us 65535 = true) (hm : m ≤ 125) :
    Calls Try.prog 34 #[.agg #[.int .i64 23, .int .i64 a, .int .i64 c, .slice A n k, .int .i64 t, .int .i64 an, .int .i64 o], .agg #[.slice B m d, .int .i64 0]] w (RetSl (1 + (1 + 2 * m)) (bv ([23] ++ cntL (putL us))) w) := by
  have HPk := hide (fun W (b : Below w.heap.size w W) => refLay_any B m d us W (h.keep b) hv (by omega))
  clear h hv
  go_enter Try.func34, Try.ntmps34
  go_wp2_with fail
  generalize hW : ((w.alloc (.cells #[.int .i64 23, .int .i64 a, .int .i64 c, .slice A n k, .int .i64 t, .int .i64 an, .int .i64 o] 37)).alloc (.cells #[.slice B m d, .int .i64 0] 61)).alloc (.cells #[.int .u8 23] 5) = W
  obtain ⟨_, _, hB3, hBel, hsz⟩ := three_new w [.int .i64 23, .int .i64 a, .int .i64 c, .slice A n k, .int .i64 t, .int .i64 an, .int .i64 o] [.slice B m d, .int .i64 0] 37 61 5 (.int .u8 23) W hW.symm
  clear hW
  refine (HPk.out _ hBel).mono ?_
  rintro e w4 ⟨E, kE, rfl, oE, b4⟩
  have O4 : Hid (w4.ownsRow (w.heap.size + 2) 5 1 (.slice (some ⟨w.heap.size + 2, 0, none⟩) 1 1) 1 (bv [23])) := own_keep (hB3.own (Nat.le_refl _) 1 rfl (by decide)) b4
  have B4 := hide (below_on hBel b4)
  have S4 : Hid (w.heap.size + 2 ≤ w4.heap.size) := by have h1 := b4.size; have h2 := hsz; show _ ≤ _; omega
  clear b4 hBel hsz hB3
  go_wp2_with fail
  refine (refCounted_any E (2 * m) kE (putL us) _ (own_rd oE) (by omega)).mono ?_
  rintro e w5 ⟨F, kF, rfl, lF, rF, b5⟩
  have O5 := hide (own_keep O4.out b5)
  have B5 := hide (below_on B4.out b5)
  have S5 : Hid (w.heap.size + 2 ≤ w5.heap.size) := Nat.le_trans S4.out b5.size
  have RF := hide rF
  clear b5 rF O4 B4
  go_wp2_with (at_builtin; refine wpList_app rfl (.tmp 37) (.tmp 41) 38 rfl 5 _ _ Try.underlying38 u8_info rfl (w.heap.size + 2) _ 1 1 _ rfl O5.out F (1 + (2 * m)) kF _ rfl RF.out (bv_one _) (by unfold maxLen; omega) (by omega) S5.out ?_; intro A6 c6 w6 o6 g6 b6; rw [← bv_append] at o6)
  go_ret
  exact ⟨A6, c6, rfl, own_cap o6, own_rd o6, B5.out.trans (b6.mono (by omega))⟩

set_option maxRecDepth 100000 in
theorem refAns_15 (a c t an o : Int) (A B : Option Addr) (n k m d : Nat) (w : World) (ha : 0 ≤ a) (ha' : a ≤ 65535) (hc : 0 ≤ c) (hc' : c ≤ 65535) :
    Calls Try.prog 34 #[.agg #[.int .i64 15, .int .i64 a, .int .i64 c, .slice A n k, .int .i64 t, .int .i64 an, .int .i64 o], .agg #[.slice B m d, .int .i64 0]] w (RetSl 5 (bv ([15] ++ putL [a, c])) w) := by
  have hl : upToB [a, c] 65535 = true := by simp [upToB]; omega
  have HP := hide (fun G W hG => refLay_lit G 2 [a, c] W hG rfl hl (by omega))
  have HW := hide (three_new w [.int .i64 15, .int .i64 a, .int .i64 c, .slice A n k, .int .i64 t, .int .i64 an, .int .i64 o] [.slice B m d, .int .i64 0] 37 61 5 (.int .u8 15) _ rfl)
  clear hl
  go_enter Try.func34, Try.ntmps34
  go_wp2_with fail
  refine (HP.out _ _ (by simp)).mono ?_
  rintro e w1 ⟨D, kD, rfl, oD, bD⟩
  obtain ⟨_, _, hB3, hBel, hsz⟩ := HW.out
  have O1 : Hid (w1.ownsRow (w.heap.size + 2) 5 1 (.slice (some ⟨w.heap.size + 2, 0, none⟩) 1 1) 1 (bv [15])) := own_keep (hB3.own (Nat.le_refl _) 1 rfl (by decide)) bD
  have B1 := hide (below_on hBel bD)
  have S1 : Hid (w.heap.size + 2 ≤ w1.heap.size) := Nat.le_trans (by simp only [World.size_alloc]; omega) bD.size
  have OD := hide oD
  clear hB3 hBel hsz oD bD HW HP
  go_wp2_with (at_builtin; refine wpList_app rfl (.tmp 47) (.tmp 53) 38 rfl 5 _ _ Try.underlying38 u8_info rfl (w.heap.size + 2) _ 1 1 _ rfl O1.out _ (2 * 2) kD _ rfl (own_rd OD.out) (bv_one _) (by unfold maxLen; omega) (by omega) S1.out ?_; intro A3 c3 w3 o3 g3 b3; rw [← bv_append] at o3)
  go_ret
  exact ⟨A3, c3, rfl, own_cap o3, own_rd o3, B1.out.trans (b3.mono (by omega))⟩
set_option maxRecDepth 100000 in
theorem refAns_16 (a c t an o : Int) (A B : Option Addr) (n k m d : Nat) (w : World) (ha : 0 ≤ a) (ha' : a ≤ 65535) (hc : 0 ≤ c) (hc' : c ≤ 65535) :
    Calls Try.prog 34 #[.agg #[.int .i64 16, .int .i64 a, .int .i64 c, .slice A n k, .int .i64 t, .int .i64 an, .int .i64 o], .agg #[.slice B m d, .int .i64 0]] w (RetSl 5 (bv ([16] ++ putL [a, c])) w) := by
  have hl : upToB [a, c] 65535 = true := by simp [upToB]; omega
  have HP := hide (fun G W hG => refLay_lit G 2 [a, c] W hG rfl hl (by omega))
  have HW := hide (three_new w [.int .i64 16, .int .i64 a, .int .i64 c, .slice A n k, .int .i64 t, .int .i64 an, .int .i64 o] [.slice B m d, .int .i64 0] 37 61 5 (.int .u8 16) _ rfl)
  clear hl
  go_enter Try.func34, Try.ntmps34
  go_wp2_with fail
  refine (HP.out _ _ (by simp)).mono ?_
  rintro e w1 ⟨D, kD, rfl, oD, bD⟩
  obtain ⟨_, _, hB3, hBel, hsz⟩ := HW.out
  have O1 : Hid (w1.ownsRow (w.heap.size + 2) 5 1 (.slice (some ⟨w.heap.size + 2, 0, none⟩) 1 1) 1 (bv [16])) := own_keep (hB3.own (Nat.le_refl _) 1 rfl (by decide)) bD
  have B1 := hide (below_on hBel bD)
  have S1 : Hid (w.heap.size + 2 ≤ w1.heap.size) := Nat.le_trans (by simp only [World.size_alloc]; omega) bD.size
  have OD := hide oD
  clear hB3 hBel hsz oD bD HW HP
  go_wp2_with (at_builtin; refine wpList_app rfl (.tmp 47) (.tmp 53) 38 rfl 5 _ _ Try.underlying38 u8_info rfl (w.heap.size + 2) _ 1 1 _ rfl O1.out _ (2 * 2) kD _ rfl (own_rd OD.out) (bv_one _) (by unfold maxLen; omega) (by omega) S1.out ?_; intro A3 c3 w3 o3 g3 b3; rw [← bv_append] at o3)
  go_ret
  exact ⟨A3, c3, rfl, own_cap o3, own_rd o3, B1.out.trans (b3.mono (by omega))⟩

theorem refAns_5 (a c t an o : Int) (A B : Option Addr) (n k m d : Nat) (vs : List Int) (w : World) (h : Rd w A n (iv vs)) (hm : mayB 5 a c vs t an o = true) :
    Calls Try.prog 34 #[.agg #[.int .i64 5, .int .i64 a, .int .i64 c, .slice A n k, .int .i64 t, .int .i64 an, .int .i64 o], .agg #[.slice B m d, .int .i64 0]] w (RetSl (layL 5 a c vs t an o).length (bv (layL 5 a c vs t an o)) w) := by
  have HL := hide (fun W (b : Below w.heap.size w W) => refBytes_any 5 a c t an o A n k vs W (h.keep b) hm)
  clear h hm
  generalize layL 5 a c vs t an o = L at *
  generalize L.length = nL at *
  have HW := hide (three_new w [.int .i64 5, .int .i64 a, .int .i64 c, .slice A n k, .int .i64 t, .int .i64 an, .int .i64 o] [.slice B m d, .int .i64 0] 37 61 5 (.int .u8 5) _ rfl)
  go_enter Try.func34, Try.ntmps34
  go_wp2_with fail
  obtain ⟨_, _, _, hBel, _⟩ := HW.out
  refine (HL.out _ hBel).mono ?_
  rintro e w2 ⟨C, kC, rfl, lC, rC, b3⟩
  have B3 := hide (below_on hBel b3)
  have RC := hide rC
  clear rC b3 hBel
  go_wp2
  go_ret
  exact ⟨C, kC, rfl, lC, RC.out, B3.out⟩
theorem refAns_6 (a c t an o : Int) (A B : Option Addr) (n k m d : Nat) (vs : List Int) (w : World) (h : Rd w A n (iv vs)) (hm : mayB 6 a c vs t an o = true) :
    Calls Try.prog 34 #[.agg #[.int .i64 6, .int .i64 a, .int .i64 c, .slice A n k, .int .i64 t, .int .i64 an, .int .i64 o], .agg #[.slice B m d, .int .i64 0]] w (RetSl (layL 6 a c vs t an o).length (bv (layL 6 a c vs t an o)) w) := by
  have HL := hide (fun W (b : Below w.heap.size w W) => refBytes_any 6 a c t an o A n k vs W (h.keep b) hm)
  clear h hm
  generalize layL 6 a c vs t an o = L at *
  generalize L.length = nL at *
  have HW := hide (three_new w [.int .i64 6, .int .i64 a, .int .i64 c, .slice A n k, .int .i64 t, .int .i64 an, .int .i64 o] [.slice B m d, .int .i64 0] 37 61 5 (.int .u8 6) _ rfl)
  go_enter Try.func34, Try.ntmps34
  go_wp2_with fail
  obtain ⟨_, _, _, hBel, _⟩ := HW.out
  refine (HL.out _ hBel).mono ?_
  rintro e w2 ⟨C, kC, rfl, lC, rC, b3⟩
  have B3 := hide (below_on hBel b3)
  have RC := hide rC
  clear rC b3 hBel
  go_wp2
  go_ret
  exact ⟨C, kC, rfl, lC, RC.out, B3.out⟩
theorem refAns_22 (a c t an o : Int) (A B : Option Addr) (n k m d : Nat) (vs : List Int) (w : World) (h : Rd w A n (iv vs)) (hm : mayB 22 a c vs t an o = true) :
    Calls Try.prog 34 #[.agg #[.int .i64 22, .int .i64 a, .int .i64 c, .slice A n k, .int .i64 t, .int .i64 an, .int .i64 o], .agg #[.slice B m d, .int .i64 0]] w (RetSl (layL 22 a c vs t an o).length (bv (layL 22 a c vs t an o)) w) := by
  have HL := hide (fun W (b : Below w.heap.size w W) => refBytes_any 22 a c t an o A n k vs W (h.keep b) hm)
  clear h hm
  generalize layL 22 a c vs t an o = L at *
  generalize L.length = nL at *
  have HW := hide (three_new w [.int .i64 22, .int .i64 a, .int .i64 c, .slice A n k, .int .i64 t, .int .i64 an, .int .i64 o] [.slice B m d, .int .i64 0] 37 61 5 (.int .u8 22) _ rfl)
  go_enter Try.func34, Try.ntmps34
  go_wp2_with fail
  obtain ⟨_, _, _, hBel, _⟩ := HW.out
  refine (HL.out _ hBel).mono ?_
  rintro e w2 ⟨C, kC, rfl, lC, rC, b3⟩
  have B3 := hide (below_on hBel b3)
  have RC := hide rC
  clear rC b3 hBel
  go_wp2
  go_ret
  exact ⟨C, kC, rfl, lC, RC.out, B3.out⟩

theorem refAns_code (f a c t an o code : Int) (A B : Option Addr) (n k m d : Nat) (w : World) (hf : 1 ≤ f) (hf' : f ≤ 23) (hc0 : code ≠ 0) (hc : 1 ≤ code) (hc' : code ≤ 255) :
    Calls Try.prog 34 #[.agg #[.int .i64 f, .int .i64 a, .int .i64 c, .slice A n k, .int .i64 t, .int .i64 an, .int .i64 o], .agg #[.slice B m d, .int .i64 code]] w (RetSl 2 (bv [UInt8.ofNat (f + 128).toNat, UInt8.ofNat code.toNat]) w) := by
  have q1 : (code != 0) = true := ne_bne hc0
  have q2 : (f + 128) % 256 = f + 128 := by omega
  have q3 : code % 256 = code := by omega
  have Hv : Hid (bv [UInt8.ofNat (f + 128).toNat, UInt8.ofNat code.toNat] = [.int .u8 (f + 128), .int .u8 code]) := by
    show _ = _
    simp only [bv, List.map_cons, List.map_nil, UInt8.toNat_ofNat']
    congr 1
    · congr 1; omega
    · congr 1; congr 1; omega
  clear hc0
  go_enter Try.func34, Try.ntmps34
  go_wp2
  go_ret
  refine ⟨_, 2, rfl, Nat.le_refl _, ?_, (((Below.refl _ _).alloc (Nat.le_refl _) _).alloc (by simp) _).alloc (by simp; omega) _⟩
  rw [Hv.out]
  exact rd_new _ _ (by simp) _ [_, _] 2 rfl

theorem refAns_any (f a c t an o code : Int) (A B : Option Addr) (n k m d : Nat) (vs us : List Int) (w : World) (h : Rd w A n (iv vs)) (h2 : Rd w B m (iv us)) (hm : mayB f a c vs t an o = true) (hx : ansMayB f c code us = true) :
    Calls Try.prog 34 #[.agg #[.int .i64 f, .int .i64 a, .int .i64 c, .slice A n k, .int .i64 t, .int .i64 an, .int .i64 o], .agg #[.slice B m d, .int .i64 code]] w (RetSl (ansL f a c vs t an o code us).length (bv (ansL f a c vs t an o code us)) w) := by
  have hl : us.length = m := by rw [← iv_length]; exact h2.1
  have hvl : vs.length = n := by rw [← iv_length]; exact h.1
  have hc := may_count hm
  have hf := may_func hm
  have hLL := lay_length hm
  rw [ans_length hm hx, hl, hvl]
  rcases ans_cases hm hx with ⟨h0, h1, h3, rfl⟩ | ⟨rfl, hf2, h1, h3⟩ | ⟨rfl, hf2, h1, h3⟩ | ⟨rfl, hf2, rfl⟩ | ⟨rfl, hf2, rfl⟩
  · have e1 : sizeOfAn f code n m = 2 := by simp [sizeOfAn, h0]
    have e2 : ansL f a c vs t an o code [] = [UInt8.ofNat (f + 128).toNat, UInt8.ofNat code.toNat] := by simp [ansL, h0]
    rw [e1, e2]
    exact refAns_code f a c t an o code A B n k m d w (by omega) (by omega) h0 h1 h3
  · rcases hf2 with rfl | rfl
    · exact (refAns_1 a c t an o A B n k m d _ us w h2 h3 (by omega) rfl).mono fun _ _ h => h.to (by show 1 + (1 + (m + 7) / 8) = 2 + (m + 7) / 8; omega) rfl
    · exact (refAns_2 a c t an o A B n k m d _ us w h2 h3 (by omega) rfl).mono fun _ _ h => h.to (by show 1 + (1 + (m + 7) / 8) = 2 + (m + 7) / 8; omega) rfl
  · rcases hf2 with rfl | rfl | rfl
    · exact (refAns_3 a c t an o A B n k m d us w h2 h3 (by omega)).mono fun _ _ h => h.to (by show 1 + (1 + 2 * m) = 2 + 2 * m; omega) rfl
    · exact (refAns_4 a c t an o A B n k m d us w h2 h3 (by omega)).mono fun _ _ h => h.to (by show 1 + (1 + 2 * m) = 2 + 2 * m; omega) rfl
    · exact (refAns_23 a c t an o A B n k m d us w h2 h3 (by omega)).mono fun _ _ h => h.to (by show 1 + (1 + 2 * m) = 2 + 2 * m; omega) rfl
  · rcases hf2 with rfl | rfl
    · exact (refAns_15 a c t an o A B n k m d w (by omega) (by omega) (by omega) (by omega)).mono fun _ _ h => h
    · exact (refAns_16 a c t an o A B n k m d w (by omega) (by omega) (by omega) (by omega)).mono fun _ _ h => h
  · rcases hf2 with rfl | rfl | rfl
    · exact (refAns_5 a c t an o A B n k m d vs w h hm).mono fun _ _ h => h.to (by rw [hLL, hvl]; rfl) rfl
    · exact (refAns_6 a c t an o A B n k m d vs w h hm).mono fun _ _ h => h.to (by rw [hLL, hvl]; rfl) rfl
    · exact (refAns_22 a c t an o A B n k m d vs w h hm).mono fun _ _ h => h.to (by rw [hLL, hvl]; rfl) rfl

end Go.Proofs.Ytfpfijggmfeejaa
