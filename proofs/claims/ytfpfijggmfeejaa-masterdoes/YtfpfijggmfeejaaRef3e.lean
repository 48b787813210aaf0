/-
  What is proved here: what the document's own Bytes returns, of a request that may be.
-/
import Derived.Test.YtfpfijggmfeejaaRef3d
import Derived.Test.YtfpfijggmfeejaaRefA
namespace Go.Proofs.Ytfpfijggmfeejaa
set_option linter.unusedVariables false
set_option linter.unusedSimpArgs false
open Go.RowKit

theorem RetSl.to {n n' : Nat} {vs vs' : List Value} {w : World} {x : Ending} {w' : World} (h : RetSl n vs w x w') (hn : n = n') (hv : vs = vs') : RetSl n' vs' w x w' := by subst hn hv; exact h

set_option maxRecDepth 100000 in
theorem refBytes_1 (a c t an o : Int) (A : Option Addr) (n k : Nat) (w : World) (ha : 0 ≤ a) (ha' : a ≤ 65535) (hc : 0 ≤ c) (hc' : c ≤ 65535) :
    Calls Try.prog 50 #[.agg #[.int .i64 1, .int .i64 a, .int .i64 c, .slice A n k, .int .i64 t, .int .i64 an, .int .i64 o]] w (RetSl 5 (bv ([1] ++ putL [a, c])) w) := by
  have hl : upToB [a, c] 65535 = true := by simp [upToB]; omega
  have HP := hide (fun G W hG => refLay_lit G 2 [a, c] W hG rfl hl (by omega))
  have HW := hide (two_new w [.int .i64 1, .int .i64 a, .int .i64 c, .slice A n k, .int .i64 t, .int .i64 an, .int .i64 o] 37 5 (.int .u8 1) _ rfl)
  clear hl
  go_enter Try.func50, Try.ntmps50
  go_wp2_with fail
  refine (HP.out _ _ (by simp)).mono ?_
  rintro e w1 ⟨D, kD, rfl, oD, bD⟩
  obtain ⟨hB0, hB1, hBel, _⟩ := HW.out
  have O1 : Hid (w1.ownsRow (w.heap.size + 1) 5 1 (.slice (some ⟨w.heap.size + 1, 0, none⟩) 1 1) 1 (bv [1])) := own_keep (hB1.own (Nat.le_refl _) 1 rfl (by decide)) bD
  have B1 := hide (below_on hBel bD)
  have K1 := hide (hB0.keep bD)
  have OD := hide oD
  have S1 : Hid (w.heap.size + 1 ≤ w1.heap.size) := K1.out.lt
  clear hB0 hB1 hBel oD bD HW HP
  go_wp2_with (at_builtin; refine wpList_app rfl (.tmp 15) (.tmp 21) 38 rfl 5 _ _ Try.underlying38 u8_info rfl (w.heap.size + 1) _ 1 1 _ rfl O1.out _ (2 * 2) kD _ rfl (own_rd OD.out) (bv_one _) (by unfold maxLen; omega) (by omega) S1.out ?_; intro A3 c3 w3 o3 g3 b3; rw [← bv_append] at o3)
  go_ret
  exact ⟨A3, c3, rfl, own_cap o3, own_rd o3, B1.out.trans (b3.mono (Nat.le_succ _))⟩
set_option maxRecDepth 100000 in
theorem refBytes_2 (a c t an o : Int) (A : Option Addr) (n k : Nat) (w : World) (ha : 0 ≤ a) (ha' : a ≤ 65535) (hc : 0 ≤ c) (hc' : c ≤ 65535) :
    Calls Try.prog 50 #[.agg #[.int .i64 2, .int .i64 a, .int .i64 c, .slice A n k, .int .i64 t, .int .i64 an, .int .i64 o]] w (RetSl 5 (bv ([2] ++ putL [a, c])) w) := by
  have hl : upToB [a, c] 65535 = true := by simp [upToB]; omega
  have HP := hide (fun G W hG => refLay_lit G 2 [a, c] W hG rfl hl (by omega))
  have HW := hide (two_new w [.int .i64 2, .int .i64 a, .int .i64 c, .slice A n k, .int .i64 t, .int .i64 an, .int .i64 o] 37 5 (.int .u8 2) _ rfl)
  clear hl
  go_enter Try.func50, Try.ntmps50
  go_wp2_with fail
  refine (HP.out _ _ (by simp)).mono ?_
  rintro e w1 ⟨D, kD, rfl, oD, bD⟩
  obtain ⟨hB0, hB1, hBel, _⟩ := HW.out
  have O1 : Hid (w1.ownsRow (w.heap.size + 1) 5 1 (.slice (some ⟨w.heap.size + 1, 0, none⟩) 1 1) 1 (bv [2])) := own_keep (hB1.own (Nat.le_refl _) 1 rfl (by decide)) bD
  have B1 := hide (below_on hBel bD)
  have K1 := hide (hB0.keep bD)
  have OD := hide oD
  have S1 : Hid (w.heap.size + 1 ≤ w1.heap.size) := K1.out.lt
  clear hB0 hB1 hBel oD bD HW HP
  go_wp2_with (at_builtin; refine wpList_app rfl (.tmp 15) (.tmp 21) 38 rfl 5 _ _ Try.underlying38 u8_info rfl (w.heap.size + 1) _ 1 1 _ rfl O1.out _ (2 * 2) kD _ rfl (own_rd OD.out) (bv_one _) (by unfold maxLen; omega) (by omega) S1.out ?_; intro A3 c3 w3 o3 g3 b3; rw [← bv_append] at o3)
  go_ret
  exact ⟨A3, c3, rfl, own_cap o3, own_rd o3, B1.out.trans (b3.mono (Nat.le_succ _))⟩
set_option maxRecDepth 100000 in
theorem refBytes_3 (a c t an o : Int) (A : Option Addr) (n k : Nat) (w : World) (ha : 0 ≤ a) (ha' : a ≤ 65535) (hc : 0 ≤ c) (hc' : c ≤ 65535) :
    Calls Try.prog 50 #[.agg #[.int .i64 3, .int .i64 a, .int .i64 c, .slice A n k, .int .i64 t, .int .i64 an, .int .i64 o]] w (RetSl 5 (bv ([3] ++ putL [a, c])) w) := by
  have hl : upToB [a, c] 65535 = true := by simp [upToB]; omega
  have HP := hide (fun G W hG => refLay_lit G 2 [a, c] W hG rfl hl (by omega))
  have HW := hide (two_new w [.int .i64 3, .int .i64 a, .int .i64 c, .slice A n k, .int .i64 t, .int .i64 an, .int .i64 o] 37 5 (.int .u8 3) _ rfl)
  clear hl
  go_enter Try.func50, Try.ntmps50
  go_wp2_with fail
  refine (HP.out _ _ (by simp)).mono ?_
  rintro e w1 ⟨D, kD, rfl, oD, bD⟩
  obtain ⟨hB0, hB1, hBel, _⟩ := HW.out
  have O1 : Hid (w1.ownsRow (w.heap.size + 1) 5 1 (.slice (some ⟨w.heap.size + 1, 0, none⟩) 1 1) 1 (bv [3])) := own_keep (hB1.own (Nat.le_refl _) 1 rfl (by decide)) bD
  have B1 := hide (below_on hBel bD)
  have K1 := hide (hB0.keep bD)
  have OD := hide oD
  have S1 : Hid (w.heap.size + 1 ≤ w1.heap.size) := K1.out.lt
  clear hB0 hB1 hBel oD bD HW HP
  go_wp2_with (at_builtin; refine wpList_app rfl (.tmp 15) (.tmp 21) 38 rfl 5 _ _ Try.underlying38 u8_info rfl (w.heap.size + 1) _ 1 1 _ rfl O1.out _ (2 * 2) kD _ rfl (own_rd OD.out) (bv_one _) (by unfold maxLen; omega) (by omega) S1.out ?_; intro A3 c3 w3 o3 g3 b3; rw [← bv_append] at o3)
  go_ret
  exact ⟨A3, c3, rfl, own_cap o3, own_rd o3, B1.out.trans (b3.mono (Nat.le_succ _))⟩
set_option maxRecDepth 100000 in
theorem refBytes_4 (a c t an o : Int) (A : Option Addr) (n k : Nat) (w : World) (ha : 0 ≤ a) (ha' : a ≤ 65535) (hc : 0 ≤ c) (hc' : c ≤ 65535) :
    Calls Try.prog 50 #[.agg #[.int .i64 4, .int .i64 a, .int .i64 c, .slice A n k, .int .i64 t, .int .i64 an, .int .i64 o]] w (RetSl 5 (bv ([4] ++ putL [a, c])) w) := by
  have hl : upToB [a, c] 65535 = true := by simp [upToB]; omega
  have HP := hide (fun G W hG => refLay_lit G 2 [a, c] W hG rfl hl (by omega))
  have HW := hide (two_new w [.int .i64 4, .int .i64 a, .int .i64 c, .slice A n k, .int .i64 t, .int .i64 an, .int .i64 o] 37 5 (.int .u8 4) _ rfl)
  clear hl
  go_enter Try.func50, Try.ntmps50
  go_wp2_with fail
  refine (HP.out _ _ (by simp)).mono ?_
  rintro e w1 ⟨D, kD, rfl, oD, bD⟩
  obtain ⟨hB0, hB1, hBel, _⟩ := HW.out
  have O1 : Hid (w1.ownsRow (w.heap.size + 1) 5 1 (.slice (some ⟨w.heap.size + 1, 0, none⟩) 1 1) 1 (bv [4])) := own_keep (hB1.own (Nat.le_refl _) 1 rfl (by decide)) bD
  have B1 := hide (below_on hBel bD)
  have K1 := hide (hB0.keep bD)
  have OD := hide oD
  have S1 : Hid (w.heap.size + 1 ≤ w1.heap.size) := K1.out.lt
  clear hB0 hB1 hBel oD bD HW HP
  go_wp2_with (at_builtin; refine wpList_app rfl (.tmp 15) (.tmp 21) 38 rfl 5 _ _ Try.underlying38 u8_info rfl (w.heap.size + 1) _ 1 1 _ rfl O1.out _ (2 * 2) kD _ rfl (own_rd OD.out) (bv_one _) (by unfold maxLen; omega) (by omega) S1.out ?_; intro A3 c3 w3 o3 g3 b3; rw [← bv_append] at o3)
  go_ret
  exact ⟨A3, c3, rfl, own_cap o3, own_rd o3, B1.out.trans (b3.mono (Nat.le_succ _))⟩

set_option maxRecDepth 100000 in
theorem refBytes_22 (a c t an o : Int) (A : Option Addr) (n k : Nat) (w : World) (ha : 0 ≤ a) (ha' : a ≤ 65535) (hn : 0 ≤ an) (hn' : an ≤ 65535) (ho : 0 ≤ o) (ho' : o ≤ 65535) :
    Calls Try.prog 50 #[.agg #[.int .i64 22, .int .i64 a, .int .i64 c, .slice A n k, .int .i64 t, .int .i64 an, .int .i64 o]] w (RetSl 7 (bv ([22] ++ putL [a, an, o])) w) := by
  have hl : upToB [a, an, o] 65535 = true := by simp [upToB]; omega
  have HP := hide (fun G W hG => refLay_lit G 3 [a, an, o] W hG rfl hl (by omega))
  have HW := hide (two_new w [.int .i64 22, .int .i64 a, .int .i64 c, .slice A n k, .int .i64 t, .int .i64 an, .int .i64 o] 37 5 (.int .u8 22) _ rfl)
  clear hl
  go_enter Try.func50, Try.ntmps50
  go_wp2_with fail
  refine (HP.out _ _ (by simp)).mono ?_
  rintro e w1 ⟨D, kD, rfl, oD, bD⟩
  obtain ⟨hB0, hB1, hBel, _⟩ := HW.out
  have O1 : Hid (w1.ownsRow (w.heap.size + 1) 5 1 (.slice (some ⟨w.heap.size + 1, 0, none⟩) 1 1) 1 (bv [22])) := own_keep (hB1.own (Nat.le_refl _) 1 rfl (by decide)) bD
  have B1 := hide (below_on hBel bD)
  have K1 := hide (hB0.keep bD)
  have OD := hide oD
  have S1 : Hid (w.heap.size + 1 ≤ w1.heap.size) := K1.out.lt
  clear hB0 hB1 hBel oD bD HW HP
  go_wp2_with (at_builtin; refine wpList_app rfl (.tmp 87) (.tmp 95) 38 rfl 5 _ _ Try.underlying38 u8_info rfl (w.heap.size + 1) _ 1 1 _ rfl O1.out _ (2 * 3) kD _ rfl (own_rd OD.out) (bv_one _) (by unfold maxLen; omega) (by omega) S1.out ?_; intro A3 c3 w3 o3 g3 b3; rw [← bv_append] at o3)
  go_ret
  exact ⟨A3, c3, rfl, own_cap o3, own_rd o3, B1.out.trans (b3.mono (Nat.le_succ _))⟩

set_option maxRecDepth 100000 in
theorem refBytes_15 (a c t an o : Int) (A : Option Addr) (n k M : Nat) (vs : List Int) (w : World) (h : Rd w A n (iv vs)) (ha : 0 ≤ a) (ha' : a ≤ 65535) (hc : 0 ≤ c) (hc' : c ≤ 65535) (hv : upToB vs 1 = true) (hn : n ≤ 1968) (hM : M = (n + 7) / 8) :
    Calls Try.prog 50 #[.agg #[.int .i64 15, .int .i64 a, .int .i64 c, .slice A n k, .int .i64 t, .int .i64 an, .int .i64 o]] w (RetSl (1 + 2 * 2 + (1 + M)) (bv ([15] ++ putL [a, c] ++ cntL (packL vs))) w) := by
  have hl : vs.length = n := by rw [← iv_length]; exact h.1
  have hb : bitsB vs = true := by rw [← upTo_bits]; exact hv
  have HPk := hide (fun W (b : Below w.heap.size w W) => refPack_any A n k M vs W (h.keep b) (by omega) hb (by omega) (by omega))
  rw [show pkTo vs M n = packL vs from by rw [packL, hl, hM]] at HPk
  have hM2 : M ≤ 255 := by omega
  clear h hl hb hv hM
  have hl : upToB [a, c] 65535 = true := by simp [upToB]; omega
  have HP := hide (fun G W hG => refLay_lit G 2 [a, c] W hG rfl hl (by omega))
  have HW := hide (two_new w [.int .i64 15, .int .i64 a, .int .i64 c, .slice A n k, .int .i64 t, .int .i64 an, .int .i64 o] 37 5 (.int .u8 15) _ rfl)
  clear hl
  go_enter Try.func50, Try.ntmps50
  go_wp2_with fail
  refine (HP.out _ _ (by simp)).mono ?_
  rintro e w1 ⟨D, kD, rfl, oD, bD⟩
  obtain ⟨hB0, hB1, hBel, _⟩ := HW.out
  have O1 : Hid (w1.ownsRow (w.heap.size + 1) 5 1 (.slice (some ⟨w.heap.size + 1, 0, none⟩) 1 1) 1 (bv [15])) := own_keep (hB1.own (Nat.le_refl _) 1 rfl (by decide)) bD
  have B1 := hide (below_on hBel bD)
  have K1 := hide (hB0.keep bD)
  have OD := hide oD
  have S1 : Hid (w.heap.size + 1 ≤ w1.heap.size) := K1.out.lt
  clear hB0 hB1 hBel oD bD HW HP
  go_wp2_with (first
    | (at_builtin; refine wpList_app rfl (.tmp 53) (.tmp 59) 38 rfl 5 _ _ Try.underlying38 u8_info rfl (w.heap.size + 1) _ 1 1 _ rfl O1.out _ (2 * 2) kD _ rfl (own_rd OD.out) (bv_one _) (by unfold maxLen; omega) (by omega) S1.out ?_; intro A3 c3 w3 o3 g3 b3; rw [← bv_append] at o3; have K3 := hide (K1.out.keepB b3 (Nat.lt_succ_self _)); have B3 := hide (B1.out.trans (b3.mono (Nat.le_succ _))); have O3 := hide o3; have S3 : Hid (w.heap.size + 1 ≤ w3.heap.size) := K3.out.lt; clear b3 g3 o3 K1 B1 O1 OD S1; obtain ⟨k0, k1, k2, k3, k4, k5, k6⟩ := K3.out.seven))
  refine (HPk.out _ B3.out).mono ?_
  rintro e w4 ⟨E, kE, rfl, lE, rE, b4⟩
  have O4 := hide (own_keep O3.out b4)
  have B4 := hide (below_on B3.out b4)
  have S4 : Hid (w.heap.size + 1 ≤ w4.heap.size) := Nat.le_trans S3.out b4.size
  clear b4 k0 k1 k2 k3 k4 k5 k6 O3 B3 K3
  go_wp2_with fail
  refine (refCounted_any E M kE (packL vs) _ rE (by omega)).mono ?_
  rintro e w5 ⟨F, kF, rfl, lF, rF, b5⟩
  have O5 := hide (own_keep O4.out b5)
  have B5 := hide (below_on B4.out b5)
  have S5 : Hid (w.heap.size + 1 ≤ w5.heap.size) := Nat.le_trans S4.out b5.size
  have RF := hide rF
  clear b5 rF O4 B4
  go_wp2_with (at_builtin; refine wpList_app rfl (.tmp 61) (.tmp 65) 38 rfl 5 _ _ Try.underlying38 u8_info rfl (w.heap.size + 1) _ (1 + 2 * 2) c3 _ rfl O5.out F (1 + M) kF _ rfl RF.out (bv_one _) (by unfold maxLen; omega) (by omega) S5.out ?_; intro A6 c6 w6 o6 g6 b6; rw [← bv_append] at o6)
  go_ret
  exact ⟨A6, c6, rfl, own_cap o6, own_rd o6, B5.out.trans (b6.mono (Nat.le_succ _))⟩

set_option maxRecDepth 100000 in
theorem refBytes_16 (a c t an o : Int) (A : Option Addr) (n k : Nat) (vs : List Int) (w : World) (h : Rd w A n (iv vs)) (ha : 0 ≤ a) (ha' : a ≤ 65535) (hc : 0 ≤ c) (hc' : c ≤ 65535) (hv : upToB vs 65535 = true) (hn : n ≤ 123) :
    Calls Try.prog 50 #[.agg #[.int .i64 16, .int .i64 a, .int .i64 c, .slice A n k, .int .i64 t, .int .i64 an, .int .i64 o]] w (RetSl (1 + 2 * 2 + (1 + 2 * n)) (bv ([16] ++ putL [a, c] ++ cntL (putL vs))) w) := by
  have HPk := hide (fun W (b : Below w.heap.size w W) => refLay_any A n k vs W (h.keep b) hv (by omega))
  clear h hv
  have hl : upToB [a, c] 65535 = true := by simp [upToB]; omega
  have HP := hide (fun G W hG => refLay_lit G 2 [a, c] W hG rfl hl (by omega))
  have HW := hide (two_new w [.int .i64 16, .int .i64 a, .int .i64 c, .slice A n k, .int .i64 t, .int .i64 an, .int .i64 o] 37 5 (.int .u8 16) _ rfl)
  clear hl
  go_enter Try.func50, Try.ntmps50
  go_wp2_with fail
  refine (HP.out _ _ (by simp)).mono ?_
  rintro e w1 ⟨D, kD, rfl, oD, bD⟩
  obtain ⟨hB0, hB1, hBel, _⟩ := HW.out
  have O1 : Hid (w1.ownsRow (w.heap.size + 1) 5 1 (.slice (some ⟨w.heap.size + 1, 0, none⟩) 1 1) 1 (bv [16])) := own_keep (hB1.own (Nat.le_refl _) 1 rfl (by decide)) bD
  have B1 := hide (below_on hBel bD)
  have K1 := hide (hB0.keep bD)
  have OD := hide oD
  have S1 : Hid (w.heap.size + 1 ≤ w1.heap.size) := K1.out.lt
  clear hB0 hB1 hBel oD bD HW HP
  go_wp2_with (first
    | (at_builtin; refine wpList_app rfl (.tmp 70) (.tmp 76) 38 rfl 5 _ _ Try.underlying38 u8_info rfl (w.heap.size + 1) _ 1 1 _ rfl O1.out _ (2 * 2) kD _ rfl (own_rd OD.out) (bv_one _) (by unfold maxLen; omega) (by omega) S1.out ?_; intro A3 c3 w3 o3 g3 b3; rw [← bv_append] at o3; have K3 := hide (K1.out.keepB b3 (Nat.lt_succ_self _)); have B3 := hide (B1.out.trans (b3.mono (Nat.le_succ _))); have O3 := hide o3; have S3 : Hid (w.heap.size + 1 ≤ w3.heap.size) := K3.out.lt; clear b3 g3 o3 K1 B1 O1 OD S1; obtain ⟨k0, k1, k2, k3, k4, k5, k6⟩ := K3.out.seven))
  refine (HPk.out _ B3.out).mono ?_
  rintro e w4 ⟨E, kE, rfl, oE, b4⟩
  have O4 := hide (own_keep O3.out b4)
  have B4 := hide (below_on B3.out b4)
  have S4 : Hid (w.heap.size + 1 ≤ w4.heap.size) := Nat.le_trans S3.out b4.size
  clear b4 k0 k1 k2 k3 k4 k5 k6 O3 B3 K3
  go_wp2_with fail
  refine (refCounted_any E (2 * n) kE (putL vs) _ (own_rd oE) (by omega)).mono ?_
  rintro e w5 ⟨F, kF, rfl, lF, rF, b5⟩
  have O5 := hide (own_keep O4.out b5)
  have B5 := hide (below_on B4.out b5)
  have S5 : Hid (w.heap.size + 1 ≤ w5.heap.size) := Nat.le_trans S4.out b5.size
  have RF := hide rF
  clear b5 rF O4 B4
  go_wp2_with (at_builtin; refine wpList_app rfl (.tmp 78) (.tmp 82) 38 rfl 5 _ _ Try.underlying38 u8_info rfl (w.heap.size + 1) _ (1 + 2 * 2) c3 _ rfl O5.out F (1 + (2 * n)) kF _ rfl RF.out (bv_one _) (by unfold maxLen; omega) (by omega) S5.out ?_; intro A6 c6 w6 o6 g6 b6; rw [← bv_append] at o6)
  go_ret
  exact ⟨A6, c6, rfl, own_cap o6, own_rd o6, B5.out.trans (b6.mono (Nat.le_succ _))⟩

set_option maxRecDepth 100000 in
theorem refBytes_23 (a c t an o : Int) (A : Option Addr) (n k : Nat) (vs : List Int) (w : World) (h : Rd w A n (iv vs)) (ha : 0 ≤ a) (ha' : a ≤ 65535) (hc : 0 ≤ c) (hc' : c ≤ 65535) (ht : 0 ≤ t) (ht' : t ≤ 65535) (hv : upToB vs 65535 = true) (hn : n ≤ 121) :
    Calls Try.prog 50 #[.agg #[.int .i64 23, .int .i64 a, .int .i64 c, .slice A n k, .int .i64 t, .int .i64 an, .int .i64 o]] w (RetSl (1 + 2 * 4 + (1 + 2 * n)) (bv ([23] ++ putL [a, c, t, (n : Int)] ++ cntL (putL vs))) w) := by
  have HPk := hide (fun W (b : Below w.heap.size w W) => refLay_any A n k vs W (h.keep b) hv (by omega))
  clear h hv
  have hl : upToB [a, c, t, (n : Int)] 65535 = true := by simp [upToB]; omega
  have HP := hide (fun G W hG => refLay_lit G 4 [a, c, t, (n : Int)] W hG rfl hl (by omega))
  have HW := hide (two_new w [.int .i64 23, .int .i64 a, .int .i64 c, .slice A n k, .int .i64 t, .int .i64 an, .int .i64 o] 37 5 (.int .u8 23) _ rfl)
  clear hl
  go_enter Try.func50, Try.ntmps50
  go_wp2_with fail
  refine (HP.out _ _ (by simp)).mono ?_
  rintro e w1 ⟨D, kD, rfl, oD, bD⟩
  obtain ⟨hB0, hB1, hBel, _⟩ := HW.out
  have O1 : Hid (w1.ownsRow (w.heap.size + 1) 5 1 (.slice (some ⟨w.heap.size + 1, 0, none⟩) 1 1) 1 (bv [23])) := own_keep (hB1.own (Nat.le_refl _) 1 rfl (by decide)) bD
  have B1 := hide (below_on hBel bD)
  have K1 := hide (hB0.keep bD)
  have OD := hide oD
  have S1 : Hid (w.heap.size + 1 ≤ w1.heap.size) := K1.out.lt
  clear hB0 hB1 hBel oD bD HW HP
  go_wp2_with (first
    | (at_builtin; refine wpList_app rfl (.tmp 98) (.tmp 109) 38 rfl 5 _ _ Try.underlying38 u8_info rfl (w.heap.size + 1) _ 1 1 _ rfl O1.out _ (2 * 4) kD _ rfl (own_rd OD.out) (bv_one _) (by unfold maxLen; omega) (by omega) S1.out ?_; intro A3 c3 w3 o3 g3 b3; rw [← bv_append] at o3; have K3 := hide (K1.out.keepB b3 (Nat.lt_succ_self _)); have B3 := hide (B1.out.trans (b3.mono (Nat.le_succ _))); have O3 := hide o3; have S3 : Hid (w.heap.size + 1 ≤ w3.heap.size) := K3.out.lt; clear b3 g3 o3 K1 B1 O1 OD S1; obtain ⟨k0, k1, k2, k3, k4, k5, k6⟩ := K3.out.seven))
  refine (HPk.out _ B3.out).mono ?_
  rintro e w4 ⟨E, kE, rfl, oE, b4⟩
  have O4 := hide (own_keep O3.out b4)
  have B4 := hide (below_on B3.out b4)
  have S4 : Hid (w.heap.size + 1 ≤ w4.heap.size) := Nat.le_trans S3.out b4.size
  clear b4 k0 k1 k2 k3 k4 k5 k6 O3 B3 K3
  go_wp2_with fail
  refine (refCounted_any E (2 * n) kE (putL vs) _ (own_rd oE) (by omega)).mono ?_
  rintro e w5 ⟨F, kF, rfl, lF, rF, b5⟩
  have O5 := hide (own_keep O4.out b5)
  have B5 := hide (below_on B4.out b5)
  have S5 : Hid (w.heap.size + 1 ≤ w5.heap.size) := Nat.le_trans S4.out b5.size
  have RF := hide rF
  clear b5 rF O4 B4
  go_wp2_with (at_builtin; refine wpList_app rfl (.tmp 111) (.tmp 115) 38 rfl 5 _ _ Try.underlying38 u8_info rfl (w.heap.size + 1) _ (1 + 2 * 4) c3 _ rfl O5.out F (1 + (2 * n)) kF _ rfl RF.out (bv_one _) (by unfold maxLen; omega) (by omega) S5.out ?_; intro A6 c6 w6 o6 g6 b6; rw [← bv_append] at o6)
  go_ret
  exact ⟨A6, c6, rfl, own_cap o6, own_rd o6, B5.out.trans (b6.mono (Nat.le_succ _))⟩

end Go.Proofs.Ytfpfijggmfeejaa
