/-
  What is proved here: what the document's own May and Bytes of layer 6 return. Conditions: lengths up to some hundred thousand.
-/
import Derived.Test.YtjldfefebnpdgaaMb1
import Derived.Test.YtjldfefebnpdgaaRef1
namespace Go.Proofs.Ytjldfefebnpdgaa
set_option linter.unusedVariables false
set_option linter.unusedSimpArgs false
open Go.RowKit

/-- May. -/
theorem rmay_any (t u : Int) (A : Option Addr) (n k : Nat) (xs : List UInt8) (hx : xs.length = n) (w : World) :
    Calls Try.prog 10 #[.agg #[.int .i64 t, .int .i64 u, .slice A n k]] w fun e w' => e = .returned (.bool (aduOk ⟨t, u, xs⟩)) ∧ Below w.heap.size w w' := by
  cases hb : aduOk ⟨t, u, xs⟩ with
  | true =>
    obtain ⟨h1, h2, h3, h4, h5, h6⟩ := aduOk_yes hb
    simp only [hx] at h1 h2 h3 h4 h5 h6
    obtain ⟨tn, rfl⟩ := Int.eq_ofNat_of_zero_le h1
    have HI := hide (fun W => is_yes tn (by omega) W)
    have q3 : decide (0 ≤ u) = true := decide_eq_true h3
    have q4 : decide (u ≤ 255) = true := decide_eq_true h4
    have q5 : decide ((1 : Int) ≤ (n : Int)) = true := decide_eq_true (by omega)
    have q6 : decide ((n : Int) ≤ 253) = true := decide_eq_true (by omega)
    clear hb hx h1 h2 h3 h4 h5 h6
    go_enter Try.func10, Try.ntmps10
    go_wp2_with (go_at_call 22; refine (HI.out _).mono ?_; rintro e w1 ⟨rfl, rfl⟩)
    go_ret
    exact ⟨rfl, (Below.refl _ _).alloc (Nat.le_refl _) _⟩
  | false =>
    have h := aduOk_no hb
    simp only [hx] at h
    clear hb hx
    by_cases p1 : t < 0 ∨ 65535 < t
    · have HI := hide (fun W => is_no t p1 W)
      clear h p1
      go_enter Try.func10, Try.ntmps10
      go_wp2_with (go_at_call 22; refine (HI.out _).mono ?_; rintro e w1 ⟨rfl, rfl⟩)
      go_ret
      exact ⟨rfl, (Below.refl _ _).alloc (Nat.le_refl _) _⟩
    obtain ⟨tn, rfl⟩ := Int.eq_ofNat_of_zero_le (show 0 ≤ t by omega)
    have HI := hide (fun W => is_yes tn (by omega) W)
    by_cases p3 : u < 0
    · have q3 : decide (0 ≤ u) = false := decide_eq_false (by omega)
      clear h p1 p3
      go_enter Try.func10, Try.ntmps10
      go_wp2_with (go_at_call 22; refine (HI.out _).mono ?_; rintro e w1 ⟨rfl, rfl⟩)
      go_ret
      exact ⟨rfl, (Below.refl _ _).alloc (Nat.le_refl _) _⟩
    have q3 : decide (0 ≤ u) = true := decide_eq_true (by omega)
    by_cases p4 : 255 < u
    · have q4 : decide (u ≤ 255) = false := decide_eq_false (by omega)
      clear h p1 p3 p4
      go_enter Try.func10, Try.ntmps10
      go_wp2_with (go_at_call 22; refine (HI.out _).mono ?_; rintro e w1 ⟨rfl, rfl⟩)
      go_ret
      exact ⟨rfl, (Below.refl _ _).alloc (Nat.le_refl _) _⟩
    have q4 : decide (u ≤ 255) = true := decide_eq_true (by omega)
    by_cases p5 : n < 1
    · have q5 : decide ((1 : Int) ≤ (n : Int)) = false := decide_eq_false (by omega)
      clear h p1 p3 p4 p5
      go_enter Try.func10, Try.ntmps10
      go_wp2_with (go_at_call 22; refine (HI.out _).mono ?_; rintro e w1 ⟨rfl, rfl⟩)
      go_ret
      exact ⟨rfl, (Below.refl _ _).alloc (Nat.le_refl _) _⟩
    have q5 : decide ((1 : Int) ≤ (n : Int)) = true := decide_eq_true (by omega)
    have q6 : decide ((n : Int) ≤ 253) = false := decide_eq_false (by omega)
    clear h p1 p3 p4 p5
    go_enter Try.func10, Try.ntmps10
    go_wp2_with (go_at_call 22; refine (HI.out _).mono ?_; rintro e w1 ⟨rfl, rfl⟩)
    go_ret
    exact ⟨rfl, (Below.refl _ _).alloc (Nat.le_refl _) _⟩

theorem Blk.keepB6 {w w' : World} {g B : Nat} {t : TypeId} {cs : List Value} (h : Blk w g t cs) (hb : Below B w w') (hg : g < B) : Blk w' g t cs := (hb.block g hg).trans h
theorem wordI (ni : Int) (n : Nat) (hni : ni = (n : Int)) (hn : n ≤ 65535) (w : World) : Calls Try.prog 23 #[.int .i64 ni] w fun e w' =>
    e = .returned (.slice (some ⟨w.heap.size, 0, none⟩) 2 2) ∧ Blk w' w.heap.size 5 (bv (word n)) ∧ Below w.heap.size w w' := by
  subst hni
  exact word_any n hn w

/-- Bytes, of one that may be. -/
theorem rbytes_ok (t u : Nat) (A : Option Addr) (n k : Nat) (xs : List UInt8) (hx : xs.length = n) (ht : t ≤ 65535) (hu : u ≤ 255) (hn2 : n ≤ 253) (w : World) (hr : Rd w A n (bv xs)) :
    Calls Try.prog 12 #[.agg #[.int .i64 (t : Int), .int .i64 (u : Int), .slice A n k]] w (RetSl (n + 7) (bv (aduL ⟨t, u, xs⟩)) w) := by
  have HR := hide hr
  have HX := hide hx
  have q1 : IntKind.i64.wrap ((n : Int) + 1) = (n : Int) + 1 := by rw [IntKind.wrap_i64]; omega
  have qm : (u : Int) % 256 = u := by omega
  clear hr hx
  go_enter Try.func12, Try.ntmps12
  go_wp2_with fail
  have b0 : Below w.heap.size w (w.alloc (.cells (arr [.int .i64 (t : Int), .int .i64 (u : Int), .slice A n k]) 24)) := (Below.refl _ _).alloc (Nat.le_refl _) _
  have k0 := Blk.new w 24 [.int .i64 (t : Int), .int .i64 (u : Int), .slice A n k]
  refine (wordI (t : Int) t rfl ht (w.alloc (.cells (arr [.int .i64 (t : Int), .int .i64 (u : Int), .slice A n k]) 24))).mono ?_
  rintro e w1 ⟨rfl, k1, b1⟩
  have K0 := hide (k0.keep b1)
  have B0 := hide (below_on b0 b1)
  rw [show (w.alloc (.cells (arr [.int .i64 (t : Int), .int .i64 (u : Int), .slice A n k]) 24)).heap.size = w.heap.size + 1 by simp] at k1
  have O1 := hide (k1.own (base := w.heap.size + 1) (Nat.le_refl _) 2 rfl (by decide))
  have hs1 : w.heap.size + 1 ≤ w1.heap.size := K0.out.lt
  obtain ⟨c0, c1, c2⟩ := K0.out.three
  clear b0 b1 k0 k1
  go_wp2_with (first
    | (at_builtin; refine wpList_app rfl (.tmp 7) (.tmp 8) 22 rfl 5 _ _ Try.underlying22 u8_info rfl (w.heap.size + 1) _ 2 2 (bv (word t)) rfl (own_keep O1.out ((Below.refl _ _).alloc (Nat.le_refl _) _)) _ 2 2 (bv [0, 0]) rfl ((Blk.new w1 5 (bv [0, 0])).rd) (bv_one _) (by unfold maxLen; omega) (by omega) (Nat.le_trans hs1 (by simp)) ?_; intro A2 c2' w2 o2 g2 b2; (have b2' : Below (w.heap.size + 1) w1 w2 := ((Below.refl _ _).alloc hs1 _).trans b2); (have e2 := K0.out.keepB6 b2' (Nat.lt_succ_self _)); obtain ⟨d0, d1, d2⟩ := e2.three; have O2 := hide o2; have B2 := hide b2'; have K2 := hide e2; clear o2 g2 b2 b2' e2)
    | (go_at_call 23; refine (wordI _ (n + 1) (by omega) (by omega) w2).mono ?_; rintro e w3 ⟨rfl, k3, b3⟩; have O3 := hide (own_keep O2.out b3); have B3 := hide b3; have K3 := hide k3; (have e3 := K2.out.keep b3); obtain ⟨f0, f1, f2⟩ := e3.three; have L3 := hide e3; clear k3 b3 e3)
    | (at_builtin; refine wpList_app rfl (.tmp 10) (.tmp 15) 22 rfl 5 _ _ Try.underlying22 u8_info rfl (w.heap.size + 1) A2 4 c2' _ rfl O3.out _ 2 2 (bv (word (n + 1))) rfl K3.out.rd (bv_one _) (by unfold maxLen; omega) (by omega) (Nat.le_trans hs1 (Nat.le_trans B2.out.size B3.out.size)) ?_; intro A4 c4 w4 o4 g4 b4; (have e4 := L3.out.keepB6 b4 (Nat.lt_succ_self _)); obtain ⟨h0, h1, h2⟩ := e4.three; have O4 := hide o4; have B4 := hide b4; have K4 := hide e4; clear o4 g4 b4 e4)
    | (at_builtin; refine wpList_app rfl (.tmp 17) (.tmp 21) 22 rfl 5 _ _ Try.underlying22 u8_info rfl (w.heap.size + 1) A4 6 c4 _ rfl (own_keep O4.out ((Below.refl _ _).alloc (Nat.le_refl _) _)) _ 1 1 [.int .u8 (u : Int)] rfl (rd_one _ _ _) (by intro v hv; simp at hv; subst hv; rfl) (by unfold maxLen; omega) (by omega) (Nat.le_trans hs1 (Nat.le_trans B2.out.size (Nat.le_trans B3.out.size (Nat.le_trans B4.out.size (by simp))))) ?_; intro A5 c5 w5 o5 g5 b5; (have b5' : Below (w.heap.size + 1) w4 w5 := ((Below.refl _ _).alloc (Nat.le_trans hs1 (Nat.le_trans B2.out.size (Nat.le_trans B3.out.size B4.out.size))) _).trans b5); (have e5 := K4.out.keepB6 b5' (Nat.lt_succ_self _)); obtain ⟨i0, i1, i2⟩ := e5.three; have O5 := hide o5; have B5 := hide b5'; clear o5 g5 b5 b5' e5)
    | (at_builtin; refine wpList_app rfl (.tmp 23) (.tmp 25) 22 rfl 5 _ _ Try.underlying22 u8_info rfl (w.heap.size + 1) A5 7 c5 _ rfl O5.out A n k (bv xs) rfl (HR.out.keep (B0.out.trans ((B2.out.trans ((B3.out.mono (Nat.le_trans hs1 B2.out.size)).trans (B4.out.trans B5.out))).mono (Nat.le_succ _)))) (bv_one _) (by unfold maxLen; omega) (by omega) (Nat.le_trans hs1 (Nat.le_trans B2.out.size (Nat.le_trans B3.out.size (Nat.le_trans B4.out.size B5.out.size)))) ?_; intro A6 c6 w6 o6 g6 b6; have O6 := hide o6; have B6 := hide b6; clear o6 g6 b6))
  go_ret
  have he : bv (word t) ++ bv [0, 0] ++ bv (word (n + 1)) ++ [.int .u8 (u : Int)] ++ bv xs = bv (aduL ⟨t, u, xs⟩) := by
    rw [show aduL ⟨t, u, xs⟩ = word t ++ [0, 0] ++ word (n + 1) ++ [UInt8.ofNat u] ++ xs by rw [← HX.out]; rfl, bv_append, bv_append, bv_append, bv_append]
    congr 2
    show [Value.int .u8 (u : Int)] = [Value.int .u8 ((UInt8.ofNat u).toNat : Int)]
    rw [u8n u (by omega)]
  have o7 := O6.out
  rw [he, Nat.add_comm 7 n] at o7
  exact ⟨A6, c6, by rw [Nat.add_comm n 7]; rfl, own_cap o7, own_rd o7, B0.out.trans ((B2.out.trans ((B3.out.mono (Nat.le_trans hs1 B2.out.size)).trans (B4.out.trans (B5.out.trans B6.out)))).mono (Nat.le_succ _))⟩

end Go.Proofs.Ytjldfefebnpdgaa
