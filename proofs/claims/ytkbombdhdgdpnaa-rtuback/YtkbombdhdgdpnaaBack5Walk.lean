/-
  What is proved here: the law RtuBack returns true for every unit, slice of bytes and bit, and writes nothing that was there. No condition.
-/
import Derived.Test.YtkbombdhdgdpnaaFrames5Walk
namespace Go.Proofs.Ytkbombdhdgdpnaa
set_option linter.unusedVariables false
set_option linter.unusedSimpArgs false
open Go.RowKit

/-! ### A frame is split into what it was made of; a byte that is another is found -/
theorem split_frame (n : Nat) (xs : List UInt8) (l : Nat) (hx : xs.length = l) (hn : n ≤ 247) (h1 : 1 ≤ l) (h2 : l ≤ 253) : splitE (frameL n xs) = 0 ∧ splitU (frameL n xs) = (n : Int) ∧ splitP (frameL n xs) = xs := by
  have hl : (frameL n xs).length = l + 3 := by rw [frameL_length, hx]
  have h0 : (frameL n xs)[0]?.getD 0 = UInt8.ofNat n := rfl
  have hu : (UInt8.ofNat n).toNat = n := by rw [UInt8.toNat_ofNat']; omega
  have hE : splitE (frameL n xs) = 0 := splitE_e _ (by omega) (by omega) (good_tail _) (by rw [h0, hu]; omega)
  refine ⟨hE, ?_, ?_⟩
  · unfold splitU
    rw [if_pos hE, h0, hu]
  · unfold splitP
    rw [if_pos hE, hl, Nat.add_sub_cancel]
    show (xs ++ tailL _).take l = xs
    rw [List.take_append_of_le_length (by omega), List.take_of_length_le (by omega)]
theorem sumF_ne (xs : List UInt8) : ∀ (s t : Nat), s < 65536 → t < 65536 → s ≠ t → sumF s xs ≠ sumF t xs := by
  induction xs with
  | nil => intro s t _ _ h; exact h
  | cons x xs ih =>
    intro s t hs ht h
    have hx := x.toNat_lt
    show sumF (stepN s x.toNat) xs ≠ sumF (stepN t x.toNat) xs
    refine ih _ _ (step_lt s _ hs hx) (step_lt t _ ht hx) ?_
    intro e
    have e1 : stepN s x.toNat ^^^ stepN t x.toNat = 0 := (xor_eq_zero _ _).2 e
    unfold stepN at e1
    rw [← hv_xor] at e1
    have e2 : s ^^^ x.toNat ^^^ (t ^^^ x.toNat) = s ^^^ t := by
      rw [Nat.xor_comm t, ← Nat.xor_assoc, Nat.xor_assoc s, Nat.xor_self, Nat.xor_zero]
    rw [e2] at e1
    exact hv_ne _ (Nat.xor_lt_two_pow (n := 16) (by omega) (by omega)) (fun e3 => h ((xor_eq_zero _ _).1 e3)) 8 e1
theorem byte_turned (xs : List UInt8) (j : Nat) (hj : j < xs.length) (y : UInt8) (hy : y ≠ xs[j]) (h2 : 2 ≤ xs.length) (hg : goodB xs = true) : goodB (xs.set j y) = false := by
  have hs0 : sumN xs = 0 := by
    rw [good_sum xs h2, decide_eq_true_iff] at hg
    exact hg
  rw [good_sum _ (by rw [List.length_set]; exact h2), decide_eq_false_iff_not]
  intro e
  have h1 : xs.set j y = xs.take j ++ y :: xs.drop (j + 1) := List.set_eq_take_append_cons_drop ▸ by rw [if_pos hj]
  have h3 : xs = xs.take j ++ xs[j] :: xs.drop (j + 1) := by rw [List.getElem_cons_drop, List.take_append_drop]
  have hlt := sumN_lt (xs.take j)
  have s1 : sumN (xs.set j y) = sumF (stepN (sumN (xs.take j)) y.toNat) (xs.drop (j + 1)) := by rw [h1, sumN, sumF_app]; rfl
  have s2 : sumN xs = sumF (stepN (sumN (xs.take j)) xs[j].toNat) (xs.drop (j + 1)) := by
    conv => lhs; rw [h3]
    rw [sumN, sumF_app]; rfl
  refine sumF_ne (xs.drop (j + 1)) _ _ (step_lt _ _ hlt y.toNat_lt) (step_lt _ _ hlt xs[j].toNat_lt) ?_ (s1.symm.trans (e.trans (hs0.symm.trans s2)))
  intro e1
  have e2 := (xor_eq_zero _ _).2 e1
  unfold stepN at e2
  rw [← hv_xor] at e2
  have hb1 := y.toNat_lt
  have hb2 := xs[j].toNat_lt
  have e3 : sumN (xs.take j) ^^^ y.toNat ^^^ (sumN (xs.take j) ^^^ xs[j].toNat) = y.toNat ^^^ xs[j].toNat := by
    rw [Nat.xor_comm (sumN (xs.take j)) y.toNat, Nat.xor_assoc, ← Nat.xor_assoc (sumN (xs.take j)), Nat.xor_self, Nat.zero_xor]
  rw [e3] at e2
  exact hv_ne _ (Nat.xor_lt_two_pow (n := 16) (by omega) (by omega)) (fun e4 => hy (UInt8.toNat_inj.1 ((xor_eq_zero _ _).1 e4))) 8 e2
theorem bit_up (X r : Nat) (hX : X < 256) (hr : r < 8) (h : X / 2 ^ r % 2 ≠ 1) : X + 2 ^ r < 256 := by
  match r, hr with
  | 0, _ => simp at *; omega
  | 1, _ => simp at *; omega
  | 2, _ => simp at *; omega
  | 3, _ => simp at *; omega
  | 4, _ => simp at *; omega
  | 5, _ => simp at *; omega
  | 6, _ => simp at *; omega
  | 7, _ => simp at *; omega
theorem bit_down (X r : Nat) (h : X / 2 ^ r % 2 = 1) : 2 ^ r ≤ X := by
  rcases Nat.lt_or_ge X (2 ^ r) with h1 | h1
  · rw [Nat.div_eq_of_lt h1] at h
    omega
  · exact h1
theorem bv_set (xs : List UInt8) (rest : List Value) (j : Nat) (hj : j < xs.length) (y : Nat) (hy : y < 256) : (bv xs ++ rest).set j (.int .u8 (y : Int)) = bv (xs.set j (UInt8.ofNat y)) ++ rest := by
  have e1 : y % 2 ^ 8 = y := Nat.mod_eq_of_lt (by omega)
  rw [List.set_append_left _ _ (by rw [bv_length]; exact hj), bv, bv, List.map_set, UInt8.toNat_ofNat', e1]
/-- Split of what had a byte turned. -/
theorem split_bad (A : Option Addr) (l c : Nat) (xs : List UInt8) (w : World) (hr : Rd w A l (bv xs)) (hx : xs.length = l) (hc : l ≤ c) (h4 : 4 ≤ l) (h256 : l ≤ 256) (hg : goodB xs = false) :
    Calls Try.prog 8 #[.slice A l c] w fun e w' => ∃ P k, e = .returned (.tuple #[.int .i64 0, .slice P 0 k, .int .i64 20]) ∧ Below w.heap.size w w' := by
  refine (split_any A l c xs w hr hx hc).mono ?_
  rintro e w' ⟨P, k, rfl, _, b⟩
  have hE := splitE_c xs (by omega) (by omega) hg
  have h1 : ¬ splitE xs = 0 := by rw [hE]; decide
  have hU : splitU xs = 0 := by unfold splitU; rw [if_neg h1]
  have hP : splitP xs = [] := by unfold splitP; rw [if_neg h1]
  rw [hU, hP, hE]
  exact ⟨P, k, rfl, b⟩


set_option maxHeartbeats 2000000 in
set_option maxRecDepth 100000 in
theorem back5_walk (u : Int) (A : Option Addr) (l c : Nat) (xs : List UInt8) (bit : Int) (w : World) (hA : Rd w A l (bv xs)) (hbit : bit ≤ 9223372036854775807) :
    Calls Try.prog 4 #[.int .i64 u, .slice A l c, .int .i64 bit] w fun e w' => e = .returned (.bool true) ∧ Below w.heap.size w w' := by
  have HA := hide hA
  have Hx : Hid (xs.length = l) := by show _ = _; rw [← bv_length]; exact hA.1
  clear hA
  by_cases h1 : 600 < l
  · have q : (600 : Int) < (l : Int) := by omega
    go_enter Try.func4, Try.ntmps4
    go_wp2
    go_ret
    exact ⟨rfl, Below.refl _ _⟩
  have q1 : ¬ (600 : Int) < (l : Int) := by omega
  cases hok : frOk u l with
  | false =>
    have HE : Hid (frE u l = 1) := by show _ = _; unfold frE; rw [hok]; rfl
    have HL : Hid (frL u xs = []) := by show _ = _; unfold frL; rw [Hx.out, hok]; rfl
    have HN : Hid (([] : List UInt8).length = 0) := rfl
    clear hok
    go_enter Try.func4, Try.ntmps4
    go_wp2_with fail
    refine (frame_is _ A l c xs w HA.out Hx.out _ _ _ HE.out HL.out HN.out).mono ?_
    rintro e w3 ⟨F, fk, rfl, hfk, rF, bF⟩
    go_wp2_with fail
    refine (awake5_any _).mono ?_
    rintro e w6 ⟨rfl, b6⟩
    go_wp2_with fail
    go_ret
    exact ⟨rfl, below_on bF b6⟩
  | true =>
    have hb : 0 ≤ u ∧ u ≤ 247 ∧ 1 ≤ l ∧ l ≤ 253 := by
      unfold frOk at hok
      rw [decide_eq_true_iff] at hok
      omega
    obtain ⟨hu0, hu, hl1, hl2⟩ := hb
    obtain ⟨n, rfl⟩ : ∃ n : Nat, u = (n : Int) := ⟨u.toNat, by omega⟩
    have HE : Hid (frE (n : Int) l = 0) := by show _ = _; unfold frE; rw [hok]; rfl
    have HL : Hid (frL (n : Int) xs = frameL n xs) := by show _ = _; unfold frL; rw [Hx.out, hok]; rfl
    have HN : Hid ((frameL n xs).length = l + 3) := by show _ = _; rw [frameL_length, Hx.out]
    obtain ⟨sE, sU, sP⟩ := split_frame n xs l Hx.out (by omega) hl1 hl2
    have HS := hide (fun F fk w3 r hfk => split_any F (l + 3) fk (frameL n xs) w3 r HN.out hfk)
    unfold RetSp at HS
    rw [sE, sU, sP, Hx.out] at HS
    clear hok hu0 sE sU sP
    have p1 : ((l : Int) + 3 != (l : Int) + 3) = false := by simp
    have p2 : ((n : Int) != (n : Int)) = false := by simp
    go_enter Try.func4, Try.ntmps4
    go_wp2_with fail
    refine (frame_is _ A l c xs w HA.out Hx.out _ _ _ HE.out HL.out HN.out).mono ?_
    rintro e w1 ⟨F, fk, rfl, hfk, rF, bF⟩
    have RF := hide rF
    have BF := hide bF
    clear rF bF
    go_wp2_with fail
    refine (HS.out F fk w1 RF.out hfk).mono ?_
    rintro e w2 ⟨P, pk, rfl, rP, bP⟩
    have d1 := rdStr rP
    have d2 := rdStr (HA.out.keep (below_on BF.out bP))
    have B2 := hide (below_on BF.out bP)
    have RF2 := hide (RF.out.keep bP)
    clear rP bP
    by_cases hb0 : bit < 0
    · go_wp2_with (go_at_call 10; refine (awake5_any _).mono ?_; rintro e w6 ⟨rfl, b6⟩)
      go_ret
      exact ⟨rfl, below_on B2.out b6⟩
    by_cases hb1 : 8 * ((l : Int) + 3) ≤ bit
    · go_wp2_with (go_at_call 10; refine (awake5_any _).mono ?_; rintro e w6 ⟨rfl, b6⟩)
      go_ret
      exact ⟨rfl, below_on B2.out b6⟩
    obtain ⟨b, rfl⟩ : ∃ b : Nat, bit = (b : Int) := ⟨bit.toNat, by omega⟩
    obtain ⟨j, hj⟩ : ∃ j, b / 8 = j := ⟨_, rfl⟩
    obtain ⟨r, hr⟩ : ∃ r, b % 8 = r := ⟨_, rfl⟩
    have hr8 : r < 8 := by omega
    have hjl : j < l + 3 := by omega
    have e1 : (b : Int) / 8 = (j : Int) := by omega
    have e2 : (b : Int) % 8 = (r : Int) := by omega
    clear hj hr
    go_wp2_with (at_builtin; refine wpList_app rfl (.tmp 73) (.tmp 74) 22 rfl 5 _ _ Try.underlying22 u8_info rfl w2.heap.size (some ⟨w2.heap.size, 0, none⟩) 0 0 [] rfl (own_empty w2) F (l + 3) fk (bv (frameL n xs)) rfl (RF2.out.keep ((Below.refl _ _).alloc (Nat.le_refl _) _)) (bv_one _) (by unfold maxLen; omega) (by omega) (by simp) ?_; intro C ck w3 o3 g3 b3; rw [Nat.zero_add, List.nil_append] at o3; have hck := own_cap o3; have O3 := hide o3; have B3 := hide (below_on B2.out (((Below.refl _ _).alloc (Nat.le_refl _) _).trans b3 : Below w2.heap.size w2 w3)); clear o3 g3 b3)
    obtain ⟨g, rest, rfl, hg, kC⟩ := own_blk O3.out (by omega)
    have hjf : j < (frameL n xs).length := by rw [HN.out]; exact hjl
    have cX : w3.cell? ⟨g, j, none⟩ = some (.int .u8 (((frameL n xs)[j].toNat : Nat) : Int)) := by
      rw [kC.cell, List.getElem?_append_left (by rw [bv_length]; exact hjf)]
      exact bv_get _ j hjf
    have fX := kC.frozen j
    have hX : (frameL n xs)[j].toNat < 256 := (frameL n xs)[j].toNat_lt
    have HSD : Hid (∀ (Y : Nat) (y : Int), (y = (Y : Int) ∧ Y < 256 ∧ Y ≠ (frameL n xs)[j].toNat) → Rd (w3.setCell ⟨g, j, none⟩ (.int .u8 y)) (some ⟨g, 0, none⟩) (l + 3) (bv ((frameL n xs).set j (UInt8.ofNat Y))) ∧ goodB ((frameL n xs).set j (UInt8.ofNat Y)) = false ∧ Below w.heap.size w (w3.setCell ⟨g, j, none⟩ (.int .u8 y))) := by
      rintro Y y ⟨rfl, hY, hne⟩
      refine ⟨?_, ?_, B3.out.setCell (Nat.le_trans B2.out.size hg) _⟩
      · have := kC.set j (.int .u8 (Y : Int))
        rw [bv_set _ _ j hjf Y hY] at this
        exact this.front (l + 3) (by rw [bv_length, List.length_set]; exact HN.out)
      · refine byte_turned _ j hjf _ ?_ (by rw [HN.out]; omega) (good_tail _)
        intro e
        have := congrArg UInt8.toNat e
        rw [UInt8.toNat_ofNat'] at this
        omega
    generalize hXX : (frameL n xs)[j].toNat = X at *
    clear kC hXX d1 d2
    go_loop [13, 14] (fun wv kv => ∃ k : Nat, k ≤ r ∧ wv = .int .u8 ((2 ^ k : Nat) : Int) ∧ kv = .int .i64 (k : Int)) (fun _ kv => r - (intOf kv).toNat)
    case atStart => exact ⟨0, Nat.zero_le _, rfl, rfl⟩
    case round =>
      obtain ⟨k, hk, rfl, rfl⟩ := hrel
      by_cases hlt : k < r
      · have hp : 2 ^ k ≤ 2 ^ 6 := Nat.pow_le_pow_right (by decide) (by omega)
        have q : (k : Int) < (r : Int) := by omega
        have Hpp : Hid (2 ^ (k + 1) = 2 * 2 ^ k) := by show _ = _; rw [Nat.pow_succ, Nat.mul_comm]
        have hp0 : 2 ^ k ≤ 64 := hp
        clear hp
        generalize 2 ^ k = Wk at *
        go_wp2_with fail
        go_round
        case rel => exact ⟨k + 1, by omega, by rw [Hpp.out]; go_num, by go_num⟩
        case measure => simp [intOf]; omega
      · obtain rfl : k = r := by omega
        have q : ¬ (k : Int) < (k : Int) := by omega
        have hp1 : 2 ^ k ≤ 2 ^ 7 := Nat.pow_le_pow_right (by decide) (by omega)
        have hp0 : 0 < 2 ^ k := Nat.pow_pos (by decide)
        have hp2 : 2 ^ k ≤ 128 := hp1
        have e3 : ((j : Int)).toNat = j := by omega
        have e4 : (j : Int) < (l : Int) + 3 := by omega
        clear hp1
        by_cases hbx : X / 2 ^ k % 2 = 1
        · have hdn := bit_down X k hbx
          generalize 2 ^ k = Wk at *
          have p3 : ((X : Int) / (Wk : Int) % 2 == 1) = true := by rw [beq_iff_eq]; omega
          have p4 : ¬ (Wk : Int) = 0 := by omega
          clear hbx
          go_wp2_with fail
          refine (split_bad _ (l + 3) ck _ _ (HSD.out (X - Wk) ((X : Int) - (Wk : Int)) (by omega)).1 (by rw [List.length_set]; exact HN.out) hck (by omega) (by omega) (HSD.out (X - Wk) ((X : Int) - (Wk : Int)) (by omega)).2.1).mono ?_
          rintro e w5 ⟨P5, k5, rfl, b5⟩
          go_wp2_with fail
          refine (awake5_any _).mono ?_
          rintro e w6 ⟨rfl, b6⟩
          go_wp2_with fail
          go_ret
          exact ⟨rfl, below_on (below_on (HSD.out (X - Wk) ((X : Int) - (Wk : Int)) (by omega)).2.2 b5) b6⟩
        · have hup := bit_up X k hX hr8 hbx
          generalize 2 ^ k = Wk at *
          have p3 : ((X : Int) / (Wk : Int) % 2 == 1) = false := by rw [beq_eq_false_iff_ne]; omega
          have p4 : ¬ (Wk : Int) = 0 := by omega
          clear hbx
          go_wp2_with fail
          refine (split_bad _ (l + 3) ck _ _ (HSD.out (X + Wk) ((X : Int) + (Wk : Int)) (by omega)).1 (by rw [List.length_set]; exact HN.out) hck (by omega) (by omega) (HSD.out (X + Wk) ((X : Int) + (Wk : Int)) (by omega)).2.1).mono ?_
          rintro e w5 ⟨P5, k5, rfl, b5⟩
          go_wp2_with fail
          refine (awake5_any _).mono ?_
          rintro e w6 ⟨rfl, b6⟩
          go_wp2_with fail
          go_ret
          exact ⟨rfl, below_on (below_on (HSD.out (X + Wk) ((X : Int) + (Wk : Int)) (by omega)).2.2 b5) b6⟩

end Go.Proofs.Ytkbombdhdgdpnaa
