/-
  What is proved here: the law VarintBack returns true for any two ints and any two slices of bytes, and writes nothing that was there. No condition.
-/
import Derived.Test.YtedmmeidomagnaaAwake8
namespace Go.Proofs.Ytedmmeidomagnaa
set_option linter.unusedVariables false
set_option linter.unusedSimpArgs false
open Go.RowKit

/-- What stands between is told as itself. -/
theorem atR_mid (ah be : List UInt8) (n : Nat) (hn : n ≤ 268435455) : atR (ah ++ dg n ++ be) ah.length = (n, ah.length + dgL n, 0) := by
  have hL := dg_length n hn
  have h4 := (dgL_le n).2
  unfold atR
  rw [List.append_assoc, List.drop_left, List.take_append, List.take_of_length_le (by omega), atV_dg n 0 0 _ (.inl rfl)]
  simp [hL]
theorem atR_cut (ah be : List UInt8) (n : Nat) (hn : n ≤ 268435455) : atR ((ah ++ dg n ++ be).take (ah.length + (dgL n - 1))) ah.length = (0, 0, 7) := by
  have hL := dg_length n hn
  have h4 := dgL_le n
  unfold atR
  rw [List.append_assoc, List.take_length_add_append, List.drop_left, List.take_append_of_le_length (by omega), List.take_take, Nat.min_eq_right (by omega), ← hL, atV_short n 0 0 (by omega)]
  rfl

theorem vput_any (m : Int) (w : World) : Calls Try.prog 8 #[.int .i64 m] w fun e w' => ∃ C L c E, e = .returned (.tuple #[.slice C L c, .int .i64 E]) ∧ L ≤ 4 ∧ ((E = 0 ∧ ∃ k : Nat, m = (k : Int) ∧ L = dgL k) ∨ E = 1) ∧ Below w.heap.size w w' := by
  cases hm : isLen m with
  | false =>
    refine (vput_no m hm w).mono ?_
    rintro e w' ⟨rfl, rfl⟩
    exact ⟨none, 0, 0, 1, rfl, by omega, .inr rfl, Below.refl _ _⟩
  | true =>
    simp [isLen] at hm
    obtain ⟨k, rfl⟩ : ∃ k : Nat, m = (k : Int) := ⟨m.toNat, by omega⟩
    refine (vput_ok k (by omega) w).mono ?_
    rintro e w' ⟨C, c, rfl, _, _, b⟩
    exact ⟨C, dgL k, c, 0, rfl, (dgL_le k).2, .inl ⟨rfl, k, rfl, rfl⟩, b⟩

set_option maxHeartbeats 4000000 in
set_option maxRecDepth 100000 in
theorem back8_walk (n m : Int) (A : Option Addr) (l c : Nat) (xs : List UInt8) (B : Option Addr) (k d : Nat) (ys : List UInt8) (w : World) (h : Rd w A l (bv xs)) (hx : xs.length = l) (hy : Rd w B k (bv ys)) (hyk : ys.length = k) :
    Calls Try.prog 5 #[.int .i64 n, .int .i64 m, .slice A l c, .slice B k d] w fun e w' => e = .returned (.bool true) ∧ Below w.heap.size w w' := by
  by_cases hs : (500 : Int) < (l : Int)
  · clear h hx hy hyk
    go_enter Try.func5, Try.ntmps5
    go_wp2
    go_ret
    exact ⟨rfl, Below.refl _ _⟩
  by_cases hs2 : (500 : Int) < (k : Int)
  · clear h hx hy hyk
    go_enter Try.func5, Try.ntmps5
    go_wp2
    go_ret
    exact ⟨rfl, Below.refl _ _⟩
  have Hh := hide h
  have Hx := hide hx
  have Hy := hide hy
  have Hyk := hide hyk
  clear h hx hy hyk
  cases hn : isLen n with
  | false =>
    go_enter Try.func5, Try.ntmps5
    go_wp2_with fail
    refine (vput_no n hn w).mono ?_
    rintro e w' ⟨rfl, rfl⟩
    go_wp2_with fail
    refine (vput_any m w).mono ?_
    rintro e w1 ⟨C, L, c1, E, rfl, _, _, b1⟩
    have Hb1 := hide b1
    clear b1
    go_wp2_with fail
    refine (awake_any _).mono ?_
    rintro e w2 ⟨rfl, b2⟩
    have Hb2 := hide b2
    clear b2
    go_wp2_with fail
    go_ret
    exact ⟨rfl, below_on Hb1.out Hb2.out⟩
  | true =>
    obtain ⟨q, rfl, hq⟩ : ∃ q : Nat, n = (q : Int) ∧ q ≤ 268435455 := by simp [isLen] at hn; exact ⟨n.toNat, by omega, by omega⟩
    clear hn
    obtain ⟨Q, hQ⟩ : ∃ Q, dgL q = Q := ⟨_, rfl⟩
    have hQ4 := dgL_le q
    rw [hQ] at hQ4
    obtain ⟨hQ1, hQ4⟩ := hQ4
    have HQ := hide hQ
    have P1 := hide (vput_ok q hq w)
    have Hlen := hide (dg_length q hq)
    have Hmid := hide (atR_mid xs ys q hq)
    have Hcut := hide (atR_cut xs ys q hq)
    rw [hQ] at P1 Hlen Hmid Hcut
    clear hQ
    go_enter Try.func5, Try.ntmps5
    go_wp2_with fail
    refine P1.out.mono ?_
    rintro e w1 ⟨C, c1, rfl, hc1, r1, b1⟩
    have Hr1 := hide r1
    have Hb1 := hide b1
    clear r1 b1
    go_wp2_with fail
    refine (vput_any m w1).mono ?_
    rintro e w2 ⟨D, L, c2, E, rfl, hL4, hE, b2⟩
    have Hb2 := hide b2
    have HE := hide hE
    clear b2 hE
    have s2 := below_on Hb1.out Hb2.out
    have hN : w2.heap.size < w2.heap.size + 1 := Nat.lt_succ_self _
    have HN := hide (show Rd w2 A l (bv xs) from Hh.out.keep s2)
    have HB2 := hide (show Rd w2 B k (bv ys) from Hy.out.keep s2)
    have HC2 := hide (Hr1.out.keep Hb2.out)
    have Hs2 := hide s2
    clear hN s2
    go_wp2_with (first
      | (at_builtin; refine wpList_app rfl (.tmp 46) (.tmp 47) 22 rfl 5 _ _ Try.underlying22 u8_info rfl w2.heap.size (some ⟨w2.heap.size, 0, none⟩) 0 0 [] rfl ((Blk.new w2 5 []).own (Nat.le_refl _) 0 rfl (by decide)) A l c (bv xs) rfl (HN.out.keep ((Below.refl _ _).alloc (Nat.le_refl _) _)) (bv_one _) (by unfold maxLen; omega) (by omega) (by simp) ?_; intro A1 d1 w3 o1 g1 b3; rw [Nat.zero_add, List.nil_append] at o1; have hb3 := ((Below.refl w2.heap.size w2).alloc (Nat.le_refl _) (.cells #[] 5)).trans b3)
      | (at_builtin; refine wpList_app rfl (.tmp 48) (.tmp 49) 22 rfl 5 _ _ Try.underlying22 u8_info rfl w2.heap.size A1 l d1 (bv xs) rfl o1 C Q c1 (bv (dg q)) rfl (HC2.out.keep hb3) (bv_one _) (by unfold maxLen; omega) (by omega) hb3.size ?_; intro A2 d2 w4 o2 g2 b4; have hb4 := hb3.trans b4)
      | (at_builtin; refine wpList_app rfl (.tmp 50) (.tmp 51) 22 rfl 5 _ _ Try.underlying22 u8_info rfl w2.heap.size A2 (l + Q) d2 (bv xs ++ bv (dg q)) rfl o2 B k d (bv ys) rfl (HB2.out.keep hb4) (bv_one _) (by unfold maxLen; omega) (by omega) hb4.size ?_; intro A3 d3 w5 o3 g3 b5; have hb5 := hb4.trans b5))
    have r5 := own_rd o3
    rw [← bv_append, ← bv_append] at r5
    have hd3 := own_cap o3
    have Hr5 := hide r5
    have Hb5 := hide hb5
    have hlen : (xs ++ dg q ++ ys).length = l + Q + k := by rw [List.length_append, List.length_append, Hx.out, Hlen.out, Hyk.out]
    have HA1 := hide (vat_any A3 (l + Q + k) d3 l _ w5 r5 hd3 (by unfold maxLen; omega) hlen)
    have hmid := Hmid.out
    rw [Hx.out] at hmid
    rw [hmid] at HA1
    have hsl := fun W => run_slTo (P := Try.prog) 22 5 Try.underlying22 u8_size A3 (l + Q + k) d3 ((l : Int) + (Q : Int) - 1) (l + (Q - 1)) (by omega) (by omega) W
    have HA2 := fun W (hW : Rd W A3 (l + Q + k) (bv (xs ++ dg q ++ ys))) => hide (vat_any A3 (l + (Q - 1)) d3 l _ W (hW.upto (l + (Q - 1)) d3 (by omega) hd3) (by omega) (by unfold maxLen; omega) (by rw [List.length_take, hlen]; omega))
    have hcut := Hcut.out
    rw [Hx.out] at hcut
    rw [hcut] at HA2
    have Hd3 := hide hd3
    clear r5 o1 o2 o3 b3 b4 b5 hb3 hb4 hb5 g1 g2 g3 hmid hcut hlen hd3
    have q1 : ¬ (Q : Int) < 1 := by omega
    refine HA1.out.mono ?_
    rintro e w6 ⟨rfl, b6⟩
    have Hb6 := hide b6
    clear b6
    go_wp2_with fail
    refine (HA2 w6 (Hr5.out.keep Hb6.out)).out.mono ?_
    rintro e w7 ⟨rfl, b7⟩
    have Hb7 := hide b7
    clear b7 HA2 hsl
    rcases HE.out with ⟨rfl, k', rfl, rfl⟩ | rfl
    · by_cases hle : (q : Int) ≤ (k' : Int)
      · have q2 : ¬ ((dgL k' : Nat) : Int) < (Q : Int) := by have := dgL_mono (show q ≤ k' by omega); rw [HQ.out] at this; omega
        go_wp2_with fail
        refine (awake_any _).mono ?_
        rintro e w8 ⟨rfl, b8⟩
        have Hb8 := hide b8
        clear b8
        go_wp2_with fail
        go_ret
        exact ⟨rfl, below_on (below_on (below_on (Hs2.out.trans (Hb5.out.mono Hs2.out.size)) Hb6.out) Hb7.out) Hb8.out⟩
      · have q2 := hle
        go_wp2_with fail
        refine (awake_any _).mono ?_
        rintro e w8 ⟨rfl, b8⟩
        have Hb8 := hide b8
        clear b8
        go_wp2_with fail
        go_ret
        exact ⟨rfl, below_on (below_on (below_on (Hs2.out.trans (Hb5.out.mono Hs2.out.size)) Hb6.out) Hb7.out) Hb8.out⟩
    · have q2 := hQ1
      go_wp2_with fail
      refine (awake_any _).mono ?_
      rintro e w8 ⟨rfl, b8⟩
      have Hb8 := hide b8
      clear b8
      go_wp2_with fail
      go_ret
      exact ⟨rfl, below_on (below_on (below_on (Hs2.out.trans (Hb5.out.mono Hs2.out.size)) Hb6.out) Hb7.out) Hb8.out⟩

end Go.Proofs.Ytedmmeidomagnaa
