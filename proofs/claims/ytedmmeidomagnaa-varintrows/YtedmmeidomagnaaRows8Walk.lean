/-
  What is proved here: the law VarintRows returns true for every slice of ints, and writes nothing that was there. No condition.
-/
import Derived.Test.YtedmmeidomagnaaAwake8
namespace Go.Proofs.Ytedmmeidomagnaa
set_option linter.unusedVariables false
set_option linter.unusedSimpArgs false
open Go.RowKit

/-- The first k lengths, one behind the other. -/
def dgs (zs : List Int) : Nat → List UInt8
  | 0 => []
  | k + 1 => dgs zs k ++ dg (zs[k]?.getD 0).toNat
theorem dgs_split (zs : List Int) (j k : Nat) (h : j < k) : ∃ t, dgs zs k = dgs zs j ++ dg (zs[j]?.getD 0).toNat ++ t := by
  induction k with
  | zero => omega
  | succ k ih =>
    rcases Nat.lt_or_eq_of_le (Nat.le_of_lt_succ h) with hl | rfl
    · obtain ⟨t, ht⟩ := ih hl
      exact ⟨t ++ dg (zs[k]?.getD 0).toNat, by rw [dgs, ht]; simp⟩
    · exact ⟨[], by rw [dgs]; simp⟩
theorem atR_at (xs : List UInt8) (at_ n : Nat) (pre t : List UInt8) (hx : xs = pre ++ dg n ++ t) (hp : pre.length = at_) (hn : n ≤ 268435455) : atR xs at_ = (n, at_ + dgL n, 0) := by
  have hL := dg_length n hn
  have h4 := (dgL_le n).2
  subst hx
  subst hp
  unfold atR
  rw [List.append_assoc, List.drop_left, List.take_append, List.take_of_length_le (by omega), atV_dg n 0 0 _ (.inl rfl)]
  simp [hL]
/-- Each is a length. -/
def AllLen (zs : List Int) (k : Nat) : Prop := ∀ j, j < k → 0 ≤ zs[j]?.getD 0 ∧ zs[j]?.getD 0 ≤ 268435455
theorem dgs_len (zs : List Int) (k : Nat) (h : AllLen zs k) : (dgs zs k).length ≤ 4 * k := by
  induction k with
  | zero => simp [dgs]
  | succ k ih =>
    have h1 := h k (Nat.lt_succ_self k)
    have h2 := ih (fun j hj => h j (Nat.lt_succ_of_lt hj))
    rw [dgs, List.length_append, dg_length _ (by omega)]
    have := (dgL_le (zs[k]?.getD 0).toNat).2
    omega

set_option maxHeartbeats 4000000 in
set_option maxRecDepth 100000 in
theorem rows8_walk (A : Option Addr) (n c : Nat) (zs : List Int) (w : World) (h : Rd w A n (iv zs)) (hz : zs.length = n) (hm : n ≤ maxLen) :
    Calls Try.prog 7 #[.slice A n c] w fun e w' => e = .returned (.bool true) ∧ Below w.heap.size w w' := by
  unfold maxLen at hm
  by_cases h3 : (300 : Int) < (n : Int)
  · clear h hz
    go_enter Try.func7, Try.ntmps7
    go_wp2_with fail
    go_ret
    exact ⟨rfl, Below.refl _ _⟩
  have Hz := hide hz
  clear hz
  have hnil : w.ownsRow w.heap.size 5 1 (.slice none 0 0) 0 [] := World.ownsRow_nil _ _ _ _
  go_enter Try.func7, Try.ntmps7
  go_wp2_with fail
  go_loopw [3, 4] (fun v i wr => ∃ (k L : Nat) (C : Option Addr) (d : Nat), k ≤ n ∧ i = .int .i64 (k : Int) ∧ v = .slice C L d ∧ (dgs zs k).length = L ∧ wr.ownsRow w.heap.size 5 1 (.slice C L d) L (bv (dgs zs k)) ∧ AllLen zs k ∧ Below w.heap.size w wr) (fun _ i _ => n - (intOf i).toNat)
  case atStart => exact ⟨0, 0, none, 0, Nat.zero_le _, rfl, rfl, rfl, hnil, fun j hj => by omega, Below.refl _ _⟩
  case round =>
    obtain ⟨k, L, C, d, hk, rfl, rfl, hL, hown, hall, hbel⟩ := hrel
    have Hall := hide hall
    have Hbel := hide hbel
    have HL := hide hL
    have Hown := hide hown
    have hL4 : L ≤ 1200 := by have := dgs_len zs k hall; omega
    clear hall hbel hL hown hnil
    by_cases hlt : k < n
    · obtain ⟨b, o, rfl, hbl, hc⟩ := h.at_ hlt
      have hlt' : k < zs.length := by rw [Hz.out]; exact hlt
      have cA : wr.cell? ⟨b, o + k, none⟩ = some (.int .i64 zs[k]) := (Hbel.out.cell (p := ⟨b, o + k, none⟩) hbl).trans (hc k _ (iv_get zs k hlt'))
      have q : (k : Int) < (n : Int) := by omega
      have Hg := hide (show zs[k]?.getD 0 = zs[k] by simp [hlt'])
      generalize zs[k] = z at *
      clear hc h hlt'
      cases hn : isLen z with
      | false =>
        have hb : z < 0 ∨ (¬ z < 0 ∧ 268435455 < z) := by simp [isLen] at hn; omega
        rcases hb with hb | ⟨hb, hb2⟩
        · go_wp2_with (first
            | (go_at_call 8; refine (vput_no z hn _).mono ?_; rintro e w' ⟨rfl, rfl⟩)
            | (go_at_call 11; refine (awake_any _).mono ?_; rintro e w2 ⟨rfl, b2⟩; have cB : w2.cell? ⟨b, o + k, none⟩ = some (.int .i64 z) := (b2.cell (p := ⟨b, o + k, none⟩) (Nat.lt_of_lt_of_le hbl Hbel.out.size)).trans cA))
          go_ret
          exact ⟨rfl, below_on Hbel.out b2⟩
        · go_wp2_with (first
            | (go_at_call 8; refine (vput_no z hn _).mono ?_; rintro e w' ⟨rfl, rfl⟩)
            | (go_at_call 11; refine (awake_any _).mono ?_; rintro e w2 ⟨rfl, b2⟩; have cB : w2.cell? ⟨b, o + k, none⟩ = some (.int .i64 z) := (b2.cell (p := ⟨b, o + k, none⟩) (Nat.lt_of_lt_of_le hbl Hbel.out.size)).trans cA))
          go_ret
          exact ⟨rfl, below_on Hbel.out b2⟩
      | true =>
        obtain ⟨m, rfl, hm'⟩ : ∃ m : Nat, z = (m : Int) ∧ m ≤ 268435455 := by simp [isLen] at hn; exact ⟨z.toNat, by omega, by omega⟩
        clear hn
        have hM := dgL_le m
        obtain ⟨M, hMe⟩ : ∃ M, dgL m = M := ⟨_, rfl⟩
        have HP := hide (vput_ok m hm' wr)
        have Hlen := hide (dg_length m hm')
        rw [hMe] at hM HP Hlen
        clear hMe
        go_wp2_with (first
          | (go_at_call 8; refine HP.out.mono ?_; rintro e w2 ⟨D, d2, rfl, hd2, r2, b2⟩; have Hr2 := hide r2; have Hb2 := hide b2; clear r2 b2)
          | (at_builtin; refine wpList_app rfl (.tmp 48) (.tmp 49) 22 rfl 5 _ _ Try.underlying22 u8_info rfl w.heap.size C L d (bv (dgs zs k)) rfl (own_keep Hown.out Hb2.out) D M d2 (bv (dg m)) rfl Hr2.out (bv_one _) (by unfold maxLen; omega) (by omega) (below_on Hbel.out Hb2.out).size ?_; intro A1 c1 w3 o1 g1 b3))
        have hds : dgs zs (k + 1) = dgs zs k ++ dg m := by rw [dgs, Hg.out, Int.toNat_natCast]
        refine ⟨⟨k + 1, L + M, A1, c1, by omega, by go_num, rfl, by rw [hds, List.length_append, HL.out, Hlen.out], ?_, ?_, (below_on Hbel.out Hb2.out).trans b3⟩, by simp [intOf]; omega⟩
        · rw [hds, bv_append]; exact o1
        · intro j hj
          rcases Nat.lt_or_eq_of_le (Nat.le_of_lt_succ hj) with hl | rfl
          · exact Hall.out j hl
          · rw [Hg.out]; omega
    · obtain rfl : k = n := by omega
      obtain ⟨wo, rfl⟩ : ∃ wo : World, wo = wr := ⟨_, rfl⟩
      have hA2 := h.keep Hbel.out
      have Hr := hide (own_rd Hown.out)
      have hLd := own_cap Hown.out
      have q : ¬ (k : Int) < (k : Int) := by omega
      clear h hlt
      go_wp2_with fail
      go_loopw [7, 8] (fun a i wr => ∃ (j : Nat), j ≤ k ∧ i = .int .i64 (j : Int) ∧ a = .int .i64 ((dgs zs j).length : Int) ∧ Below wo.heap.size wo wr) (fun _ i _ => k - (intOf i).toNat)
      case atStart => exact ⟨0, Nat.zero_le _, rfl, rfl, Below.refl _ _⟩
      case round =>
        obtain ⟨j, hj, rfl, rfl, hb⟩ := hrel
        have HB := hide hb
        clear hb
        by_cases hlt : j < k
        · obtain ⟨b, o, rfl, hbl, hc⟩ := hA2.at_ hlt
          have hlt' : j < zs.length := by rw [Hz.out]; exact hlt
          have cA : wo.cell? ⟨b, o + j, none⟩ = some (.int .i64 zs[j]) := hc j _ (iv_get zs j hlt')
          obtain ⟨t, ht⟩ := dgs_split zs j k hlt
          have ga := Hall.out j hlt
          have Hg : zs[j]?.getD 0 = zs[j] := by simp [hlt']
          rw [Hg] at ga ht
          have hds : dgs zs (j + 1) = dgs zs j ++ dg zs[j].toNat := by rw [dgs, Hg]
          generalize zs[j] = z at *
          obtain ⟨m, rfl⟩ : ∃ m : Nat, z = (m : Int) := ⟨z.toNat, by omega⟩
          rw [Int.toNat_natCast] at ht hds
          have hm' : m ≤ 268435455 := by omega
          obtain ⟨P, hP⟩ : ∃ P, (dgs zs j).length = P := ⟨_, rfl⟩
          have hPL : P + dgL m ≤ L := by rw [← HL.out, ht, List.length_append, List.length_append, hP, dg_length m hm']; omega
          have hds' : (dgs zs (j + 1)).length = P + dgL m := by rw [hds, List.length_append, hP, dg_length m hm']
          have T := fun W hW => hide (vat_any C L d P _ W hW hLd (by unfold maxLen; omega) HL.out)
          rw [atR_at _ P m _ t ht hP hm'] at T
          have S := fun W => hide (vsize_ok m hm' W)
          have HD := hide hds'
          rw [hP]
          obtain ⟨M, hM⟩ : ∃ M, dgL m = M := ⟨_, rfl⟩
          rw [hM] at T S HD hPL
          have q2 : (j : Int) < (k : Int) := by omega
          have HA2 := hide hA2
          clear hc hA2 ga Hg ht hds hds' hP hM hlt'
          rw [Int.natCast_add] at T
          go_wp2_with fail
          refine (T _ (Hr.out.keep HB.out)).out.mono ?_
          rintro e w1 ⟨rfl, b1⟩
          have s1 := below_on HB.out b1
          have cB : w1.cell? ⟨b, o + j, none⟩ = some (.int .i64 (m : Int)) := (s1.cell (p := ⟨b, o + j, none⟩) hbl).trans cA
          have Hs1 := hide s1
          clear s1 b1
          go_wp2_with fail
          refine (S w1).out.mono ?_
          rintro e w2 ⟨rfl, b2⟩
          have cC : w2.cell? ⟨b, o + j, none⟩ = some (.int .i64 (m : Int)) := (b2.cell (p := ⟨b, o + j, none⟩) (Nat.lt_of_lt_of_le hbl Hs1.out.size)).trans cB
          have Hb2 := hide (below_on Hs1.out b2)
          clear b2
          go_wp2_with fail
          exact ⟨⟨j + 1, by omega, by go_num, by rw [HD.out]; simp, Hb2.out⟩, by simp [intOf]; omega⟩
        · obtain rfl : j = k := by omega
          rw [HL.out]
          have q2 : ¬ (j : Int) < (j : Int) := by omega
          go_wp2_with fail
          refine (awake_any _).mono ?_
          rintro e w2 ⟨rfl, b2⟩
          have Hb2 := hide (below_on HB.out b2)
          clear b2
          go_wp2_with fail
          go_ret
          exact ⟨rfl, below_on Hbel.out Hb2.out⟩

end Go.Proofs.Ytedmmeidomagnaa
