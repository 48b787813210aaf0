/-
  What is proved here: the law UtfLong returns true for every int, and writes nothing that was there. No condition.
-/
import Derived.Test.YtojkjcfhfcnehaaAwake9
import Derived.LoopTactic
namespace Go.Proofs.Ytojkjcfhfcnehaa
set_option linter.unusedVariables false
set_option linter.unusedSimpArgs false
open Go.RowKit

theorem enc97 : enc 97 = [97] := rfl
theorem encs97 (n : Nat) : encs (List.replicate n 97) = List.replicate n 97 := by
  induction n with
  | zero => rfl
  | succ n ih => rw [List.replicate_succ, encs_cons, ih, enc97]; rfl
theorem ptsL97 (n : Nat) : ptsL (List.replicate n 97) = some (List.replicate n 97) := by
  have h : allPt (List.replicate n 97) := fun p hp => by rw [(List.mem_replicate.1 hp).2]; rfl
  have := ptsL_of h
  rwa [encs97] at this
theorem bv97 (k m : Nat) : (bv (List.replicate k 97) ++ List.replicate (m + 1) (Value.int .u8 0)).set k (Value.int .u8 97) = bv (List.replicate (k + 1) 97) ++ List.replicate m (Value.int .u8 0) := by
  have hl : (bv (List.replicate k (97 : UInt8))).length = k := by simp [bv]
  rw [List.set_append_right _ _ (by omega), hl, Nat.sub_self, List.replicate_succ, List.set_cons_zero]
  simp [bv, List.replicate_succ', List.append_assoc]

set_option maxHeartbeats 2000000 in
set_option maxRecDepth 100000 in
theorem long9_walk (z : Int) (w : World) : Calls Try.prog 6 #[.int .i64 z] w fun e w' => e = .returned (.bool true) ∧ Below w.heap.size w w' := by
  by_cases h0 : z < 0
  · go_enter Try.func6, Try.ntmps6
    go_wp2
    go_ret
    exact ⟨rfl, Below.refl _ _⟩
  by_cases h1 : (65600 : Int) < z
  · go_enter Try.func6, Try.ntmps6
    go_wp2
    go_ret
    exact ⟨rfl, Below.refl _ _⟩
  obtain ⟨n, rfl⟩ : ∃ n : Nat, z = (n : Int) := ⟨z.toNat, by omega⟩
  have hn : n ≤ 65600 := by omega
  have hmk := fun W => run_mk (P := Try.prog) 37 5 (.int .u8 0) 1 Try.underlying37 u8_info rfl n (by omega) (by omega) W
  go_enter Try.func6, Try.ntmps6
  go_wp2_with fail
  have hb0 : Blk (w.alloc (.cells (arr (List.replicate n (Value.int .u8 0))) 5)) w.heap.size 5 (bv (List.replicate 0 97) ++ List.replicate (n - 0) (Value.int .u8 0)) := Blk.new w 5 (List.replicate n (Value.int .u8 0))
  have hB0 : Below w.heap.size w (w.alloc (.cells (arr (List.replicate n (Value.int .u8 0))) 5)) := (Below.refl _ _).alloc (Nat.le_refl _) _
  obtain ⟨g, hg⟩ : ∃ g, w.heap.size = g := ⟨_, rfl⟩
  rw [hg] at hb0 hB0
  rw [hg]
  have Hg := hide hg
  clear hg
  go_loopw [4] (fun i wr => ∃ k : Nat, i = .int .i64 (k : Int) ∧ k ≤ n ∧ Blk wr g 5 (bv (List.replicate k 97) ++ List.replicate (n - k) (Value.int .u8 0)) ∧ Below g w wr) (fun i _ => n - (intOf i).toNat)
  case atStart => exact ⟨0, rfl, by omega, hb0, hB0⟩
  case round =>
    obtain ⟨k, rfl, hk, hb, hB⟩ := hrel
    have HB := hide hB
    have Hb := hide hb
    clear hB hb hb0 hB0
    by_cases hlt : k < n
    · have q1 : (k : Int) < (n : Int) := by omega
      have hf := Hb.out.frozen k
      have hc := Hb.out.cell k
      obtain ⟨m, hm⟩ : ∃ m, n - k = m + 1 := ⟨n - k - 1, by omega⟩
      have hl : (bv (List.replicate k (97 : UInt8))).length = k := by simp [bv]
      rw [hm, List.getElem?_append_right (by omega), hl, Nat.sub_self, List.replicate_succ, List.getElem?_cons_zero] at hc
      have Hb2 := hide (Hb.out.set k (.int .u8 97))
      rw [hm, bv97] at Hb2
      have Hm := hide hm
      clear hm hl
      go_wp2_with fail
      refine ⟨⟨k + 1, by go_num, by omega, ?_, HB.out.setCell (p := ⟨g, k, none⟩) (Nat.le_refl _) _⟩, by simp [intOf]; omega⟩
      rw [show n - (k + 1) = m by have := Hm.out; omega]
      exact Hb2.out
    · obtain rfl : k = n := by omega
      have q1 : ¬ (k : Int) < (k : Int) := by omega
      have r0 := Hb.out.rd
      have hl : (bv (List.replicate k (97 : UInt8)) ++ List.replicate (k - k) (Value.int .u8 0)) = bv (List.replicate k 97) := by simp
      rw [hl, bv_length, List.length_replicate] at r0
      have Hlen := hide (show (str (List.replicate k 97)).data.toList = List.replicate k 97 from str_data _)
      have HL := hide (show (List.replicate k (97 : UInt8)).length = k by simp)
      have HP := hide (ptsL97 k)
      have HR := hide r0
      have hs0 := strOn r0
      have Hs0 := hide hs0
      have hs := rdStr r0
      clear hl r0 hs0
      generalize List.replicate k (97 : UInt8) = xs at *
      by_cases hbig : k ≤ 65535
      · have q2 : ¬ (65535 : Int) < (k : Int) := by omega
        have hU : ptsU xs = some (List.replicate k 97) := by rw [ptsU_small _ (by rw [HL.out]; exact hbig)]; exact HP.out
        have P1 := hide fun W => utPoints_ok _ _ hU (str xs) (str_data _) W
        have P3 := hide fun W => utIs_of true _ (by rw [hU]; rfl) (str xs) (str_data _) W
        rw [List.length_replicate] at P1
        clear hU
        go_wp2_with fail
        clear hs
        refine (P1.out wr).mono ?_
        rintro e w1 ⟨A, c, rfl, _, _, b1⟩
        have B1 := hide b1
        clear b1
        go_wp2_with fail
        refine (awake_any w1).mono ?_
        rintro e w2 ⟨rfl, b2⟩
        have B2 := hide (below_on B1.out b2)
        have hs2 := Hs0.out w2 B2.out
        clear b2
        go_wp2_with fail
        clear hs2
        refine (P3.out w2).mono ?_
        rintro e w3 ⟨rfl, b3⟩
        have B3 := hide (below_on B2.out b3)
        clear b3
        go_wp2_with fail
        go_ret
        exact ⟨rfl, by rw [Hg.out]; exact HB.out.trans (B3.out.mono (Nat.le_of_lt Hb.out.lt))⟩
      · have q2 : (65535 : Int) < (k : Int) := by omega
        have hU : ptsU xs = none := by unfold ptsU; rw [if_neg (by rw [HL.out]; exact hbig)]
        have P1 := hide fun W => utPoints_no _ hU (str xs) (str_data _) W
        have P3 := hide fun W => utIs_of false _ (by rw [hU]; rfl) (str xs) (str_data _) W
        clear hU
        go_wp2_with fail
        clear hs
        refine (P1.out wr).mono ?_
        rintro e w1 ⟨rfl, b1⟩
        have B1 := hide b1
        clear b1
        go_wp2_with fail
        refine (awake_any w1).mono ?_
        rintro e w2 ⟨rfl, b2⟩
        have B2 := hide (below_on B1.out b2)
        have hs2 := Hs0.out w2 B2.out
        clear b2
        go_wp2_with fail
        clear hs2
        refine (P3.out w2).mono ?_
        rintro e w3 ⟨rfl, b3⟩
        have B3 := hide (below_on B2.out b3)
        clear b3
        go_wp2_with fail
        go_ret
        exact ⟨rfl, by rw [Hg.out]; exact HB.out.trans (B3.out.mono (Nat.le_of_lt Hb.out.lt))⟩

end Go.Proofs.Ytojkjcfhfcnehaa
