/-
  What is proved here: the laws' own small functions of layer 3: two requests (answers) that read alike are the same; 'small'; the chapter's examples, asked by 'awake', come out true in every world.
-/
import Derived.Test.YtemlfhoejelgbaaPdu17
namespace Go.Proofs.Ytemlfhoejelgbaa
set_option linter.unusedVariables false
set_option linter.unusedSimpArgs false
open Go.RowKit

theorem same_yes (f a c t an o : Int) (A B : Option Addr) (n m k d : Nat) (vs : List Int) (w : World) (h : Rd w A n (iv vs)) (h2 : Rd w B m (iv vs)) (hn : n ≤ 1000000) :
    Calls Try.prog 13 #[.agg #[.int .i64 f, .int .i64 a, .int .i64 c, .slice A n k, .int .i64 t, .int .i64 an, .int .i64 o], .agg #[.int .i64 f, .int .i64 a, .int .i64 c, .slice B m d, .int .i64 t, .int .i64 an, .int .i64 o]] w fun e w' => e = .returned (.bool true) ∧ Below w.heap.size w w' := by
  have hnm : n = m := h.1.symm.trans h2.1
  have HI := hide (fun W (b : Below w.heap.size w W) => ints_any A B n m k d vs vs W (h.keep b) (h2.keep b) hn (by omega))
  simp only [decide_true] at HI
  have HB := hide (two_boxes w [.int .i64 f, .int .i64 a, .int .i64 c, .slice A n k, .int .i64 t, .int .i64 an, .int .i64 o] [.int .i64 f, .int .i64 a, .int .i64 c, .slice B m d, .int .i64 t, .int .i64 an, .int .i64 o] 24 24 _ rfl)
  clear h h2 hnm
  have q1 : (f == f) = true := by simp
  have q2 : (a == a) = true := by simp
  have q3 : (c == c) = true := by simp
  have q4 : (t == t) = true := by simp
  have q5 : (an == an) = true := by simp
  have q6 : (o == o) = true := by simp
  go_enter Try.func13, Try.ntmps13
  go_wp2_with fail
  refine (HI.out _ HB.out.2.2.1).mono ?_
  rintro e w1 ⟨rfl, nq, rfl⟩
  go_wp2
  go_ret
  exact ⟨rfl, below_drewN HB.out.2.2.1 nq⟩

theorem ansSame_yes (code : Int) (A B : Option Addr) (n m k d : Nat) (vs : List Int) (w : World) (h : Rd w A n (iv vs)) (h2 : Rd w B m (iv vs)) (hn : n ≤ 1000000) :
    Calls Try.prog 23 #[.agg #[.slice A n k, .int .i64 code], .agg #[.slice B m d, .int .i64 code]] w fun e w' => e = .returned (.bool true) ∧ Below w.heap.size w w' := by
  have hnm : n = m := h.1.symm.trans h2.1
  have HI := hide (fun W (b : Below w.heap.size w W) => ints_any A B n m k d vs vs W (h.keep b) (h2.keep b) hn (by omega))
  simp only [decide_true] at HI
  have HB := hide (two_boxes w [.slice A n k, .int .i64 code] [.slice B m d, .int .i64 code] 40 40 _ rfl)
  clear h h2 hnm
  have q1 : (code == code) = true := by simp
  go_enter Try.func23, Try.ntmps23
  go_wp2_with fail
  refine (HI.out _ HB.out.2.2.1).mono ?_
  rintro e w1 ⟨rfl, nq, rfl⟩
  go_wp2
  go_ret
  exact ⟨rfl, below_drewN HB.out.2.2.1 nq⟩

theorem small3_any (f a c t an o : Int) (A : Option Addr) (n k : Nat) (w : World) :
    Calls Try.prog 10 #[.agg #[.int .i64 f, .int .i64 a, .int .i64 c, .slice A n k, .int .i64 t, .int .i64 an, .int .i64 o]] w fun e w' => e = .returned (.bool (decide (n ≤ 2100))) ∧ Below w.heap.size w w' := by
  have q : decide (n ≤ 2100) = decide ((n : Int) ≤ 2100) := by rw [decide_eq_decide]; omega
  rw [q]
  cases h : decide ((n : Int) ≤ 2100)
  all_goals
    go_enter Try.func10, Try.ntmps10
    go_wp2
    go_ret
    exact ⟨rfl, (Below.refl _ _).alloc (Nat.le_refl _) _⟩

theorem ex_may : mayB 3 16 2 [] 0 0 0 = true := by decide
theorem ex_lay : layL 3 16 2 [] 0 0 0 = [3, 0, 16, 0, 2] := by decide
theorem ex_ans : ansParseL ⟨3, 16, 2, [], 0, 0, 0⟩ [3, 4, 0, 1, 0, 2] = some ⟨[1, 2], 0⟩ := ansParse_lay ⟨3, 16, 2, [], 0, 0, 0⟩ ex_may ⟨[1, 2], 0⟩ (by decide)
theorem ex_code : ansParseL ⟨3, 16, 2, [], 0, 0, 0⟩ [131, 2] = some ⟨[], 2⟩ := ansParse_lay ⟨3, 16, 2, [], 0, 0, 0⟩ ex_may ⟨[], 2⟩ (by decide)
theorem ex_none : parseL [5, 0, 1, 0, 1] = none := by
  unfold parseL
  rw [if_neg]
  rintro ⟨_, h⟩
  revert h
  decide

set_option maxHeartbeats 1000000 in
theorem awake3_any (w : World) : Calls Try.prog 15 #[] w fun e w' => e = .returned (.bool true) ∧ Below w.heap.size w w' := by
  have HB := hide (fun W => pbytes_ok 3 16 2 0 0 0 none 0 0 [] W (Rd.nil _ _) (by omega) ex_may)
  rw [ex_lay] at HB
  have HP1 := hide (fun B W h2 => pansP_any 3 16 2 0 0 0 none B 0 0 6 6 [] [3, 4, 0, 1, 0, 2] W (Rd.nil _ _) (by omega) h2 (by omega) ex_may)
  have HP2 := hide (fun B W h2 => pansP_any 3 16 2 0 0 0 none B 0 0 2 2 [] [131, 2] W (Rd.nil _ _) (by omega) h2 (by omega) ex_may)
  have HP3 := hide (fun B W h2 => parse_any B 5 5 [5, 0, 1, 0, 1] W h2 (by omega))
  rw [ex_ans] at HP1
  rw [ex_code] at HP2
  rw [ex_none] at HP3
  go_enter Try.func15, Try.ntmps15
  go_wp2_with fail
  refine (HB.out _).mono ?_
  rintro e w1 ⟨C, kC, rfl, lC, rC, b1⟩
  have K1 := hide ((Blk.new w 24 [.int .i64 3, .int .i64 16, .int .i64 2, .slice none 0 0, .int .i64 0, .int .i64 0, .int .i64 0]).keep b1)
  have L1 := hide (((Below.refl w.heap.size w).alloc (Nat.le_refl _) _).trans (b1.mono (by simp)))
  have RC : Hid (Rd w1 C 5 (bv [3, 0, 16, 0, 2])) := rC
  clear b1 rC
  obtain ⟨k0, k1, k2, k3, k4, k5, k6⟩ := K1.out.seven
  go_wp2_with fail
  refine (HP1.out _ _ (Blk.new w1 5 [.int .u8 3, .int .u8 4, .int .u8 0, .int .u8 1, .int .u8 0, .int .u8 2]).rd).mono ?_
  rintro e w2 ⟨C2, m2, kC2, rfl, lC2, rC2, b2⟩
  obtain rfl : 2 = m2 := rC2.1
  have b2' : Below w1.heap.size w1 w2 := below_on ((Below.refl _ _).alloc (Nat.le_refl _) _) b2
  have K2 := hide (K1.out.keep b2')
  have L2 := hide (below_on L1.out b2')
  have RC' := hide (RC.out.keep b2')
  have R2 := hide rC2
  clear k0 k1 k2 k3 k4 k5 k6 b2 b2' rC2 K1 L1 RC
  obtain ⟨k0, k1, k2, k3, k4, k5, k6⟩ := K2.out.seven
  have hw2 : w.heap.size < w2.heap.size := K2.out.lt
  go_wp2_with fail
  have c2 : Below w2.heap.size w2 ((w2.alloc (.cells #[.slice C2 2 kC2, .int .i64 0] 40)).alloc (.cells #[.int .u8 131, .int .u8 2] 5)) := ((Below.refl _ _).alloc (Nat.le_refl _) _).alloc (by simp) _
  have rd2 := rd_new (w2.alloc (.cells #[.slice C2 2 kC2, .int .i64 0] 40)) (w2.heap.size + 1) (by simp) 5 [.int .u8 131, .int .u8 2] 2 rfl
  refine (HP2.out _ _ rd2).mono ?_
  rintro e w3 ⟨C3, m3, kC3, rfl, lC3, rC3, b3⟩
  obtain rfl : 0 = m3 := rC3.1
  have b3' : Below w2.heap.size w2 w3 := below_on c2 b3
  have J3 := hide (((Blk.new w2 40 [.slice C2 2 kC2, .int .i64 0]).al (.cells #[.int .u8 131, .int .u8 2] 5)).keep b3)
  have L3 := hide (below_on L2.out b3')
  have R3 := hide (R2.out.keep b3')
  have RC3 := hide (RC'.out.keep b3')
  clear k0 k1 k2 k3 k4 k5 k6 b3 b3' rC3 K2 L2 RC' R2 rd2 c2 hw2
  go_wp2_with fail
  have c3 : Below w3.heap.size w3 ((w3.alloc (.cells #[.slice C3 0 kC3, .int .i64 2] 40)).alloc (.cells #[.int .u8 5, .int .u8 0, .int .u8 1, .int .u8 0, .int .u8 1] 5)) := ((Below.refl _ _).alloc (Nat.le_refl _) _).alloc (by simp) _
  have rd3 := rd_new (w3.alloc (.cells #[.slice C3 0 kC3, .int .i64 2] 40)) (w3.heap.size + 1) (by simp) 5 [.int .u8 5, .int .u8 0, .int .u8 1, .int .u8 0, .int .u8 1] 5 rfl
  refine (HP3.out _ _ rd3).mono ?_
  rintro e w4 ⟨C4, m4, kC4, rfl, lC4, rC4, b4⟩
  have b4' : Below w3.heap.size w3 w4 := below_on c3 b4
  have I4 := hide (((Blk.new w3 40 [.slice C3 0 kC3, .int .i64 2]).al (.cells #[.int .u8 5, .int .u8 0, .int .u8 1, .int .u8 0, .int .u8 1] 5)).keep b4)
  have J4 := hide (J3.out.keep b4')
  have L4 := hide (below_on L3.out b4')
  have R4 := hide (R3.out.keep b4')
  have RC4 := RC3.out.keep b4'
  clear b4 b4' rC4 L3 R3 RC3 J3 rd3 c3
  have hcv := strOn RC4
  have hcw : ∀ (o : Obj) (c : Nat), (convert 28 9 (.slice C 5 c)).run Try.prog (w4.alloc o) = .ok (.string (str [3, 0, 16, 0, 2])) (w4.alloc o) := fun o => hcv (w4.alloc o) ((Below.refl _ _).alloc (Nat.le_refl _) _)
  have hz2 := J4.out.lt
  have hz3 := I4.out.lt
  clear hcv RC4
  obtain ⟨j0, j1⟩ := J4.out.two
  obtain ⟨i0, i1⟩ := I4.out.two
  have HI := hide (fun W B (h1 : Rd W C2 2 (iv [1, 2])) (h2 : Rd W B 2 (iv [1, 2])) => ints_any C2 B 2 2 kC2 2 [1, 2] [1, 2] W h1 h2 (by omega) (by omega))
  simp only [decide_true] at HI
  go_wp2_with fail
  generalize hX : w4.alloc _ = X
  have c4 : Below w4.heap.size w4 X := by subst hX; exact (Below.refl _ _).alloc (Nat.le_refl _) _
  have e4 : w4.heap.size + 1 = X.heap.size := by subst hX; simp
  clear hX
  have c5 : Below w4.heap.size w4 (X.alloc (.cells #[.int .i64 1, .int .i64 2] 3)) := c4.alloc c4.size _
  refine (HI.out _ _ (R4.out.keep c5) (rd_new X _ e4 3 [.int .i64 1, .int .i64 2] 2 rfl)).mono ?_
  rintro e w5 ⟨rfl, nq, rfl⟩
  have L5 := hide (below_drewN (below_on L4.out c5) nq)
  obtain ⟨i0, i1⟩ := (I4.out.keep (below_drewN c5 nq)).two
  clear j0 j1 c4 c5 e4 hcw
  go_wp2
  go_ret
  exact ⟨rfl, L5.out⟩

end Go.Proofs.Ytemlfhoejelgbaa
