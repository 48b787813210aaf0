/-
  What is proved here: the chapter's examples of layer 4, asked by 'awake', come out true in every world. No condition of its own.
-/
import Derived.Test.YtohiblldhdglgaaSlave8
import Derived.Test.YtohiblldhdglgaaDoMath
import Derived.Test.YtohiblldhdglgaaBox2
import Derived.Test.YtohiblldhdglgaaSame3
namespace Go.Proofs.Ytohiblldhdglgaa
set_option linter.unusedVariables false
set_option linter.unusedSimpArgs false
open Go.RowKit

def R40 : Nat → List Int := newR 2 3
def R41 : Nat → List Int := doR R40 16 1 2 [1, 2] 0 0 0
def R42 : Nat → List Int := doR R41 22 1 0 [] 0 0 7
theorem R40_well : wellR R40 := newR_well 2 3 (by omega) (by omega)
theorem m41 : mayB 16 1 2 [1, 2] 0 0 0 = true := by decide
theorem m42 : mayB 3 0 3 [] 0 0 0 = true := by decide
theorem m43 : mayB 3 2 2 [] 0 0 0 = true := by decide
theorem m44 : mayB 22 1 0 [] 0 0 7 = true := by decide
theorem R41_well : wellR R41 := well_do R40_well m41
theorem R42_well : wellR R42 := well_do R41_well m44
theorem v41 : doV R40 16 1 2 [1, 2] 0 0 0 = [] := by decide
theorem v42 : doV R41 3 0 3 [] 0 0 0 = [0, 1, 2] := by decide
theorem v43 : doV R41 3 2 2 [] 0 0 0 = [] := by decide
theorem v44 : doV R41 22 1 0 [] 0 0 7 = [] := by decide
theorem c41 : doC R40 16 1 2 2 0 = 0 := by decide
theorem c42 : doC R41 3 0 3 0 0 = 0 := by decide
theorem c43 : doC R41 3 2 2 0 0 = 2 := by decide
theorem c44 : doC R41 22 1 0 0 0 = 0 := by decide
theorem r42 : doR R41 3 0 3 [] 0 0 0 = R41 := by
  unfold doR
  split
  · rfl
  · rfl
theorem r43 : doR R41 3 2 2 [] 0 0 0 = R41 := by
  unfold doR
  split
  · rfl
  · rfl
theorem gv4 : getV R42 3 1 = 7 := by decide
theorem ge4 : getE R42 3 1 = 0 := by decide

set_option maxHeartbeats 1000000 in
theorem awake4_any (w : World) : Calls Try.prog 10 #[] w fun e w' => e = .returned (.bool true) ∧ Below w.heap.size w w' := by
  have HD1 := hide (fun (lo hi g : Nat) (b : Nat → Nat) (A : Option Addr) W h hr => sDo_ok lo hi g b R40 16 1 2 0 0 0 A 2 2 [1, 2] W h R40_well hr (by omega) m41)
  have HD2 := hide (fun (lo hi g : Nat) (b : Nat → Nat) W h => sDo_ok lo hi g b R41 3 0 3 0 0 0 none 0 0 [] W h R41_well (Rd.nil _ _) (by omega) m42)
  have HD3 := hide (fun (lo hi g : Nat) (b : Nat → Nat) W h => sDo_ok lo hi g b R41 3 2 2 0 0 0 none 0 0 [] W h R41_well (Rd.nil _ _) (by omega) m43)
  have HD4 := hide (fun (lo hi g : Nat) (b : Nat → Nat) W h => sDo_ok lo hi g b R41 22 1 0 0 0 7 none 0 0 [] W h R41_well (Rd.nil _ _) (by omega) m44)
  have HG := hide (fun (lo hi g : Nat) (b : Nat → Nat) W h => sGet_any lo hi g b R42 3 1 W h R42_well)
  simp only [v41, c41, show ((2 : Nat) : Int) = 2 from rfl] at HD1
  simp only [v42, c42, r42, show ((0 : Nat) : Int) = 0 from rfl] at HD2
  simp only [v43, c43, r43, show ((0 : Nat) : Int) = 0 from rfl] at HD3
  simp only [v44, c44, show ((0 : Nat) : Int) = 0 from rfl] at HD4
  simp only [gv4, ge4] at HG
  go_enter Try.func10, Try.ntmps10
  go_wp2_with fail
  refine (sNew_ok 2 3 2 3 rfl rfl (by omega) (by omega) _).mono ?_
  rintro e w1 ⟨g, b, rfl, s1, b1⟩
  have S1 := hide s1
  have B1 := hide b1
  clear s1 b1
  have hi0 := hide (show w1.heap.size ≤ w1.heap.size from Nat.le_refl _)
  go_wp2_with fail
  generalize hV : w1.alloc _ = V1
  have zA : Blk V1 w1.heap.size 3 (iv [1, 2]) := by subst hV; exact Blk.new w1 _ _
  have bA : Below w1.heap.size w1 V1 := by subst hV; exact (Below.refl _ _).alloc (Nat.le_refl _) _
  have L1 := hide (below_on B1.out bA)
  have q1 := hide bA.size
  clear hV
  refine (HD1.out _ _ _ _ _ _ (S1.out.keep bA) zA.rd).mono ?_
  rintro e w2 ⟨C2, m2, rfl, lm, rC, nC, sl, ot⟩
  clear zA bA
  have S2a := hide sl
  have L2a := hide (below_out L1.out ot (Nat.le_refl _) L1.out.size)
  have q2 := hide (Nat.le_trans q1.out ot.size)
  clear sl ot rC nC lm
  go_wp2_with fail
  generalize hV : w2.alloc _ = V2
  obtain ⟨zV, bV⟩ := box2 w2 _ _ _ V2 hV.symm
  have Z2 := hide zV
  have S2 := hide (S2a.out.keep bV)
  have L2 := hide (below_on L2a.out bV)
  have p2 := hide (Nat.le_trans q2.out bV.size)
  clear hV zV bV
  refine (HD2.out _ _ _ _ _ S2.out).mono ?_
  rintro e w3 ⟨C3, m3, rfl, lm, rC, nC, sl, ot⟩
  have S3a := hide sl
  have L3a := hide (below_out L2.out ot (Nat.le_refl _) L2.out.size)
  have Z2' := hide (Z2.out.out ot (Or.inr q2.out))
  have RC := hide rC
  have NC := hide nC
  have q3 := hide (Nat.le_trans p2.out ot.size)
  clear sl ot rC nC lm
  go_wp2_with fail
  generalize hV : w3.alloc _ = V3
  obtain ⟨zV, bV⟩ := box2 w3 _ _ _ V3 hV.symm
  have Z3 := hide zV
  have Z23 := hide (Z2'.out.keep bV)
  have RC3 := hide (RC.out.keep bV)
  have S3 := hide (S3a.out.keep bV)
  have L3 := hide (below_on L3a.out bV)
  have p3 := hide (Nat.le_trans q3.out bV.size)
  clear hV zV bV
  refine (HD3.out _ _ _ _ _ S3.out).mono ?_
  rintro e w4 ⟨C4, m4, rfl, lm, rC, nC, sl, ot⟩
  have S4a := hide sl
  have L4a := hide (below_out L3.out ot (Nat.le_refl _) L3.out.size)
  have Z24a := hide (Z23.out.out ot (Or.inr q2.out))
  have Z34a := hide (Z3.out.out ot (Or.inr q3.out))
  have RC4a := hide (RC3.out.out ot (fun b' o' e' => Or.inr (Nat.le_trans p2.out (NC.out b' o' e'))))
  have q4 := hide (Nat.le_trans p3.out ot.size)
  clear sl ot rC nC lm
  go_wp2_with fail
  generalize hV : w4.alloc _ = V4
  obtain ⟨zV, bV⟩ := box2 w4 _ _ _ V4 hV.symm
  have Z4 := hide zV
  have Z24 := hide (Z24a.out.keep bV)
  have Z34 := hide (Z34a.out.keep bV)
  have RC4 := hide (RC4a.out.keep bV)
  have S4 := hide (S4a.out.keep bV)
  have L4 := hide (below_on L4a.out bV)
  have p4 := hide (Nat.le_trans q4.out bV.size)
  clear hV zV bV
  refine (HD4.out _ _ _ _ _ S4.out).mono ?_
  rintro e w5 ⟨C5, m5, rfl, lm, rC, nC, sl, ot⟩
  have S5a := hide sl
  have L5a := hide (below_out L4.out ot (Nat.le_refl _) L4.out.size)
  have Z25a := hide (Z24.out.out ot (Or.inr q2.out))
  have Z35a := hide (Z34.out.out ot (Or.inr q3.out))
  have Z45a := hide (Z4.out.out ot (Or.inr q4.out))
  have RC5a := hide (RC4.out.out ot (fun b' o' e' => Or.inr (Nat.le_trans p2.out (NC.out b' o' e'))))
  have q5 := hide (Nat.le_trans p4.out ot.size)
  clear sl ot rC nC lm
  go_wp2_with fail
  generalize hV : w5.alloc _ = V5
  obtain ⟨zV, bV⟩ := box2 w5 _ _ _ V5 hV.symm
  have Z25 := hide (Z25a.out.keep bV)
  have Z35 := hide (Z35a.out.keep bV)
  have Z45 := hide (Z45a.out.keep bV)
  have RC5 := hide (RC5a.out.keep bV)
  have S5 := hide (S5a.out.keep bV)
  have L5 := hide (below_on L5a.out bV)
  clear hV zV bV
  refine (HG.out _ _ _ _ _ S5.out).mono ?_
  rintro e w6 ⟨rfl, b6⟩
  have Z26 := hide (Z25.out.keep b6)
  have Z36 := hide (Z35.out.keep b6)
  have Z46 := hide (Z45.out.keep b6)
  have RC6 := hide (RC5.out.keep b6)
  have L6 := hide (below_on L5.out b6)
  clear b6
  obtain ⟨a0, a1⟩ := Z26.out.two
  obtain ⟨b0, b1⟩ := Z36.out.two
  obtain ⟨c0, c1⟩ := Z46.out.two
  go_wp2_with fail
  generalize hV : w6.alloc _ = V6
  have zA : Blk V6 w6.heap.size 3 (iv [0, 1, 2]) := by subst hV; exact Blk.new w6 _ _
  have bA : Below w6.heap.size w6 V6 := by subst hV; exact (Below.refl _ _).alloc (Nat.le_refl _) _
  clear hV a0 a1 b0 b1 c0 c1
  refine (ints_any C3 _ 3 3 m3 3 [0, 1, 2] [0, 1, 2] V6 (RC6.out.keep bA) zA.rd (by omega) (by omega)).mono ?_
  rintro e w7 ⟨rfl, nq, rfl⟩
  rw [decide_eq_true rfl]
  have bU := below_on bA (below_drewN (Below.refl _ _) nq)
  generalize V6.drewN nq = U at *
  have Z27 := hide (Z26.out.keep bU)
  have Z37 := hide (Z36.out.keep bU)
  have Z47 := hide (Z46.out.keep bU)
  have L7 := hide (below_on L6.out bU)
  clear bU bA zA
  obtain ⟨a0, a1⟩ := Z27.out.two
  obtain ⟨b0, b1⟩ := Z37.out.two
  obtain ⟨c0, c1⟩ := Z47.out.two
  go_wp2
  go_ret
  exact ⟨rfl, L7.out⟩

end Go.Proofs.Ytohiblldhdglgaa
