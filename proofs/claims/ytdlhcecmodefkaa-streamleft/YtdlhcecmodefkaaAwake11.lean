/-
  What is proved here: the chapter's examples of layer 11, asked by 'awake', come out true in every world; StreamNil's walk. No condition.
-/
import Derived.Test.YtdlhcecmodefkaaSm3
import Derived.Test.YtdlhcecmodefkaaAwake10
namespace Go.Proofs.Ytdlhcecmodefkaa
set_option linter.unusedVariables false
set_option linter.unusedSimpArgs false
open Go.RowKit

theorem ex11_a : stNx 100 [192, 0] = .cut (zeroP 12) 2 := by
  have h : atR [192, 0] 1 = (0, 2, 0) := by decide
  unfold stNx
  rw [h]
  simp [ex_a]
theorem ex11_e : readP [224, 0] = some (zeroP 14) := by rw [← parseQ_eq]; decide
theorem ex11_b : stNx 100 [224, 0] = .cut (zeroP 14) 2 := by
  have h : atR [224, 0] 1 = (0, 2, 0) := by decide
  unfold stNx
  rw [h]
  simp [ex11_e]
theorem ex11_c : stNx 100 [193, 0] = .bad ∧ stC 100 [193, 0] = 100 := by
  have h : atR [193, 0] 1 = (0, 2, 0) := by decide
  unfold stNx stC
  rw [h]
  simp [ex_b]
theorem ex11_d : stNx 100 [48, 99] = .bad ∧ stC 100 [48, 99] = 101 := by
  have h : atR [48, 99] 1 = (99, 2, 0) := by decide
  unfold stNx stC
  rw [h]
  simp
theorem ex11_w : stNx 100 [192] = .wait := by
  have h : atR [192] 1 = (0, 0, 7) := by decide
  unfold stNx
  rw [h]
  simp
theorem ex11_1 : cutAll (stNx 100) [192] = ([], [192], false) := cutAll_wait _ (stCuts 100) ex11_w
theorem ex11_2 : cutAll (stNx 100) [192, 0, 224, 0] = ([zeroP 12, zeroP 14], [], false) := by
  rw [cutAll_cut [192, 0, 224, 0] (stCuts 100) (zeroP 12) 2 ((stCuts 100).on [192, 0] [224, 0] _ _ ex11_a)]
  rw [show List.drop 2 [192, 0, 224, 0] = [(224 : UInt8), 0] from rfl, cutAll_cut _ (stCuts 100) (zeroP 14) 2 ex11_b]
  rw [show List.drop 2 [224, 0] = ([] : List UInt8) from rfl, cutAll_wait _ (stCuts 100) (stCuts 100).nil]
theorem ex11_3 : cutAll (stNx 100) [48, 99] = ([], [48, 99], true) := cutAll_bad _ (stCuts 100) ex11_d.1
theorem ex11_4 : cutAll (stNx 100) [192, 0, 193, 0] = ([zeroP 12], [193, 0], true) := by
  rw [cutAll_cut [192, 0, 193, 0] (stCuts 100) (zeroP 12) 2 ((stCuts 100).on [192, 0] [193, 0] _ _ ex11_a)]
  rw [show List.drop 2 [192, 0, 193, 0] = [(193 : UInt8), 0] from rfl, cutAll_bad _ (stCuts 100) ex11_c.1]

theorem ex11_f1 : fdE11 100 [] none [192] = 0 ∧ fdT11 100 [] none [192] = [] ∧ fdL11 100 [] none [192] = [192] ∧ fdF11 100 [] none [192] = none := by
  simp [fdE11, fdT11, fdL11, fdF11, erP, toP, lfP, brP, ex11_1]
theorem ex11_f2 : fdE11 100 [192] none [0, 224, 0] = 0 ∧ fdT11 100 [192] none [0, 224, 0] = [zeroP 12, zeroP 14] := by
  simp [fdE11, fdT11, erP, toP, brP, ex11_2]
theorem ex11_f3 : fdE11 100 [] none [48, 99] = 101 := by
  simp [fdE11, erP, brP, ex11_3, ex11_d.2]
theorem ex11_f4 : fdE11 100 [] none [192, 0, 193, 0] = 100 ∧ fdT11 100 [] none [192, 0, 193, 0] = [zeroP 12] := by
  simp [fdE11, fdT11, erP, toP, brP, ex11_4, ex11_c.2]

set_option maxRecDepth 100000 in
set_option maxHeartbeats 4000000 in
theorem awake11_any (w : World) : Calls Try.prog 20 #[] w fun e w' => e = .returned (.bool true) ∧ Below w.heap.size w w' := by
  have PN := fun V => new11_any 100 V (by omega)
  go_enter Try.func20, Try.ntmps20
  go_wp2_with fail
  refine (PN w).mono ?_
  rintro e w1 ⟨g1, rfl, hg1, s1, b1⟩
  have S1 := hide s1
  have BW := hide b1
  have hl1 := S1.out.str.lt
  clear s1 b1
  go_wp2_with fail
  refine (PN w1).mono ?_
  rintro e w2 ⟨g2, rfl, hg2, s2, b2⟩
  have S2 := hide s2
  have S1 := hide (S1.out.keep b2)
  have BW := hide (below_on BW.out b2)
  have hl2 := S2.out.str.lt
  clear s2 b2
  go_wp2_with fail
  refine (PN w2).mono ?_
  rintro e w3 ⟨g3, rfl, hg3, s3, b3⟩
  have S3 := hide s3
  have S2 := hide (S2.out.keep b3)
  have S1 := hide (S1.out.keep b3)
  have BW := hide (below_on BW.out b3)
  have hl3 := S3.out.str.lt
  clear s3 b3 PN
  go_wp2_with fail
  generalize hV : w3.alloc _ = V
  have hz : w3.alloc (.cells (arr (bv [192])) 5) = V := hV
  have hB : Blk V w3.heap.size 5 (bv [192]) := by rw [← hz]; exact Blk.new w3 5 _
  have bV : Below w3.heap.size w3 V := by rw [← hz]; exact (Below.refl _ _).alloc (Nat.le_refl _) _
  have hR := hB.rd
  rw [bv_length] at hR
  have S1 := hide (S1.out.keep bV)
  have S2 := hide (S2.out.keep bV)
  have S3 := hide (S3.out.keep bV)
  have BW := hide (below_on BW.out bV)
  have hl1 := S1.out.str.lt
  have hl2 := S2.out.str.lt
  have hl3 := S3.out.str.lt
  have P := feed11_any g1 100 (by omega) none 0 [] none (some ⟨w3.heap.size, 0, none⟩) 1 1 [192] V S1.out hR (by simp)
  unfold RetFeed11 at P
  obtain ⟨f1, f2, f3, f4⟩ := ex11_f1
  rw [f1, f2, f3, f4] at P
  clear hV hz hB bV hR f1 f2 f3 f4
  refine P.mono ?_
  rintro e w4 ⟨O1, ok1, rs1, A1, k1, rfl, hm, -, -, -, s1, ha1, -, -, bb⟩
  obtain rfl : rs1 = [] := List.map_eq_nil_iff.1 hm
  have hbs := bb.size
  have hw3 := BW.out.size
  have S1 := hide s1
  have S2 := hide (S2.out.but bb (fun h => by rcases h with h | ⟨o, h⟩; omega; cases h) (Off.none_ _))
  have S3 := hide (S3.out.but bb (fun h => by rcases h with h | ⟨o, h⟩; omega; cases h) (Off.none_ _))
  have BW := hide (But.below BW.out bb (fun i h => by rcases h with h | ⟨o, h⟩; omega; cases h) hw3)
  have HA1 := hide (show ∀ i, SoB A1 i → g3 < i ∧ w.heap.size ≤ i from fun i ⟨o, e⟩ => by
    rcases ha1 with rfl | ha1
    · cases e
    · have := ha1 i o e
      omega)
  have hl1 := S1.out.str.lt
  have hl2 := S2.out.str.lt
  have hl3 := S3.out.str.lt
  clear P s1 ha1 bb hm hbs hw3
  have PL := left11_any g1 100 A1 k1 [192] none w4 S1.out
  go_wp2_with fail
  refine PL.mono ?_
  rintro e w5 ⟨rfl, rfl⟩
  clear PL
  go_wp2_with fail
  generalize hV : w4.alloc _ = V
  have hz : w4.alloc (.cells (arr (bv [0, 224, 0])) 5) = V := hV
  have hB : Blk V w4.heap.size 5 (bv [0, 224, 0]) := by rw [← hz]; exact Blk.new w4 5 _
  have bV : Below w4.heap.size w4 V := by rw [← hz]; exact (Below.refl _ _).alloc (Nat.le_refl _) _
  have hR := hB.rd
  rw [bv_length] at hR
  have S1 := hide (S1.out.keep bV)
  have S2 := hide (S2.out.keep bV)
  have S3 := hide (S3.out.keep bV)
  have BW := hide (below_on BW.out bV)
  have hl1 := S1.out.str.lt
  have hl2 := S2.out.str.lt
  have hl3 := S3.out.str.lt
  have P := feed11_any g1 100 (by omega) A1 k1 [192] none (some ⟨w4.heap.size, 0, none⟩) 3 3 [0, 224, 0] V S1.out hR (by simp)
  unfold RetFeed11 at P
  obtain ⟨f1, f2⟩ := ex11_f2
  rw [f1, f2] at P
  clear hV hz hB bV hR f1 f2
  refine P.mono ?_
  rintro e w6 ⟨O2, ok2, rs2, A2, k2, rfl, hm, -, -, -, -, -, -, -, bb⟩
  have hr2 : rs2.length = 2 := by have := congrArg List.length hm; simpa using this
  rw [hr2]
  have hbs := bb.size
  have hw3 := BW.out.size
  have S2 := hide (S2.out.but bb (fun h => by rcases h with h | h; omega; have := HA1.out _ h; omega) (Off.none_ _))
  have S3 := hide (S3.out.but bb (fun h => by rcases h with h | h; omega; have := HA1.out _ h; omega) (Off.none_ _))
  have BW := hide (But.below BW.out bb (fun i h => by rcases h with h | h; omega; have := HA1.out _ h; omega) hw3)
  clear P bb hm hbs hw3 hr2 S1 hl1 HA1
  go_wp2_with fail
  generalize hV : w6.alloc _ = V
  have hz : w6.alloc (.cells (arr (bv [48, 99])) 5) = V := hV
  have hB : Blk V w6.heap.size 5 (bv [48, 99]) := by rw [← hz]; exact Blk.new w6 5 _
  have bV : Below w6.heap.size w6 V := by rw [← hz]; exact (Below.refl _ _).alloc (Nat.le_refl _) _
  have hR := hB.rd
  rw [bv_length] at hR
  have S3 := hide (S3.out.keep bV)
  have BW := hide (below_on BW.out bV)
  have hl3 := S3.out.str.lt
  have S2 := hide (S2.out.keep bV)
  have P := feed11_any g2 100 (by omega) none 0 [] none (some ⟨w6.heap.size, 0, none⟩) 2 2 [48, 99] V S2.out hR (by simp)
  unfold RetFeed11 at P
  rw [ex11_f3] at P
  clear hV hz hB bV hR
  refine P.mono ?_
  rintro e w7 ⟨O3, ok3, rs3, A3, k3, rfl, -, -, -, -, -, -, -, -, bb⟩
  have hw3 := BW.out.size
  have S3 := hide (S3.out.but bb (fun h => by rcases h with h | ⟨o, h⟩; omega; cases h) (Off.none_ _))
  have BW := hide (But.below BW.out bb (fun i h => by rcases h with h | ⟨o, h⟩; omega; cases h) hw3)
  clear P bb hw3 S2 hl2
  go_wp2_with fail
  generalize hV : w7.alloc _ = V
  have hz : w7.alloc (.cells (arr (bv [192, 0, 193, 0])) 5) = V := hV
  have hB : Blk V w7.heap.size 5 (bv [192, 0, 193, 0]) := by rw [← hz]; exact Blk.new w7 5 _
  have bV : Below w7.heap.size w7 V := by rw [← hz]; exact (Below.refl _ _).alloc (Nat.le_refl _) _
  have hR := hB.rd
  rw [bv_length] at hR
  have S3 := hide (S3.out.keep bV)
  have BW := hide (below_on BW.out bV)
  have hl3 := S3.out.str.lt
  have P := feed11_any g3 100 (by omega) none 0 [] none (some ⟨w7.heap.size, 0, none⟩) 4 4 [192, 0, 193, 0] V S3.out hR (by simp)
  unfold RetFeed11 at P
  obtain ⟨f1, f2⟩ := ex11_f4
  rw [f1, f2] at P
  clear hV hz hB bV hR f1 f2
  refine P.mono ?_
  rintro e w8 ⟨O4, ok4, rs4, A4, k4, rfl, hm, -, -, -, -, -, -, -, bb⟩
  have hr4 : rs4.length = 1 := by have := congrArg List.length hm; simpa using this
  rw [hr4]
  have hw3 := BW.out.size
  have BW := hide (But.below BW.out bb (fun i h => by rcases h with h | ⟨o, h⟩; omega; cases h) hw3)
  clear P bb hw3 S3 hl3 hm hr4
  go_wp2_with fail
  go_ret
  exact ⟨by first | rfl | simp, BW.out⟩

set_option maxRecDepth 100000 in
theorem nil11_walk (B : Option Addr) (m d : Nat) (w : World) : Calls Try.prog 8 #[.slice B m d] w fun e w' => e = .returned (.bool true) ∧ Below w.heap.size w w' := by
  have P1 := feed11_nil B m d w
  have AW := awake11_any w
  go_enter Try.func8, Try.ntmps8
  go_wp2_with fail
  refine P1.mono ?_
  rintro e w1 ⟨rfl, rfl⟩
  go_wp2_with fail
  refine AW.mono ?_
  rintro e w2 ⟨rfl, b2⟩
  have PL := left11_nil w2
  go_wp2_with fail
  refine PL.mono ?_
  rintro e w3 ⟨rfl, rfl⟩
  go_wp2_with fail
  go_ret
  exact ⟨rfl, b2⟩

end Go.Proofs.Ytdlhcecmodefkaa
