/-
  What is proved here: what the document's own mask of layer 4 answers. Conditions: words.
-/
import Derived.Test.YtohiblldhdglgaaRef4c
import Derived.Test.YtohiblldhdglgaaBox2
namespace Go.Proofs.Ytohiblldhdglgaa
set_option linter.unusedVariables false
set_option linter.unusedSimpArgs false
open Go.RowKit

theorem bv_two16 (x : Nat) (hx : x ≤ 65535) : bv (two16 x) = [.int .u8 ((x : Int) % 256), .int .u8 ((x : Int) / 256)] := by
  have a1 : (UInt8.ofNat (x % 256)).toNat = x % 256 := by rw [UInt8.toNat_ofNat']; exact Nat.mod_eq_of_lt (by omega)
  have a2 : (UInt8.ofNat (x / 256)).toNat = x / 256 := by rw [UInt8.toNat_ofNat']; exact Nat.mod_eq_of_lt (by omega)
  simp only [bv, two16, List.map_cons, List.map_nil, a1, a2]
  simp

set_option maxHeartbeats 1000000 in
theorem rMask_any (x an o : Nat) (hx : x ≤ 65535) (ha : an ≤ 65535) (ho : o ≤ 65535) (w : World) :
    Calls Try.prog 32 #[.int .i64 (x : Int), .int .i64 (an : Int), .int .i64 (o : Int)] w fun e w' => e = .returned (.int .i64 (maskI x an o)) ∧ Below w.heap.size w w' := by
  have HU := hide (fun (y : Nat) (hy : y ≤ 65535) (G : Nat) W (hB : Blk W G 5 [.int .u8 ((y : Int) % 256), .int .u8 ((y : Int) / 256)]) => refUnpack_own (some ⟨G, 0, none⟩) 2 2 16 (two16 y) W (by rw [bv_two16 y hy]; exact hB.rd) (by omega) (by omega))
  go_enter Try.func32, Try.ntmps32
  go_wp2_with fail
  generalize hV : w.alloc _ = V1
  obtain ⟨zV, bV⟩ := box1 w 5 _ V1 hV.symm
  refine (HU.out an ha _ V1 zV).mono ?_
  rintro e w1 ⟨C1, k1, rfl, own1, b1⟩
  have R1 := hide (own_rd own1)
  have L1 := hide (below_on bV b1)
  clear hV zV bV own1 b1
  go_wp2_with fail
  generalize hV : w1.alloc _ = V2
  obtain ⟨zV, bV⟩ := box1 w1 5 _ V2 hV.symm
  refine (HU.out o ho _ V2 zV).mono ?_
  rintro e w2 ⟨C2, k2, rfl, own2, b2⟩
  have R2 := hide (own_rd own2)
  have R1' := hide (R1.out.keep (below_on bV b2))
  have L2 := hide (below_on (below_on L1.out bV) b2)
  clear hV zV bV own2 b2
  go_wp2_with fail
  generalize hV : w2.alloc _ = V3
  obtain ⟨zV, bV⟩ := box1 w2 5 _ V3 hV.symm
  refine (HU.out x hx _ V3 zV).mono ?_
  rintro e w3 ⟨C3, k3, rfl, own3, b3⟩
  have R3 := hide (own_rd own3)
  have R2' := hide (R2.out.keep (below_on bV b3))
  have R1'' := hide (R1'.out.keep (below_on bV b3))
  have L3 := hide (below_on (below_on L2.out bV) b3)
  clear hV zV bV own3 b3 R1 R2 R1' L1 L2
  have HX := hide (two16_get x hx)
  have HA := hide (two16_get an ha)
  have HO := hide (two16_get o ho)
  have HB := hide (fun i hi => mask_bit x an o i hi ha)
  have HT := hide (mask_lt x an o hx ho)
  have HI : Hid (maskI x an o = (((x &&& an) ||| (o &&& (65535 - an)) : Nat) : Int)) := by show _ = _; simp [maskI]
  generalize ((x &&& an) ||| (o &&& (65535 - an))) = M at *
  go_wp2_with fail
  go_loopw [10, 11] (fun y i wr => ∃ (j q : Nat), j ≤ 16 ∧ i = .int .i64 ((j : Int) - 1) ∧ y = .int .i64 ((M / 2 ^ j : Nat) : Int) ∧ wr = w3.drewN q) (fun _ i _ => (intOf i + 1).toNat)
  case atStart => exact ⟨16, 0, by omega, rfl, by rw [Nat.div_eq_of_lt HT.out]; rfl, rfl⟩
  case round =>
    obtain ⟨j, r, hj, rfl, rfl, rfl⟩ := hrel
    by_cases hj0 : j = 0
    · subst hj0
      have ez : M / 2 ^ 0 = M := by simp
      have EZ := hide ez
      clear ez
      go_wp2
      go_ret
      exact ⟨by show Ending.returned (.int .i64 ((M / 2 ^ 0 : Nat) : Int)) = .returned (.int .i64 (maskI x an o)); rw [HI.out, EZ.out], below_drewN L3.out r⟩
    · obtain ⟨i, rfl⟩ : ∃ i, j = i + 1 := ⟨j - 1, by omega⟩
      have hi : i < 16 := by omega
      obtain ⟨ba, oa, rfl, _, hca⟩ := R1''.out.at_ hi
      obtain ⟨bo, oo, rfl, _, hco⟩ := R2'.out.at_ hi
      obtain ⟨bx, ox, rfl, _, hcx⟩ := R3.out.at_ hi
      have gv : ∀ (l : List Int) v, l[i]? = some v → (iv l)[i]? = some (.int .i64 v) := fun l v h => by simp [iv, h]
      have ca := hca i _ (gv _ _ (HA.out i hi))
      have co := hco i _ (gv _ _ (HO.out i hi))
      have cx := hcx i _ (gv _ _ (HX.out i hi))
      have hbit := HB.out i hi
      have hM := HT.out
      have hdiv : M / 2 ^ i = 2 * (M / 2 ^ (i + 1)) + M / 2 ^ i % 2 := by
        rw [Nat.pow_succ, ← Nat.div_div_eq_div_mul]
        omega
      have hle : M / 2 ^ (i + 1) < 65536 := Nat.lt_of_le_of_lt (Nat.div_le_self _ _) hM
      rw [hbit] at hdiv
      have m2 := Nat.mod_two_eq_zero_or_one (x / 2 ^ i)
      have m3 := Nat.mod_two_eq_zero_or_one (an / 2 ^ i)
      have m4 := Nat.mod_two_eq_zero_or_one (o / 2 ^ i)
      have HD := hide hdiv
      have ei : ((i + 1 : Nat) : Int) - 1 = (i : Int) := by omega
      rw [ei]
      clear hca hco hcx gv hbit hdiv hM ei
      generalize x / 2 ^ i % 2 = bq at *
      generalize an / 2 ^ i % 2 = br at *
      generalize o / 2 ^ i % 2 = bs at *
      generalize M / 2 ^ (i + 1) = Y at *
      generalize hZ : M / 2 ^ i = Z at *
      have HZ := hide hZ
      have q : decide (0 ≤ (i : Int)) = true := by simp
      have e0 : IntKind.i64.wrap (2 * (Y : Int)) = 2 * (Y : Int) := by rw [IntKind.wrap_i64]; omega
      clear hZ hj hj0
      rcases m2 with rfl | rfl <;> rcases m3 with rfl | rfl <;> rcases m4 with rfl | rfl
      all_goals
        have hi16 : (i : Int) < 16 := by omega
        go_wp2
        go_quiet (fail)
        go_wp2
        exact ⟨⟨i, r + nq, by omega, rfl, by rw [HZ.out]; exact congrArg (Value.int .i64) (by have := HD.out; omega), rfl⟩, by simp [intOf]⟩

end Go.Proofs.Ytohiblldhdglgaa
