/-
  What is proved here: what slave's masked, piece and read return. Conditions: words; spans that are there.
-/
import Derived.Test.YtohiblldhdglgaaSlave1
namespace Go.Proofs.Ytohiblldhdglgaa
set_option linter.unusedVariables false
set_option linter.unusedSimpArgs false
open Go.RowKit

theorem andNot16 (a b : Nat) (ha : a ≤ 65535) (hb : b ≤ 65535) : bits .andNot .i64 (a : Int) (b : Int) = ((a &&& (65535 - b) : Nat) : Int) := by
  show IntKind.i64.wrap ((BitVec.ofInt 64 (a : Int) &&& ~~~ (BitVec.ofInt 64 (b : Int))).toNat : Int) = _
  have e : (BitVec.ofInt 64 (a : Int) &&& ~~~ (BitVec.ofInt 64 (b : Int))).toNat = a &&& (65535 - b) := by
    rw [BitVec.toNat_and, BitVec.toNat_not, ofInt_i64 a (by omega), ofInt_i64 b (by omega)]
    apply Nat.eq_of_testBit_eq
    intro i
    rw [Nat.testBit_and, Nat.testBit_and]
    have h1 : (2 ^ 64 - 1 - b).testBit i = (decide (i < 64) && !b.testBit i) := by
      have := Nat.testBit_two_pow_sub_succ (x := b) (n := 64) (by omega) i
      rw [← this]
      congr 1
      omega
    have h2 : (65535 - b).testBit i = (decide (i < 16) && !b.testBit i) := by
      have := Nat.testBit_two_pow_sub_succ (x := b) (n := 16) (by omega) i
      rw [← this]
      congr 1
      omega
    rw [h1, h2]
    by_cases hi : i < 16
    · have : i < 64 := by omega
      simp [hi, this]
    · have h3 : a.testBit i = false := by
        apply Nat.testBit_lt_two_pow
        calc a < 2 ^ 16 := by omega
          _ ≤ 2 ^ i := Nat.pow_le_pow_right (by omega) (by omega)
      simp [h3]
  rw [e]
  have : a &&& (65535 - b) ≤ a := Nat.and_le_left
  rw [IntKind.wrap_i64]
  omega

theorem masked_any (x an o : Nat) (hx : x ≤ 65535) (ha : an ≤ 65535) (ho : o ≤ 65535) (w : World) :
    Calls Try.prog 38 #[.int .i64 (x : Int), .int .i64 (an : Int), .int .i64 (o : Int)] w fun e w' => e = .returned (.int .i64 (maskI x an o)) ∧ w = w' := by
  have e1 : bits .and .i64 (x : Int) (an : Int) = ((x &&& an : Nat) : Int) := i64_and_nat x an (by omega) (by omega)
  have e2 : bits .andNot .i64 (o : Int) (an : Int) = ((o &&& (65535 - an) : Nat) : Int) := andNot16 o an ho ha
  have l1 : x &&& an ≤ x := Nat.and_le_left
  have l2 : o &&& (65535 - an) ≤ o := Nat.and_le_left
  have e3 : bits .or .i64 ((x &&& an : Nat) : Int) ((o &&& (65535 - an) : Nat) : Int) = (((x &&& an) ||| (o &&& (65535 - an)) : Nat) : Int) := i64_or_nat _ _ (by omega) (by omega)
  have e4 : maskI x an o = (((x &&& an) ||| (o &&& (65535 - an)) : Nat) : Int) := by simp [maskI]
  rw [e4]
  clear e4 l1 l2
  go_enter Try.func38, Try.ntmps38
  go_wp2
  go_ret
  exact ⟨rfl, rfl⟩

theorem sPiece_any (lo hi g : Nat) (b : Nat → Nat) (R : Nat → List Int) (kind addr count : Int) (at_ cnt : Nat) (w : World) (h : SlA 58 lo hi w g b R) (ha : addr = (at_ : Int)) (hc : count = (cnt : Int)) (hR : (rowL R kind).length ≤ 65536) (hf : at_ + cnt ≤ (rowL R kind).length) :
    Calls Try.prog 37 #[.pointer (some ⟨g, 0, none⟩), .agg #[.int .i64 kind, .int .i64 addr, .int .i64 count]] w fun e w' => e = .returned (.slice (cutA (rowA b kind) at_ (rowL R kind).length) cnt ((rowL R kind).length - at_)) ∧ Below w.heap.size w w' := by
  subst ha hc
  have HR := hide (fun W (h : SlA 58 lo hi W g b R) => sRow_any lo hi g b R kind W h)
  generalize (rowL R kind).length = L at *
  generalize rowA b kind = A at *
  have e1 : IntKind.i64.wrap ((at_ : Int) + (cnt : Int)) = (at_ : Int) + (cnt : Int) := by rw [IntKind.wrap_i64]; omega
  have hsl := fun W => run_sl (P := Try.prog) 32 3 Try.underlying32 int_size A L L (at_ : Int) ((at_ : Int) + (cnt : Int)) at_ (at_ + cnt) rfl (by omega) (by omega) hf W
  rw [show at_ + cnt - at_ = cnt by omega] at hsl
  have b0 : Below w.heap.size w (w.alloc (.cells #[.int .i64 kind, .int .i64 (at_ : Int), .int .i64 (cnt : Int)] 62)) := (Below.refl _ _).alloc (Nat.le_refl _) _
  have B0 := hide b0
  have H0 := hide (h.keep b0)
  have K0 := hide (Blk.new w 62 [.int .i64 kind, .int .i64 (at_ : Int), .int .i64 (cnt : Int)])
  have k0 : ∀ w', Below (w.alloc (.cells #[.int .i64 kind, .int .i64 (at_ : Int), .int .i64 (cnt : Int)] 62)).heap.size (w.alloc (.cells #[.int .i64 kind, .int .i64 (at_ : Int), .int .i64 (cnt : Int)] 62)) w' → w'.cell? ⟨w.heap.size, 0, none⟩ = some (.int .i64 kind) := fun w' b => (K0.out.keep b).three.1
  have k1 : ∀ w', Below (w.alloc (.cells #[.int .i64 kind, .int .i64 (at_ : Int), .int .i64 (cnt : Int)] 62)).heap.size (w.alloc (.cells #[.int .i64 kind, .int .i64 (at_ : Int), .int .i64 (cnt : Int)] 62)) w' → w'.cell? ⟨w.heap.size, 1, none⟩ = some (.int .i64 (at_ : Int)) := fun w' b => (K0.out.keep b).three.2.1
  have k2 : ∀ w', Below (w.alloc (.cells #[.int .i64 kind, .int .i64 (at_ : Int), .int .i64 (cnt : Int)] 62)).heap.size (w.alloc (.cells #[.int .i64 kind, .int .i64 (at_ : Int), .int .i64 (cnt : Int)] 62)) w' → w'.cell? ⟨w.heap.size, 2, none⟩ = some (.int .i64 (cnt : Int)) := fun w' b => (K0.out.keep b).three.2.2
  clear b0 h
  go_enter Try.func37, Try.ntmps37
  go_wp2_with fail
  generalize w.alloc _ = W at *
  refine wp_region_held_drew (S := fun w' => Below W.heap.size W w') (by kernel_rfl) ?_ (fun hHeld => ?_)
  · exact (Below.refl _ _).drew
  refine wpAnyH_take (i := 0) (oi := { dst := some 5, op := _, type := _, pos := _, after := _, guard := _ }) (v := ?v1x1) rfl (by kernel_rfl) (by kernel_rfl) (by kernel_rfl) (fun _ _ _ h => h) (Or.inl ⟨by rfl, ?hy1x1⟩) hHeld ?rest1x1
  case hy1x1 => (intro w hSw; go_simp <;> with_reducible rfl)
  try simp only [Act.put, List.setIfInBounds_toArray, List.set_cons_zero, List.set_cons_succ]
  refine wpAnyH_take (i := 1) (oi := { dst := some 6, op := _, type := _, pos := _, after := _, guard := _ }) (v := ?v1x2) rfl (by kernel_rfl) (by kernel_rfl) (by kernel_rfl) (fun _ _ _ h => h) (Or.inl ⟨by rfl, ?hy1x2⟩) hHeld ?rest1x2
  case hy1x2 => (intro w hSw; go_simp <;> with_reducible rfl)
  try simp only [Act.put, List.setIfInBounds_toArray, List.set_cons_zero, List.set_cons_succ]
  refine wpAnyH_take (i := 2) (oi := { dst := some 7, op := _, type := _, pos := _, after := _, guard := _ }) (v := ?v1x3) rfl (by kernel_rfl) (by kernel_rfl) (by kernel_rfl) (fun _ _ _ h => h) (Or.inl ⟨by rfl, ?hy1x3⟩) hHeld ?rest1x3
  case hy1x3 => (intro w hSw; go_simp <;> with_reducible rfl)
  try simp only [Act.put, List.setIfInBounds_toArray, List.set_cons_zero, List.set_cons_succ]
  refine wpAnyH_take (i := 4) (oi := { dst := some 9, op := _, type := _, pos := _, after := _, guard := _ }) (v := ?v1x4) rfl (by kernel_rfl) (by kernel_rfl) (by kernel_rfl) (fun _ _ _ h => h) (Or.inl ⟨by rfl, ?hy1x4⟩) hHeld ?rest1x4
  case hy1x4 => (intro w hSw; go_simp <;> with_reducible rfl)
  try simp only [Act.put, List.setIfInBounds_toArray, List.set_cons_zero, List.set_cons_succ]
  refine wpAnyH_take (i := 5) (oi := { dst := some 10, op := _, type := _, pos := _, after := _, guard := _ }) (v := ?v1x5) rfl (by kernel_rfl) (by kernel_rfl) (by kernel_rfl) (fun _ _ _ h => h) (Or.inl ⟨by rfl, ?hy1x5⟩) hHeld ?rest1x5
  case hy1x5 => (intro w hSw; go_simp <;> with_reducible rfl)
  try simp only [Act.put, List.setIfInBounds_toArray, List.set_cons_zero, List.set_cons_succ]
  refine wpAnyH_take (i := 6) (oi := { dst := some 11, op := _, type := _, pos := _, after := _, guard := _ }) (v := ?v1x6) rfl (by kernel_rfl) (by kernel_rfl) (by kernel_rfl) (fun _ _ _ h => h) (Or.inl ⟨by rfl, ?hy1x6⟩) hHeld ?rest1x6
  case hy1x6 => (intro w hSw; go_simp <;> with_reducible rfl)
  try simp only [Act.put, List.setIfInBounds_toArray, List.set_cons_zero, List.set_cons_succ]
  refine wpAnyH_take (i := 7) (oi := { dst := some 12, op := _, type := _, pos := _, after := _, guard := _ }) (v := ?v1x7) rfl (by kernel_rfl) (by kernel_rfl) (by kernel_rfl) (fun _ _ _ h => h) (Or.inl ⟨by rfl, ?hy1x7⟩) hHeld ?rest1x7
  case hy1x7 => (intro w hSw; go_simp <;> with_reducible rfl)
  try simp only [Act.put, List.setIfInBounds_toArray, List.set_cons_zero, List.set_cons_succ]
  refine wpAnyH_take (i := 8) (oi := { dst := some 13, op := _, type := _, pos := _, after := _, guard := _ }) (v := ?v1x8) rfl (by kernel_rfl) (by kernel_rfl) (by kernel_rfl) (fun _ _ _ h => h) (Or.inl ⟨by rfl, ?hy1x8⟩) hHeld ?rest1x8
  case hy1x8 => (intro w hSw; go_simp <;> with_reducible rfl)
  try simp only [Act.put, List.setIfInBounds_toArray, List.set_cons_zero, List.set_cons_succ]
  refine wpAnyH_take (i := 9) (oi := { dst := some 14, op := _, type := _, pos := _, after := _, guard := _ }) (v := ?v1x9) rfl (by kernel_rfl) (by kernel_rfl) (by kernel_rfl) (fun _ _ _ h => h) (Or.inl ⟨by rfl, ?hy1x9⟩) hHeld ?rest1x9
  case hy1x9 => (intro w hSw; go_simp <;> with_reducible rfl)
  try simp only [Act.put, List.setIfInBounds_toArray, List.set_cons_zero, List.set_cons_succ]
  refine wpAnyH_take (i := 10) (oi := { dst := some 15, op := _, type := _, pos := _, after := _, guard := _ }) (v := ?v1x10) rfl (by kernel_rfl) (by kernel_rfl) (by kernel_rfl) (fun _ _ _ h => h) (Or.inl ⟨by rfl, ?hy1x10⟩) hHeld ?rest1x10
  case hy1x10 => (intro w hSw; go_simp <;> with_reducible rfl)
  try simp only [Act.put, List.setIfInBounds_toArray, List.set_cons_zero, List.set_cons_succ]
  refine wpAnyH_ready (rs := [3]) (by kernel_rfl) (by simp) (AllReadyH.cons (o := { dst := some 8, op := _, type := _, pos := _, after := _, guard := _ }) rfl (fun K hK => ?_) AllReadyH.nil)
  go_simp
  refine (HR.out _ (H0.out.keep hHeld)).mono ?_
  rintro e w1 ⟨rfl, rfl⟩
  go_wp2_with fail
  refine hK.out _ _ ?_ (fun hHeld => ?_)
  · exact hHeld
  clear hK K
  try simp only [Act.put, List.setIfInBounds_toArray, List.set_cons_zero, List.set_cons_succ]
  refine wpAnyH_take (i := 11) (oi := { dst := some 16, op := _, type := _, pos := _, after := _, guard := _ }) (v := ?v1x12) rfl (by kernel_rfl) (by kernel_rfl) (by kernel_rfl) (fun _ _ _ h => h) (Or.inl ⟨by rfl, ?hy1x12⟩) hHeld ?rest1x12
  case hy1x12 => (intro w hSw; go_simp <;> with_reducible rfl)
  try simp only [Act.put, List.setIfInBounds_toArray, List.set_cons_zero, List.set_cons_succ]
  refine wpAnyH_take (i := 12) (oi := { dst := some 4, op := _, type := _, pos := _, after := _, guard := _ }) (v := ?v1x13) rfl (by kernel_rfl) (by kernel_rfl) (by kernel_rfl) (fun _ _ _ h => h) (Or.inl ⟨by rfl, ?hy1x13⟩) hHeld ?rest1x13
  case hy1x13 => (intro w hSw; go_simp <;> with_reducible rfl)
  try simp only [Act.put, List.setIfInBounds_toArray, List.set_cons_zero, List.set_cons_succ]
  refine wpAnyH_done (by kernel_rfl) ?_ _
  go_wp2
  go_ret
  exact ⟨rfl, below_on B0.out hHeld⟩

end Go.Proofs.Ytohiblldhdglgaa
