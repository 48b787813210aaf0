/-
  What is proved here: what the document's own functions of layer 1 (Pack, Unpack) return. Conditions: lengths up to some hundred thousand where memory is made.
-/
import Derived.Test.YtnialjikpoembaaInfo
import Derived.Test.YtnialjikpoembaaBitsMath
import Derived.LoopTactic
namespace Go.Proofs.Ytnialjikpoembaa
set_option linter.unusedVariables false
set_option linter.unusedSimpArgs false
open Go.RowKit

set_option maxHeartbeats 800000 in
theorem refPack_any (A : Option Addr) (n c m : Nat) (xs : List Int) (w : World) (h : Rd w A n (iv xs)) (hn : n ≤ 100000) (hb : bitsB xs = true) (hm1 : n ≤ 8 * m) (hm2 : 8 * m < n + 8) :
    Calls Try.prog 51 #[.slice A n c] w (RetSl m (bv (pkTo xs m n)) w) := by
  have hl : xs.length = n := by rw [← iv_length]; exact h.1
  have HB := hide hb
  have Hl := hide hl
  clear hl hb
  go_enter Try.func51, Try.ntmps51
  go_wp2
  go_loopw [3, 4] (fun v i wr => ∃ (j : Nat) (C : Option Addr) (k : Nat), 8 * j < n + 8 ∧ i = .int .i64 ((8 * j : Nat) : Int) ∧ v = .slice C j k ∧ wr.ownsRow w.heap.size 5 1 (.slice C j k) j (bv (pkTo xs j n)) ∧ Below w.heap.size w wr) (fun _ i _ => n + 8 - (intOf i).toNat)
  case atStart => exact ⟨0, none, 0, by omega, rfl, rfl, World.ownsRow_nil _ _ _ _, Below.refl _ _⟩
  case round =>
    obtain ⟨j, C, k, hj, rfl, rfl, hown, hbel⟩ := hrel
    by_cases hlt : 8 * j < n
    · have q : 8 * (j : Int) < (n : Int) := by omega
      obtain ⟨T, hT1, hT2, hT3⟩ : ∃ T, T = min 8 (n - 8 * j) ∧ T ≤ 8 ∧ 8 * j + T ≤ n := ⟨min 8 (n - 8 * j), rfl, by omega, by omega⟩
      have hT4 : T = 8 ∨ 8 * j + T = n := by omega
      have HT := hide hT1
      have Hown := hide hown
      have Hbel := hide hbel
      clear hT1 hown hbel
      go_wp2
      go_loop [5, 6, 7] (fun a b d => ∃ (t B W : Nat), t ≤ T ∧ B = byteTo xs j t ∧ W = 2 ^ t ∧ a = .int .i64 (B : Int) ∧ b = .int .i64 (W : Int) ∧ d = .int .i64 ((8 * j + t : Nat) : Int)) (fun _ _ d => 8 * j + T - (intOf d).toNat)
      case atStart => exact ⟨0, 0, 1, Nat.zero_le _, rfl, rfl, rfl, rfl, rfl⟩
      case round =>
        obtain ⟨t, B, W, ht, hB, hW, rfl, rfl, rfl⟩ := hrel
        have hB1 : B < 2 ^ t := by rw [hB]; exact byteTo_lt xs HB.out j t
        have hW1 : W ≤ 256 := by rw [hW]; exact Nat.pow_le_pow_right (by decide) (by omega : t ≤ 8)
        have hB2 : B < 256 := by omega
        have HB' := hide hB
        have HW' := hide hW
        clear hB hW hB1
        by_cases htl : t < T
        · obtain ⟨b, o, rfl, hbl, hc⟩ := h.at_ (k := 8 * j + t) (by omega)
          have hlt' : 8 * j + t < xs.length := by rw [Hl.out]; omega
          have c0 := hc (8 * j + t) _ (iv_get xs (8 * j + t) hlt')
          have cA : wr.cell? ⟨b, o + (8 * j + t), none⟩ = some (.int .i64 xs[8 * j + t]) := (Hbel.out.cell (p := ⟨b, o + (8 * j + t), none⟩) hbl).trans c0
          have hbit : xs[8 * j + t] = 0 ∨ xs[8 * j + t] = 1 := by simpa using List.all_eq_true.1 HB.out xs[8 * j + t] (List.getElem_mem hlt')
          have Hba : Hid (bitAt xs (8 * j + t) = xs[8 * j + t].toNat) := by show _ = _; simp [bitAt, hlt']
          have q1 : 8 * (j : Int) + t < n := by omega
          have q2 : 8 * (j : Int) + t < 8 * j + 8 := by omega
          have Hc := hide c0
          clear hc c0 h
          generalize xs[8 * j + t] = z at *
          rcases hbit with rfl | rfl
          · go_wp2
            go_round
            case rel => exact ⟨t + 1, B, 2 * W, by omega, by rw [HB'.out, byteTo, Hba.out]; simp, by rw [HW'.out, Nat.pow_succ, Nat.mul_comm], rfl, by go_num, by go_num⟩
            case measure => simp [intOf]; omega
          · go_wp2
            go_round
            case rel => exact ⟨t + 1, B + W, 2 * W, by omega, by rw [HB'.out, byteTo, Hba.out, HW'.out]; simp, by rw [HW'.out, Nat.pow_succ, Nat.mul_comm], by go_num, by go_num, by go_num⟩
            case measure => simp [intOf]; omega
        · have et : t = T := by omega
          subst et
          have Hsn : Hid (bv (pkTo xs (j + 1) n) = bv (pkTo xs j n) ++ [.int .u8 (B : Int)]) := by
            show _ = _
            rw [pkTo_snoc, bv_append, ← HT.out, ← HB'.out, bv_byte B hB2]
          by_cases e : t = 8
          · subst e
            go_wp2_with (at_builtin; refine wpList_app rfl (.tmp 37) (.tmp 40) 38 rfl 5 _ _ Try.underlying38 u8_info rfl w.heap.size C j k _ rfl (Hown.out.alloc _) _ 1 1 [_] rfl (rd_one _ _ _) (by intro u hu; simp at hu; subst hu; rfl) (by unfold maxLen; omega) (by omega) (by have := Hbel.out.size; simp; omega) ?_; intro A3 c3 w3 o3 g3 b3; rw [← Hsn.out] at o3)
            exact ⟨⟨j + 1, A3, c3, by omega, by go_num, rfl, o3, ((Hbel.out.alloc Hbel.out.size _).trans b3)⟩, by simp [intOf]; omega⟩
          · have q1 : (t : Int) < 8 := by omega
            have q2 : decide (8 * (j : Int) + t < n) = false := by simp; omega
            clear e hT4
            go_wp2_with (at_builtin; refine wpList_app rfl (.tmp 37) (.tmp 40) 38 rfl 5 _ _ Try.underlying38 u8_info rfl w.heap.size C j k _ rfl (Hown.out.alloc _) _ 1 1 [_] rfl (rd_one _ _ _) (by intro u hu; simp at hu; subst hu; rfl) (by unfold maxLen; omega) (by omega) (by have := Hbel.out.size; simp; omega) ?_; intro A3 c3 w3 o3 g3 b3; rw [← Hsn.out] at o3)
            exact ⟨⟨j + 1, A3, c3, by omega, by go_num, rfl, o3, ((Hbel.out.alloc Hbel.out.size _).trans b3)⟩, by simp [intOf]; omega⟩
    · obtain rfl : j = m := by omega
      have q : ¬ 8 * (j : Int) < (n : Int) := by omega
      go_wp2
      go_ret
      exact ⟨C, k, rfl, own_cap hown, own_rd hown, hbel⟩

set_option maxHeartbeats 800000 in
theorem refUnpack_own (A : Option Addr) (l c n : Nat) (xs : List UInt8) (w : World) (h : Rd w A l (bv xs)) (hn : n ≤ 8 * l) (hl : l ≤ 100000) :
    Calls Try.prog 58 #[.slice A l c, .int .i64 (n : Int)] w (RetOwn 3 n (iv (unpackL xs n)) w) := by
  have hxl : xs.length = l := by rw [← bv_length]; exact h.1
  have Hxl := hide hxl
  clear hxl
  go_enter Try.func58, Try.ntmps58
  go_wp2
  go_loopw [5, 6] (fun v i wr => ∃ (j : Nat) (C : Option Addr) (k : Nat), j ≤ n ∧ i = .int .i64 (j : Int) ∧ v = .slice C j k ∧ wr.ownsRow w.heap.size 3 1 (.slice C j k) j (iv (unpackL xs j)) ∧ Below w.heap.size w wr) (fun _ i _ => n - (intOf i).toNat)
  case atStart => exact ⟨0, none, 0, by omega, rfl, rfl, World.ownsRow_nil _ _ _ _, Below.refl _ _⟩
  case round =>
    obtain ⟨j, C, k, hj, rfl, rfl, hown, hbel⟩ := hrel
    by_cases hlt : j < n
    · have hk8 : j / 8 < l := by omega
      obtain ⟨b, o, rfl, hbl, hc⟩ := h.at_ hk8
      have hlt' : j / 8 < xs.length := by rw [Hxl.out]; exact hk8
      have c0 := hc (j / 8) _ (bv_get xs (j / 8) hlt')
      have cA : wr.cell? ⟨b, o + j / 8, none⟩ = some (.int .u8 xs[j / 8].toNat) := (hbel.cell (p := ⟨b, o + j / 8, none⟩) hbl).trans c0
      have x1 : (j : Int) / 8 < (l : Int) := by omega
      have x2 : 0 ≤ (j : Int) / 8 := by omega
      have x3 : (0 : Int) ≤ (j : Int) % 8 := by omega
      have x5 : (j : Int) < (n : Int) := by omega
      have hx := xs[j / 8].toNat_lt
      have Hg := hide (show xs[j / 8]?.getD 0 = xs[j / 8] by simp [hlt'])
      generalize xs[j / 8] = X at *
      have Hown := hide hown
      have Hbel := hide hbel
      clear hown hbel c0 hc h
      go_wp2
      go_loop [7, 8] (fun a d => ∃ (t Y : Nat), t ≤ j % 8 ∧ Y = X.toNat / 2 ^ t ∧ a = .int .i64 (Y : Int) ∧ d = .int .i64 (t : Int)) (fun _ d => j % 8 - (intOf d).toNat)
      case atStart => exact ⟨0, X.toNat, Nat.zero_le _, by simp, rfl, rfl⟩
      case round =>
        obtain ⟨t, Y, ht, hY, rfl, rfl⟩ := hrel
        have hY1 : Y < 256 := by rw [hY]; exact Nat.lt_of_le_of_lt (Nat.div_le_self _ _) hx
        have HY := hide hY
        clear hY
        by_cases htl : t < j % 8
        · have q1 : (t : Int) < (j : Int) % 8 := by omega
          go_wp2
          go_round
          case rel => exact ⟨t + 1, Y / 2, by omega, by rw [HY.out, Nat.pow_succ, Nat.div_div_eq_div_mul], by go_num, by go_num⟩
          case measure => simp [intOf]; omega
        · obtain rfl : t = j % 8 := by omega
          have q1 : decide ((j : Int) % 8 < (j : Int) % 8) = false := by simp
          have Hsn : Hid (iv (unpackL xs (j + 1)) = iv (unpackL xs j) ++ [.int .i64 ((Y : Int) % 2)]) := by
            show _ = _
            rw [unpackL_succ, iv_append, Hg.out, bitOf, ← HY.out]
            simp [iv]
          go_wp2_with (at_builtin; refine wpList_app rfl (.tmp 28) (.tmp 31) 35 rfl 3 _ _ Try.underlying35 int_info rfl w.heap.size C j k _ rfl (Hown.out.alloc _) _ 1 1 [_] rfl (rd_one _ _ _) (by intro u hu; simp at hu; subst hu; rfl) (by unfold maxLen; omega) (by omega) (by have := Hbel.out.size; simp; omega) ?_; intro A3 c3 w3 o3 g3 b3; rw [← Hsn.out] at o3)
          exact ⟨⟨j + 1, A3, c3, by omega, by go_num, rfl, o3, ((Hbel.out.alloc Hbel.out.size _).trans b3)⟩, by simp [intOf]; omega⟩
    · obtain rfl : j = n := by omega
      have q : ¬ (j : Int) < (j : Int) := by omega
      go_wp2
      go_ret
      exact ⟨C, k, rfl, hown, hbel⟩

theorem refUnpack_any (A : Option Addr) (l c n : Nat) (xs : List UInt8) (w : World) (h : Rd w A l (bv xs)) (hn : n ≤ 8 * l) (hl : l ≤ 100000) :
    Calls Try.prog 58 #[.slice A l c, .int .i64 (n : Int)] w (RetSl n (iv (unpackL xs n)) w) :=
  (refUnpack_own A l c n xs w h hn hl).mono fun _ _ h => h.sl

end Go.Proofs.Ytnialjikpoembaa
