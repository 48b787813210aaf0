/-
  What is proved here: what the document's own functions of layer 1 (Is, Both) return. Conditions: lengths up to some hundred thousand where memory is made. ALSO: what the document's own functions of layer 1 (Pack, Unpack) return. Conditions: lengths up to some hundred thousand where memory is made. ALSO: what the document's own functions of layer 1 return. Conditions: lengths up to some hundred thousand where memory is made.
-/
import Derived.Test.YtfpfijggmfeejaaInfo
import Derived.Test.YtfpfijggmfeejaaBitsMath
import Derived.LoopTactic
import Derived.Test.YtfpfijggmfeejaaWire
namespace Go.Proofs.Ytfpfijggmfeejaa
set_option linter.unusedVariables false
set_option linter.unusedSimpArgs false
open Go.RowKit

theorem is_yes (n : Nat) (hn : n ≤ 65535) (w : World) : Calls Try.prog 40 #[.int .i64 (n : Int)] w fun e w' => e = .returned (.bool true) ∧ w = w' := by
  have q0 : (0 : Int) ≤ (n : Int) := by omega
  have q1 : (n : Int) ≤ 65535 := by omega
  go_enter Try.func40, Try.ntmps40
  go_wp2
  go_ret
  exact ⟨rfl, rfl⟩
theorem is_no (n : Int) (hn : n < 0 ∨ 65535 < n) (w : World) : Calls Try.prog 40 #[.int .i64 n] w fun e w' => e = .returned (.bool false) ∧ w = w' := by
  rcases hn with hn | hn
  · have q0 : decide ((0 : Int) ≤ n) = false := by simpa using hn
    go_enter Try.func40, Try.ntmps40
    go_wp2
    go_ret
    exact ⟨rfl, rfl⟩
  · have q0 : (0 : Int) ≤ n := by omega
    have q1 : decide (n ≤ 65535) = false := by simpa using hn
    go_enter Try.func40, Try.ntmps40
    go_wp2
    go_ret
    exact ⟨rfl, rfl⟩

/-- Both: in memory of its own. -/
theorem both_any (A B : Option Addr) (n m c d : Nat) (xs ys : List UInt8) (w : World) (h1 : Rd w A n (bv xs)) (h2 : Rd w B m (bv ys)) (hn : n ≤ 200000) (hm : m ≤ 200000) :
    Calls Try.prog 65 #[.slice A n c, .slice B m d] w (RetSl (n + m) (bv (xs ++ ys)) w) := by
  go_enter Try.func65, Try.ntmps65
  go_wp2_with (first
    | (at_builtin; refine wpList_app rfl (.tmp 6) (.tmp 7) 38 rfl 5 _ _ Try.underlying38 u8_info rfl w.heap.size none 0 0 [] rfl (World.ownsRow_nil _ _ _ _) A n c (bv xs) rfl h1 (bv_one _) (by unfold maxLen; omega) (by omega) (Nat.le_refl _) ?_; intro A1 c1 w1 o1 g1 b1; rw [Nat.zero_add, List.nil_append] at o1)
    | (at_builtin; refine wpList_app rfl (.tmp 9) (.tmp 10) 38 rfl 5 _ _ Try.underlying38 u8_info rfl w.heap.size A1 n c1 (bv xs) rfl o1 B m d (bv ys) rfl (h2.keep b1) (bv_one _) (by unfold maxLen; omega) (by omega) b1.size ?_; intro A2 c2 w2 o2 g2 b2; rw [← bv_append] at o2))
  go_ret
  exact ⟨A2, c2, rfl, own_cap o2, own_rd o2, b1.trans b2⟩

end Go.Proofs.Ytfpfijggmfeejaa

namespace Go.Proofs.Ytfpfijggmfeejaa
set_option linter.unusedVariables false
set_option linter.unusedSimpArgs false
open Go.RowKit

set_option maxHeartbeats 800000 in
theorem refPack_any (A : Option Addr) (n c m : Nat) (xs : List Int) (w : World) (h : Rd w A n (iv xs)) (hn : n ≤ 100000) (hb : bitsB xs = true) (hm1 : n ≤ 8 * m) (hm2 : 8 * m < n + 8) :
    Calls Try.prog 48 #[.slice A n c] w (RetSl m (bv (pkTo xs m n)) w) := by
  have hl : xs.length = n := by rw [← iv_length]; exact h.1
  have HB := hide hb
  have Hl := hide hl
  clear hl hb
  go_enter Try.func48, Try.ntmps48
  go_wp2
  go_loopw [3, 4] (fun v i wr => ∃ (j : Nat) (C : Option Addr) (k : Nat), 8 * j < n + 8 ∧ i = .int .i64 ((8 * j : Nat) : Int) ∧ v = .slice C j k ∧ wr.ownsRow w.heap.size 5 1 (.slice C j k) j (bv (pkTo xs j n)) ∧ Below w.heap.size w wr) (fun _ i _ => n + 8 - (intOf i).toNat)
  case atStart => exact ⟨0, none, 0, by omega, rfl, rfl, World.ownsRow_nil _ _ _ _, Below.refl _ _⟩
  case round =>
    obtain ⟨j, C, k, hj, rfl, rfl, hown, hbel⟩ := hrel
    by_cases hlt : 8 * j < n
    · have q : 8 * (j : Int) < (n : Int) := by omega
      obtain ⟨T, hT1, hT2, hT3⟩ : ∃ T, T = min 8 (n - 8 * j) ∧ T ≤ 8 ∧ 8 * j + T ≤ n := ⟨min 8 (n - 8 * j), rfl, by omega, by omega⟩
      have hT4 : T = 8 ∨ 8 * j + T = n := by omega
      have HT := hide hT1
      have Hown := hide hown
      have Hbel := hide hbel
      clear hT1 hown hbel
      go_wp2
      go_loop [5, 6, 7] (fun a b d => ∃ (t B W : Nat), t ≤ T ∧ B = byteTo xs j t ∧ W = 2 ^ t ∧ a = .int .i64 (B : Int) ∧ b = .int .i64 (W : Int) ∧ d = .int .i64 ((8 * j + t : Nat) : Int)) (fun _ _ d => 8 * j + T - (intOf d).toNat)
      case atStart => exact ⟨0, 0, 1, Nat.zero_le _, rfl, rfl, rfl, rfl, rfl⟩
      case round =>
        obtain ⟨t, B, W, ht, hB, hW, rfl, rfl, rfl⟩ := hrel
        have hB1 : B < 2 ^ t := by rw [hB]; exact byteTo_lt xs HB.out j t
        have hW1 : W ≤ 256 := by rw [hW]; exact Nat.pow_le_pow_right (by decide) (by omega : t ≤ 8)
        have hB2 : B < 256 := by omega
        have HB' := hide hB
        have HW' := hide hW
        clear hB hW hB1
        by_cases htl : t < T
        · obtain ⟨b, o, rfl, hbl, hc⟩ := h.at_ (k := 8 * j + t) (by omega)
          have hlt' : 8 * j + t < xs.length := by rw [Hl.out]; omega
          have c0 := hc (8 * j + t) _ (iv_get xs (8 * j + t) hlt')
          have cA : wr.cell? ⟨b, o + (8 * j + t), none⟩ = some (.int .i64 xs[8 * j + t]) := (Hbel.out.cell (p := ⟨b, o + (8 * j + t), none⟩) hbl).trans c0
          have hbit : xs[8 * j + t] = 0 ∨ xs[8 * j + t] = 1 := by simpa using List.all_eq_true.1 HB.out xs[8 * j + t] (List.getElem_mem hlt')
          have Hba : Hid (bitAt xs (8 * j + t) = xs[8 * j + t].toNat) := by show _ = _; simp [bitAt, hlt']
          have q1 : 8 * (j : Int) + t < n := by omega
          have q2 : 8 * (j : Int) + t < 8 * j + 8 := by omega
          have Hc := hide c0
          clear hc c0 h
          generalize xs[8 * j + t] = z at *
          rcases hbit with rfl | rfl
          · go_wp2
            go_round
            case rel => exact ⟨t + 1, B, 2 * W, by omega, by rw [HB'.out, byteTo, Hba.out]; simp, by rw [HW'.out, Nat.pow_succ, Nat.mul_comm], rfl, by go_num, by go_num⟩
            case measure => simp [intOf]; omega
          · go_wp2
            go_round
            case rel => exact ⟨t + 1, B + W, 2 * W, by omega, by rw [HB'.out, byteTo, Hba.out, HW'.out]; simp, by rw [HW'.out, Nat.pow_succ, Nat.mul_comm], by go_num, by go_num, by go_num⟩
            case measure => simp [intOf]; omega
        · have et : t = T := by omega
          subst et
          have Hsn : Hid (bv (pkTo xs (j + 1) n) = bv (pkTo xs j n) ++ [.int .u8 (B : Int)]) := by
            show _ = _
            rw [pkTo_snoc, bv_append, ← HT.out, ← HB'.out, bv_byte B hB2]
          by_cases e : t = 8
          · subst e
            go_wp2_with (at_builtin; refine wpList_app rfl (.tmp 37) (.tmp 40) 38 rfl 5 _ _ Try.underlying38 u8_info rfl w.heap.size C j k _ rfl (Hown.out.alloc _) _ 1 1 [_] rfl (rd_one _ _ _) (by intro u hu; simp at hu; subst hu; rfl) (by unfold maxLen; omega) (by omega) (by have := Hbel.out.size; simp; omega) ?_; intro A3 c3 w3 o3 g3 b3; rw [← Hsn.out] at o3)
            exact ⟨⟨j + 1, A3, c3, by omega, by go_num, rfl, o3, ((Hbel.out.alloc Hbel.out.size _).trans b3)⟩, by simp [intOf]; omega⟩
          · have q1 : (t : Int) < 8 := by omega
            have q2 : decide (8 * (j : Int) + t < n) = false := by simp; omega
            clear e hT4
            go_wp2_with (at_builtin; refine wpList_app rfl (.tmp 37) (.tmp 40) 38 rfl 5 _ _ Try.underlying38 u8_info rfl w.heap.size C j k _ rfl (Hown.out.alloc _) _ 1 1 [_] rfl (rd_one _ _ _) (by intro u hu; simp at hu; subst hu; rfl) (by unfold maxLen; omega) (by omega) (by have := Hbel.out.size; simp; omega) ?_; intro A3 c3 w3 o3 g3 b3; rw [← Hsn.out] at o3)
            exact ⟨⟨j + 1, A3, c3, by omega, by go_num, rfl, o3, ((Hbel.out.alloc Hbel.out.size _).trans b3)⟩, by simp [intOf]; omega⟩
    · obtain rfl : j = m := by omega
      have q : ¬ 8 * (j : Int) < (n : Int) := by omega
      go_wp2
      go_ret
      exact ⟨C, k, rfl, own_cap hown, own_rd hown, hbel⟩

set_option maxHeartbeats 800000 in
theorem refUnpack_own (A : Option Addr) (l c n : Nat) (xs : List UInt8) (w : World) (h : Rd w A l (bv xs)) (hn : n ≤ 8 * l) (hl : l ≤ 100000) :
    Calls Try.prog 55 #[.slice A l c, .int .i64 (n : Int)] w (RetOwn 3 n (iv (unpackL xs n)) w) := by
  have hxl : xs.length = l := by rw [← bv_length]; exact h.1
  have Hxl := hide hxl
  clear hxl
  go_enter Try.func55, Try.ntmps55
  go_wp2
  go_loopw [5, 6] (fun v i wr => ∃ (j : Nat) (C : Option Addr) (k : Nat), j ≤ n ∧ i = .int .i64 (j : Int) ∧ v = .slice C j k ∧ wr.ownsRow w.heap.size 3 1 (.slice C j k) j (iv (unpackL xs j)) ∧ Below w.heap.size w wr) (fun _ i _ => n - (intOf i).toNat)
  case atStart => exact ⟨0, none, 0, by omega, rfl, rfl, World.ownsRow_nil _ _ _ _, Below.refl _ _⟩
  case round =>
    obtain ⟨j, C, k, hj, rfl, rfl, hown, hbel⟩ := hrel
    by_cases hlt : j < n
    · have hk8 : j / 8 < l := by omega
      obtain ⟨b, o, rfl, hbl, hc⟩ := h.at_ hk8
      have hlt' : j / 8 < xs.length := by rw [Hxl.out]; exact hk8
      have c0 := hc (j / 8) _ (bv_get xs (j / 8) hlt')
      have cA : wr.cell? ⟨b, o + j / 8, none⟩ = some (.int .u8 xs[j / 8].toNat) := (hbel.cell (p := ⟨b, o + j / 8, none⟩) hbl).trans c0
      have x1 : (j : Int) / 8 < (l : Int) := by omega
      have x2 : 0 ≤ (j : Int) / 8 := by omega
      have x3 : (0 : Int) ≤ (j : Int) % 8 := by omega
      have x5 : (j : Int) < (n : Int) := by omega
      have hx := xs[j / 8].toNat_lt
      have Hg := hide (show xs[j / 8]?.getD 0 = xs[j / 8] by simp [hlt'])
      generalize xs[j / 8] = X at *
      have Hown := hide hown
      have Hbel := hide hbel
      clear hown hbel c0 hc h
      go_wp2
      go_loop [7, 8] (fun a d => ∃ (t Y : Nat), t ≤ j % 8 ∧ Y = X.toNat / 2 ^ t ∧ a = .int .i64 (Y : Int) ∧ d = .int .i64 (t : Int)) (fun _ d => j % 8 - (intOf d).toNat)
      case atStart => exact ⟨0, X.toNat, Nat.zero_le _, by simp, rfl, rfl⟩
      case round =>
        obtain ⟨t, Y, ht, hY, rfl, rfl⟩ := hrel
        have hY1 : Y < 256 := by rw [hY]; exact Nat.lt_of_le_of_lt (Nat.div_le_self _ _) hx
        have HY := hide hY
        clear hY
        by_cases htl : t < j % 8
        · have q1 : (t : Int) < (j : Int) % 8 := by omega
          go_wp2
          go_round
          case rel => exact ⟨t + 1, Y / 2, by omega, by rw [HY.out, Nat.pow_succ, Nat.div_div_eq_div_mul], by go_num, by go_num⟩
          case measure => simp [intOf]; omega
        · obtain rfl : t = j % 8 := by omega
          have q1 : decide ((j : Int) % 8 < (j : Int) % 8) = false := by simp
          have Hsn : Hid (iv (unpackL xs (j + 1)) = iv (unpackL xs j) ++ [.int .i64 ((Y : Int) % 2)]) := by
            show _ = _
            rw [unpackL_succ, iv_append, Hg.out, bitOf, ← HY.out]
            simp [iv]
          go_wp2_with (at_builtin; refine wpList_app rfl (.tmp 28) (.tmp 31) 35 rfl 3 _ _ Try.underlying35 int_info rfl w.heap.size C j k _ rfl (Hown.out.alloc _) _ 1 1 [_] rfl (rd_one _ _ _) (by intro u hu; simp at hu; subst hu; rfl) (by unfold maxLen; omega) (by omega) (by have := Hbel.out.size; simp; omega) ?_; intro A3 c3 w3 o3 g3 b3; rw [← Hsn.out] at o3)
          exact ⟨⟨j + 1, A3, c3, by omega, by go_num, rfl, o3, ((Hbel.out.alloc Hbel.out.size _).trans b3)⟩, by simp [intOf]; omega⟩
    · obtain rfl : j = n := by omega
      have q : ¬ (j : Int) < (j : Int) := by omega
      go_wp2
      go_ret
      exact ⟨C, k, rfl, hown, hbel⟩

theorem refUnpack_any (A : Option Addr) (l c n : Nat) (xs : List UInt8) (w : World) (h : Rd w A l (bv xs)) (hn : n ≤ 8 * l) (hl : l ≤ 100000) :
    Calls Try.prog 55 #[.slice A l c, .int .i64 (n : Int)] w (RetSl n (iv (unpackL xs n)) w) :=
  (refUnpack_own A l c n xs w h hn hl).mono fun _ _ h => h.sl

end Go.Proofs.Ytfpfijggmfeejaa

namespace Go.Proofs.Ytfpfijggmfeejaa
set_option linter.unusedVariables false
set_option linter.unusedSimpArgs false
open Go.RowKit

theorem number_any (A : Option Addr) (l c : Nat) (xs : List UInt8) (w : World) (h : Rd w A l (bv xs)) (hl : 2 ≤ l) (x y : UInt8) (hx : xs[0]? = some x) (hy : xs[1]? = some y) :
    Calls Try.prog 74 #[.slice A l c] w fun e w' => e = .returned (.int .i64 (256 * x.toNat + y.toNat)) ∧ ∃ nq, w' = w.drewN nq := by
  obtain ⟨b, o, rfl, _, hc⟩ := h.at_ (k := 0) (by omega)
  have c0 : w.cell? ⟨b, o, none⟩ = some (.int .u8 x.toNat) := hc 0 (.int .u8 x.toNat) (by simp [bv, hx])
  have c1 := hc 1 (.int .u8 y.toNat) (by simp [bv, hy])
  have q0 : (0 : Int) < (l : Int) := by omega
  have q1 : (1 : Int) < (l : Int) := by omega
  have q2 : 0 < l := by omega
  have q3 : 1 < l := by omega
  have hx' := x.toNat_lt
  have hy' := y.toNat_lt
  clear hx hy hc h
  go_enter Try.func74, Try.ntmps74
  go_wp2
  go_quiet (fail)
  go_wp2
  go_ret
  exact ⟨rfl, nq, rfl⟩

/-- Word: a new block of two bytes. -/
theorem word_any (n : Nat) (hn : n ≤ 65535) (w : World) : Calls Try.prog 66 #[.int .i64 (n : Int)] w fun e w' =>
    e = .returned (.slice (some ⟨w.heap.size, 0, none⟩) 2 2) ∧ Blk w' w.heap.size 5 (bv (word n)) ∧ Below w.heap.size w w' := by
  have Hw := hide (bv_word n hn)
  go_enter Try.func66, Try.ntmps66
  go_wp2
  go_ret
  exact ⟨rfl, by rw [Hw.out]; exact Blk.new w _ [_, _], (Below.refl _ _).alloc (Nat.le_refl _) _⟩

/-- Bits: are all 0 or 1? -/
theorem bits_any (A : Option Addr) (n c : Nat) (xs : List Int) (w : World) (h : Rd w A n (iv xs)) (hn : n ≤ 1000000) :
    Calls Try.prog 58 #[.slice A n c] w fun e w' => e = .returned (.bool (bitsB xs)) ∧ w = w' := by
  have hl : xs.length = n := by rw [← iv_length]; exact h.1
  have Hl := hide hl
  clear hl
  go_enter Try.func58, Try.ntmps58
  go_wp2
  go_loop [3] (fun i => ∃ k : Nat, k ≤ n ∧ i = .int .i64 k ∧ bitsB (xs.take k) = true) (fun i => n - (intOf i).toNat)
  case atStart => exact ⟨0, Nat.zero_le _, rfl, rfl⟩
  case round =>
    obtain ⟨k, hk, rfl, htk⟩ := hrel
    have Htk := hide htk
    clear htk
    by_cases hlt : k < n
    · obtain ⟨b, o, rfl, hbl, hc⟩ := h.at_ hlt
      have hlt' : k < xs.length := by rw [Hl.out]; exact hlt
      have c0 := hc k _ (iv_get xs k hlt')
      have Hts := hide (bitsB_snoc xs k hlt')
      have Hno : Hid (¬ (xs[k] = 0 ∨ xs[k] = 1) → bitsB xs = false) := fun hne => by
        rw [bitsB, List.all_eq_false]
        exact ⟨xs[k], List.getElem_mem hlt', by simpa using hne⟩
      have q : (k : Int) < (n : Int) := by omega
      clear hc h
      generalize xs[k] = z at *
      by_cases hbit : z = 0 ∨ z = 1
      · rcases hbit with rfl | rfl
        all_goals
          go_wp2
          go_round
          case rel => exact ⟨k + 1, by omega, by go_num, by rw [Hts.out, Htk.out]; rfl⟩
          case measure => simp [intOf]; omega
      · have n0 : (z != 0) = true := by rw [bne_iff_ne]; omega
        have n1 : (z != 1) = true := by rw [bne_iff_ne]; omega
        have Hn := hide hbit
        clear hbit
        go_wp2
        go_ret
        exact ⟨by rw [Hno.out Hn.out]; rfl, rfl⟩
    · obtain rfl : k = n := by omega
      have hfin : bitsB xs = true := by have := Htk.out; rwa [List.take_of_length_le (by rw [Hl.out]; exact Nat.le_refl _)] at this
      have Hfin := hide hfin
      clear hfin
      go_wp2
      go_ret
      exact ⟨by rw [Hfin.out]; rfl, rfl⟩

/-- Ints: are they the same? -/
theorem ints_any (A B : Option Addr) (n m c d : Nat) (xs ys : List Int) (w : World) (h : Rd w A n (iv xs)) (h2 : Rd w B m (iv ys)) (hn : n ≤ 1000000) (hm : m ≤ 1000000) :
    Calls Try.prog 46 #[.slice A n c, .slice B m d] w fun e w' => e = .returned (.bool (decide (xs = ys))) ∧ ∃ q, w' = w.drewN q := by
  have hl : xs.length = n := by rw [← iv_length]; exact h.1
  have hl2 : ys.length = m := by rw [← iv_length]; exact h2.1
  have Hl := hide hl
  have Hl2 := hide hl2
  clear hl hl2
  by_cases hnm : n = m
  · subst hnm
    have q0 : ((n : Int) != (n : Int)) = false := by simp
    go_enter Try.func46, Try.ntmps46
    go_wp2
    go_loopw [5] (fun i wr => ∃ k : Nat, k ≤ n ∧ i = .int .i64 k ∧ xs.take k = ys.take k ∧ ∃ q, wr = w.drewN q) (fun i _ => n - (intOf i).toNat)
    case atStart => exact ⟨0, Nat.zero_le _, rfl, rfl, 0, rfl⟩
    case round =>
      obtain ⟨k, hk, rfl, htk, r, rfl⟩ := hrel
      have Htk := hide htk
      clear htk
      by_cases hlt : k < n
      · obtain ⟨b, o, rfl, hbl, hc⟩ := h.at_ hlt
        obtain ⟨b', o', rfl, hbl', hc'⟩ := h2.at_ hlt
        have hlt' : k < xs.length := by rw [Hl.out]; exact hlt
        have hlt2 : k < ys.length := by rw [Hl2.out]; exact hlt
        have c0 := hc k _ (iv_get xs k hlt')
        have c1 := hc' k _ (iv_get ys k hlt2)
        have Hts : Hid (xs[k] = ys[k] → xs.take (k + 1) = ys.take (k + 1)) := fun e => by
          rw [List.take_succ_eq_append_getElem hlt', List.take_succ_eq_append_getElem hlt2, Htk.out, e]
        have Hno : Hid (¬ xs[k] = ys[k] → decide (xs = ys) = false) := fun hne => by
          rw [decide_eq_false_iff_not]
          intro e
          subst e
          exact hne rfl
        have q : (k : Int) < (n : Int) := by omega
        clear hc h hc' h2
        generalize xs[k] = z at *
        generalize ys[k] = y at *
        by_cases hzy : z = y
        · subst hzy
          have q1 : (z != z) = false := by simp
          have Hn := hide (Hts.out rfl)
          clear Hts
          go_wp2
          go_quiet (fail)
          go_wp2
          exact ⟨⟨k + 1, by omega, by go_num, Hn.out, r + nq, by first | rfl | rw [World.drewN_drewN]⟩, by simp [intOf]; omega⟩
        · have q1 : (z != y) = true := by rw [bne_iff_ne]; exact hzy
          have Hn := hide hzy
          clear hzy
          go_wp2
          go_quiet (fail)
          go_wp2
          go_ret
          exact ⟨by rw [Hno.out Hn.out]; rfl, r + nq, by first | rfl | rw [World.drewN_drewN]⟩
      · obtain rfl : k = n := by omega
        have hfin : decide (xs = ys) = true := by
          have := Htk.out
          rw [List.take_of_length_le (by rw [Hl.out]; exact Nat.le_refl _), List.take_of_length_le (by rw [Hl2.out]; exact Nat.le_refl _)] at this
          rw [decide_eq_true_eq]
          exact this
        have Hfin := hide hfin
        clear hfin
        go_wp2
        go_ret
        exact ⟨by rw [Hfin.out]; rfl, _, rfl⟩
  · have hfin : decide (xs = ys) = false := by
      rw [decide_eq_false_iff_not]
      intro e
      subst e
      exact hnm (Hl.out.symm.trans Hl2.out)
    have Hfin := hide hfin
    have q0 : ((n : Int) != (m : Int)) = true := by rw [bne_iff_ne]; omega
    have q1 : (n != m) = true := by rw [bne_iff_ne]; exact hnm
    clear hfin hnm
    go_enter Try.func46, Try.ntmps46
    go_wp2
    go_ret
    exact ⟨by rw [Hfin.out]; rfl, 0, rfl⟩

end Go.Proofs.Ytfpfijggmfeejaa
