/-
  What is proved here: the two functions of package varint that hand back a function to range over, and what those hand on: the bytes of a length; the bytes from a place on, at most four. Conditions: a number that is not below 0; a place that is not below 0.
-/
import Derived.Test.YtkgidimaiedocaaInfo
import Derived.Test.YtkgidimaiedocaaVtMath
import Derived.RangeFuncNested
import Derived.RangeFuncBound
import Derived.RangeFuncCalls
import Derived.RangeFuncLeaves
import Derived.RangeFuncBox
import Derived.Shelf.Abstract
import Derived.WalkKit
import Derived.OwnWalkIn
import Derived.TacticsInMore
import Derived.LoopNIn
import Derived.LoopIn
namespace Go.Proofs.Ytkgidimaiedocaa
set_option linter.unusedVariables false
set_option linter.unusedSimpArgs false
open Go.RowKit Go.Shelf

attribute [local go_sem] Oper.semAt_some

set_option maxRecDepth 100000 in
set_option maxHeartbeats 2000000 in
/-- digits' function: the bytes of the length n, for every loop body. -/
theorem digits1_in (F : Fence) (k : Nat) (h18 : F.fn 81) (hro : F.round = none) (hk : 1 ≤ k) (l Bn n₀ n : Nat) (hn : n ≤ 268435455) (J Jx : List UInt8 → World → Prop)
    (hY : ∀ pre x W, J pre W → pre.length < (dg n).length → YieldAt F (k - 1) Try.prog l #[.int .u8 x.toNat] W fun e W' =>
      (e = .returned (.bool true) ∧ J (pre ++ [x]) W' ∧ Below n₀ W W') ∨ (e = .returned (.bool false) ∧ Jx (pre ++ [x]) W'))
    (W : World) (hBn : W.cell? ⟨Bn, 0, none⟩ = some (.int .i64 (n : Int))) (h0 : J [] W) :
    CallsIn F k Try.prog 81 #[.func (.yield l) #[] #[], .pointer (some ⟨Bn, 0, none⟩)] W fun e W' => (∃ v, e = .returned v) ∧
      ((∃ ys, ys = dg n ∧ J ys W') ∨ (∃ pre, pre <+: dg n ∧ Jx pre W')) := by
  refine callsIn_of_wp Try.func81 rfl h18 ?_ hro
  simp only [Try.ntmps81, List.size_toArray, List.length_cons, List.length_nil, Nat.reduceAdd, Nat.reduceSub, Array.replicate_succ, Array.replicate_zero, List.push_toArray, List.append_toArray, List.nil_append, List.cons_append]
  gi_wp2
  gi_loopw [3] (fun p wr => ∃ (pre : List UInt8) (r : Nat), p = .int .i64 (r : Int) ∧ dg n = pre ++ dg r ∧ r ≤ n ∧ J pre wr) (fun p _ => (intOf p).toNat)
  case atStart => exact ⟨[], n, rfl, rfl, Nat.le_refl _, h0⟩
  case round =>
    obtain ⟨pre, r, rfl, hx, hr, hJ⟩ := hrel
    by_cases h1 : r < 128
    · rw [dg_small (n := r) h1] at hx
      have hlen : pre.length < (dg n).length := by rw [hx]; simp
      obtain ⟨fn, tmps, assign, body, hy, hR⟩ := hY pre (UInt8.ofNat r) wr hJ hlen
      have ex : (((UInt8.ofNat r).toNat : Nat) : Int) = (r : Int) := by simp; omega
      rw [ex] at hy
      have q : ¬ (128 : Int) ≤ (r : Int) := by omega
      clear hlen ex
      gi_wp2
      refine hR.mono ?_
      rintro e W3 (⟨rfl, hJ3, hk3⟩ | ⟨rfl, hJx3⟩)
      · gi_wp2
        go_end0
        exact ⟨⟨_, rfl⟩, .inl ⟨_, hx.symm, hJ3⟩⟩
      · gi_wp2
        go_end0
        exact ⟨⟨_, rfl⟩, .inr ⟨_, ⟨[], by rw [hx]; simp⟩, hJx3⟩⟩
    · rw [dg_great (n := r) (by omega)] at hx
      have hlen : pre.length < (dg n).length := by rw [hx]; simp
      obtain ⟨fn, tmps, assign, body, hy, hR⟩ := hY pre (UInt8.ofNat (r % 128 + 128)) wr hJ hlen
      have ex : (((UInt8.ofNat (r % 128 + 128)).toNat : Nat) : Int) = (r : Int) % 128 + 128 := by simp; omega
      rw [ex] at hy
      have q : (128 : Int) ≤ (r : Int) := by omega
      clear hlen ex
      gi_wp2
      refine hR.mono ?_
      rintro e W3 (⟨rfl, hJ3, hk3⟩ | ⟨rfl, hJx3⟩)
      · gi_wp2
        go_roundw
        case rel => exact ⟨pre ++ [UInt8.ofNat (r % 128 + 128)], r / 128, by go_num, by rw [hx]; simp, by omega, hJ3⟩
        case measure => simp [intOf]; omega
      · gi_wp2
        refine bodyPost_ret (results_none rfl _ _ _) rfl ?_
        exact ⟨⟨_, rfl⟩, .inr ⟨_, ⟨dg (r / 128), by rw [hx]; simp⟩, hJx3⟩⟩

/-- digits(n): the number is boxed; the function value holds the box. -/
theorem digits_in (F : Fence) (k : Nat) (h : F.fn 54) (hro : F.round = none) (n : Int) (w : World) :
    CallsIn F k Try.prog 54 #[.int .i64 n] w fun e w' => e = .returned (.func (.func 81) #[] #[.pointer (some ⟨w.heap.size, 0, none⟩)]) ∧ w' = w.alloc (.cells #[.int .i64 n] 3) := by
  refine callsIn_of_wp Try.func54 rfl h ?_ hro
  simp only [Try.ntmps54, List.size_toArray, List.length_cons, List.length_nil, Nat.reduceAdd, Nat.reduceSub, Array.replicate_succ, Array.replicate_zero, List.push_toArray, List.append_toArray, List.nil_append, List.cons_append]
  gi_wp2
  go_ret
  exact ⟨rfl, rfl⟩

theorem digits_stops (F : Fence) (k : Nat) (h18 : F.fn 81) (hro : F.round = none) (hk : 1 ≤ k) (Bn n₀ n : Nat) (hn : n ≤ 268435455) (w : World) (hBn : Bn < w.heap.size) (hc : w.cell? ⟨Bn, 0, none⟩ = some (.int .i64 (n : Int))) :
    SeqStopsK F k Try.prog 81 #[.pointer (some ⟨Bn, 0, none⟩)] (fun x : UInt8 => #[Value.int .u8 x.toNat]) (Below n₀) (fun ys => ys = dg n) (fun pre => pre <+: dg n) (dg n).length w := fun l J Jx W hW _ _ hY h0 =>
  digits1_in F k h18 hro hk l Bn n₀ n hn J Jx hY W ((hW.cell (p := ⟨Bn, 0, none⟩) hBn).trans hc) h0

set_option maxRecDepth 100000 in
set_option maxHeartbeats 2000000 in
/-- bytesFrom's function: the bytes from i on, at most four, for every loop body that keeps what lay below n₀. -/
theorem bytes1_in (F : Fence) (k : Nat) (h19 : F.fn 125) (hro : F.round = none) (hk : 1 ≤ k) (l Bb Bi n₀ : Nat) (A : Option Addr) (len c : Nat) (i : Nat) (xs : List UInt8) (w : World) (hA : Rd w A len (bv xs)) (hlc : len ≤ c) (hlm : len ≤ maxLen) (hxs : xs.length = len) (hn₀ : w.heap.size ≤ n₀) (J Jx : List UInt8 → World → Prop)
    (hY : ∀ pre x W, J pre W → pre.length < ((xs.drop i).take 4).length → YieldAt F (k - 1) Try.prog l #[.int .u8 x.toNat] W fun e W' =>
      (e = .returned (.bool true) ∧ J (pre ++ [x]) W' ∧ Below n₀ W W') ∨ (e = .returned (.bool false) ∧ Jx (pre ++ [x]) W'))
    (W : World) (hW : Below w.heap.size w W) (hBb : W.cell? ⟨Bb, 0, none⟩ = some (.slice A len c)) (hBi : W.cell? ⟨Bi, 0, none⟩ = some (.int .i64 (i : Int))) (h0 : J [] W) :
    CallsIn F k Try.prog 125 #[.func (.yield l) #[] #[], .pointer (some ⟨Bb, 0, none⟩), .pointer (some ⟨Bi, 0, none⟩)] W fun e W' => (∃ v, e = .returned v) ∧
      ((∃ ys, ys = (xs.drop i).take 4 ∧ J ys W') ∨ (∃ pre, pre <+: (xs.drop i).take 4 ∧ Jx pre W')) := by
  refine callsIn_of_wp Try.func125 rfl h19 ?_ hro
  simp only [Try.ntmps125, List.size_toArray, List.length_cons, List.length_nil, Nat.reduceAdd, Nat.reduceSub, Array.replicate_succ, Array.replicate_zero, List.push_toArray, List.append_toArray, List.nil_append, List.cons_append]
  by_cases hi : (len : Int) < (i : Int)
  · have hsl := fun W => run_slTail (P := Try.prog) 28 5 Try.underlying28 u8_size A len c (len : Int) len rfl (Nat.le_refl _) W
    rw [Nat.sub_self] at hsl
    have hsl2 := fun W => run_slTo (P := Try.prog) 28 5 Try.underlying28 u8_size (cutA A len c) 0 (c - len) 0 0 rfl (Nat.zero_le _) W
    have hR : (xs.drop i).take 4 = [] := by rw [List.drop_eq_nil_of_le (by omega)]; rfl
    rw [hR] at hY ⊢
    clear hA hxs hW hR hY
    gi_wp2
    gi_loopw [19] (fun p wr => p = .int .i64 0 ∧ J [] wr) (fun _ _ => 0)
    case atStart => exact ⟨rfl, h0⟩
    case round =>
      obtain ⟨rfl, hJ⟩ := hrel
      gi_wp2
      go_end0
      exact ⟨⟨_, rfl⟩, .inl ⟨[], rfl, hJ⟩⟩
  · have hsl := fun W => run_slTail (P := Try.prog) 28 5 Try.underlying28 u8_size A len c (i : Int) i rfl (by omega) W
    obtain ⟨m, hm⟩ : ∃ m, len - i = m := ⟨_, rfl⟩
    rw [hm] at hsl
    have HW := hide hW
    by_cases h4 : (m : Int) < 4
    · have HWA : Hid (Rd w (cutA A i c) m (bv ((xs.drop i).take 4))) := by
        have := hA.cut i m c (by omega) hlc
        rw [bv_cut] at this
        rwa [List.take_of_length_le (by simp; omega)] at this ⊢
      have Hlen : Hid (((xs.drop i).take 4).length = m) := by refine hide ?_; simp; omega
      have hsl2 := fun W => run_slTo (P := Try.prog) 28 5 Try.underlying28 u8_size (cutA A i c) m (c - i) (m : Int) m rfl (by omega) W
      clear hA hxs hW hm
      generalize (xs.drop i).take 4 = R at *
      gi_wp2
      gi_loopw [19] (fun p wr => ∃ (j : Nat), p = .int .i64 (j : Int) ∧ j ≤ m ∧ J (R.take j) wr ∧ Below n₀ W wr) (fun p _ => m - (intOf p).toNat)
      case atStart => exact ⟨0, rfl, Nat.zero_le _, h0, Below.refl _ _⟩
      case round =>
        obtain ⟨j, rfl, hj, hJ, hnx⟩ := hrel
        by_cases hlt : j < m
        · have hjR : j < R.length := by rw [Hlen.out]; exact hlt
          obtain ⟨b, o, hb1, hb2, hb3⟩ := HWA.out.at_ hlt
          have hcx : wr.cell? ⟨b, o + j, none⟩ = some (.int .u8 R[j].toNat) := (hnx.cell (p := ⟨b, o + j, none⟩) (Nat.lt_of_lt_of_le hb2 hn₀)).trans ((HW.out.cell (p := ⟨b, o + j, none⟩) hb2).trans (hb3 j _ (bv_get R j hjR)))
          have htk : R.take j ++ [R[j]] = R.take (j + 1) := List.take_append_getElem hjR
          have q3 : (j : Int) < (m : Int) := by omega
          obtain ⟨fn, tmps, assign, body, hy, hR⟩ := hY (R.take j) R[j] wr hJ (by rw [List.length_take]; omega)
          rw [htk] at hR
          generalize R[j] = x at *
          rw [hb1]
          clear hb3 htk hjR
          gi_wp2
          refine hR.mono ?_
          rintro e W3 (⟨rfl, hJ3, hk3⟩ | ⟨rfl, hJx3⟩)
          · gi_wp2
            go_roundw
            case rel => exact ⟨j + 1, by go_num, by omega, hJ3, hnx.trans hk3⟩
            case measure => simp [intOf]; omega
          · gi_wp2
            refine bodyPost_ret (results_none rfl _ _ _) rfl ?_
            exact ⟨⟨_, rfl⟩, .inr ⟨_, List.take_prefix _ _, hJx3⟩⟩
        · have q3 : ¬ (j : Int) < (m : Int) := by omega
          rw [List.take_of_length_le (by rw [Hlen.out]; omega)] at hJ
          gi_wp2
          go_end0
          exact ⟨⟨_, rfl⟩, .inl hJ⟩
    · have HWA : Hid (Rd w (cutA A i c) 4 (bv ((xs.drop i).take 4))) := by
        have := hA.cut i 4 c (by omega) hlc
        rw [bv_cut] at this
        exact this
      have Hlen : Hid (((xs.drop i).take 4).length = 4) := by refine hide ?_; simp; omega
      have hsl2 := fun W => run_slTo (P := Try.prog) 28 5 Try.underlying28 u8_size (cutA A i c) m (c - i) 4 4 rfl (by omega) W
      clear hA hxs hW hm
      generalize (xs.drop i).take 4 = R at *
      gi_wp2
      gi_loopw [19] (fun p wr => ∃ (j : Nat), p = .int .i64 (j : Int) ∧ j ≤ 4 ∧ J (R.take j) wr ∧ Below n₀ W wr) (fun p _ => 4 - (intOf p).toNat)
      case atStart => exact ⟨0, rfl, Nat.zero_le _, h0, Below.refl _ _⟩
      case round =>
        obtain ⟨j, rfl, hj, hJ, hnx⟩ := hrel
        by_cases hlt : j < 4
        · have hjR : j < R.length := by rw [Hlen.out]; exact hlt
          obtain ⟨b, o, hb1, hb2, hb3⟩ := HWA.out.at_ hlt
          have hcx : wr.cell? ⟨b, o + j, none⟩ = some (.int .u8 R[j].toNat) := (hnx.cell (p := ⟨b, o + j, none⟩) (Nat.lt_of_lt_of_le hb2 hn₀)).trans ((HW.out.cell (p := ⟨b, o + j, none⟩) hb2).trans (hb3 j _ (bv_get R j hjR)))
          have htk : R.take j ++ [R[j]] = R.take (j + 1) := List.take_append_getElem hjR
          have q3 : (j : Int) < (4 : Int) := by omega
          obtain ⟨fn, tmps, assign, body, hy, hR⟩ := hY (R.take j) R[j] wr hJ (by rw [List.length_take]; omega)
          rw [htk] at hR
          generalize R[j] = x at *
          rw [hb1]
          clear hb3 htk hjR
          gi_wp2
          refine hR.mono ?_
          rintro e W3 (⟨rfl, hJ3, hk3⟩ | ⟨rfl, hJx3⟩)
          · gi_wp2
            go_roundw
            case rel => exact ⟨j + 1, by go_num, by omega, hJ3, hnx.trans hk3⟩
            case measure => simp [intOf]; omega
          · gi_wp2
            refine bodyPost_ret (results_none rfl _ _ _) rfl ?_
            exact ⟨⟨_, rfl⟩, .inr ⟨_, List.take_prefix _ _, hJx3⟩⟩
        · have q3 : ¬ (j : Int) < (4 : Int) := by omega
          rw [List.take_of_length_le (by rw [Hlen.out]; omega)] at hJ
          gi_wp2
          go_end0
          exact ⟨⟨_, rfl⟩, .inl hJ⟩

/-- bytesFrom(b, i): both are boxed; the function value holds the boxes. -/
theorem bytesFrom_in (F : Fence) (k : Nat) (h : F.fn 116) (hro : F.round = none) (A : Option Addr) (len c : Nat) (i : Int) (w : World) :
    CallsIn F k Try.prog 116 #[.slice A len c, .int .i64 i] w fun e w' => e = .returned (.func (.func 125) #[] #[.pointer (some ⟨w.heap.size, 0, none⟩), .pointer (some ⟨w.heap.size + 1, 0, none⟩)]) ∧
      w' = (w.alloc (.cells #[.slice A len c] 28)).alloc (.cells #[.int .i64 i] 3) := by
  refine callsIn_of_wp Try.func116 rfl h ?_ hro
  simp only [Try.ntmps116, List.size_toArray, List.length_cons, List.length_nil, Nat.reduceAdd, Nat.reduceSub, Array.replicate_succ, Array.replicate_zero, List.push_toArray, List.append_toArray, List.nil_append, List.cons_append]
  gi_wp2
  go_ret
  exact ⟨rfl, rfl⟩

theorem bytes_stops (F : Fence) (k : Nat) (h19 : F.fn 125) (hro : F.round = none) (hk : 1 ≤ k) (Bb Bi n₀ : Nat) (A : Option Addr) (len c : Nat) (i : Nat) (xs : List UInt8) (v w : World) (hA : Rd v A len (bv xs)) (hlc : len ≤ c) (hlm : len ≤ maxLen) (hxs : xs.length = len) (hn₀ : v.heap.size ≤ n₀)
    (hv : Below v.heap.size v w) (h1 : Bb < w.heap.size) (h2 : Bi < w.heap.size) (hBb : w.cell? ⟨Bb, 0, none⟩ = some (.slice A len c)) (hBi : w.cell? ⟨Bi, 0, none⟩ = some (.int .i64 (i : Int))) :
    SeqStopsK F k Try.prog 125 #[.pointer (some ⟨Bb, 0, none⟩), .pointer (some ⟨Bi, 0, none⟩)] (fun x : UInt8 => #[Value.int .u8 x.toNat]) (Below n₀) (fun ys => ys = (xs.drop i).take 4) (fun pre => pre <+: (xs.drop i).take 4) ((xs.drop i).take 4).length w := fun l J Jx W hW _ _ hY h0 =>
  bytes1_in F k h19 hro hk l Bb Bi n₀ A len c i xs v hA hlc hlm hxs hn₀ J Jx hY W (below_on hv hW) ((hW.cell (p := ⟨Bb, 0, none⟩) h1).trans hBb) ((hW.cell (p := ⟨Bi, 0, none⟩) h2).trans hBi) h0

end Go.Proofs.Ytkgidimaiedocaa
