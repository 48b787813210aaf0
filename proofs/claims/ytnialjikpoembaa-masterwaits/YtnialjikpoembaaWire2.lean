/-
  What is proved here: what wire's bytesFor, Pack, Unpack and PutText return. Conditions: lengths up to some hundred thousand.
-/
import Derived.Test.YtnialjikpoembaaWire
import Derived.Test.YtnialjikpoembaaBitsMath
import Derived.LoopTactic
namespace Go.Proofs.Ytnialjikpoembaa
set_option linter.unusedVariables false
set_option linter.unusedSimpArgs false
open Go.RowKit

theorem bytesFor_any (n m : Nat) (hn : n ≤ maxLen) (h1 : n ≤ 8 * m) (h2 : 8 * m < n + 8) (w : World) :
    Calls Try.prog 85 #[.int .i64 (n : Int)] w fun e w' => e = .returned (.int .i64 (m : Int)) ∧ w = w' := by
  unfold maxLen at hn
  by_cases h : n % 8 = 0
  · have h1 : ((n : Int) % 8 != 0) = false := by rw [bne_eq_false_iff_eq]; omega
    have h2 : (n : Int) / 8 = (m : Int) := by omega
    have H2 := hide h2
    clear h h2
    go_enter Try.func85, Try.ntmps85
    go_wp2
    go_ret
    exact ⟨by rw [← H2.out]; rfl, rfl⟩
  · have h1 : ((n : Int) % 8 != 0) = true := by rw [bne_iff_ne]; omega
    have h2 : (n : Int) / 8 + 1 = (m : Int) := by omega
    have H2 := hide h2
    clear h h2
    go_enter Try.func85, Try.ntmps85
    go_wp2
    go_ret
    exact ⟨by rw [← H2.out]; rfl, rfl⟩

set_option maxHeartbeats 400000 in
theorem pack_ok (A : Option Addr) (n c m : Nat) (xs : List Int) (w : World) (h : Rd w A n (iv xs)) (hn : n ≤ 100000) (hb : bitsB xs = true) (hm1 : n ≤ 8 * m) (hm2 : 8 * m < n + 8) :
    Calls Try.prog 83 #[.slice A n c] w fun e w' => e = .returned (.tuple #[.slice (some ⟨w.heap.size, 0, none⟩) m m, .int .i64 0]) ∧ Blk w' w.heap.size 5 (bv (pkTo xs m n)) ∧ Below w.heap.size w w' := by
  have hl : xs.length = n := by rw [← iv_length]; exact h.1
  have hmk := fun W => run_mk (P := Try.prog) 38 5 (.int .u8 0) 1 Try.underlying38 u8_info rfl m (by omega) (by omega) W
  have HB := hide hb
  have Hl := hide hl
  clear hb hl
  go_enter Try.func83, Try.ntmps83
  go_wp2_with (go_at_call 85; refine (bytesFor_any n m (by unfold maxLen; omega) hm1 hm2 _).mono ?_; rintro e w' ⟨rfl, rfl⟩)
  clear hmk
  go_loopw [13] (fun i wr => ∃ k : Nat, k ≤ n ∧ i = .int .i64 k ∧ Blk wr w.heap.size 5 (bv (pkTo xs m k)) ∧ Below w.heap.size w wr) (fun i _ => n - (intOf i).toNat)
  case atStart => exact ⟨0, Nat.zero_le _, rfl, by rw [pkTo_zero]; exact Blk.new _ _ _, (Below.refl _ _).alloc (Nat.le_refl _) _⟩
  case round =>
    obtain ⟨k, hk, rfl, hbk, hbel⟩ := hrel
    by_cases hlt : k < n
    · obtain ⟨b, o, rfl, hbl, hc⟩ := h.at_ hlt
      have hlt' : k < xs.length := by rw [Hl.out]; exact hlt
      have c0 := hc k _ (iv_get xs k hlt')
      have cA : wr.cell? ⟨b, o + k, none⟩ = some (.int .i64 xs[k]) := (hbel.cell (p := ⟨b, o + k, none⟩) hbl).trans c0
      have hkm : k / 8 < m := by omega
      have cB : wr.cell? ⟨w.heap.size, k / 8, none⟩ = some (.int .u8 (byteTo xs (k / 8) (k % 8) : Nat)) := by rw [hbk.cell]; exact pk_cell xs m k HB.out hkm
      have fB := hbk.frozen (k / 8)
      have x1 : (k : Int) / 8 < (m : Int) := by omega
      have x2 : 0 ≤ (k : Int) / 8 := by omega
      have x3 : (0 : Int) ≤ (k : Int) % 8 := by omega
      have x4 : (k : Int) % 8 < 8 := by omega
      have hB : byteTo xs (k / 8) (k % 8) < 256 := by have := byteTo_lt xs HB.out (k / 8) (k % 8); have := two_pow_lt (k % 8) (by omega); omega
      have P0 := hide (pk_bit0 xs m k HB.out hkm)
      have P1 := hide (pk_bit1 xs m k HB.out hkm)
      have hbit : xs[k] = 0 ∨ xs[k] = 1 := by simpa using List.all_eq_true.1 HB.out xs[k] (List.getElem_mem hlt')
      have hba : bitAt xs k = xs[k].toNat := by simp [bitAt, hlt']
      have Hba := hide hba
      generalize byteTo xs (k / 8) (k % 8) = B at *
      have Hbk := hide hbk
      have Hbel := hide hbel
      clear hbk hbel c0 hc h hba
      rcases hbit with e | e
      · rw [e] at cA
        have He := hide e
        clear e
        go_wp2
        go_region
        go_wp2
        refine ⟨⟨k + 1, by omega, by go_num, ?_, (Hbel.out.setCell (Nat.le_refl _) _).drew⟩, by simp [intOf]; omega⟩
        have := Hbk.out.set (k / 8) (.int .u8 (bits .or .u8 (B : Int) 0))
        rwa [P0.out (by rw [Hba.out, He.out]; rfl)] at this
      · rw [e] at cA
        have He := hide e
        clear e
        go_wp2
        go_region
        go_wp2
        refine ⟨⟨k + 1, by omega, by go_num, ?_, (Hbel.out.setCell (Nat.le_refl _) _).drew⟩, by simp [intOf]; omega⟩
        have := Hbk.out.set (k / 8) (.int .u8 (bits .or .u8 (B : Int) (2 ^ (k % 8) % 256)))
        rwa [P1.out (by rw [Hba.out, He.out]; rfl)] at this
    · obtain rfl : k = n := by omega
      go_wp2
      go_ret2
      exact ⟨rfl, hbk, hbel⟩

set_option maxHeartbeats 400000 in
theorem pack_no (A : Option Addr) (n c : Nat) (xs : List Int) (w : World) (h : Rd w A n (iv xs)) (hn : n ≤ 100000) (hb : bitsB xs = false) :
    Calls Try.prog 83 #[.slice A n c] w fun e w' => e = .returned (.tuple #[.slice none 0 0, .int .i64 1]) ∧ Below w.heap.size w w' := by
  have hl : xs.length = n := by rw [← iv_length]; exact h.1
  obtain ⟨m, hm1, hm2⟩ : ∃ m, n ≤ 8 * m ∧ 8 * m < n + 8 := ⟨(n + 7) / 8, by omega, by omega⟩
  have hmk := fun W => run_mk (P := Try.prog) 38 5 (.int .u8 0) 1 Try.underlying38 u8_info rfl m (by omega) (by omega) W
  have HB := hide hb
  have Hl := hide hl
  clear hb hl
  go_enter Try.func83, Try.ntmps83
  go_wp2_with (go_at_call 85; refine (bytesFor_any n m (by unfold maxLen; omega) hm1 hm2 _).mono ?_; rintro e w' ⟨rfl, rfl⟩)
  clear hmk
  go_loopw [13] (fun i wr => ∃ k : Nat, k ≤ n ∧ i = .int .i64 k ∧ (∃ zs : List Int, zs.length = m ∧ Blk wr w.heap.size 5 (zs.map (Value.int .u8))) ∧ bitsB (xs.take k) = true ∧ Below w.heap.size w wr) (fun i _ => n - (intOf i).toNat)
  case atStart => exact ⟨0, Nat.zero_le _, rfl, ⟨List.replicate m 0, by simp, by rw [List.map_replicate]; exact Blk.new _ _ _⟩, by simp [bitsB], (Below.refl _ _).alloc (Nat.le_refl _) _⟩
  case round =>
    obtain ⟨k, hk, rfl, ⟨zs, hzs, hbk⟩, htk, hbel⟩ := hrel
    by_cases hlt : k < n
    · obtain ⟨b, o, rfl, hbl, hc⟩ := h.at_ hlt
      have hlt' : k < xs.length := by rw [Hl.out]; exact hlt
      have c0 := hc k _ (iv_get xs k hlt')
      have cA : wr.cell? ⟨b, o + k, none⟩ = some (.int .i64 xs[k]) := (hbel.cell (p := ⟨b, o + k, none⟩) hbl).trans c0
      have hkm : k / 8 < m := by omega
      have cB : wr.cell? ⟨w.heap.size, k / 8, none⟩ = some (.int .u8 (zs[k / 8]?.getD 0)) := by rw [hbk.cell]; simp [hzs, hkm]
      have fB := hbk.frozen (k / 8)
      have x1 : (k : Int) / 8 < (m : Int) := by omega
      have x2 : 0 ≤ (k : Int) / 8 := by omega
      have x3 : (0 : Int) ≤ (k : Int) % 8 := by omega
      have x4 : (k : Int) % 8 < 8 := by omega
      have hts := bitsB_snoc xs k hlt'
      have Hts := hide hts
      have Htk := hide htk
      have Hbk := hide hbk
      have Hbel := hide hbel
      have Hzs := hide hzs
      clear hbk hbel c0 hc h hts htk hzs
      generalize zs[k / 8]?.getD 0 = B at *
      by_cases hbit : xs[k] = 0 ∨ xs[k] = 1
      · rcases hbit with e | e
        · rw [e] at cA
          have He := hide e
          clear e
          go_wp2
          go_region
          go_wp2
          refine ⟨⟨k + 1, by omega, by go_num, ⟨zs.set (k / 8) (bits .or .u8 B 0), by rw [List.length_set]; exact Hzs.out, ?_⟩, by rw [Hts.out, Htk.out, He.out]; rfl, (Hbel.out.setCell (Nat.le_refl _) _).drew⟩, by simp [intOf]; omega⟩
          have := Hbk.out.set (k / 8) (.int .u8 (bits .or .u8 B 0))
          rwa [← List.map_set] at this
        · rw [e] at cA
          have He := hide e
          clear e
          go_wp2
          go_region
          go_wp2
          refine ⟨⟨k + 1, by omega, by go_num, ⟨zs.set (k / 8) (bits .or .u8 B (2 ^ (k % 8) % 256)), by rw [List.length_set]; exact Hzs.out, ?_⟩, by rw [Hts.out, Htk.out, He.out]; rfl, (Hbel.out.setCell (Nat.le_refl _) _).drew⟩, by simp [intOf]; omega⟩
          have := Hbk.out.set (k / 8) (.int .u8 (bits .or .u8 B (2 ^ (k % 8) % 256)))
          rwa [← List.map_set] at this
      · have n0 : (xs[k] != 0) = true := by rw [bne_iff_ne]; omega
        have n1 : (xs[k] != 1) = true := by rw [bne_iff_ne]; omega
        generalize xs[k] = z at *
        go_wp2
        go_ret2
        exact ⟨rfl, Hbel.out⟩
    · obtain rfl : k = n := by omega
      rw [List.take_of_length_le (by rw [Hl.out]; exact Nat.le_refl _), HB.out] at htk
      cases htk

set_option maxHeartbeats 400000 in
theorem unpack_neg (A : Option Addr) (l c : Nat) (n : Int) (w : World) (hn : n < 0) :
    Calls Try.prog 81 #[.slice A l c, .int .i64 n] w fun e w' => e = .returned (.tuple #[.slice none 0 0, .int .i64 1]) ∧ w = w' := by
  go_enter Try.func81, Try.ntmps81
  go_wp2_with fail
  go_ret2
  exact ⟨rfl, rfl⟩
theorem unpack_more (A : Option Addr) (l c : Nat) (n : Nat) (w : World) (hn : n ≤ maxLen) (h : 8 * l < n) :
    Calls Try.prog 81 #[.slice A l c, .int .i64 (n : Int)] w fun e w' => e = .returned (.tuple #[.slice none 0 0, .int .i64 7]) ∧ w = w' := by
  obtain ⟨m, hm1, hm2⟩ : ∃ m, n ≤ 8 * m ∧ 8 * m < n + 8 := ⟨(n + 7) / 8, by omega, by omega⟩
  have q0 : ¬ (n : Int) < 0 := by omega
  have q1 : (l : Int) < (m : Int) := by omega
  have q2 : l < m := by omega
  go_enter Try.func81, Try.ntmps81
  go_wp2_with (go_at_call 85; refine (bytesFor_any n m hn hm1 hm2 _).mono ?_; rintro e w' ⟨rfl, rfl⟩)
  go_ret2
  exact ⟨rfl, rfl⟩
set_option maxHeartbeats 400000 in
theorem unpack_ok (A : Option Addr) (l c n : Nat) (xs : List UInt8) (w : World) (h : Rd w A l (bv xs)) (hn : n ≤ 8 * l) (hl : l ≤ 100000) :
    Calls Try.prog 81 #[.slice A l c, .int .i64 (n : Int)] w fun e w' => e = .returned (.tuple #[.slice (some ⟨w.heap.size, 0, none⟩) n n, .int .i64 0]) ∧ Blk w' w.heap.size 3 (iv (unpackL xs n)) ∧ Below w.heap.size w w' := by
  obtain ⟨m, hm1, hm2⟩ : ∃ m, n ≤ 8 * m ∧ 8 * m < n + 8 := ⟨(n + 7) / 8, by omega, by omega⟩
  have hxl : xs.length = l := by rw [← bv_length]; exact h.1
  have Hxl := hide hxl
  have hmk := fun W => run_mk (P := Try.prog) 35 3 (.int .i64 0) 8 Try.underlying35 int_info rfl n (by omega) (by omega) W
  have q0 : ¬ (n : Int) < 0 := by omega
  have q1 : ¬ (l : Int) < (m : Int) := by omega
  have q2 : ¬ l < m := by omega
  clear hxl
  go_enter Try.func81, Try.ntmps81
  go_wp2_with (go_at_call 85; refine (bytesFor_any n m (by unfold maxLen; omega) hm1 hm2 _).mono ?_; rintro e w' ⟨rfl, rfl⟩)
  clear hmk
  go_loopw [19] (fun i wr => ∃ k : Nat, k ≤ n ∧ i = .int .i64 k ∧ Blk wr w.heap.size 3 (iv (unpackL xs k ++ List.replicate (n - k) 0)) ∧ Below w.heap.size w wr) (fun i _ => n - (intOf i).toNat)
  case atStart => exact ⟨0, Nat.zero_le _, rfl, by simp [unpackL, iv]; exact Blk.new _ _ _, (Below.refl _ _).alloc (Nat.le_refl _) _⟩
  case round =>
    obtain ⟨k, hk, rfl, hbk, hbel⟩ := hrel
    by_cases hlt : k < n
    · have hk8 : k / 8 < l := by omega
      obtain ⟨b, o, rfl, hbl, hc⟩ := h.at_ hk8
      have hlt' : k / 8 < xs.length := by rw [Hxl.out]; exact hk8
      have c0 := hc (k / 8) _ (bv_get xs (k / 8) hlt')
      have cA : wr.cell? ⟨b, o + k / 8, none⟩ = some (.int .u8 xs[k / 8].toNat) := (hbel.cell (p := ⟨b, o + k / 8, none⟩) hbl).trans c0
      have cB : wr.cell? ⟨w.heap.size, k, none⟩ = some (.int .i64 0) := by
        rw [hbk.cell, iv, List.getElem?_map, List.getElem?_append_right (by rw [unpackL_length]; exact Nat.le_refl _), unpackL_length, Nat.sub_self, List.getElem?_replicate, if_pos (by omega)]
        rfl
      have fB := hbk.frozen k
      have x1 : (k : Int) / 8 < (l : Int) := by omega
      have x2 : 0 ≤ (k : Int) / 8 := by omega
      have x3 : (0 : Int) ≤ (k : Int) % 8 := by omega
      have x4 : (k : Int) % 8 < 8 := by omega
      have x5 : (k : Int) < (n : Int) := by omega
      have hx := xs[k / 8].toNat_lt
      have Hg := hide (show xs[k / 8]?.getD 0 = xs[k / 8] by simp [hlt'])
      generalize xs[k / 8] = X at *
      have Hbk := hide hbk
      have Hbel := hide hbel
      clear hbk hbel c0 hc h
      go_wp2
      refine ⟨⟨k + 1, by omega, by go_num, ?_, Hbel.out.setCell (Nat.le_refl _) _⟩, by simp [intOf]; omega⟩
      have h1 := and1_i64 X.toNat (k % 8) hx
      rw [h1]
      have := Hbk.out.set k (.int .i64 ((X.toNat / 2 ^ (k % 8) % 2 : Nat) : Int))
      have h2 := unpack_set xs n k hlt
      rw [Hg.out] at h2
      unfold bitOf at h2
      rwa [h2] at this
    · obtain rfl : k = n := by omega
      go_wp2
      go_ret2
      exact ⟨rfl, by simpa using hbk, hbel⟩

end Go.Proofs.Ytnialjikpoembaa
