/-
  What is proved here: what each function of package wire returns, for every slice that reads as bytes or ints and every number. Conditions: lengths up to 200000 where memory is made. ALSO: what wire's bytesFor, Pack, Unpack and PutText return. Conditions: lengths up to some hundred thousand. ALSO: what wire's PutText returns. Condition: the bytes ahead of it are at most 100000. ALSO: the contracts of package wire once more, in the forms in which callers meet them (numbers as ints, worlds by what is kept).
-/
import Derived.Test.YtfpfijggmfeejaaInfo
import Derived.Test.YtfpfijggmfeejaaBitsMath
import Derived.LoopTactic
namespace Go.Proofs.Ytfpfijggmfeejaa
set_option linter.unusedVariables false
set_option linter.unusedSimpArgs false
open Go.RowKit

/-- longer(b, m): b, and m zeros behind it, in a new block. -/
theorem longer_any (A : Option Addr) (n c m : Nat) (xs : List UInt8) (w : World) (h : Rd w A n (bv xs)) (hm : n + m ≤ 200000) :
    Calls Try.prog 84 #[.slice A n c, .int .i64 (m : Int)] w fun e w' =>
      e = .returned (.slice (some ⟨w.heap.size, 0, none⟩) (n + m) (n + m)) ∧ w.alloc (.cells (arr (bv xs ++ List.replicate m (.int .u8 0))) 5) = w' := by
  have hmk := fun W => run_mk (P := Try.prog) 38 5 (.int .u8 0) 1 Try.underlying38 u8_info rfl (n + m) (by omega) (by omega) W
  rw [Int.natCast_add] at hmk
  have hcp := fun ty => run_cp (P := Try.prog) 38 38 ty 5 Try.underlying38 u8_size w A n c (bv xs) h (bv_one xs) (List.replicate (n + m) (.int .u8 0)) (by simp) (n + m) (n + m) (by omega)
  have hd : (List.replicate (n + m) (Value.int .u8 0)).drop n = List.replicate m (.int .u8 0) := by rw [List.drop_replicate]; congr 1; omega
  rw [hd] at hcp
  clear hd
  go_enter Try.func84, Try.ntmps84
  go_wp2
  go_ret
  exact ⟨rfl, rfl⟩

/-- setWord(b, i, n): the two bytes of n, laid over those from i on. -/
theorem setWord_any (g i l c n : Nat) (cs : List Value) (w : World) (h : Blk w g 5 cs) (hi : i + 2 ≤ l) (hl : l ≤ cs.length) (hl2 : l ≤ 200000) (hn : n ≤ 65535) :
    Calls Try.prog 85 #[.slice (some ⟨g, 0, none⟩) l c, .int .i64 (i : Int), .int .i64 (n : Int)] w fun e w' =>
      e = .returned (.tuple #[]) ∧ (w.setCell ⟨g, i, none⟩ (.int .u8 ((n : Int) / 256))).setCell ⟨g, i + 1, none⟩ (.int .u8 ((n : Int) % 256)) = w' := by
  have hc0 : w.cell? ⟨g, i, none⟩ = some cs[i] := by rw [h.cell]; simp
  have hf0 := h.frozen i
  have hc1 : w.cell? ⟨g, i + 1, none⟩ = some cs[i + 1] := by rw [h.cell]; simp
  have hf1 := h.frozen (i + 1)
  have hx : (i : Int) < (l : Int) := by omega
  have hx1 : (i : Int) + 1 < (l : Int) := by omega
  clear h
  go_enter Try.func85, Try.ntmps85
  go_wp2
  go_end0
  exact ⟨rfl, rfl⟩

/-- The two bytes of a word. -/
def word (n : Nat) : List UInt8 := [UInt8.ofNat (n / 256), UInt8.ofNat (n % 256)]

theorem bv_word (n : Nat) (h : n ≤ 65535) : bv (word n) = [.int .u8 ((n : Int) / 256), .int .u8 ((n : Int) % 256)] := by
  have e1 : ((n / 256 % 2 ^ 8 : Nat) : Int) = (n : Int) / 256 := by omega
  have e2 : ((n % 256 % 2 ^ 8 : Nat) : Int) = (n : Int) % 256 := by omega
  simp only [bv, word, List.map_cons, List.map_nil, UInt8.toNat_ofNat', e1, e2]

/-- Put: refused. -/
theorem put_no (A : Option Addr) (l c : Nat) (n : Int) (w : World) (hn : n < 0 ∨ 65535 < n) :
    Calls Try.prog 81 #[.slice A l c, .int .i64 n] w fun e w' => e = .returned (.tuple #[.slice none 0 0, .int .i64 1]) ∧ w = w' := by
  rcases hn with hn | hn
  · go_enter Try.func81, Try.ntmps81
    go_wp2
    go_ret2
    exact ⟨rfl, rfl⟩
  · have hn0 : ¬ n < 0 := by omega
    go_enter Try.func81, Try.ntmps81
    go_wp2
    go_ret2
    exact ⟨rfl, rfl⟩

/-- Put: b, and the word behind it, in a new block. -/
theorem put_ok (A : Option Addr) (l c n : Nat) (xs : List UInt8) (w : World) (h : Rd w A l (bv xs)) (hl : l ≤ 100000) (hn : n ≤ 65535) :
    Calls Try.prog 81 #[.slice A l c, .int .i64 (n : Int)] w fun e w' =>
      e = .returned (.tuple #[.slice (some ⟨w.heap.size, 0, none⟩) (l + 2) (l + 2), .int .i64 0]) ∧ w.alloc (.cells (arr (bv (xs ++ word n))) 5) = w' := by
  have hll : xs.length = l := by rw [← bv_length]; exact h.1
  have Hfin := hide (arr_put2 (bv xs) l h.1 (.int .u8 0) (.int .u8 0) (.int .u8 ((n : Int) / 256)) (.int .u8 ((n : Int) % 256)) [])
  go_enter Try.func81, Try.ntmps81
  go_wp2_with (first | (go_at_call 84; refine (longer_any A l c 2 xs w h (by omega)).mono ?_; rintro e w' ⟨rfl, rfl⟩) | (go_at_call 85; refine (setWord_any _ l (l + 2) (l + 2) n _ _ (Blk.new w 5 _) (by omega) (by simp [bv_length, hll]) (by omega) hn).mono ?_; rintro e w' ⟨rfl, rfl⟩))
  go_ret2
  exact ⟨rfl, by rw [Hfin.out, bv_append, bv_word n hn]⟩

/-- At: there are no two bytes. -/
theorem at_neg (A : Option Addr) (l c : Nat) (i : Int) (w : World) (hi : i < 0) :
    Calls Try.prog 83 #[.slice A l c, .int .i64 i] w fun e w' => e = .returned (.tuple #[.int .i64 0, .int .i64 1]) ∧ w = w' := by
  go_enter Try.func83, Try.ntmps83
  go_wp2
  go_ret2
  exact ⟨rfl, rfl⟩
theorem at_more (A : Option Addr) (l c : Nat) (i : Int) (w : World) (hi : 0 ≤ i) (hl : (l : Int) - 2 < i) (hm : l ≤ maxLen) :
    Calls Try.prog 83 #[.slice A l c, .int .i64 i] w fun e w' => e = .returned (.tuple #[.int .i64 0, .int .i64 7]) ∧ w = w' := by
  unfold maxLen at hm
  have hi' : ¬ i < 0 := by omega
  go_enter Try.func83, Try.ntmps83
  go_wp2
  go_ret2
  exact ⟨rfl, rfl⟩
theorem at_ok (A : Option Addr) (l c i : Nat) (xs : List UInt8) (w : World) (h : Rd w A l (bv xs)) (hi : i + 2 ≤ l) (hm : l ≤ maxLen) (x y : UInt8) (hx : xs[i]? = some x) (hy : xs[i + 1]? = some y) :
    Calls Try.prog 83 #[.slice A l c, .int .i64 (i : Int)] w fun e w' => e = .returned (.tuple #[.int .i64 (256 * x.toNat + y.toNat), .int .i64 0]) ∧ ∃ nq, w' = w.drewN nq := by
  unfold maxLen at hm
  obtain ⟨b, o, rfl, _, hc⟩ := h.at_ (k := i) (by omega)
  have c0 := hc i (.int .u8 x.toNat) (by simp [bv, hx])
  have c1 := hc (i + 1) (.int .u8 y.toNat) (by simp [bv, hy])
  have q0 : (i : Int) < (l : Int) := by omega
  have q1 : (i : Int) + 1 < (l : Int) := by omega
  have q2 : ¬ (i : Int) < 0 := by omega
  have q3 : ¬ (l : Int) - 2 < (i : Int) := by omega
  have hx' := x.toNat_lt
  have hy' := y.toNat_lt
  clear hx hy hc h
  go_enter Try.func83, Try.ntmps83
  go_wp2
  go_quiet (fail)
  go_wp2
  go_ret2
  have ho := or_word _ _ hx' hy'
  exact ⟨by rw [ho]; rfl, nq, rfl⟩

end Go.Proofs.Ytfpfijggmfeejaa

namespace Go.Proofs.Ytfpfijggmfeejaa
set_option linter.unusedVariables false
set_option linter.unusedSimpArgs false
open Go.RowKit

theorem bytesFor_any (n m : Nat) (hn : n ≤ maxLen) (h1 : n ≤ 8 * m) (h2 : 8 * m < n + 8) (w : World) :
    Calls Try.prog 82 #[.int .i64 (n : Int)] w fun e w' => e = .returned (.int .i64 (m : Int)) ∧ w = w' := by
  unfold maxLen at hn
  by_cases h : n % 8 = 0
  · have h1 : ((n : Int) % 8 != 0) = false := by rw [bne_eq_false_iff_eq]; omega
    have h2 : (n : Int) / 8 = (m : Int) := by omega
    have H2 := hide h2
    clear h h2
    go_enter Try.func82, Try.ntmps82
    go_wp2
    go_ret
    exact ⟨by rw [← H2.out]; rfl, rfl⟩
  · have h1 : ((n : Int) % 8 != 0) = true := by rw [bne_iff_ne]; omega
    have h2 : (n : Int) / 8 + 1 = (m : Int) := by omega
    have H2 := hide h2
    clear h h2
    go_enter Try.func82, Try.ntmps82
    go_wp2
    go_ret
    exact ⟨by rw [← H2.out]; rfl, rfl⟩

set_option maxHeartbeats 400000 in
theorem pack_ok (A : Option Addr) (n c m : Nat) (xs : List Int) (w : World) (h : Rd w A n (iv xs)) (hn : n ≤ 100000) (hb : bitsB xs = true) (hm1 : n ≤ 8 * m) (hm2 : 8 * m < n + 8) :
    Calls Try.prog 80 #[.slice A n c] w fun e w' => e = .returned (.tuple #[.slice (some ⟨w.heap.size, 0, none⟩) m m, .int .i64 0]) ∧ Blk w' w.heap.size 5 (bv (pkTo xs m n)) ∧ Below w.heap.size w w' := by
  have hl : xs.length = n := by rw [← iv_length]; exact h.1
  have hmk := fun W => run_mk (P := Try.prog) 38 5 (.int .u8 0) 1 Try.underlying38 u8_info rfl m (by omega) (by omega) W
  have HB := hide hb
  have Hl := hide hl
  clear hb hl
  go_enter Try.func80, Try.ntmps80
  go_wp2_with (go_at_call 82; refine (bytesFor_any n m (by unfold maxLen; omega) hm1 hm2 _).mono ?_; rintro e w' ⟨rfl, rfl⟩)
  clear hmk
  go_loopw [13] (fun i wr => ∃ k : Nat, k ≤ n ∧ i = .int .i64 k ∧ Blk wr w.heap.size 5 (bv (pkTo xs m k)) ∧ Below w.heap.size w wr) (fun i _ => n - (intOf i).toNat)
  case atStart => exact ⟨0, Nat.zero_le _, rfl, by rw [pkTo_zero]; exact Blk.new _ _ _, (Below.refl _ _).alloc (Nat.le_refl _) _⟩
  case round =>
    obtain ⟨k, hk, rfl, hbk, hbel⟩ := hrel
    by_cases hlt : k < n
    · obtain ⟨b, o, rfl, hbl, hc⟩ := h.at_ hlt
      have hlt' : k < xs.length := by rw [Hl.out]; exact hlt
      have c0 := hc k _ (iv_get xs k hlt')
      have cA : wr.cell? ⟨b, o + k, none⟩ = some (.int .i64 xs[k]) := (hbel.cell (p := ⟨b, o + k, none⟩) hbl).trans c0
      have hkm : k / 8 < m := by omega
      have cB : wr.cell? ⟨w.heap.size, k / 8, none⟩ = some (.int .u8 (byteTo xs (k / 8) (k % 8) : Nat)) := by rw [hbk.cell]; exact pk_cell xs m k HB.out hkm
      have fB := hbk.frozen (k / 8)
      have x1 : (k : Int) / 8 < (m : Int) := by omega
      have x2 : 0 ≤ (k : Int) / 8 := by omega
      have x3 : (0 : Int) ≤ (k : Int) % 8 := by omega
      have x4 : (k : Int) % 8 < 8 := by omega
      have hB : byteTo xs (k / 8) (k % 8) < 256 := by have := byteTo_lt xs HB.out (k / 8) (k % 8); have := two_pow_lt (k % 8) (by omega); omega
      have P0 := hide (pk_bit0 xs m k HB.out hkm)
      have P1 := hide (pk_bit1 xs m k HB.out hkm)
      have hbit : xs[k] = 0 ∨ xs[k] = 1 := by simpa using List.all_eq_true.1 HB.out xs[k] (List.getElem_mem hlt')
      have hba : bitAt xs k = xs[k].toNat := by simp [bitAt, hlt']
      have Hba := hide hba
      generalize byteTo xs (k / 8) (k % 8) = B at *
      have Hbk := hide hbk
      have Hbel := hide hbel
      clear hbk hbel c0 hc h hba
      rcases hbit with e | e
      · rw [e] at cA
        have He := hide e
        clear e
        go_wp2
        go_region
        go_wp2
        refine ⟨⟨k + 1, by omega, by go_num, ?_, (Hbel.out.setCell (Nat.le_refl _) _).drew⟩, by simp [intOf]; omega⟩
        have := Hbk.out.set (k / 8) (.int .u8 (bits .or .u8 (B : Int) 0))
        rwa [P0.out (by rw [Hba.out, He.out]; rfl)] at this
      · rw [e] at cA
        have He := hide e
        clear e
        go_wp2
        go_region
        go_wp2
        refine ⟨⟨k + 1, by omega, by go_num, ?_, (Hbel.out.setCell (Nat.le_refl _) _).drew⟩, by simp [intOf]; omega⟩
        have := Hbk.out.set (k / 8) (.int .u8 (bits .or .u8 (B : Int) (2 ^ (k % 8) % 256)))
        rwa [P1.out (by rw [Hba.out, He.out]; rfl)] at this
    · obtain rfl : k = n := by omega
      go_wp2
      go_ret2
      exact ⟨rfl, hbk, hbel⟩

set_option maxHeartbeats 400000 in
theorem pack_no (A : Option Addr) (n c : Nat) (xs : List Int) (w : World) (h : Rd w A n (iv xs)) (hn : n ≤ 100000) (hb : bitsB xs = false) :
    Calls Try.prog 80 #[.slice A n c] w fun e w' => e = .returned (.tuple #[.slice none 0 0, .int .i64 1]) ∧ Below w.heap.size w w' := by
  have hl : xs.length = n := by rw [← iv_length]; exact h.1
  obtain ⟨m, hm1, hm2⟩ : ∃ m, n ≤ 8 * m ∧ 8 * m < n + 8 := ⟨(n + 7) / 8, by omega, by omega⟩
  have hmk := fun W => run_mk (P := Try.prog) 38 5 (.int .u8 0) 1 Try.underlying38 u8_info rfl m (by omega) (by omega) W
  have HB := hide hb
  have Hl := hide hl
  clear hb hl
  go_enter Try.func80, Try.ntmps80
  go_wp2_with (go_at_call 82; refine (bytesFor_any n m (by unfold maxLen; omega) hm1 hm2 _).mono ?_; rintro e w' ⟨rfl, rfl⟩)
  clear hmk
  go_loopw [13] (fun i wr => ∃ k : Nat, k ≤ n ∧ i = .int .i64 k ∧ (∃ zs : List Int, zs.length = m ∧ Blk wr w.heap.size 5 (zs.map (Value.int .u8))) ∧ bitsB (xs.take k) = true ∧ Below w.heap.size w wr) (fun i _ => n - (intOf i).toNat)
  case atStart => exact ⟨0, Nat.zero_le _, rfl, ⟨List.replicate m 0, by simp, by rw [List.map_replicate]; exact Blk.new _ _ _⟩, by simp [bitsB], (Below.refl _ _).alloc (Nat.le_refl _) _⟩
  case round =>
    obtain ⟨k, hk, rfl, ⟨zs, hzs, hbk⟩, htk, hbel⟩ := hrel
    by_cases hlt : k < n
    · obtain ⟨b, o, rfl, hbl, hc⟩ := h.at_ hlt
      have hlt' : k < xs.length := by rw [Hl.out]; exact hlt
      have c0 := hc k _ (iv_get xs k hlt')
      have cA : wr.cell? ⟨b, o + k, none⟩ = some (.int .i64 xs[k]) := (hbel.cell (p := ⟨b, o + k, none⟩) hbl).trans c0
      have hkm : k / 8 < m := by omega
      have cB : wr.cell? ⟨w.heap.size, k / 8, none⟩ = some (.int .u8 (zs[k / 8]?.getD 0)) := by rw [hbk.cell]; simp [hzs, hkm]
      have fB := hbk.frozen (k / 8)
      have x1 : (k : Int) / 8 < (m : Int) := by omega
      have x2 : 0 ≤ (k : Int) / 8 := by omega
      have x3 : (0 : Int) ≤ (k : Int) % 8 := by omega
      have x4 : (k : Int) % 8 < 8 := by omega
      have hts := bitsB_snoc xs k hlt'
      have Hts := hide hts
      have Htk := hide htk
      have Hbk := hide hbk
      have Hbel := hide hbel
      have Hzs := hide hzs
      clear hbk hbel c0 hc h hts htk hzs
      generalize zs[k / 8]?.getD 0 = B at *
      by_cases hbit : xs[k] = 0 ∨ xs[k] = 1
      · rcases hbit with e | e
        · rw [e] at cA
          have He := hide e
          clear e
          go_wp2
          go_region
          go_wp2
          refine ⟨⟨k + 1, by omega, by go_num, ⟨zs.set (k / 8) (bits .or .u8 B 0), by rw [List.length_set]; exact Hzs.out, ?_⟩, by rw [Hts.out, Htk.out, He.out]; rfl, (Hbel.out.setCell (Nat.le_refl _) _).drew⟩, by simp [intOf]; omega⟩
          have := Hbk.out.set (k / 8) (.int .u8 (bits .or .u8 B 0))
          rwa [← List.map_set] at this
        · rw [e] at cA
          have He := hide e
          clear e
          go_wp2
          go_region
          go_wp2
          refine ⟨⟨k + 1, by omega, by go_num, ⟨zs.set (k / 8) (bits .or .u8 B (2 ^ (k % 8) % 256)), by rw [List.length_set]; exact Hzs.out, ?_⟩, by rw [Hts.out, Htk.out, He.out]; rfl, (Hbel.out.setCell (Nat.le_refl _) _).drew⟩, by simp [intOf]; omega⟩
          have := Hbk.out.set (k / 8) (.int .u8 (bits .or .u8 B (2 ^ (k % 8) % 256)))
          rwa [← List.map_set] at this
      · have n0 : (xs[k] != 0) = true := by rw [bne_iff_ne]; omega
        have n1 : (xs[k] != 1) = true := by rw [bne_iff_ne]; omega
        generalize xs[k] = z at *
        go_wp2
        go_ret2
        exact ⟨rfl, Hbel.out⟩
    · obtain rfl : k = n := by omega
      rw [List.take_of_length_le (by rw [Hl.out]; exact Nat.le_refl _), HB.out] at htk
      cases htk

set_option maxHeartbeats 400000 in
theorem unpack_neg (A : Option Addr) (l c : Nat) (n : Int) (w : World) (hn : n < 0) :
    Calls Try.prog 78 #[.slice A l c, .int .i64 n] w fun e w' => e = .returned (.tuple #[.slice none 0 0, .int .i64 1]) ∧ w = w' := by
  go_enter Try.func78, Try.ntmps78
  go_wp2_with fail
  go_ret2
  exact ⟨rfl, rfl⟩
theorem unpack_more (A : Option Addr) (l c : Nat) (n : Nat) (w : World) (hn : n ≤ maxLen) (h : 8 * l < n) :
    Calls Try.prog 78 #[.slice A l c, .int .i64 (n : Int)] w fun e w' => e = .returned (.tuple #[.slice none 0 0, .int .i64 7]) ∧ w = w' := by
  obtain ⟨m, hm1, hm2⟩ : ∃ m, n ≤ 8 * m ∧ 8 * m < n + 8 := ⟨(n + 7) / 8, by omega, by omega⟩
  have q0 : ¬ (n : Int) < 0 := by omega
  have q1 : (l : Int) < (m : Int) := by omega
  have q2 : l < m := by omega
  go_enter Try.func78, Try.ntmps78
  go_wp2_with (go_at_call 82; refine (bytesFor_any n m hn hm1 hm2 _).mono ?_; rintro e w' ⟨rfl, rfl⟩)
  go_ret2
  exact ⟨rfl, rfl⟩
set_option maxHeartbeats 400000 in
theorem unpack_ok (A : Option Addr) (l c n : Nat) (xs : List UInt8) (w : World) (h : Rd w A l (bv xs)) (hn : n ≤ 8 * l) (hl : l ≤ 100000) :
    Calls Try.prog 78 #[.slice A l c, .int .i64 (n : Int)] w fun e w' => e = .returned (.tuple #[.slice (some ⟨w.heap.size, 0, none⟩) n n, .int .i64 0]) ∧ Blk w' w.heap.size 3 (iv (unpackL xs n)) ∧ Below w.heap.size w w' := by
  obtain ⟨m, hm1, hm2⟩ : ∃ m, n ≤ 8 * m ∧ 8 * m < n + 8 := ⟨(n + 7) / 8, by omega, by omega⟩
  have hxl : xs.length = l := by rw [← bv_length]; exact h.1
  have Hxl := hide hxl
  have hmk := fun W => run_mk (P := Try.prog) 35 3 (.int .i64 0) 8 Try.underlying35 int_info rfl n (by omega) (by omega) W
  have q0 : ¬ (n : Int) < 0 := by omega
  have q1 : ¬ (l : Int) < (m : Int) := by omega
  have q2 : ¬ l < m := by omega
  clear hxl
  go_enter Try.func78, Try.ntmps78
  go_wp2_with (go_at_call 82; refine (bytesFor_any n m (by unfold maxLen; omega) hm1 hm2 _).mono ?_; rintro e w' ⟨rfl, rfl⟩)
  clear hmk
  go_loopw [19] (fun i wr => ∃ k : Nat, k ≤ n ∧ i = .int .i64 k ∧ Blk wr w.heap.size 3 (iv (unpackL xs k ++ List.replicate (n - k) 0)) ∧ Below w.heap.size w wr) (fun i _ => n - (intOf i).toNat)
  case atStart => exact ⟨0, Nat.zero_le _, rfl, by simp [unpackL, iv]; exact Blk.new _ _ _, (Below.refl _ _).alloc (Nat.le_refl _) _⟩
  case round =>
    obtain ⟨k, hk, rfl, hbk, hbel⟩ := hrel
    by_cases hlt : k < n
    · have hk8 : k / 8 < l := by omega
      obtain ⟨b, o, rfl, hbl, hc⟩ := h.at_ hk8
      have hlt' : k / 8 < xs.length := by rw [Hxl.out]; exact hk8
      have c0 := hc (k / 8) _ (bv_get xs (k / 8) hlt')
      have cA : wr.cell? ⟨b, o + k / 8, none⟩ = some (.int .u8 xs[k / 8].toNat) := (hbel.cell (p := ⟨b, o + k / 8, none⟩) hbl).trans c0
      have cB : wr.cell? ⟨w.heap.size, k, none⟩ = some (.int .i64 0) := by
        rw [hbk.cell, iv, List.getElem?_map, List.getElem?_append_right (by rw [unpackL_length]; exact Nat.le_refl _), unpackL_length, Nat.sub_self, List.getElem?_replicate, if_pos (by omega)]
        rfl
      have fB := hbk.frozen k
      have x1 : (k : Int) / 8 < (l : Int) := by omega
      have x2 : 0 ≤ (k : Int) / 8 := by omega
      have x3 : (0 : Int) ≤ (k : Int) % 8 := by omega
      have x4 : (k : Int) % 8 < 8 := by omega
      have x5 : (k : Int) < (n : Int) := by omega
      have hx := xs[k / 8].toNat_lt
      have Hg := hide (show xs[k / 8]?.getD 0 = xs[k / 8] by simp [hlt'])
      generalize xs[k / 8] = X at *
      have Hbk := hide hbk
      have Hbel := hide hbel
      clear hbk hbel c0 hc h
      go_wp2
      refine ⟨⟨k + 1, by omega, by go_num, ?_, Hbel.out.setCell (Nat.le_refl _) _⟩, by simp [intOf]; omega⟩
      have h1 := and1_i64 X.toNat (k % 8) hx
      rw [h1]
      have := Hbk.out.set k (.int .i64 ((X.toNat / 2 ^ (k % 8) % 2 : Nat) : Int))
      have h2 := unpack_set xs n k hlt
      rw [Hg.out] at h2
      unfold bitOf at h2
      rwa [h2] at this
    · obtain rfl : k = n := by omega
      go_wp2
      go_ret2
      exact ⟨rfl, by simpa using hbk, hbel⟩

end Go.Proofs.Ytfpfijggmfeejaa

namespace Go.Proofs.Ytfpfijggmfeejaa
set_option linter.unusedVariables false
set_option linter.unusedSimpArgs false
open Go.RowKit

theorem setWord_blk (g i l c n : Nat) (cs : List Value) (w : World) (h : Blk w g 5 cs) (hi : i + 2 ≤ l) (hl : l ≤ cs.length) (hl2 : l ≤ 200000) (hn : n ≤ 65535) :
    Calls Try.prog 85 #[.slice (some ⟨g, 0, none⟩) l c, .int .i64 (i : Int), .int .i64 (n : Int)] w fun e w' =>
      e = .returned (.tuple #[]) ∧ Blk w' g 5 ((cs.set i (.int .u8 ((n : Int) / 256))).set (i + 1) (.int .u8 ((n : Int) % 256))) ∧ (∀ B a, B ≤ g → Below B a w → Below B a w') :=
  (setWord_any g i l c n cs w h hi hl hl2 hn).mono fun e w' ⟨he, hw⟩ => by
    subst hw
    exact ⟨he, (h.set i _).set (i + 1) _, fun B a hB hb => (hb.setCell hB _).setCell hB _⟩

theorem longer_blk (A : Option Addr) (n c : Nat) (mi : Int) (m N : Nat) (hmi : mi = (m : Int)) (hN : n + m = N) (xs : List UInt8) (w : World) (h : Rd w A n (bv xs)) (hm : N ≤ 200000) :
    Calls Try.prog 84 #[.slice A n c, .int .i64 mi] w fun e w' =>
      e = .returned (.slice (some ⟨w.heap.size, 0, none⟩) N N) ∧ Blk w' w.heap.size 5 (bv xs ++ List.replicate m (.int .u8 0)) ∧ Below w.heap.size w w' := by
  subst hmi hN
  exact (longer_any A n c m xs w h hm).mono fun e w' ⟨he, hw⟩ => by
    subst hw
    exact ⟨he, Blk.new _ _ _, (Below.refl _ _).alloc (Nat.le_refl _) _⟩

end Go.Proofs.Ytfpfijggmfeejaa

namespace Go.Proofs.Ytfpfijggmfeejaa
set_option linter.unusedVariables false
set_option linter.unusedSimpArgs false
open Go.RowKit

theorem putI (A : Option Addr) (l c : Nat) (ni : Int) (n N : Nat) (hni : ni = (n : Int)) (hN : l + 2 = N) (xs : List UInt8) (w : World) (h : Rd w A l (bv xs)) (hl : l ≤ 100000) (hn : n ≤ 65535) :
    Calls Try.prog 81 #[.slice A l c, .int .i64 ni] w fun e w' =>
      e = .returned (.tuple #[.slice (some ⟨w.heap.size, 0, none⟩) N N, .int .i64 0]) ∧ Blk w' w.heap.size 5 (bv (xs ++ word n)) ∧ Below w.heap.size w w' := by
  subst hni hN
  exact (put_ok A l c n xs w h hl hn).mono fun e w' ⟨he, hw⟩ => by
    subst hw
    exact ⟨he, Blk.new _ _ _, (Below.refl _ _).alloc (Nat.le_refl _) _⟩

theorem atI (A : Option Addr) (l c : Nat) (ii : Int) (i : Nat) (hii : ii = (i : Int)) (xs : List UInt8) (w : World) (h : Rd w A l (bv xs)) (hi : i + 2 ≤ l) (hm : l ≤ maxLen) (x y : UInt8) (hx : xs[i]? = some x) (hy : xs[i + 1]? = some y) (r : Int) (hr : r = 256 * x.toNat + y.toNat) :
    Calls Try.prog 83 #[.slice A l c, .int .i64 ii] w fun e w' => e = .returned (.tuple #[.int .i64 r, .int .i64 0]) ∧ ∃ nq, w' = w.drewN nq := by
  subst hii hr
  exact at_ok A l c i xs w h hi hm x y hx hy

end Go.Proofs.Ytfpfijggmfeejaa
