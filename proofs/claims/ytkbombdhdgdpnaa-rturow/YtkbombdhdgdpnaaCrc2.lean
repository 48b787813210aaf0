/-
  What is proved here: what Add, Good and Whole of package crc return, for every slice that reads as bytes. Conditions: lengths up to some hundred thousand.
-/
import Derived.Test.YtkbombdhdgdpnaaCrc1
namespace Go.Proofs.Ytkbombdhdgdpnaa
set_option linter.unusedVariables false
set_option linter.unusedSimpArgs false
open Go.RowKit

theorem bv_tail (n : Nat) (h : n < 65536) : bv (tailL n) = [.int .u8 ((n : Int) % 256), .int .u8 ((n : Int) / 256)] := by
  have e1 : ((n % 256 % 2 ^ 8 : Nat) : Int) = (n : Int) % 256 := by omega
  have e2 : ((n / 256 % 2 ^ 8 : Nat) : Int) = (n : Int) / 256 := by omega
  simp only [bv, tailL, List.map_cons, List.map_nil, UInt8.toNat_ofNat', e1, e2]

/-- Add: b, and its sum behind it, in a new block. -/
theorem add_any (A : Option Addr) (l c N : Nat) (hN : l + 2 = N) (xs : List UInt8) (w : World) (h : Rd w A l (bv xs)) (hl : l ≤ 100000) :
    Calls Try.prog 16 #[.slice A l c] w fun e w' =>
      e = .returned (.slice (some ⟨w.heap.size, 0, none⟩) N N) ∧ Blk w' w.heap.size 5 (bv (xs ++ tailL (sumN xs))) ∧ Below w.heap.size w w' := by
  subst hN
  have hll : (bv xs).length = l := h.1
  have hmk := fun W => run_mk (P := Try.prog) 22 5 (.int .u8 0) 1 Try.underlying22 u8_info rfl (l + 2) (by omega) (by omega) W
  rw [show ((l + 2 : Nat) : Int) = (l : Int) + 2 by omega] at hmk
  have hcp := fun ty => run_cp (P := Try.prog) 22 22 ty 5 Try.underlying22 u8_size w A l c (bv xs) h (bv_one xs) (List.replicate (l + 2) (.int .u8 0)) (by simp) (l + 2) (l + 2) (by omega)
  have hd : (List.replicate (l + 2) (Value.int .u8 0)).drop l = [.int .u8 0, .int .u8 0] := by rw [List.drop_replicate, show l + 2 - l = 2 by omega]; rfl
  rw [hd] at hcp
  clear hd
  obtain ⟨W, hW⟩ : ∃ W, w.alloc (.cells (arr (bv xs ++ [.int .u8 0, .int .u8 0])) 5) = W := ⟨_, rfl⟩
  rw [hW] at hcp
  have kW : Blk W w.heap.size 5 (bv xs ++ [.int .u8 0, .int .u8 0]) := by rw [← hW]; exact Blk.new w _ _
  have bW : Below w.heap.size w W := by rw [← hW]; exact (Below.refl _ _).alloc (Nat.le_refl _) _
  have S := hide (sum_any A l c xs W (h.keep bW) (by omega))
  have hc0 : W.cell? ⟨w.heap.size, l, none⟩ = some (.int .u8 0) := by rw [kW.cell, List.getElem?_append_right (by omega), hll, Nat.sub_self]; rfl
  have hc1 : W.cell? ⟨w.heap.size, l + 1, none⟩ = some (.int .u8 0) := by rw [kW.cell, List.getElem?_append_right (by omega), hll, show l + 1 - l = 1 by omega]; rfl
  have hf0 := kW.frozen l
  have hf1 := kW.frozen (l + 1)
  have hs := sumN_lt xs
  have Hv := fun W => hide (halves_any (sumN xs) hs W)
  have q0 : (l : Int) < (l : Int) + 2 := by omega
  have q1 : (l : Int) + 1 < (l : Int) + 2 := by omega
  have Ht := hide (bv_tail (sumN xs) hs)
  have KW := hide kW
  have BW := hide bW
  clear kW bW hW h
  generalize sumN xs = Y at *
  have hll' := hide hll
  clear hll
  go_enter Try.func16, Try.ntmps16
  go_wp2_with (first
    | (go_at_call 25; refine S.out.mono ?_; rintro e w' ⟨rfl, rfl⟩)
    | (go_at_call 24; refine (Hv _).out.mono ?_; rintro e w' ⟨rfl, rfl⟩))
  go_ret
  refine ⟨rfl, ?_, ?_⟩
  · have := (KW.out.set l (.int .u8 ((Y : Int) % 256))).set (l + 1) (.int .u8 ((Y : Int) / 256))
    rw [bv_append, Ht.out]
    have e : ((bv xs ++ [Value.int .u8 0, .int .u8 0]).set l (.int .u8 ((Y : Int) % 256))).set (l + 1) (.int .u8 ((Y : Int) / 256)) = bv xs ++ [.int .u8 ((Y : Int) % 256), .int .u8 ((Y : Int) / 256)] := by
      have hh := hll'.out
      subst hh
      simp
    rw [e] at this
    exact this
  · exact (BW.out.setCell (Nat.le_refl _) _).setCell (Nat.le_refl _) _

/-- Good: does it end with the sum of what stands ahead? -/
theorem good_any (A : Option Addr) (l c : Nat) (xs : List UInt8) (w : World) (h : Rd w A l (bv xs)) (hc : l ≤ c) (hl : l ≤ 200000) :
    Calls Try.prog 26 #[.slice A l c] w fun e w' => e = .returned (.bool (goodB xs)) ∧ w = w' := by
  have hxl : xs.length = l := by rw [← bv_length]; exact h.1
  by_cases h2 : l < 2
  · have Hg := hide (good_short xs (by omega))
    have q : (l : Int) - 2 < 0 := by omega
    clear h
    go_enter Try.func26, Try.ntmps26
    go_wp2
    go_ret
    exact ⟨by rw [Hg.out]; rfl, rfl⟩
  obtain ⟨n, rfl⟩ : ∃ n, l = n + 2 := ⟨l - 2, by omega⟩
  have e1 : xs[n]? = some xs[n] := by simp
  have e2 : xs[n + 1]? = some xs[n + 1] := by simp
  have Hg := hide (good_two xs n hxl _ _ e1 e2)
  have hcut := h.cut 0 n c (by omega) hc
  rw [cutA_zero, List.drop_zero, show (bv xs).take n = bv (xs.take n) by simp [bv, List.map_take]] at hcut
  have S := hide (sum_any A n c (xs.take n) w hcut (by omega))
  have hs := sumN_lt (xs.take n)
  have Hv := fun W => hide (halves_any (sumN (xs.take n)) hs W)
  have hsl := fun W => run_slTo (P := Try.prog) 22 5 Try.underlying22 u8_size A (n + 2) c (n : Int) n rfl (by omega) W
  obtain ⟨b, o, rfl, hbl, hcell⟩ := h.at_ (k := n) (by omega)
  have c0 := hcell n _ (bv_get xs n (by omega))
  have c1 := hcell (n + 1) _ (bv_get xs (n + 1) (by omega))
  generalize xs[n].toNat = X at *
  generalize xs[n + 1].toNat = Y at *
  generalize sumN (xs.take n) = Z at *
  have q0 : ¬ (n : Int) + 2 - 2 < 0 := by omega
  have q1 : (n : Int) < (n : Int) + 2 := by omega
  have q2 : (n : Int) + 1 < (n : Int) + 2 := by omega
  have Hxl := hide hxl
  clear hcut h hcell hxl e1 e2
  by_cases hx : X = Z % 256
  · have p1 : ((X : Int) == (Z : Int) % 256) = true := by rw [beq_iff_eq]; omega
    rw [hx] at Hg
    by_cases hy : Y = Z / 256
    · have p2 : ((Y : Int) == (Z : Int) / 256) = true := by rw [beq_iff_eq]; omega
      have Hg' := hide (Hg.out.trans (by simp [hy]) : goodB xs = true)
      clear Hg hx hy
      go_enter Try.func26, Try.ntmps26
      go_wp2_with (first
        | (go_at_call 25; refine S.out.mono ?_; rintro e w' ⟨rfl, rfl⟩)
        | (go_at_call 24; refine (Hv _).out.mono ?_; rintro e w' ⟨rfl, rfl⟩))
      go_ret
      exact ⟨by rw [Hg'.out]; rfl, rfl⟩
    · have p2 : ((Y : Int) == (Z : Int) / 256) = false := by rw [beq_eq_false_iff_ne]; omega
      have Hg' := hide (Hg.out.trans (by simp [hy]) : goodB xs = false)
      clear Hg hx hy
      go_enter Try.func26, Try.ntmps26
      go_wp2_with (first
        | (go_at_call 25; refine S.out.mono ?_; rintro e w' ⟨rfl, rfl⟩)
        | (go_at_call 24; refine (Hv _).out.mono ?_; rintro e w' ⟨rfl, rfl⟩))
      go_ret
      exact ⟨by rw [Hg'.out]; rfl, rfl⟩
  · have p1 : ((X : Int) == (Z : Int) % 256) = false := by rw [beq_eq_false_iff_ne]; omega
    have Hg' := hide (Hg.out.trans (by simp [hx]) : goodB xs = false)
    clear Hg hx
    go_enter Try.func26, Try.ntmps26
    go_wp2_with (first
      | (go_at_call 25; refine S.out.mono ?_; rintro e w' ⟨rfl, rfl⟩)
      | (go_at_call 24; refine (Hv _).out.mono ?_; rintro e w' ⟨rfl, rfl⟩))
    go_ret
    exact ⟨by rw [Hg'.out]; rfl, rfl⟩

/-- Whole: refused. -/
theorem whole_no (A : Option Addr) (l c : Nat) (xs : List UInt8) (w : World) (h : Rd w A l (bv xs)) (hc : l ≤ c) (hl : l ≤ 200000) (hg : goodB xs = false) :
    Calls Try.prog 17 #[.slice A l c] w fun e w' => e = .returned (.tuple #[.slice none 0 0, .int .i64 20]) ∧ w = w' := by
  have G := good_any A l c xs w h hc hl
  rw [hg] at G
  have HG := hide G
  clear G h
  go_enter Try.func17, Try.ntmps17
  go_wp2_with (go_at_call 26; refine HG.out.mono ?_; rintro e w' ⟨rfl, rfl⟩)
  go_ret2
  exact ⟨rfl, rfl⟩
/-- Whole: what stands ahead of the sum, in a new block. -/
theorem whole_ok (A : Option Addr) (n c : Nat) (xs : List UInt8) (w : World) (h : Rd w A (n + 2) (bv xs)) (hc : n + 2 ≤ c) (hl : n ≤ 100000) (hg : goodB xs = true) :
    Calls Try.prog 17 #[.slice A (n + 2) c] w fun e w' =>
      e = .returned (.tuple #[.slice (some ⟨w.heap.size, 0, none⟩) n n, .int .i64 0]) ∧ Blk w' w.heap.size 5 (bv (xs.take n)) ∧ Below w.heap.size w w' := by
  have G := good_any A (n + 2) c xs w h hc (by omega)
  rw [hg] at G
  have HG := hide G
  have hmk := fun W => run_mk (P := Try.prog) 22 5 (.int .u8 0) 1 Try.underlying22 u8_info rfl n (by omega) (by omega) W
  have hcp := fun ty => run_cpS (P := Try.prog) 22 22 ty 5 Try.underlying22 u8_size w A (n + 2) c (bv xs) h (bv_one xs) (List.replicate n (.int .u8 0)) n n (by simp) (by omega)
  rw [show (bv xs).take n = bv (xs.take n) by simp [bv, List.map_take]] at hcp
  clear G h
  go_enter Try.func17, Try.ntmps17
  go_wp2_with (go_at_call 26; refine HG.out.mono ?_; rintro e w' ⟨rfl, rfl⟩)
  go_ret2
  exact ⟨rfl, Blk.new w _ _, (Below.refl _ _).alloc (Nat.le_refl _) _⟩

theorem wholeI (A : Option Addr) (l n c : Nat) (hn : n + 2 = l) (xs : List UInt8) (w : World) (h : Rd w A l (bv xs)) (hc : l ≤ c) (hl : n ≤ 100000) (hg : goodB xs = true) :
    Calls Try.prog 17 #[.slice A l c] w fun e w' =>
      e = .returned (.tuple #[.slice (some ⟨w.heap.size, 0, none⟩) n n, .int .i64 0]) ∧ Blk w' w.heap.size 5 (bv (xs.take n)) ∧ Below w.heap.size w w' := by
  subst hn
  exact whole_ok A n c xs w h hc hl hg

end Go.Proofs.Ytkbombdhdgdpnaa
