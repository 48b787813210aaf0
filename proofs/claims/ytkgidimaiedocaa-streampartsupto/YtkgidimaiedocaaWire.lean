/-
  What is proved here: what each function of package wire returns, for every slice that reads as bytes or ints and every number. Conditions: lengths up to 200000 where memory is made. ALSO: what wire's bytesFor, Pack, Unpack and PutText return. Conditions: lengths up to some hundred thousand. ALSO: what wire's PutText returns. Condition: the bytes ahead of it are at most 100000. ALSO: the contracts of package wire once more, in the forms in which callers meet them (numbers as ints, worlds by what is kept).
-/
import Derived.Test.YtkgidimaiedocaaInfo
import Derived.Test.YtkgidimaiedocaaBitsMath
import Derived.LoopTactic
namespace Go.Proofs.Ytkgidimaiedocaa
set_option linter.unusedVariables false
set_option linter.unusedSimpArgs false
open Go.RowKit

/-- longer(b, m): b, and m zeros behind it, in a new block. -/
theorem longer_any (A : Option Addr) (n c m : Nat) (xs : List UInt8) (w : World) (h : Rd w A n (bv xs)) (hm : n + m ≤ 200000) :
    Calls Try.prog 101 #[.slice A n c, .int .i64 (m : Int)] w fun e w' =>
      e = .returned (.slice (some ⟨w.heap.size, 0, none⟩) (n + m) (n + m)) ∧ w.alloc (.cells (arr (bv xs ++ List.replicate m (.int .u8 0))) 5) = w' := by
  have hmk := fun W => run_mk (P := Try.prog) 28 5 (.int .u8 0) 1 Try.underlying28 u8_info rfl (n + m) (by omega) (by omega) W
  rw [Int.natCast_add] at hmk
  have hcp := fun ty => run_cp (P := Try.prog) 28 28 ty 5 Try.underlying28 u8_size w A n c (bv xs) h (bv_one xs) (List.replicate (n + m) (.int .u8 0)) (by simp) (n + m) (n + m) (by omega)
  have hd : (List.replicate (n + m) (Value.int .u8 0)).drop n = List.replicate m (.int .u8 0) := by rw [List.drop_replicate]; congr 1; omega
  rw [hd] at hcp
  clear hd
  go_enter Try.func101, Try.ntmps101
  go_wp2
  go_ret
  exact ⟨rfl, rfl⟩

/-- setWord(b, i, n): the two bytes of n, laid over those from i on. -/
theorem setWord_any (g i l c n : Nat) (cs : List Value) (w : World) (h : Blk w g 5 cs) (hi : i + 2 ≤ l) (hl : l ≤ cs.length) (hl2 : l ≤ 200000) (hn : n ≤ 65535) :
    Calls Try.prog 102 #[.slice (some ⟨g, 0, none⟩) l c, .int .i64 (i : Int), .int .i64 (n : Int)] w fun e w' =>
      e = .returned (.tuple #[]) ∧ (w.setCell ⟨g, i, none⟩ (.int .u8 ((n : Int) / 256))).setCell ⟨g, i + 1, none⟩ (.int .u8 ((n : Int) % 256)) = w' := by
  have hc0 : w.cell? ⟨g, i, none⟩ = some cs[i] := by rw [h.cell]; simp
  have hf0 := h.frozen i
  have hc1 : w.cell? ⟨g, i + 1, none⟩ = some cs[i + 1] := by rw [h.cell]; simp
  have hf1 := h.frozen (i + 1)
  have hx : (i : Int) < (l : Int) := by omega
  have hx1 : (i : Int) + 1 < (l : Int) := by omega
  clear h
  go_enter Try.func102, Try.ntmps102
  go_wp2
  go_end0
  exact ⟨rfl, rfl⟩

/-- The two bytes of a word. -/
def word (n : Nat) : List UInt8 := [UInt8.ofNat (n / 256), UInt8.ofNat (n % 256)]

theorem bv_word (n : Nat) (h : n ≤ 65535) : bv (word n) = [.int .u8 ((n : Int) / 256), .int .u8 ((n : Int) % 256)] := by
  have e1 : ((n / 256 % 2 ^ 8 : Nat) : Int) = (n : Int) / 256 := by omega
  have e2 : ((n % 256 % 2 ^ 8 : Nat) : Int) = (n : Int) % 256 := by omega
  simp only [bv, word, List.map_cons, List.map_nil, UInt8.toNat_ofNat', e1, e2]

/-- Put: refused. -/
theorem put_no (A : Option Addr) (l c : Nat) (n : Int) (w : World) (hn : n < 0 ∨ 65535 < n) :
    Calls Try.prog 84 #[.slice A l c, .int .i64 n] w fun e w' => e = .returned (.tuple #[.slice none 0 0, .int .i64 1]) ∧ w = w' := by
  rcases hn with hn | hn
  · go_enter Try.func84, Try.ntmps84
    go_wp2
    go_ret2
    exact ⟨rfl, rfl⟩
  · have hn0 : ¬ n < 0 := by omega
    go_enter Try.func84, Try.ntmps84
    go_wp2
    go_ret2
    exact ⟨rfl, rfl⟩

/-- Put: b, and the word behind it, in a new block. -/
theorem put_ok (A : Option Addr) (l c n : Nat) (xs : List UInt8) (w : World) (h : Rd w A l (bv xs)) (hl : l ≤ 100000) (hn : n ≤ 65535) :
    Calls Try.prog 84 #[.slice A l c, .int .i64 (n : Int)] w fun e w' =>
      e = .returned (.tuple #[.slice (some ⟨w.heap.size, 0, none⟩) (l + 2) (l + 2), .int .i64 0]) ∧ w.alloc (.cells (arr (bv (xs ++ word n))) 5) = w' := by
  have hll : xs.length = l := by rw [← bv_length]; exact h.1
  have Hfin := hide (arr_put2 (bv xs) l h.1 (.int .u8 0) (.int .u8 0) (.int .u8 ((n : Int) / 256)) (.int .u8 ((n : Int) % 256)) [])
  go_enter Try.func84, Try.ntmps84
  go_wp2_with (first | (go_at_call 101; refine (longer_any A l c 2 xs w h (by omega)).mono ?_; rintro e w' ⟨rfl, rfl⟩) | (go_at_call 102; refine (setWord_any _ l (l + 2) (l + 2) n _ _ (Blk.new w 5 _) (by omega) (by simp [bv_length, hll]) (by omega) hn).mono ?_; rintro e w' ⟨rfl, rfl⟩))
  go_ret2
  exact ⟨rfl, by rw [Hfin.out, bv_append, bv_word n hn]⟩

/-- At: there are no two bytes. -/
theorem at_neg (A : Option Addr) (l c : Nat) (i : Int) (w : World) (hi : i < 0) :
    Calls Try.prog 141 #[.slice A l c, .int .i64 i] w fun e w' => e = .returned (.tuple #[.int .i64 0, .int .i64 1]) ∧ w = w' := by
  go_enter Try.func141, Try.ntmps141
  go_wp2
  go_ret2
  exact ⟨rfl, rfl⟩
theorem at_more (A : Option Addr) (l c : Nat) (i : Int) (w : World) (hi : 0 ≤ i) (hl : (l : Int) - 2 < i) (hm : l ≤ maxLen) :
    Calls Try.prog 141 #[.slice A l c, .int .i64 i] w fun e w' => e = .returned (.tuple #[.int .i64 0, .int .i64 7]) ∧ w = w' := by
  unfold maxLen at hm
  have hi' : ¬ i < 0 := by omega
  go_enter Try.func141, Try.ntmps141
  go_wp2
  go_ret2
  exact ⟨rfl, rfl⟩
theorem at_ok (A : Option Addr) (l c i : Nat) (xs : List UInt8) (w : World) (h : Rd w A l (bv xs)) (hi : i + 2 ≤ l) (hm : l ≤ maxLen) (x y : UInt8) (hx : xs[i]? = some x) (hy : xs[i + 1]? = some y) :
    Calls Try.prog 141 #[.slice A l c, .int .i64 (i : Int)] w fun e w' => e = .returned (.tuple #[.int .i64 (256 * x.toNat + y.toNat), .int .i64 0]) ∧ ∃ nq, w' = w.drewN nq := by
  unfold maxLen at hm
  obtain ⟨b, o, rfl, _, hc⟩ := h.at_ (k := i) (by omega)
  have c0 := hc i (.int .u8 x.toNat) (by simp [bv, hx])
  have c1 := hc (i + 1) (.int .u8 y.toNat) (by simp [bv, hy])
  have q0 : (i : Int) < (l : Int) := by omega
  have q1 : (i : Int) + 1 < (l : Int) := by omega
  have q2 : ¬ (i : Int) < 0 := by omega
  have q3 : ¬ (l : Int) - 2 < (i : Int) := by omega
  have hx' := x.toNat_lt
  have hy' := y.toNat_lt
  clear hx hy hc h
  go_enter Try.func141, Try.ntmps141
  go_wp2
  go_quiet (fail)
  go_wp2
  go_ret2
  have ho := or_word _ _ hx' hy'
  exact ⟨by rw [ho]; rfl, nq, rfl⟩

/-- TextAt: as At, where there are no two bytes. -/
theorem textAt_neg (A : Option Addr) (l c : Nat) (i : Int) (w : World) (hi : i < 0) :
    Calls Try.prog 142 #[.slice A l c, .int .i64 i] w fun e w' => e = .returned (.tuple #[.string ByteArray.empty, .int .i64 0, .int .i64 1]) ∧ w = w' := by
  go_enter Try.func142, Try.ntmps142
  go_wp2_with (go_at_call 141; refine (at_neg A l c i w hi).mono ?_; rintro e w' ⟨rfl, rfl⟩)
  go_ret3
  exact ⟨rfl, rfl⟩
theorem textAt_more (A : Option Addr) (l c : Nat) (i : Int) (w : World) (hi : 0 ≤ i) (hl : (l : Int) - 2 < i) (hm : l ≤ maxLen) :
    Calls Try.prog 142 #[.slice A l c, .int .i64 i] w fun e w' => e = .returned (.tuple #[.string ByteArray.empty, .int .i64 0, .int .i64 7]) ∧ w = w' := by
  go_enter Try.func142, Try.ntmps142
  go_wp2_with (go_at_call 141; refine (at_more A l c i w hi hl hm).mono ?_; rintro e w' ⟨rfl, rfl⟩)
  go_ret3
  exact ⟨rfl, rfl⟩
theorem textAt_short (A : Option Addr) (l c i : Nat) (xs : List UInt8) (w : World) (h : Rd w A l (bv xs)) (hi : i + 2 ≤ l) (hm : l ≤ 1000000) (x y : UInt8) (hx : xs[i]? = some x) (hy : xs[i + 1]? = some y)
    (hs : l < i + 2 + (256 * x.toNat + y.toNat)) :
    Calls Try.prog 142 #[.slice A l c, .int .i64 (i : Int)] w fun e w' => e = .returned (.tuple #[.string ByteArray.empty, .int .i64 0, .int .i64 7]) ∧ ∃ nq, w' = w.drewN nq := by
  have hA := at_ok A l c i xs w h hi (by unfold maxLen; omega) x y hx hy
  have HA := hide hA
  have hx' := x.toNat_lt
  have hy' := y.toNat_lt
  have q : (l : Int) < (i : Int) + 2 + (256 * x.toNat + y.toNat) := by omega
  clear hA hx hy h
  go_enter Try.func142, Try.ntmps142
  go_wp2_with (go_at_call 141; refine HA.out.mono ?_; rintro e w' ⟨rfl, nq, rfl⟩)
  go_ret3
  exact ⟨rfl, nq, rfl⟩
theorem textAt_ok (A : Option Addr) (l c i n : Nat) (xs : List UInt8) (w : World) (h : Rd w A l (bv xs)) (hc : l ≤ c) (hi : i + 2 + n ≤ l) (hm : l ≤ 1000000) (x y : UInt8) (hx : xs[i]? = some x) (hy : xs[i + 1]? = some y)
    (hs : 256 * x.toNat + y.toNat = n) :
    Calls Try.prog 142 #[.slice A l c, .int .i64 (i : Int)] w fun e w' => e = .returned (.tuple #[.string (str ((xs.drop (i + 2)).take n)), .int .i64 (i + 2 + n : Nat), .int .i64 0]) ∧ ∃ nq, w' = w.drewN nq := by
  have hA := at_ok A l c i xs w h (by omega) (by unfold maxLen; omega) x y hx hy
  have e1 : (256 * (x.toNat : Int) + (y.toNat : Int)) = (n : Int) := by omega
  rw [e1] at hA
  have HA := hide hA
  clear hA hx hy e1 hs
  have q : ¬ (l : Int) < (i : Int) + 2 + n := by omega
  have hsl := fun W => run_sl (P := Try.prog) 28 5 Try.underlying28 u8_size A l c ((i : Int) + 2) ((i : Int) + 2 + n) (i + 2) (i + 2 + n) (by omega) (by omega) (by omega) (by omega) W
  have hcut := h.cut (i + 2) n c (by omega) hc
  rw [bv_cut] at hcut
  rw [show i + 2 + n - (i + 2) = n from by omega] at hsl
  have hcv := fun k => (hcut.drewN k).toStr (P := Try.prog) 28 5 9 Try.underlying28 Try.underlying5 Try.underlying9 (c - (i + 2))
  clear hcut h
  go_enter Try.func142, Try.ntmps142
  go_wp2_with (go_at_call 141; refine HA.out.mono ?_; rintro e w' ⟨rfl, nq, rfl⟩)
  go_ret3
  exact ⟨rfl, nq, rfl⟩

end Go.Proofs.Ytkgidimaiedocaa

namespace Go.Proofs.Ytkgidimaiedocaa
set_option linter.unusedVariables false
set_option linter.unusedSimpArgs false
open Go.RowKit

end Go.Proofs.Ytkgidimaiedocaa

namespace Go.Proofs.Ytkgidimaiedocaa
set_option linter.unusedVariables false
set_option linter.unusedSimpArgs false
open Go.RowKit

theorem setWord_blk (g i l c n : Nat) (cs : List Value) (w : World) (h : Blk w g 5 cs) (hi : i + 2 ≤ l) (hl : l ≤ cs.length) (hl2 : l ≤ 200000) (hn : n ≤ 65535) :
    Calls Try.prog 102 #[.slice (some ⟨g, 0, none⟩) l c, .int .i64 (i : Int), .int .i64 (n : Int)] w fun e w' =>
      e = .returned (.tuple #[]) ∧ Blk w' g 5 ((cs.set i (.int .u8 ((n : Int) / 256))).set (i + 1) (.int .u8 ((n : Int) % 256))) ∧ (∀ B a, B ≤ g → Below B a w → Below B a w') :=
  (setWord_any g i l c n cs w h hi hl hl2 hn).mono fun e w' ⟨he, hw⟩ => by
    subst hw
    exact ⟨he, (h.set i _).set (i + 1) _, fun B a hB hb => (hb.setCell hB _).setCell hB _⟩

theorem longer_blk (A : Option Addr) (n c : Nat) (mi : Int) (m N : Nat) (hmi : mi = (m : Int)) (hN : n + m = N) (xs : List UInt8) (w : World) (h : Rd w A n (bv xs)) (hm : N ≤ 200000) :
    Calls Try.prog 101 #[.slice A n c, .int .i64 mi] w fun e w' =>
      e = .returned (.slice (some ⟨w.heap.size, 0, none⟩) N N) ∧ Blk w' w.heap.size 5 (bv xs ++ List.replicate m (.int .u8 0)) ∧ Below w.heap.size w w' := by
  subst hmi hN
  exact (longer_any A n c m xs w h hm).mono fun e w' ⟨he, hw⟩ => by
    subst hw
    exact ⟨he, Blk.new _ _ _, (Below.refl _ _).alloc (Nat.le_refl _) _⟩

theorem putText_no (A : Option Addr) (l c : Nat) (s : ByteArray) (w : World) (hs : 65535 < s.size) :
    Calls Try.prog 100 #[.slice A l c, .string s] w fun e w' => e = .returned (.tuple #[.slice none 0 0, .int .i64 2]) ∧ w = w' := by
  go_enter Try.func100, Try.ntmps100
  go_wp2_with fail
  go_ret2
  exact ⟨rfl, rfl⟩

theorem set2_text (xs : List UInt8) (l n : Nat) (h : xs.length = l) (hn : n ≤ 65535) (ys : List UInt8) (hy : ys.length = n) :
    (((bv xs ++ List.replicate (2 + n) (Value.int .u8 0)).set l (.int .u8 ((n : Int) / 256))).set (l + 1) (.int .u8 ((n : Int) % 256))).take (l + 2) ++ bv ys ++
      (((bv xs ++ List.replicate (2 + n) (Value.int .u8 0)).set l (.int .u8 ((n : Int) / 256))).set (l + 1) (.int .u8 ((n : Int) % 256))).drop (l + 2 + n) = bv (xs ++ (word n ++ ys)) := by
  subst h
  have hb : (bv xs).length = xs.length := bv_length xs
  have e0 : 2 + n = n + 1 + 1 := by omega
  have e1 : ((bv xs ++ List.replicate (2 + n) (Value.int .u8 0)).set xs.length (.int .u8 ((n : Int) / 256))).set (xs.length + 1) (.int .u8 ((n : Int) % 256)) = bv xs ++ (bv (word n) ++ List.replicate n (Value.int .u8 0)) := by
    rw [e0, List.replicate_succ, List.replicate_succ, bv_word n hn, List.set_append_right _ _ (by omega), hb, Nat.sub_self, List.set_append_right _ _ (by omega), hb]
    simp
  have hw : (bv (word n)).length = 2 := by simp [bv, word]
  rw [e1, bv_append, bv_append, List.take_append, List.drop_append, hb, List.take_of_length_le (by omega), List.drop_eq_nil_of_le (by omega)]
  rw [show xs.length + 2 - xs.length = 2 from by omega, List.take_append, hw, List.take_of_length_le (by omega), Nat.sub_self, List.take_zero, List.append_nil]
  rw [show xs.length + 2 + n - xs.length = 2 + n from by omega, List.drop_append, hw, List.drop_eq_nil_of_le (by omega), show 2 + n - 2 = n from by omega]
  simp

set_option maxHeartbeats 400000 in
theorem putText_ok (A : Option Addr) (l c n : Nat) (xs : List UInt8) (s : ByteArray) (w : World) (h : Rd w A l (bv xs)) (hl : l ≤ 100000) (hs : s.size = n) (hn : n ≤ 65535) :
    Calls Try.prog 100 #[.slice A l c, .string s] w fun e w' =>
      e = .returned (.tuple #[.slice (some ⟨w.heap.size, 0, none⟩) (l + 2 + n) (l + 2 + n), .int .i64 0]) ∧ Blk w' w.heap.size 5 (bv (xs ++ (word n ++ s.data.toList))) ∧ Below w.heap.size w w' := by
  have hx : xs.length = l := by rw [← bv_length]; exact h.1
  have hy : s.data.toList.length = n := by rw [Array.length_toList]; exact hs
  have Hfin := hide (set2_text xs l n hx hn s.data.toList hy)
  have q : ¬ 65535 < (n : Int) := by omega
  have hsl := fun W => run_slTail (P := Try.prog) 28 5 Try.underlying28 u8_size (some ⟨w.heap.size, 0, none⟩) (l + 2 + n) (l + 2 + n) ((l : Int) + 2) (l + 2) (by omega) (by omega) W
  rw [show l + 2 + n - (l + 2) = n from by omega] at hsl
  have Hx := hide hx
  have Hy := hide hy
  have Hs := hide hs
  clear hx hy
  go_enter Try.func100, Try.ntmps100
  go_wp2_with fail
  refine (longer_blk A l c (2 + (n : Int)) (2 + n) (l + 2 + n) (by omega) (by omega) xs w h (by omega)).mono ?_
  rintro e w1 ⟨rfl, hb1, hbel1⟩
  go_wp2_with fail
  refine (setWord_blk w.heap.size l (l + 2 + n) (l + 2 + n) n _ w1 hb1 (by omega) (by simp [bv_length, Hx.out]; omega) (by omega) hn).mono ?_
  rintro e w2 ⟨rfl, hb2, hbel2⟩
  have hcp := fun ty => run_cps (P := Try.prog) 28 9 ty 5 Try.underlying28 u8_size w2 w.heap.size (l + 2) (l + 2 + n) n n s _ hb2 (by rw [Hs.out]; omega) (by simp [bv_length, Hx.out]; omega) (by rw [Hs.out]; omega)
  rw [Hs.out, Hfin.out] at hcp
  have Hb2 := hide hb2
  have Hbel2 := hide (hbel2 _ w (Nat.le_refl _) hbel1)
  clear hb2 hbel2 hb1 hbel1
  go_wp2_with fail
  go_ret2
  exact ⟨rfl, Hb2.out.setRow _, below_setRow Hbel2.out (Nat.le_refl _) _⟩

end Go.Proofs.Ytkgidimaiedocaa

namespace Go.Proofs.Ytkgidimaiedocaa
set_option linter.unusedVariables false
set_option linter.unusedSimpArgs false
open Go.RowKit

theorem putI (A : Option Addr) (l c : Nat) (ni : Int) (n N : Nat) (hni : ni = (n : Int)) (hN : l + 2 = N) (xs : List UInt8) (w : World) (h : Rd w A l (bv xs)) (hl : l ≤ 100000) (hn : n ≤ 65535) :
    Calls Try.prog 84 #[.slice A l c, .int .i64 ni] w fun e w' =>
      e = .returned (.tuple #[.slice (some ⟨w.heap.size, 0, none⟩) N N, .int .i64 0]) ∧ Blk w' w.heap.size 5 (bv (xs ++ word n)) ∧ Below w.heap.size w w' := by
  subst hni hN
  exact (put_ok A l c n xs w h hl hn).mono fun e w' ⟨he, hw⟩ => by
    subst hw
    exact ⟨he, Blk.new _ _ _, (Below.refl _ _).alloc (Nat.le_refl _) _⟩

theorem atI (A : Option Addr) (l c : Nat) (ii : Int) (i : Nat) (hii : ii = (i : Int)) (xs : List UInt8) (w : World) (h : Rd w A l (bv xs)) (hi : i + 2 ≤ l) (hm : l ≤ maxLen) (x y : UInt8) (hx : xs[i]? = some x) (hy : xs[i + 1]? = some y) (r : Int) (hr : r = 256 * x.toNat + y.toNat) :
    Calls Try.prog 141 #[.slice A l c, .int .i64 ii] w fun e w' => e = .returned (.tuple #[.int .i64 r, .int .i64 0]) ∧ ∃ nq, w' = w.drewN nq := by
  subst hii hr
  exact at_ok A l c i xs w h hi hm x y hx hy

theorem textAtI (A : Option Addr) (l c : Nat) (ii : Int) (i n : Nat) (hii : ii = (i : Int)) (xs : List UInt8) (w : World) (h : Rd w A l (bv xs)) (hc : l ≤ c) (hi : i + 2 + n ≤ l) (hm : l ≤ 1000000) (x y : UInt8) (hx : xs[i]? = some x) (hy : xs[i + 1]? = some y)
    (hs : 256 * x.toNat + y.toNat = n) (s : ByteArray) (hse : s = str ((xs.drop (i + 2)).take n)) (r : Int) (hr : r = ((i + 2 + n : Nat) : Int)) :
    Calls Try.prog 142 #[.slice A l c, .int .i64 ii] w fun e w' => e = .returned (.tuple #[.string s, .int .i64 r, .int .i64 0]) ∧ ∃ nq, w' = w.drewN nq := by
  subst hii hr hse
  exact textAt_ok A l c i n xs w h hc hi hm x y hx hy hs

theorem putTextI (A : Option Addr) (l c n N : Nat) (hN : l + 2 + n = N) (xs : List UInt8) (s : ByteArray) (w : World) (h : Rd w A l (bv xs)) (hl : l ≤ 100000) (hs : s.size = n) (hn : n ≤ 65535) :
    Calls Try.prog 100 #[.slice A l c, .string s] w fun e w' =>
      e = .returned (.tuple #[.slice (some ⟨w.heap.size, 0, none⟩) N N, .int .i64 0]) ∧ Blk w' w.heap.size 5 (bv (xs ++ (word n ++ s.data.toList))) ∧ Below w.heap.size w w' := by
  subst hN
  exact putText_ok A l c n xs s w h hl hs hn

end Go.Proofs.Ytkgidimaiedocaa
