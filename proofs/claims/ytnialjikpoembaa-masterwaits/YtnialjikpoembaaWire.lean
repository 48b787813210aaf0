/-
  What is proved here: what each function of package wire returns, for every slice that reads as bytes or ints and every number. Conditions: lengths up to 200000 where memory is made.
-/
import Derived.Test.YtnialjikpoembaaInfo
namespace Go.Proofs.Ytnialjikpoembaa
set_option linter.unusedVariables false
set_option linter.unusedSimpArgs false
open Go.RowKit

/-- longer(b, m): b, and m zeros behind it, in a new block. -/
theorem longer_any (A : Option Addr) (n c m : Nat) (xs : List UInt8) (w : World) (h : Rd w A n (bv xs)) (hm : n + m ≤ 200000) :
    Calls Try.prog 87 #[.slice A n c, .int .i64 (m : Int)] w fun e w' =>
      e = .returned (.slice (some ⟨w.heap.size, 0, none⟩) (n + m) (n + m)) ∧ w.alloc (.cells (arr (bv xs ++ List.replicate m (.int .u8 0))) 5) = w' := by
  have hmk := fun W => run_mk (P := Try.prog) 38 5 (.int .u8 0) 1 Try.underlying38 u8_info rfl (n + m) (by omega) (by omega) W
  rw [Int.natCast_add] at hmk
  have hcp := fun ty => run_cp (P := Try.prog) 38 38 ty 5 Try.underlying38 u8_size w A n c (bv xs) h (bv_one xs) (List.replicate (n + m) (.int .u8 0)) (by simp) (n + m) (n + m) (by omega)
  have hd : (List.replicate (n + m) (Value.int .u8 0)).drop n = List.replicate m (.int .u8 0) := by rw [List.drop_replicate]; congr 1; omega
  rw [hd] at hcp
  clear hd
  go_enter Try.func87, Try.ntmps87
  go_wp2
  go_ret
  exact ⟨rfl, rfl⟩

/-- setWord(b, i, n): the two bytes of n, laid over those from i on. -/
theorem setWord_any (g i l c n : Nat) (cs : List Value) (w : World) (h : Blk w g 5 cs) (hi : i + 2 ≤ l) (hl : l ≤ cs.length) (hl2 : l ≤ 200000) (hn : n ≤ 65535) :
    Calls Try.prog 88 #[.slice (some ⟨g, 0, none⟩) l c, .int .i64 (i : Int), .int .i64 (n : Int)] w fun e w' =>
      e = .returned (.tuple #[]) ∧ (w.setCell ⟨g, i, none⟩ (.int .u8 ((n : Int) / 256))).setCell ⟨g, i + 1, none⟩ (.int .u8 ((n : Int) % 256)) = w' := by
  have hc0 : w.cell? ⟨g, i, none⟩ = some cs[i] := by rw [h.cell]; simp
  have hf0 := h.frozen i
  have hc1 : w.cell? ⟨g, i + 1, none⟩ = some cs[i + 1] := by rw [h.cell]; simp
  have hf1 := h.frozen (i + 1)
  have hx : (i : Int) < (l : Int) := by omega
  have hx1 : (i : Int) + 1 < (l : Int) := by omega
  clear h
  go_enter Try.func88, Try.ntmps88
  go_wp2
  go_end0
  exact ⟨rfl, rfl⟩

/-- The two bytes of a word. -/
def word (n : Nat) : List UInt8 := [UInt8.ofNat (n / 256), UInt8.ofNat (n % 256)]

theorem bv_word (n : Nat) (h : n ≤ 65535) : bv (word n) = [.int .u8 ((n : Int) / 256), .int .u8 ((n : Int) % 256)] := by
  have e1 : ((n / 256 % 2 ^ 8 : Nat) : Int) = (n : Int) / 256 := by omega
  have e2 : ((n % 256 % 2 ^ 8 : Nat) : Int) = (n : Int) % 256 := by omega
  simp only [bv, word, List.map_cons, List.map_nil, UInt8.toNat_ofNat', e1, e2]

/-- Put: refused. -/
theorem put_no (A : Option Addr) (l c : Nat) (n : Int) (w : World) (hn : n < 0 ∨ 65535 < n) :
    Calls Try.prog 84 #[.slice A l c, .int .i64 n] w fun e w' => e = .returned (.tuple #[.slice none 0 0, .int .i64 1]) ∧ w = w' := by
  rcases hn with hn | hn
  · go_enter Try.func84, Try.ntmps84
    go_wp2
    go_ret2
    exact ⟨rfl, rfl⟩
  · have hn0 : ¬ n < 0 := by omega
    go_enter Try.func84, Try.ntmps84
    go_wp2
    go_ret2
    exact ⟨rfl, rfl⟩

/-- Put: b, and the word behind it, in a new block. -/
theorem put_ok (A : Option Addr) (l c n : Nat) (xs : List UInt8) (w : World) (h : Rd w A l (bv xs)) (hl : l ≤ 100000) (hn : n ≤ 65535) :
    Calls Try.prog 84 #[.slice A l c, .int .i64 (n : Int)] w fun e w' =>
      e = .returned (.tuple #[.slice (some ⟨w.heap.size, 0, none⟩) (l + 2) (l + 2), .int .i64 0]) ∧ w.alloc (.cells (arr (bv (xs ++ word n))) 5) = w' := by
  have hll : xs.length = l := by rw [← bv_length]; exact h.1
  have Hfin := hide (arr_put2 (bv xs) l h.1 (.int .u8 0) (.int .u8 0) (.int .u8 ((n : Int) / 256)) (.int .u8 ((n : Int) % 256)) [])
  go_enter Try.func84, Try.ntmps84
  go_wp2_with (first | (go_at_call 87; refine (longer_any A l c 2 xs w h (by omega)).mono ?_; rintro e w' ⟨rfl, rfl⟩) | (go_at_call 88; refine (setWord_any _ l (l + 2) (l + 2) n _ _ (Blk.new w 5 _) (by omega) (by simp [bv_length, hll]) (by omega) hn).mono ?_; rintro e w' ⟨rfl, rfl⟩))
  go_ret2
  exact ⟨rfl, by rw [Hfin.out, bv_append, bv_word n hn]⟩

/-- At: there are no two bytes. -/
theorem at_neg (A : Option Addr) (l c : Nat) (i : Int) (w : World) (hi : i < 0) :
    Calls Try.prog 86 #[.slice A l c, .int .i64 i] w fun e w' => e = .returned (.tuple #[.int .i64 0, .int .i64 1]) ∧ w = w' := by
  go_enter Try.func86, Try.ntmps86
  go_wp2
  go_ret2
  exact ⟨rfl, rfl⟩
theorem at_more (A : Option Addr) (l c : Nat) (i : Int) (w : World) (hi : 0 ≤ i) (hl : (l : Int) - 2 < i) (hm : l ≤ maxLen) :
    Calls Try.prog 86 #[.slice A l c, .int .i64 i] w fun e w' => e = .returned (.tuple #[.int .i64 0, .int .i64 7]) ∧ w = w' := by
  unfold maxLen at hm
  have hi' : ¬ i < 0 := by omega
  go_enter Try.func86, Try.ntmps86
  go_wp2
  go_ret2
  exact ⟨rfl, rfl⟩
theorem at_ok (A : Option Addr) (l c i : Nat) (xs : List UInt8) (w : World) (h : Rd w A l (bv xs)) (hi : i + 2 ≤ l) (hm : l ≤ maxLen) (x y : UInt8) (hx : xs[i]? = some x) (hy : xs[i + 1]? = some y) :
    Calls Try.prog 86 #[.slice A l c, .int .i64 (i : Int)] w fun e w' => e = .returned (.tuple #[.int .i64 (256 * x.toNat + y.toNat), .int .i64 0]) ∧ ∃ nq, w' = w.drewN nq := by
  unfold maxLen at hm
  obtain ⟨b, o, rfl, _, hc⟩ := h.at_ (k := i) (by omega)
  have c0 := hc i (.int .u8 x.toNat) (by simp [bv, hx])
  have c1 := hc (i + 1) (.int .u8 y.toNat) (by simp [bv, hy])
  have q0 : (i : Int) < (l : Int) := by omega
  have q1 : (i : Int) + 1 < (l : Int) := by omega
  have q2 : ¬ (i : Int) < 0 := by omega
  have q3 : ¬ (l : Int) - 2 < (i : Int) := by omega
  have hx' := x.toNat_lt
  have hy' := y.toNat_lt
  clear hx hy hc h
  go_enter Try.func86, Try.ntmps86
  go_wp2
  go_quiet (fail)
  go_wp2
  go_ret2
  have ho := or_word _ _ hx' hy'
  exact ⟨by rw [ho]; rfl, nq, rfl⟩

end Go.Proofs.Ytnialjikpoembaa
