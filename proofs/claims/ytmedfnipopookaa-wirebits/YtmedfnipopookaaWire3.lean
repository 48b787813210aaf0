/-
  What is proved here: what wire's PutText returns. Condition: the bytes ahead of it are at most 100000.
-/
import Derived.Test.YtmedfnipopookaaWire2
namespace Go.Proofs.Ytmedfnipopookaa
set_option linter.unusedVariables false
set_option linter.unusedSimpArgs false
open Go.RowKit

theorem setWord_blk (g i l c n : Nat) (cs : List Value) (w : World) (h : Blk w g 5 cs) (hi : i + 2 ≤ l) (hl : l ≤ cs.length) (hl2 : l ≤ 200000) (hn : n ≤ 65535) :
    Calls Try.prog 27 #[.slice (some ⟨g, 0, none⟩) l c, .int .i64 (i : Int), .int .i64 (n : Int)] w fun e w' =>
      e = .returned (.tuple #[]) ∧ Blk w' g 5 ((cs.set i (.int .u8 ((n : Int) / 256))).set (i + 1) (.int .u8 ((n : Int) % 256))) ∧ (∀ B a, B ≤ g → Below B a w → Below B a w') :=
  (setWord_any g i l c n cs w h hi hl hl2 hn).mono fun e w' ⟨he, hw⟩ => by
    subst hw
    exact ⟨he, (h.set i _).set (i + 1) _, fun B a hB hb => (hb.setCell hB _).setCell hB _⟩

theorem longer_blk (A : Option Addr) (n c : Nat) (mi : Int) (m N : Nat) (hmi : mi = (m : Int)) (hN : n + m = N) (xs : List UInt8) (w : World) (h : Rd w A n (bv xs)) (hm : N ≤ 200000) :
    Calls Try.prog 26 #[.slice A n c, .int .i64 mi] w fun e w' =>
      e = .returned (.slice (some ⟨w.heap.size, 0, none⟩) N N) ∧ Blk w' w.heap.size 5 (bv xs ++ List.replicate m (.int .u8 0)) ∧ Below w.heap.size w w' := by
  subst hmi hN
  exact (longer_any A n c m xs w h hm).mono fun e w' ⟨he, hw⟩ => by
    subst hw
    exact ⟨he, Blk.new _ _ _, (Below.refl _ _).alloc (Nat.le_refl _) _⟩

theorem putText_no (A : Option Addr) (l c : Nat) (s : ByteArray) (w : World) (hs : 65535 < s.size) :
    Calls Try.prog 18 #[.slice A l c, .string s] w fun e w' => e = .returned (.tuple #[.slice none 0 0, .int .i64 2]) ∧ w = w' := by
  go_enter Try.func18, Try.ntmps18
  go_wp2_with fail
  go_ret2
  exact ⟨rfl, rfl⟩

theorem set2_text (xs : List UInt8) (l n : Nat) (h : xs.length = l) (hn : n ≤ 65535) (ys : List UInt8) (hy : ys.length = n) :
    (((bv xs ++ List.replicate (2 + n) (Value.int .u8 0)).set l (.int .u8 ((n : Int) / 256))).set (l + 1) (.int .u8 ((n : Int) % 256))).take (l + 2) ++ bv ys ++
      (((bv xs ++ List.replicate (2 + n) (Value.int .u8 0)).set l (.int .u8 ((n : Int) / 256))).set (l + 1) (.int .u8 ((n : Int) % 256))).drop (l + 2 + n) = bv (xs ++ (word n ++ ys)) := by
  subst h
  have hb : (bv xs).length = xs.length := bv_length xs
  have e0 : 2 + n = n + 1 + 1 := by omega
  have e1 : ((bv xs ++ List.replicate (2 + n) (Value.int .u8 0)).set xs.length (.int .u8 ((n : Int) / 256))).set (xs.length + 1) (.int .u8 ((n : Int) % 256)) = bv xs ++ (bv (word n) ++ List.replicate n (Value.int .u8 0)) := by
    rw [e0, List.replicate_succ, List.replicate_succ, bv_word n hn, List.set_append_right _ _ (by omega), hb, Nat.sub_self, List.set_append_right _ _ (by omega), hb]
    simp
  have hw : (bv (word n)).length = 2 := by simp [bv, word]
  rw [e1, bv_append, bv_append, List.take_append, List.drop_append, hb, List.take_of_length_le (by omega), List.drop_eq_nil_of_le (by omega)]
  rw [show xs.length + 2 - xs.length = 2 from by omega, List.take_append, hw, List.take_of_length_le (by omega), Nat.sub_self, List.take_zero, List.append_nil]
  rw [show xs.length + 2 + n - xs.length = 2 + n from by omega, List.drop_append, hw, List.drop_eq_nil_of_le (by omega), show 2 + n - 2 = n from by omega]
  simp

set_option maxHeartbeats 400000 in
theorem putText_ok (A : Option Addr) (l c n : Nat) (xs : List UInt8) (s : ByteArray) (w : World) (h : Rd w A l (bv xs)) (hl : l ≤ 100000) (hs : s.size = n) (hn : n ≤ 65535) :
    Calls Try.prog 18 #[.slice A l c, .string s] w fun e w' =>
      e = .returned (.tuple #[.slice (some ⟨w.heap.size, 0, none⟩) (l + 2 + n) (l + 2 + n), .int .i64 0]) ∧ Blk w' w.heap.size 5 (bv (xs ++ (word n ++ s.data.toList))) ∧ Below w.heap.size w w' := by
  have hx : xs.length = l := by rw [← bv_length]; exact h.1
  have hy : s.data.toList.length = n := by rw [Array.length_toList]; exact hs
  have Hfin := hide (set2_text xs l n hx hn s.data.toList hy)
  have q : ¬ 65535 < (n : Int) := by omega
  have hsl := fun W => run_slTail (P := Try.prog) 22 5 Try.underlying22 u8_size (some ⟨w.heap.size, 0, none⟩) (l + 2 + n) (l + 2 + n) ((l : Int) + 2) (l + 2) (by omega) (by omega) W
  rw [show l + 2 + n - (l + 2) = n from by omega] at hsl
  have Hx := hide hx
  have Hy := hide hy
  have Hs := hide hs
  clear hx hy
  go_enter Try.func18, Try.ntmps18
  go_wp2_with fail
  refine (longer_blk A l c (2 + (n : Int)) (2 + n) (l + 2 + n) (by omega) (by omega) xs w h (by omega)).mono ?_
  rintro e w1 ⟨rfl, hb1, hbel1⟩
  go_wp2_with fail
  refine (setWord_blk w.heap.size l (l + 2 + n) (l + 2 + n) n _ w1 hb1 (by omega) (by simp [bv_length, Hx.out]; omega) (by omega) hn).mono ?_
  rintro e w2 ⟨rfl, hb2, hbel2⟩
  have hcp := fun ty => run_cps (P := Try.prog) 22 9 ty 5 Try.underlying22 u8_size w2 w.heap.size (l + 2) (l + 2 + n) n n s _ hb2 (by rw [Hs.out]; omega) (by simp [bv_length, Hx.out]; omega) (by rw [Hs.out]; omega)
  rw [Hs.out, Hfin.out] at hcp
  have Hb2 := hide hb2
  have Hbel2 := hide (hbel2 _ w (Nat.le_refl _) hbel1)
  clear hb2 hbel2 hb1 hbel1
  go_wp2_with fail
  go_ret2
  exact ⟨rfl, Hb2.out.setRow _, below_setRow Hbel2.out (Nat.le_refl _) _⟩

end Go.Proofs.Ytmedfnipopookaa
