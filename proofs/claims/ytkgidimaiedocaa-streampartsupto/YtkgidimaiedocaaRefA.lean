/-
  What is proved here: what the document's own functions of layer 1 (Is, Both) return. Conditions: lengths up to some hundred thousand where memory is made. ALSO: what the document's own functions of layer 1 (Pack, Unpack) return. Conditions: lengths up to some hundred thousand where memory is made. ALSO: what the document's own functions of layer 1 return. Conditions: lengths up to some hundred thousand where memory is made.
-/
import Derived.Test.YtkgidimaiedocaaInfo
import Derived.Test.YtkgidimaiedocaaBitsMath
import Derived.LoopTactic
import Derived.Test.YtkgidimaiedocaaWire
namespace Go.Proofs.Ytkgidimaiedocaa
set_option linter.unusedVariables false
set_option linter.unusedSimpArgs false
open Go.RowKit

theorem is_yes (n : Nat) (hn : n ≤ 65535) (w : World) : Calls Try.prog 62 #[.int .i64 (n : Int)] w fun e w' => e = .returned (.bool true) ∧ w = w' := by
  have q0 : (0 : Int) ≤ (n : Int) := by omega
  have q1 : (n : Int) ≤ 65535 := by omega
  go_enter Try.func62, Try.ntmps62
  go_wp2
  go_ret
  exact ⟨rfl, rfl⟩
theorem is_no (n : Int) (hn : n < 0 ∨ 65535 < n) (w : World) : Calls Try.prog 62 #[.int .i64 n] w fun e w' => e = .returned (.bool false) ∧ w = w' := by
  rcases hn with hn | hn
  · have q0 : decide ((0 : Int) ≤ n) = false := by simpa using hn
    go_enter Try.func62, Try.ntmps62
    go_wp2
    go_ret
    exact ⟨rfl, rfl⟩
  · have q0 : (0 : Int) ≤ n := by omega
    have q1 : decide (n ≤ 65535) = false := by simpa using hn
    go_enter Try.func62, Try.ntmps62
    go_wp2
    go_ret
    exact ⟨rfl, rfl⟩

end Go.Proofs.Ytkgidimaiedocaa

namespace Go.Proofs.Ytkgidimaiedocaa
set_option linter.unusedVariables false
set_option linter.unusedSimpArgs false
open Go.RowKit

end Go.Proofs.Ytkgidimaiedocaa

namespace Go.Proofs.Ytkgidimaiedocaa
set_option linter.unusedVariables false
set_option linter.unusedSimpArgs false
open Go.RowKit

/-- Word: a new block of two bytes. -/
theorem word_any (n : Nat) (hn : n ≤ 65535) (w : World) : Calls Try.prog 65 #[.int .i64 (n : Int)] w fun e w' =>
    e = .returned (.slice (some ⟨w.heap.size, 0, none⟩) 2 2) ∧ Blk w' w.heap.size 5 (bv (word n)) ∧ Below w.heap.size w w' := by
  have Hw := hide (bv_word n hn)
  go_enter Try.func65, Try.ntmps65
  go_wp2
  go_ret
  exact ⟨rfl, by rw [Hw.out]; exact Blk.new w _ [_, _], (Below.refl _ _).alloc (Nat.le_refl _) _⟩

/-- Text: the length, and the bytes. -/
theorem text_any (s : ByteArray) (n : Nat) (hs : s.size = n) (hn : n ≤ 65535) (w : World) : Calls Try.prog 64 #[.string s] w (RetSl (2 + n) (bv (word n ++ s.data.toList)) w) := by
  go_enter Try.func64, Try.ntmps64
  go_wp2_with (first
    | (go_at_call 65; refine (word_any n hn _).mono ?_; rintro e w1 ⟨rfl, k1, b1⟩)
    | (refine wpList_toBs rfl (.tmp 8) 9 28 5 rfl s rfl Try.underlying9 Try.underlying28 Try.underlying5 ?_; rw [hs]; intro c2 w2 r2 b2 _)
    | (at_builtin; refine wpList_app rfl (.tmp 7) (.tmp 9) 28 rfl 5 _ _ Try.underlying28 u8_info rfl w.heap.size _ 2 2 (bv (word n)) rfl (own_keep (k1.own (Nat.le_refl _) 2 rfl (by decide)) b2) _ n c2 (bv s.data.toList) rfl r2 (bv_one _) (by unfold maxLen; omega) (by omega) (Nat.le_trans b1.size b2.size) ?_; intro A3 c3 w3 o3 g3 b3; rw [← bv_append] at o3))
  go_ret
  exact ⟨A3, c3, rfl, own_cap o3, own_rd o3, (b1.trans (b2.mono b1.size)).trans b3⟩

/-- Ints: are they the same? -/
theorem ints_any (A B : Option Addr) (n m c d : Nat) (xs ys : List Int) (w : World) (h : Rd w A n (iv xs)) (h2 : Rd w B m (iv ys)) (hn : n ≤ 2000000) (hm : m ≤ 2000000) :
    Calls Try.prog 61 #[.slice A n c, .slice B m d] w fun e w' => e = .returned (.bool (decide (xs = ys))) ∧ ∃ q, w' = w.drewN q := by
  have hl : xs.length = n := by rw [← iv_length]; exact h.1
  have hl2 : ys.length = m := by rw [← iv_length]; exact h2.1
  have Hl := hide hl
  have Hl2 := hide hl2
  clear hl hl2
  by_cases hnm : n = m
  · subst hnm
    have q0 : ((n : Int) != (n : Int)) = false := by simp
    go_enter Try.func61, Try.ntmps61
    go_wp2
    go_loopw [5] (fun i wr => ∃ k : Nat, k ≤ n ∧ i = .int .i64 k ∧ xs.take k = ys.take k ∧ ∃ q, wr = w.drewN q) (fun i _ => n - (intOf i).toNat)
    case atStart => exact ⟨0, Nat.zero_le _, rfl, rfl, 0, rfl⟩
    case round =>
      obtain ⟨k, hk, rfl, htk, r, rfl⟩ := hrel
      have Htk := hide htk
      clear htk
      by_cases hlt : k < n
      · obtain ⟨b, o, rfl, hbl, hc⟩ := h.at_ hlt
        obtain ⟨b', o', rfl, hbl', hc'⟩ := h2.at_ hlt
        have hlt' : k < xs.length := by rw [Hl.out]; exact hlt
        have hlt2 : k < ys.length := by rw [Hl2.out]; exact hlt
        have c0 := hc k _ (iv_get xs k hlt')
        have c1 := hc' k _ (iv_get ys k hlt2)
        have Hts : Hid (xs[k] = ys[k] → xs.take (k + 1) = ys.take (k + 1)) := fun e => by
          rw [List.take_succ_eq_append_getElem hlt', List.take_succ_eq_append_getElem hlt2, Htk.out, e]
        have Hno : Hid (¬ xs[k] = ys[k] → decide (xs = ys) = false) := fun hne => by
          rw [decide_eq_false_iff_not]
          intro e
          subst e
          exact hne rfl
        have q : (k : Int) < (n : Int) := by omega
        clear hc h hc' h2
        generalize xs[k] = z at *
        generalize ys[k] = y at *
        by_cases hzy : z = y
        · subst hzy
          have q1 : (z != z) = false := by simp
          have Hn := hide (Hts.out rfl)
          clear Hts
          go_wp2
          go_quiet (fail)
          go_wp2
          exact ⟨⟨k + 1, by omega, by go_num, Hn.out, r + nq, by first | rfl | rw [World.drewN_drewN]⟩, by simp [intOf]; omega⟩
        · have q1 : (z != y) = true := by rw [bne_iff_ne]; exact hzy
          have Hn := hide hzy
          clear hzy
          go_wp2
          go_quiet (fail)
          go_wp2
          go_ret
          exact ⟨by rw [Hno.out Hn.out]; rfl, r + nq, by first | rfl | rw [World.drewN_drewN]⟩
      · obtain rfl : k = n := by omega
        have hfin : decide (xs = ys) = true := by
          have := Htk.out
          rw [List.take_of_length_le (by rw [Hl.out]; exact Nat.le_refl _), List.take_of_length_le (by rw [Hl2.out]; exact Nat.le_refl _)] at this
          rw [decide_eq_true_eq]
          exact this
        have Hfin := hide hfin
        clear hfin
        go_wp2
        go_ret
        exact ⟨by rw [Hfin.out]; rfl, _, rfl⟩
  · have hfin : decide (xs = ys) = false := by
      rw [decide_eq_false_iff_not]
      intro e
      subst e
      exact hnm (Hl.out.symm.trans Hl2.out)
    have Hfin := hide hfin
    have q0 : ((n : Int) != (m : Int)) = true := by rw [bne_iff_ne]; omega
    have q1 : (n != m) = true := by rw [bne_iff_ne]; exact hnm
    clear hfin hnm
    go_enter Try.func61, Try.ntmps61
    go_wp2
    go_ret
    exact ⟨by rw [Hfin.out]; rfl, 0, rfl⟩

end Go.Proofs.Ytkgidimaiedocaa
