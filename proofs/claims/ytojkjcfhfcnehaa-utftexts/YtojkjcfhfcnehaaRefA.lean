/-
  What is proved here: what the document's own functions of layer 1 (Is, Both) return. Conditions: lengths up to some hundred thousand where memory is made. ALSO: what the document's own functions of layer 1 (Pack, Unpack) return. Conditions: lengths up to some hundred thousand where memory is made. ALSO: what the document's own functions of layer 1 return. Conditions: lengths up to some hundred thousand where memory is made.
-/
import Derived.Test.YtojkjcfhfcnehaaInfo
import Derived.Test.YtojkjcfhfcnehaaBitsMath
import Derived.LoopTactic
import Derived.Test.YtojkjcfhfcnehaaWire
namespace Go.Proofs.Ytojkjcfhfcnehaa
set_option linter.unusedVariables false
set_option linter.unusedSimpArgs false
open Go.RowKit

end Go.Proofs.Ytojkjcfhfcnehaa

namespace Go.Proofs.Ytojkjcfhfcnehaa
set_option linter.unusedVariables false
set_option linter.unusedSimpArgs false
open Go.RowKit

end Go.Proofs.Ytojkjcfhfcnehaa

namespace Go.Proofs.Ytojkjcfhfcnehaa
set_option linter.unusedVariables false
set_option linter.unusedSimpArgs false
open Go.RowKit

/-- Ints: are they the same? -/
theorem ints_any (A B : Option Addr) (n m c d : Nat) (xs ys : List Int) (w : World) (h : Rd w A n (iv xs)) (h2 : Rd w B m (iv ys)) (hn : n ≤ 1000000) (hm : m ≤ 1000000) :
    Calls Try.prog 11 #[.slice A n c, .slice B m d] w fun e w' => e = .returned (.bool (decide (xs = ys))) ∧ ∃ q, w' = w.drewN q := by
  have hl : xs.length = n := by rw [← iv_length]; exact h.1
  have hl2 : ys.length = m := by rw [← iv_length]; exact h2.1
  have Hl := hide hl
  have Hl2 := hide hl2
  clear hl hl2
  by_cases hnm : n = m
  · subst hnm
    have q0 : ((n : Int) != (n : Int)) = false := by simp
    go_enter Try.func11, Try.ntmps11
    go_wp2
    go_loopw [5] (fun i wr => ∃ k : Nat, k ≤ n ∧ i = .int .i64 k ∧ xs.take k = ys.take k ∧ ∃ q, wr = w.drewN q) (fun i _ => n - (intOf i).toNat)
    case atStart => exact ⟨0, Nat.zero_le _, rfl, rfl, 0, rfl⟩
    case round =>
      obtain ⟨k, hk, rfl, htk, r, rfl⟩ := hrel
      have Htk := hide htk
      clear htk
      by_cases hlt : k < n
      · obtain ⟨b, o, rfl, hbl, hc⟩ := h.at_ hlt
        obtain ⟨b', o', rfl, hbl', hc'⟩ := h2.at_ hlt
        have hlt' : k < xs.length := by rw [Hl.out]; exact hlt
        have hlt2 : k < ys.length := by rw [Hl2.out]; exact hlt
        have c0 := hc k _ (iv_get xs k hlt')
        have c1 := hc' k _ (iv_get ys k hlt2)
        have Hts : Hid (xs[k] = ys[k] → xs.take (k + 1) = ys.take (k + 1)) := fun e => by
          rw [List.take_succ_eq_append_getElem hlt', List.take_succ_eq_append_getElem hlt2, Htk.out, e]
        have Hno : Hid (¬ xs[k] = ys[k] → decide (xs = ys) = false) := fun hne => by
          rw [decide_eq_false_iff_not]
          intro e
          subst e
          exact hne rfl
        have q : (k : Int) < (n : Int) := by omega
        clear hc h hc' h2
        generalize xs[k] = z at *
        generalize ys[k] = y at *
        by_cases hzy : z = y
        · subst hzy
          have q1 : (z != z) = false := by simp
          have Hn := hide (Hts.out rfl)
          clear Hts
          go_wp2
          go_quiet (fail)
          go_wp2
          exact ⟨⟨k + 1, by omega, by go_num, Hn.out, r + nq, by first | rfl | rw [World.drewN_drewN]⟩, by simp [intOf]; omega⟩
        · have q1 : (z != y) = true := by rw [bne_iff_ne]; exact hzy
          have Hn := hide hzy
          clear hzy
          go_wp2
          go_quiet (fail)
          go_wp2
          go_ret
          exact ⟨by rw [Hno.out Hn.out]; rfl, r + nq, by first | rfl | rw [World.drewN_drewN]⟩
      · obtain rfl : k = n := by omega
        have hfin : decide (xs = ys) = true := by
          have := Htk.out
          rw [List.take_of_length_le (by rw [Hl.out]; exact Nat.le_refl _), List.take_of_length_le (by rw [Hl2.out]; exact Nat.le_refl _)] at this
          rw [decide_eq_true_eq]
          exact this
        have Hfin := hide hfin
        clear hfin
        go_wp2
        go_ret
        exact ⟨by rw [Hfin.out]; rfl, _, rfl⟩
  · have hfin : decide (xs = ys) = false := by
      rw [decide_eq_false_iff_not]
      intro e
      subst e
      exact hnm (Hl.out.symm.trans Hl2.out)
    have Hfin := hide hfin
    have q0 : ((n : Int) != (m : Int)) = true := by rw [bne_iff_ne]; omega
    have q1 : (n != m) = true := by rw [bne_iff_ne]; exact hnm
    clear hfin hnm
    go_enter Try.func11, Try.ntmps11
    go_wp2
    go_ret
    exact ⟨by rw [Hfin.out]; rfl, 0, rfl⟩

end Go.Proofs.Ytojkjcfhfcnehaa
