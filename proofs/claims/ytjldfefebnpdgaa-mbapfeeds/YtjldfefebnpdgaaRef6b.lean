/-
  What is proved here: the law's own 'few' of layer 6, and what the document's All returns. Conditions: lengths up to some hundred thousand.
-/
import Derived.Test.YtjldfefebnpdgaaMb4
import Derived.Test.YtjldfefebnpdgaaRef1
import Derived.Test.YtjldfefebnpdgaaMem5
namespace Go.Proofs.Ytjldfefebnpdgaa
set_option linter.unusedVariables false
set_option linter.unusedSimpArgs false
open Go.RowKit

def sumL (rs : List RowE) : Nat := (rs.map fun r => r.xs.length).sum
def fewB (rs : List RowE) : Bool := decide (rs.length ≤ 200 ∧ sumL rs ≤ 5000)
theorem sumL_take (rs : List RowE) (i : Nat) (r : RowE) (h : rs[i]? = some r) : sumL (rs.take (i + 1)) = sumL (rs.take i) + r.xs.length := by
  have hl := (List.getElem?_eq_some_iff.1 h).1
  have he := (List.getElem?_eq_some_iff.1 h).2
  rw [List.take_succ_eq_append_getElem hl, he]
  unfold sumL
  simp
set_option maxHeartbeats 1000000 in
theorem few6_any (B : Option Addr) (len cap : Nat) (rs : List RowE) (w : World) (h : RRd w B len rs) (hz : ∀ r ∈ rs, r.xs.length ≤ 140737488355328) (hm : len ≤ maxLen) :
    Calls Try.prog 13 #[.slice B len cap] w fun e w' => e = .returned (.bool (fewB rs)) ∧ w = w' := by
  have hl := h.len
  unfold maxLen at hm
  by_cases h200 : len ≤ 200
  · have HH := hide h
    have HZ := hide hz
    have HL := hide hl
    clear h hz hl
    go_enter Try.func13, Try.ntmps13
    go_wp2
    go_loop [3, 4] (fun nv iv_ => ∃ i s : Nat, i ≤ len ∧ iv_ = .int .i64 (i : Int) ∧ nv = .int .i64 (s : Int) ∧ s = sumL (rs.take i) ∧ s ≤ i * 140737488355328) (fun _ iv_ => len - (intOf iv_).toNat)
    case atStart => exact ⟨0, 0, by omega, rfl, rfl, rfl, by omega⟩
    case round =>
      obtain ⟨i, s, hi, rfl, rfl, hs, hb⟩ := hrel
      have Hs := hide hs
      clear hs
      by_cases hlt : i < len
      · obtain ⟨b, o, r, rfl, hbl, hr, hc, hir⟩ := HH.out.at_ hlt
        have hrz := HZ.out r (List.mem_of_getElem? hr)
        have Hst := hide (sumL_take rs i r hr)
        simp only [RowE.v] at hc
        have q1 : (i : Int) < (len : Int) := by omega
        clear hr hir
        generalize r.xs.length = y at *
        go_wp2
        exact ⟨⟨i + 1, s + y, by omega, by go_num, by go_num, by rw [Hst.out, Hs.out], by omega⟩, by simp [intOf]; omega⟩
      · obtain rfl : i = len := by omega
        have q1 : ¬ (i : Int) < (i : Int) := by omega
        have hall : s = sumL rs := by rw [Hs.out, List.take_of_length_le (by rw [HL.out]; exact Nat.le_refl _)]
        have q2 : (i : Int) ≤ 200 := by omega
        by_cases h5 : s ≤ 5000
        · have HD : Hid (fewB rs = true) := by
            show _ = _
            unfold fewB
            rw [decide_eq_true_iff, HL.out, ← hall]
            omega
          have q3 : decide ((s : Int) ≤ 5000) = true := decide_eq_true (by omega)
          clear hall hb
          go_wp2
          go_ret
          exact ⟨by rw [HD.out]; rfl, rfl⟩
        · have HD : Hid (fewB rs = false) := by
            show _ = _
            unfold fewB
            rw [decide_eq_false_iff_not, HL.out, ← hall]
            omega
          have q3 : decide ((s : Int) ≤ 5000) = false := decide_eq_false (by omega)
          clear hall hb
          go_wp2
          go_ret
          exact ⟨by rw [HD.out]; rfl, rfl⟩
  · have HH := hide h
    have HD : Hid (fewB rs = false) := by
      show _ = _
      unfold fewB
      rw [decide_eq_false_iff_not, hl]
      omega
    clear h hz hl
    go_enter Try.func13, Try.ntmps13
    go_wp2
    go_loop [3, 4] (fun nv iv_ => ∃ (i : Nat) (z : Int), i ≤ len ∧ iv_ = .int .i64 (i : Int) ∧ nv = .int .i64 z) (fun _ iv_ => len - (intOf iv_).toNat)
    case atStart => exact ⟨0, 0, by omega, rfl, rfl⟩
    case round =>
      obtain ⟨i, z, hi, rfl, rfl⟩ := hrel
      by_cases hlt : i < len
      · obtain ⟨b, o, r, rfl, hbl, hr, hc, hir⟩ := HH.out.at_ hlt
        simp only [RowE.v] at hc
        have q1 : (i : Int) < (len : Int) := by omega
        clear hr hir
        generalize r.xs.length = y at *
        go_wp2
        exact ⟨⟨i + 1, _, by omega, by go_num, rfl⟩, by simp [intOf]; omega⟩
      · obtain rfl : i = len := by omega
        have q1 : ¬ (i : Int) < (i : Int) := by omega
        have q2 : decide ((i : Int) ≤ 200) = false := decide_eq_false (by omega)
        go_wp2
        go_ret
        exact ⟨by rw [HD.out]; rfl, rfl⟩

/-- The document's Number, at a place. -/
theorem number_at (A : Option Addr) (n k : Nat) (xs : List UInt8) (w : World) (hr : Rd w A n (bv xs)) (Q : Nat) (hQ : Q + 2 ≤ n) (hk : n ≤ k) :
    Calls Try.prog 26 #[.slice (cutA A Q k) (n - Q) (k - Q)] w fun e w' => e = .returned (.int .i64 (wordN xs Q : Nat)) ∧ ∃ nq, w' = w.drewN nq := by
  have hx : xs.length = n := by rw [← bv_length]; exact hr.1
  obtain ⟨x, g0, b0⟩ := get_byteAt xs Q (by omega)
  obtain ⟨y, g1, b1⟩ := get_byteAt xs (Q + 1) (by omega)
  have ht := hr.tail Q k (by omega) hk
  rw [bv_drop] at ht
  have := number_any (cutA A Q k) (n - Q) (k - Q) (xs.drop Q) w ht (by omega) x y (by rw [List.getElem?_drop, Nat.add_zero]; exact g0) (by rw [List.getElem?_drop]; exact g1)
  have e : (256 * (x.toNat : Int) + (y.toNat : Int)) = ((wordN xs Q : Nat) : Int) := by
    unfold wordN
    rw [← b0, ← b1]
    omega
  rw [e] at this
  exact this
theorem byteAt_drop (xs : List UInt8) (P i : Nat) : byteAt (xs.drop P) i = byteAt xs (P + i) := by unfold byteAt; rw [List.getElem?_drop]
theorem wordN_drop (xs : List UInt8) (P i : Nat) : wordN (xs.drop P) i = wordN xs (P + i) := by unfold wordN; rw [byteAt_drop, byteAt_drop, Nat.add_assoc]

end Go.Proofs.Ytjldfefebnpdgaa
