/-
  What is proved here: what the document's own small tests of layer 3 return (words, Bit, span, values). Conditions: lengths up to a million.
-/
import Derived.Test.YtfpfijggmfeejaaPdu1
import Derived.Test.YtfpfijggmfeejaaPduMath
namespace Go.Proofs.Ytfpfijggmfeejaa
set_option linter.unusedVariables false
set_option linter.unusedSimpArgs false
open Go.RowKit

theorem is_any (n : Int) (w : World) : Calls Try.prog 40 #[.int .i64 n] w fun e w' => e = .returned (.bool (isW n)) ∧ w = w' := by
  unfold isW
  cases h1 : decide (0 ≤ n)
  all_goals cases h2 : decide (n ≤ 65535)
  all_goals
    go_enter Try.func40, Try.ntmps40
    go_wp2
    go_ret
    exact ⟨rfl, rfl⟩

theorem words_any (A : Option Addr) (n c : Nat) (xs : List Int) (w : World) (h : Rd w A n (iv xs)) (hn : n ≤ 1000000) :
    Calls Try.prog 59 #[.slice A n c] w fun e w' => e = .returned (.bool (upToB xs 65535)) ∧ w = w' := by
  have hl : xs.length = n := by rw [← iv_length]; exact h.1
  have Hl := hide hl
  clear hl
  go_enter Try.func59, Try.ntmps59
  go_wp2
  go_loop [3] (fun i => ∃ k : Nat, k ≤ n ∧ i = .int .i64 k ∧ upToB (xs.take k) 65535 = true) (fun i => n - (intOf i).toNat)
  case atStart => exact ⟨0, Nat.zero_le _, rfl, rfl⟩
  case round =>
    obtain ⟨k, hk, rfl, htk⟩ := hrel
    have Htk := hide htk
    clear htk
    by_cases hlt : k < n
    · obtain ⟨b, o, rfl, hbl, hc⟩ := h.at_ hlt
      have hlt' : k < xs.length := by rw [Hl.out]; exact hlt
      have c0 := hc k _ (iv_get xs k hlt')
      have Hts := hide (upToB_snoc xs 65535 k hlt')
      have Hno : Hid (¬ (0 ≤ xs[k] ∧ xs[k] ≤ 65535) → upToB xs 65535 = false) := fun hne => by
        rw [upToB, List.all_eq_false]
        exact ⟨xs[k], List.getElem_mem hlt', by simpa using hne⟩
      have q : (k : Int) < (n : Int) := by omega
      clear hc h
      generalize xs[k] = z at *
      have HI := hide (fun W => is_any z W)
      cases hz : isW z
      · have hz2 : ¬ (0 ≤ z ∧ z ≤ 65535) := by intro hh; simp [isW, hh] at hz
        have Hn := hide (Hno.out hz2)
        rw [hz] at HI
        clear hz hz2
        go_wp2_with fail
        refine (HI.out _).mono ?_
        rintro e w1 ⟨rfl, rfl⟩
        go_wp2
        go_ret
        exact ⟨by rw [Hn.out]; rfl, rfl⟩
      · rw [hz] at HI
        have Hb : Hid ((decide (0 ≤ z) && decide (z ≤ 65535)) = true) := hz
        clear hz
        go_wp2_with fail
        refine (HI.out _).mono ?_
        rintro e w1 ⟨rfl, rfl⟩
        go_wp2
        go_round
        case rel => exact ⟨k + 1, by omega, by go_num, by rw [Hts.out, Htk.out, Hb.out]; rfl⟩
        case measure => simp [intOf]; omega
    · obtain rfl : k = n := by omega
      have hfin : upToB xs 65535 = true := by have := Htk.out; rwa [List.take_of_length_le (by rw [Hl.out]; exact Nat.le_refl _)] at this
      have Hfin := hide hfin
      clear hfin
      go_wp2
      go_ret
      exact ⟨by rw [Hfin.out]; rfl, rfl⟩

def spanB (at_ n : Int) : Bool := isW at_ && decide (at_ + n ≤ 65536)
theorem span_any (a n : Int) (h0 : 0 ≤ n) (h1 : n ≤ 1000000) (w : World) : Calls Try.prog 38 #[.int .i64 a, .int .i64 n] w fun e w' => e = .returned (.bool (spanB a n)) ∧ w = w' := by
  have HI := hide (fun W => is_any a W)
  unfold spanB
  cases hz : isW a
  · rw [hz] at HI
    clear hz
    go_enter Try.func38, Try.ntmps38
    go_wp2_with fail
    refine (HI.out _).mono ?_
    rintro e w1 ⟨rfl, rfl⟩
    go_wp2
    go_ret
    exact ⟨rfl, rfl⟩
  · rw [hz] at HI
    have hb : 0 ≤ a ∧ a ≤ 65535 := by simpa [isW] using hz
    obtain ⟨hb1, hb2⟩ := hb
    clear hz
    cases h2 : decide (a + n ≤ 65536)
    all_goals
      go_enter Try.func38, Try.ntmps38
      go_wp2_with fail
      refine (HI.out _).mono ?_
      rintro e w1 ⟨rfl, rfl⟩
      go_wp2
      go_ret
      exact ⟨rfl, rfl⟩

def bitF (f : Int) : Bool := f == 1 || f == 2 || f == 5 || f == 15
theorem bit_any (f : Int) (w : World) : Calls Try.prog 33 #[.int .i64 f] w fun e w' => e = .returned (.bool (bitF f)) ∧ w = w' := by
  unfold bitF
  cases h1 : f == 1
  · cases h2 : f == 2
    · cases h3 : f == 5
      all_goals
        go_enter Try.func33, Try.ntmps33
        go_wp2
        go_ret
        exact ⟨rfl, rfl⟩
    · go_enter Try.func33, Try.ntmps33
      go_wp2
      go_ret
      exact ⟨rfl, rfl⟩
  · go_enter Try.func33, Try.ntmps33
    go_wp2
    go_ret
    exact ⟨rfl, rfl⟩

/-- values: as many as may be, from 0 to top? -/
def valsB (vs : List Int) (least most top : Int) : Bool := decide (least ≤ (vs.length : Int)) && decide ((vs.length : Int) ≤ most) && upToB vs top
theorem values_any (f a c t an o least most top : Int) (A : Option Addr) (n k : Nat) (vs : List Int) (w : World) (h : Rd w A n (iv vs)) (hn : n ≤ 1000000) (htop : top = if bitF f then 1 else 65535) :
    Calls Try.prog 39 #[.agg #[.int .i64 f, .int .i64 a, .int .i64 c, .slice A n k, .int .i64 t, .int .i64 an, .int .i64 o], .int .i64 least, .int .i64 most] w fun e w' => e = .returned (.bool (valsB vs least most top)) ∧ Below w.heap.size w w' := by
  have hl : vs.length = n := by rw [← iv_length]; exact h.1
  unfold valsB
  rw [hl]
  have HB := hide (fun W => bit_any f W)
  have HW := hide (fun W (b : Below w.heap.size w W) => words_any A n k vs W (h.keep b) hn)
  have HV := hide (fun W (b : Below w.heap.size w W) => bits_any A n k vs W (h.keep b) hn)
  rw [← upTo_bits vs] at HV
  clear h hl
  cases h1 : decide ((n : Int) < least)
  · have h1' : decide (least ≤ (n : Int)) = true := by simp at h1 ⊢; omega
    rw [h1']
    cases h2 : decide (most < (n : Int))
    · have h2' : decide ((n : Int) ≤ most) = true := by simp at h2 ⊢; omega
      rw [h2']
      cases hb : bitF f
      · rw [hb] at HB htop
        subst htop
        clear hb HV h1' h2'
        go_enter Try.func39, Try.ntmps39
        go_wp2_with fail
        refine (HB.out _).mono ?_
        rintro e w1 ⟨rfl, rfl⟩
        go_wp2_with fail
        refine (HW.out _ ((Below.refl _ _).alloc (Nat.le_refl _) _)).mono ?_
        rintro e w1 ⟨rfl, rfl⟩
        go_wp2
        go_ret
        exact ⟨by simp, (Below.refl _ _).alloc (Nat.le_refl _) _⟩
      · rw [hb] at HB htop
        subst htop
        clear hb HW h1' h2'
        go_enter Try.func39, Try.ntmps39
        go_wp2_with fail
        refine (HB.out _).mono ?_
        rintro e w1 ⟨rfl, rfl⟩
        go_wp2_with fail
        refine (HV.out _ ((Below.refl _ _).alloc (Nat.le_refl _) _)).mono ?_
        rintro e w1 ⟨rfl, rfl⟩
        go_wp2
        go_ret
        exact ⟨by simp, (Below.refl _ _).alloc (Nat.le_refl _) _⟩
    · have h2' : decide ((n : Int) ≤ most) = false := by simp at h2 ⊢; omega
      rw [h2']
      clear h1' h2'
      go_enter Try.func39, Try.ntmps39
      go_wp2
      go_ret
      exact ⟨rfl, (Below.refl _ _).alloc (Nat.le_refl _) _⟩
  · have h1' : decide (least ≤ (n : Int)) = false := by simp at h1 ⊢; omega
    rw [h1']
    clear h1'
    go_enter Try.func39, Try.ntmps39
    go_wp2
    go_ret
    exact ⟨rfl, (Below.refl _ _).alloc (Nat.le_refl _) _⟩

end Go.Proofs.Ytfpfijggmfeejaa
