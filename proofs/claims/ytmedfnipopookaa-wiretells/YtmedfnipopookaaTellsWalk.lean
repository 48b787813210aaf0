/-
  What is proved here: the law WireTells returns true for every slice of bytes and every int, and writes nothing that was there. No condition.
-/
import Derived.Test.YtmedfnipopookaaAwake1
import Derived.Test.YtmedfnipopookaaRef1
namespace Go.Proofs.Ytmedfnipopookaa
set_option linter.unusedVariables false
set_option linter.unusedSimpArgs false
open Go.RowKit

set_option maxHeartbeats 2000000 in
set_option maxRecDepth 100000 in
theorem tells_walk (A : Option Addr) (l c : Nat) (xs : List UInt8) (i : Int) (w : World) (h : Rd w A l (bv xs)) (hx : xs.length = l) (hc : l ≤ c) :
    Calls Try.prog 4 #[.slice A l c, .int .i64 i] w fun e w' => e = .returned (.bool true) ∧ Below w.heap.size w w' := by
  by_cases hs : l ≤ 2000
  · have hsm : decide (l ≤ 2000) = true := by simpa using hs
    by_cases h0 : i < 0
    · clear hx h
      go_enter Try.func4, Try.ntmps4
      go_wp2_with (first
        | (go_at_call 9; refine (small_any A l c w).mono ?_; rintro e w' ⟨rfl, rfl⟩; rw [hsm])
        | (go_at_call 15; refine (at_neg A l c i _ h0).mono ?_; rintro e w' ⟨rfl, rfl⟩)
        | (go_at_call 16; refine (textAt_neg A l c i _ h0).mono ?_; rintro e w' ⟨rfl, rfl⟩)
        | (go_at_call 12; refine (awake_any _).mono ?_; rintro e w2 ⟨rfl, b2⟩))
      go_ret
      exact ⟨rfl, b2⟩
    · have h0' : 0 ≤ i := by omega
      by_cases h1 : (l : Int) - 2 < i
      · clear hx h
        go_enter Try.func4, Try.ntmps4
        go_wp2_with (first
          | (go_at_call 9; refine (small_any A l c w).mono ?_; rintro e w' ⟨rfl, rfl⟩; rw [hsm])
          | (go_at_call 15; refine (at_more A l c i _ h0' h1 (by unfold maxLen; omega)).mono ?_; rintro e w' ⟨rfl, rfl⟩)
          | (go_at_call 16; refine (textAt_more A l c i _ h0' h1 (by unfold maxLen; omega)).mono ?_; rintro e w' ⟨rfl, rfl⟩)
          | (go_at_call 12; refine (awake_any _).mono ?_; rintro e w2 ⟨rfl, b2⟩))
        go_ret
        exact ⟨rfl, b2⟩
      · obtain ⟨k, rfl⟩ : ∃ k : Nat, i = (k : Int) := ⟨i.toNat, by omega⟩
        have hk : k + 2 ≤ l := by omega
        have g0 : xs[k]? = some xs[k] := List.getElem?_eq_getElem (by omega)
        have g1 : xs[k + 1]? = some xs[k + 1] := List.getElem?_eq_getElem (by omega)
        generalize xs[k] = X at *
        generalize xs[k + 1] = Y at *
        obtain ⟨n, hn⟩ : ∃ n, 256 * X.toNat + Y.toNat = n := ⟨_, rfl⟩
        have hX := X.toNat_lt
        have hY := Y.toNat_lt
        have hr : (n : Int) = 256 * X.toNat + Y.toNat := by omega
        have HA := fun W hW => hide (atI A l c (k : Int) k rfl xs W hW hk (by unfold maxLen; omega) X Y g0 g1 (n : Int) hr)
        have ht := h.tail k c (by omega) hc
        rw [bv_drop] at ht
        have hsl := fun W => run_slTail (P := Try.prog) 22 5 Try.underlying22 u8_size A l c (k : Int) k rfl (by omega) W
        have q1 : ¬ (l : Int) - 2 < (k : Int) := by omega
        by_cases h2 : k + 2 + n ≤ l
        · have HT := fun W hW => hide (textAtI A l c (k : Int) k n rfl xs W hW hc h2 (by omega) X Y g0 g1 hn _ rfl ((k : Int) + 2 + n) (by omega))
          have HN := fun W hW => hide (number_any (cutA A k c) (l - k) (c - k) (xs.drop k) W hW (by omega) X Y (by simpa using g0) (by simpa using g1))
          have hsl2 := fun W => run_sl (P := Try.prog) 22 5 Try.underlying22 u8_size A l c ((k : Int) + 2) ((k : Int) + 2 + n) (k + 2) (k + 2 + n) (by omega) (by omega) (by omega) (by omega) W
          rw [show k + 2 + n - (k + 2) = n from by omega] at hsl2
          have hcut := h.cut (k + 2) n c (by omega) hc
          rw [bv_cut] at hcut
          have hcv : ∀ w', Below w.heap.size w w' → ∀ d, (convert 22 9 (.slice (cutA A (k + 2) c) n d)).run Try.prog w' = .ok (.string (str ((xs.drop (k + 2)).take n))) w' := fun w' hb d =>
            (hcut.keep hb).toStr 22 5 9 Try.underlying22 Try.underlying5 Try.underlying9 d
          have q2 : ¬ (l : Int) < (k : Int) + 2 + n := by omega
          have Hr := hide hr
          have Hn := hide hn
          clear hr hn g0 g1 hx hcut
          go_enter Try.func4, Try.ntmps4
          go_wp2_with (first
            | (go_at_call 9; refine (small_any A l c w).mono ?_; rintro e w' ⟨rfl, rfl⟩; rw [hsm])
            | (go_at_call 15; refine (HA w h).out.mono ?_; rintro e w' ⟨rfl, n1, rfl⟩)
            | (go_at_call 16; refine (HT _ (h.drewN _)).out.mono ?_; rintro e w' ⟨rfl, n2, rfl⟩)
            | (go_at_call 17; refine (HN _ (ht.drewN _)).out.mono ?_; rintro e w' ⟨rfl, n3, rfl⟩; rw [← Hr.out])
            | (go_at_call 12; refine (awake_any _).mono ?_; rintro e w2 ⟨rfl, b2⟩; have s2 := below_unN b2; clear b2))
          go_ret
          exact ⟨rfl, s2⟩
        · have h2' : l < k + 2 + (256 * X.toNat + Y.toNat) := by omega
          have HT := fun W hW => hide (textAt_short A l c k xs W hW hk (by omega) X Y g0 g1 h2')
          have HN := fun W hW => hide (number_any (cutA A k c) (l - k) (c - k) (xs.drop k) W hW (by omega) X Y (by simpa using g0) (by simpa using g1))
          have q2 : (l : Int) < (k : Int) + 2 + n := by omega
          have hn3 : n ≤ 65535 := by omega
          have Hr := hide hr
          have Hn := hide hn
          clear hr hn g0 g1 hx h2'
          go_enter Try.func4, Try.ntmps4
          go_wp2_with (first
            | (go_at_call 9; refine (small_any A l c w).mono ?_; rintro e w' ⟨rfl, rfl⟩; rw [hsm])
            | (go_at_call 15; refine (HA w h).out.mono ?_; rintro e w' ⟨rfl, n1, rfl⟩)
            | (go_at_call 16; refine (HT _ (h.drewN _)).out.mono ?_; rintro e w' ⟨rfl, n2, rfl⟩)
            | (go_at_call 17; refine (HN _ (ht.drewN _)).out.mono ?_; rintro e w' ⟨rfl, n3, rfl⟩; rw [← Hr.out])
            | (go_at_call 12; refine (awake_any _).mono ?_; rintro e w2 ⟨rfl, b2⟩; have s2 := below_unN b2; clear b2))
          go_ret
          exact ⟨rfl, s2⟩
  · have hsm : decide (l ≤ 2000) = false := by simpa using hs
    go_enter Try.func4, Try.ntmps4
    go_wp2_with (go_at_call 9; refine (small_any A l c w).mono ?_; rintro e w' ⟨rfl, rfl⟩; rw [hsm])
    go_ret
    exact ⟨rfl, Below.refl _ _⟩

end Go.Proofs.Ytmedfnipopookaa
