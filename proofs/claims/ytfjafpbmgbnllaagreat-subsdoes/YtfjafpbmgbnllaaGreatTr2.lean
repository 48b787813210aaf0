/-
  What is proved here: what the document's own Filter and Takes of layer 12 return. Condition: texts of at most 65535 bytes; a name that is not empty.
-/
import Derived.Test.YtfjafpbmgbnllaaGreatTr1
namespace Go.Proofs.YtfjafpbmgbnllaaGreat
set_option linter.unusedVariables false
set_option linter.unusedSimpArgs false
open Go.RowKit

theorem mayS_rest {L : List UInt8} {b : Bool} (h1 : L ≠ [43]) (h2 : ¬ (L = [35] ∧ b = true)) : mayS L b = !wildL L := by
  unfold mayS
  rw [if_neg h1]
  split
  · rename_i h
    subst h
    cases b
    · rfl
    · exact absurd ⟨rfl, rfl⟩ h2
  · rfl
theorem sv_get (ls : List (List UInt8)) (i : Nat) (h : i < ls.length) : (sv ls)[i]? = some (.string (str ls[i])) := by
  simp [sv, h]
theorem filtL_iff (ls : List (List UInt8)) : filtL ls = true ↔ ∀ i (h : i < ls.length), mayS ls[i] (decide (i + 1 = ls.length)) = true := by
  unfold filtL
  rw [List.all_eq_true]
  constructor
  · intro h i hi
    exact h _ (List.mem_of_getElem? (lasts_get ls i hi))
  · intro h p hp
    obtain ⟨i, hi, e⟩ := List.getElem_of_mem hp
    have := lasts_get ls i (by rw [← lasts_length]; exact hi)
    rw [List.getElem?_eq_getElem hi, e] at this
    injection this with this
    rw [this]
    exact h i _

theorem lvls_lenR : ∀ (x : List UInt8) (l : List UInt8), l ∈ lvls x → l.length ≤ x.length
  | [], l, h => by simp [lvls] at h; simp [h]
  | c :: cs, l, h => by
    have ih := lvls_lenR cs
    obtain ⟨m, ms, e⟩ := lvls_cons cs
    rw [lvls, e] at h
    rw [e] at ih
    rw [List.length_cons]
    split at h
    · rcases List.mem_cons.1 h with rfl | h
      · simp
      · exact Nat.le_succ_of_le (ih l h)
    · rcases List.mem_cons.1 h with rfl | h
      · have := ih m (by simp)
        rw [List.length_cons]; omega
      · exact Nat.le_succ_of_le (ih l (by simp [h]))
theorem lvls_count : ∀ x : List UInt8, (lvls x).length ≤ x.length + 1
  | [] => by simp [lvls]
  | c :: cs => by
    have ih := lvls_count cs
    obtain ⟨m, ms, e⟩ := lvls_cons cs
    rw [e] at ih
    rw [lvls, e]
    simp only [List.length_cons] at *
    split <;> simp <;> omega

set_option maxRecDepth 100000 in
set_option maxHeartbeats 4000000 in
theorem rFilter_any (xs : List UInt8) (hs : xs.length ≤ 65535) (w : World) : Calls Tryz.prog 22 #[.string (str xs)] w fun e w' => e = .returned (.bool (filterL xs)) ∧ Below w.heap.size w w' := by
  have H1 := hide fun W => rIs_any xs hs W
  have H2 := hide fun W => rLevels_any xs (by omega) W
  unfold filterL textL
  cases hx : xs with
  | nil =>
    go_enter Tryz.func22, Tryz.ntmps22
    go_wp2
    go_ret
    exact ⟨rfl, Below.refl _ _⟩
  | cons c cs =>
    rw [← hx]
    have q : (xs == ([] : List UInt8)) = false := by rw [hx]; rfl
    have qe : xs.isEmpty = false := by rw [hx]; rfl
    rw [qe]
    clear hx
    cases hB : (ptsU xs).isSome with
    | false =>
      rw [hB] at H1
      clear hB qe
      go_enter Tryz.func22, Tryz.ntmps22
      go_wp2_with (go_at_call 29; refine (H1.out _).mono ?_; rintro e w1 ⟨rfl, b1⟩)
      go_ret
      exact ⟨rfl, b1⟩
    | true =>
      rw [hB] at H1
      have HLL := hide fun l hl => lvls_lenR xs l hl
      have hcnt := lvls_count xs
      clear hB qe
      obtain ⟨ls, hls⟩ : ∃ ls, lvls xs = ls := ⟨_, rfl⟩
      rw [hls] at H2 HLL hcnt ⊢
      obtain ⟨n, hn⟩ : ∃ n, ls.length = n := ⟨_, rfl⟩
      have HF := hide (filtL_iff ls)
      go_enter Tryz.func22, Tryz.ntmps22
      go_wp2_with (first
        | (go_at_call 29; refine (H1.out _).mono ?_; rintro e w1 ⟨rfl, b1⟩)
        | (go_at_call 39; refine (H2.out _).mono ?_; rintro e w2 ⟨C, d, rfl, hd, hr, b2⟩))
      have HB := hide (below_on b1 b2)
      have HR := hide hr
      rw [hn] at hd
      rw [hn] at HR
      have hn2 : n ≤ 65536 := by omega
      have HN := hide hn
      have HS := hide hs
      clear b1 b2 hr hls hcnt hs hn q
      go_loopg [4] n (fun g p wr => ∃ i : Nat, i + g = n ∧ p = .int .i64 (i : Int) ∧ wr = w2 ∧ ∀ j (h : j < ls.length), j < i → mayS ls[j] (decide (j + 1 = ls.length)) = true)
      case atStart => exact ⟨0, by omega, rfl, rfl, fun j h h2 => by omega⟩
      case round =>
        obtain ⟨i, hig, rfl, rfl, hall⟩ := hrel
        have HA := hide hall
        clear hall
        cases gk with
        | zero =>
          obtain rfl : i = n := by omega
          have q : ¬ ((i : Int) < (i : Int)) := by omega
          go_wp2
          go_ret
          have : filtL ls = true := HF.out.2 fun j hj => HA.out j hj (by have := HN.out; omega)
          exact ⟨by rw [this]; rfl, HB.out⟩
        | succ g =>
          have hin : i < n := by omega
          have q : (i : Int) < (n : Int) := by omega
          have hlt : i < ls.length := by rw [HN.out]; exact hin
          obtain ⟨b, o, rfl, hb2, hb3⟩ := HR.out.at_ hin
          have hc := hb3 i _ (sv_get ls i hlt)
          have HLm := hide (HLL.out _ (List.getElem_mem hlt))
          obtain ⟨L, hL⟩ : ∃ L, ls[i]'hlt = L := ⟨_, rfl⟩
          rw [hL] at hc HLm
          have HL := hide hL
          clear hL hb3
          obtain ⟨lb, hlb⟩ : ∃ lb, decide (i + 1 = n) = lb := ⟨_, rfl⟩
          have qn : (((i : Int) == (n : Int) - 1)) = lb := by rw [← hlb, Bool.eq_iff_iff]; simp; omega
          have HLB := hide hlb
          clear hlb
          have nxt : Hid (mayS L lb = true → ∀ j (h : j < ls.length), j < i + 1 → mayS ls[j] (decide (j + 1 = ls.length)) = true) := by
            refine hide fun hm j hj hji => ?_
            by_cases e : j = i
            · subst e
              rw [HL.out, HN.out, HLB.out]
              exact hm
            · exact HA.out j hj (by omega)
          have bad : Hid (mayS L lb = false → filtL ls = false) := by
            refine hide fun hm => ?_
            cases hf : filtL ls with
            | false => rfl
            | true =>
              have := HF.out.1 hf i hlt
              rw [HL.out, HN.out, HLB.out, hm] at this
              cases this
          by_cases h43 : L = [43]
          · have q1 : (L == [43]) = true := beq_iff_eq.2 h43
            have H43 := hide h43
            clear h43
            go_wp2
            go_roundg g
            case measure => omega
            case rel => exact ⟨i + 1, by omega, by go_num, rfl, nxt.out (by rw [H43.out]; rfl)⟩
          · have q1 : (L == [43]) = false := beq_eq_false_iff_ne.2 h43
            have H43 := hide h43
            clear h43
            by_cases h35 : L = [35] ∧ lb = true
            · have q2 : (L == [35]) = true := beq_iff_eq.2 h35.1
              obtain ⟨h35a, rfl⟩ := h35
              have H35 := hide h35a
              clear h35a
              go_wp2
              go_roundg g
              case measure => omega
              case rel => exact ⟨i + 1, by omega, by go_num, rfl, nxt.out (by rw [H35.out]; rfl)⟩
            · have hms := hide (mayS_rest H43.out h35)
              have HH1 := hide fun W => rHas_any L 43 (by have := HLm.out; have := HS.out; omega) W
              have HH2 := hide fun W => rHas_any L 35 (by have := HLm.out; have := HS.out; omega) W
              rw [show ((43 : UInt8).toNat : Int) = 43 from rfl] at HH1
              rw [show ((35 : UInt8).toNat : Int) = 35 from rfl] at HH2
              have q23 : ((L == [35]) = false) ∨ ((L == [35]) = true ∧ lb = false) := by
                by_cases h : L = [35]
                · refine .inr ⟨beq_iff_eq.2 h, ?_⟩
                  cases lb
                  · rfl
                  · exact absurd ⟨h, rfl⟩ h35
                · exact .inl (beq_eq_false_iff_ne.2 h)
              clear h35
              rcases q23 with q2 | ⟨q2, rfl⟩
              · skip
                cases hc1 : L.contains 43 with
                | true =>
                  rw [hc1] at HH1
                  have Hc1 := hide hc1
                  clear hc1
                  go_wp2_with fail
                  refine (HH1.out _).mono ?_
                  rintro e w3 ⟨rfl, rfl⟩
                  go_wp2_with fail
                  go_ret
                  have : filtL ls = false := bad.out (by rw [hms.out]; unfold wildL; rw [Hc1.out]; rfl)
                  exact ⟨by rw [this]; rfl, HB.out⟩
                | false =>
                  rw [hc1] at HH1
                  have Hc1 := hide hc1
                  clear hc1
                  cases hc2 : L.contains 35 with
                  | true =>
                    rw [hc2] at HH2
                    have Hc2 := hide hc2
                    clear hc2
                    go_wp2_with fail
                    refine (HH1.out _).mono ?_
                    rintro e w3 ⟨rfl, rfl⟩
                    go_wp2_with fail
                    refine (HH2.out _).mono ?_
                    rintro e w4 ⟨rfl, rfl⟩
                    go_wp2_with fail
                    go_ret
                    have : filtL ls = false := bad.out (by rw [hms.out]; unfold wildL; rw [Hc1.out, Hc2.out]; rfl)
                    exact ⟨by rw [this]; rfl, HB.out⟩
                  | false =>
                    rw [hc2] at HH2
                    have Hc2 := hide hc2
                    clear hc2
                    go_wp2_with fail
                    refine (HH1.out _).mono ?_
                    rintro e w3 ⟨rfl, rfl⟩
                    go_wp2_with fail
                    refine (HH2.out _).mono ?_
                    rintro e w4 ⟨rfl, rfl⟩
                    go_wp2_with fail
                    go_roundg g
                    case measure => omega
                    case rel => exact ⟨i + 1, by omega, by go_num, rfl, nxt.out (by rw [hms.out]; unfold wildL; rw [Hc1.out, Hc2.out]; rfl)⟩
              · skip
                cases hc1 : L.contains 43 with
                | true =>
                  rw [hc1] at HH1
                  have Hc1 := hide hc1
                  clear hc1
                  go_wp2_with fail
                  refine (HH1.out _).mono ?_
                  rintro e w3 ⟨rfl, rfl⟩
                  go_wp2_with fail
                  go_ret
                  have : filtL ls = false := bad.out (by rw [hms.out]; unfold wildL; rw [Hc1.out]; rfl)
                  exact ⟨by rw [this]; rfl, HB.out⟩
                | false =>
                  rw [hc1] at HH1
                  have Hc1 := hide hc1
                  clear hc1
                  cases hc2 : L.contains 35 with
                  | true =>
                    rw [hc2] at HH2
                    have Hc2 := hide hc2
                    clear hc2
                    go_wp2_with fail
                    refine (HH1.out _).mono ?_
                    rintro e w3 ⟨rfl, rfl⟩
                    go_wp2_with fail
                    refine (HH2.out _).mono ?_
                    rintro e w4 ⟨rfl, rfl⟩
                    go_wp2_with fail
                    go_ret
                    have : filtL ls = false := bad.out (by rw [hms.out]; unfold wildL; rw [Hc1.out, Hc2.out]; rfl)
                    exact ⟨by rw [this]; rfl, HB.out⟩
                  | false =>
                    rw [hc2] at HH2
                    have Hc2 := hide hc2
                    clear hc2
                    go_wp2_with fail
                    refine (HH1.out _).mono ?_
                    rintro e w3 ⟨rfl, rfl⟩
                    go_wp2_with fail
                    refine (HH2.out _).mono ?_
                    rintro e w4 ⟨rfl, rfl⟩
                    go_wp2_with fail
                    go_roundg g
                    case measure => omega
                    case rel => exact ⟨i + 1, by omega, by go_num, rfl, nxt.out (by rw [hms.out]; unfold wildL; rw [Hc1.out, Hc2.out]; rfl)⟩

end Go.Proofs.YtfjafpbmgbnllaaGreat
