/-
  What is proved here: the law TopicLevels returns true for every three texts, and writes nothing that was there. No condition.
-/
import Derived.Test.YtkgidimaiedocaaTp8
import Derived.Test.YtkgidimaiedocaaTr2
import Derived.Deep.LoopGhost
namespace Go.Proofs.Ytkgidimaiedocaa
set_option linter.unusedVariables false
set_option linter.unusedSimpArgs false
open Go.RowKit

/-- Does a sign / stand in a text? As the laws look for it. -/
theorem no_slash {L : List UInt8} {i : Nat} (h : (L.take i).contains 47 = false) (hi : i < L.length) (hc : L[i] ≠ 47) : (L.take (i + 1)).contains 47 = false := by
  rw [List.take_succ_eq_append_getElem hi]
  simp only [List.contains_eq_mem, List.mem_append, List.mem_singleton, decide_eq_false_iff_not, not_or] at *
  exact ⟨h, fun e => hc e.symm⟩
theorem no_slash_all {L : List UInt8} {i : Nat} (h : (L.take i).contains 47 = false) (hi : L.length = i) : (47 : UInt8) ∉ L := by
  rw [List.take_of_length_le (by omega)] at h
  simpa using h

set_option maxHeartbeats 8000000 in
set_option maxRecDepth 100000 in
theorem levels12_walk (s0 s1 s2 : ByteArray) (w : World) : Calls Try.prog 6 #[.string s0, .string s1, .string s2] w fun e w' => e = .returned (.bool true) ∧ Below w.heap.size w w' := by
  obtain ⟨xs, rfl⟩ : ∃ xs, s0 = str xs := ⟨_, (str_of s0).symm⟩
  obtain ⟨ns, rfl⟩ : ∃ xs, s1 = str xs := ⟨_, (str_of s1).symm⟩
  obtain ⟨L, rfl⟩ : ∃ xs, s2 = str xs := ⟨_, (str_of s2).symm⟩
  have S1 := hide fun W => small_any xs W
  have S2 := hide fun W => small_any ns W
  have S3 := hide fun W => small_any L W
  by_cases h1 : xs.length ≤ 500
  · rw [decide_eq_true h1] at S1
    by_cases h2 : ns.length ≤ 500
    · rw [decide_eq_true h2] at S2
      by_cases h3 : L.length ≤ 500
      · rw [decide_eq_true h3] at S3
        have P1 := hide fun W => rFilter_any xs (by omega) W
        have P2 := hide fun W => rName_any ns (by omega) W
        cases hf : filterL xs with
        | false =>
          rw [hf] at P1
          clear hf h1 h2 h3
          go_enter Try.func6, Try.ntmps6
          go_wp2_with fail
          refine (S1.out _).mono ?_
          rintro e w1 ⟨rfl, rfl⟩
          go_wp2_with fail
          refine (S2.out _).mono ?_
          rintro e w2 ⟨rfl, rfl⟩
          go_wp2_with fail
          refine (S3.out _).mono ?_
          rintro e w3 ⟨rfl, rfl⟩
          go_wp2_with fail
          refine (P1.out _).mono ?_
          rintro e w4 ⟨rfl, b4⟩
          have B4 := hide b4
          clear b4
          go_wp2_with fail
          go_ret
          exact ⟨rfl, B4.out⟩
        | true =>
          rw [hf] at P1
          cases hn : nameL ns with
          | false =>
            rw [hn] at P2
            clear hf hn h1 h2 h3
            go_enter Try.func6, Try.ntmps6
            go_wp2_with fail
            refine (S1.out _).mono ?_
            rintro e w1 ⟨rfl, rfl⟩
            go_wp2_with fail
            refine (S2.out _).mono ?_
            rintro e w2 ⟨rfl, rfl⟩
            go_wp2_with fail
            refine (S3.out _).mono ?_
            rintro e w3 ⟨rfl, rfl⟩
            go_wp2_with fail
            refine (P1.out _).mono ?_
            rintro e w4 ⟨rfl, b4⟩
            have B4 := hide b4
            clear b4
            go_wp2_with fail
            refine (P2.out _).mono ?_
            rintro e w5 ⟨rfl, b5⟩
            have B5 := hide (below_on B4.out b5)
            clear b5
            go_wp2_with fail
            go_ret
            exact ⟨rfl, B5.out⟩
          | true =>
            rw [hn] at P2
            have hne := (filterL_parts hf).1
            obtain ⟨n, hnn⟩ : ∃ n, xs.length = n := ⟨_, rfl⟩
            have hn0 : 0 < n := by rw [← hnn]; cases xs with | nil => exact absurd rfl hne | cons => simp
            have hszx : (str xs).size = n := by rw [size_str, hnn]
            have hlt : n - 1 < xs.length := by omega
            obtain ⟨z, hz⟩ : ∃ z, xs[n - 1]'hlt = z := ⟨_, rfl⟩
            have hgl : xs.getLast? = some z := by rw [List.getLast?_eq_getElem?, hnn, List.getElem?_eq_getElem hlt, hz]
            have hg : ∀ h, (str xs)[n - 1]'h = z := fun h => (str_get xs (n - 1) hlt h).trans hz
            have hin : ((n : Int) - 1).toNat = n - 1 := by omega
            have hn5 : n ≤ 500 := by omega
            have hww : wrap64 ((n : Int) - 1) = (n : Int) - 1 := by unfold wrap64; omega
            have hq1 : (0 : Int) ≤ (n : Int) - 1 := by omega
            have hq2 : (n : Int) - 1 < (n : Int) := by omega
            by_cases h35 : z = 35
            · subst h35
              clear hf hn h1 h2 h3 hgl hz hne
              go_enter Try.func6, Try.ntmps6
              go_wp2_with fail
              refine (S1.out _).mono ?_
              rintro e w1 ⟨rfl, rfl⟩
              go_wp2_with fail
              refine (S2.out _).mono ?_
              rintro e w2 ⟨rfl, rfl⟩
              go_wp2_with fail
              refine (S3.out _).mono ?_
              rintro e w3 ⟨rfl, rfl⟩
              go_wp2_with fail
              refine (P1.out _).mono ?_
              rintro e w4 ⟨rfl, b4⟩
              have B4 := hide b4
              clear b4
              go_wp2_with fail
              refine (P2.out _).mono ?_
              rintro e w5 ⟨rfl, b5⟩
              have B5 := hide (below_on B4.out b5)
              clear b5
              go_wp2_with fail
              go_ret
              exact ⟨rfl, B5.out⟩
            · have q35 : ((z.toNat : Int) == 35) = false := by
                rw [beq_eq_false_iff_ne]
                intro e
                exact h35 (UInt8.toNat_inj.1 (by show z.toNat = 35; omega))
              have HL : Hid (xs.getLast? ≠ some 35) := by
                refine hide ?_
                rw [hgl]
                intro e
                injection e with e
                exact h35 e
              have HF := hide hf
              have HNm := hide hn
              have Hx1 := hide h1
              have Hx2 := hide h2
              have Hx3 := hide h3
              clear hf hn h1 h2 h3 hgl hz hne h35
              go_enter Try.func6, Try.ntmps6
              go_wp2_with fail
              refine (S1.out _).mono ?_
              rintro e w1 ⟨rfl, rfl⟩
              go_wp2_with fail
              refine (S2.out _).mono ?_
              rintro e w2 ⟨rfl, rfl⟩
              go_wp2_with fail
              refine (S3.out _).mono ?_
              rintro e w3 ⟨rfl, rfl⟩
              go_wp2_with fail
              refine (P1.out _).mono ?_
              rintro e w4 ⟨rfl, b4⟩
              have B4 := hide b4
              clear b4
              go_wp2_with fail
              refine (P2.out _).mono ?_
              rintro e w5 ⟨rfl, b5⟩
              have B5 := hide (below_on B4.out b5)
              clear b5
              obtain ⟨m, hm⟩ : ∃ m, L.length = m := ⟨_, rfl⟩
              have hszL : (str L).size = m := by rw [size_str, hm]
              have hszN : (str ns).size = ns.length := size_str ns
              have hgL := hide fun i (hi : i < L.length) => str_get L i hi
              have hNl : ns.length ≤ 500 := Hx2.out
              have hm5 : m ≤ 500 := by have := Hx3.out; omega
              have HM := hide hm
              clear hm
              go_wp2_with fail
              go_loopg [7] m (fun g p wr => ∃ i : Nat, i + g = m ∧ p = .int .i64 (i : Int) ∧ wr = w5 ∧ (L.take i).contains 47 = false)
              case atStart => exact ⟨0, by omega, rfl, rfl, rfl⟩
              case round =>
                obtain ⟨i, hig, rfl, rfl, hno⟩ := hrel
                have HNO := hide hno
                clear hno
                cases gk with
                | succ g =>
                  have q : (i : Int) < (m : Int) := by omega
                  have hltL : i < L.length := by rw [HM.out]; omega
                  have hgi := hgL.out i hltL
                  obtain ⟨y, hy⟩ : ∃ y, L[i]'hltL = y := ⟨_, rfl⟩
                  have hgi' : ∀ h, (str L)[i]'h = y := fun h => (hgi h).trans hy
                  clear hgi
                  by_cases h47 : y = 47
                  · subst h47
                    clear hy
                    go_wp2_with fail
                    go_ret
                    exact ⟨rfl, B5.out⟩
                  · have q2 : ((y.toNat : Int) == 47) = false := by
                      rw [beq_eq_false_iff_ne]
                      intro e
                      exact h47 (UInt8.toNat_inj.1 (by show y.toNat = 47; omega))
                    have HY := hide (no_slash HNO.out hltL (by rw [hy]; exact h47))
                    clear hy h47
                    go_wp2_with fail
                    go_roundg g
                    case measure => omega
                    case rel => exact ⟨i + 1, by omega, by go_num, rfl, HY.out⟩
                | zero =>
                  obtain rfl : i = m := by omega
                  have q : ¬ ((i : Int) < (i : Int)) := by omega
                  have HS := hide (no_slash_all HNO.out HM.out)
                  have E1 : str ns ++ ⟨#[47]⟩ = str (ns ++ [47]) := str_join ns [47]
                  have E2 := str_join (ns ++ [47]) L
                  have E3 : str xs ++ ⟨#[47]⟩ = str (xs ++ [47]) := str_join xs [47]
                  have E4 := str_join (xs ++ [47]) L
                  have E5 : str xs ++ ⟨#[47, 43]⟩ = str (xs ++ [47, 43]) := str_join xs [47, 43]
                  have E6 : str xs ++ ⟨#[47, 35]⟩ = str (xs ++ [47, 35]) := str_join xs [47, 35]
                  rw [show ns ++ [47] ++ L = ns ++ 47 :: L by simp] at E2
                  rw [show xs ++ [47] ++ L = xs ++ 47 :: L by simp] at E4
                  have Z1 : (str (ns ++ [47])).size = ns.length + 1 := by rw [size_str]; simp
                  have Z2 : (str (xs ++ [47])).size = n + 1 := by rw [size_str]; simp [hnn]
                  have hMl : (ns ++ 47 :: L).length ≤ 65535 := by have := HM.out; simp; omega
                  have PM := hide fun W => rName_any (ns ++ 47 :: L) hMl W
                  cases hmn : nameL (ns ++ 47 :: L) with
                  | false =>
                    rw [hmn] at PM
                    generalize ns ++ 47 :: L = M at *
                    generalize xs ++ 47 :: L = FL at *
                    clear hmn hnn hMl
                    go_wp2_with fail
                    refine (PM.out _).mono ?_
                    rintro e w6 ⟨rfl, b6⟩
                    have B6 := hide (below_on B5.out b6)
                    clear b6
                    go_wp2_with fail
                    refine (awake12_any _).mono ?_
                    rintro e w7 ⟨rfl, b7⟩
                    have B7 := hide (below_on B6.out b7)
                    clear b7
                    go_wp2_with fail
                    go_ret
                    exact ⟨rfl, B7.out⟩
                  | true =>
                    rw [hmn] at PM
                    obtain ⟨K1, K2, K3⟩ := levels_more HF.out HNm.out HL.out HS.out hmn (by have := HM.out; omega)
                    have T0 := hide fun W => lawTakes_any xs ns (by omega) (by omega) W
                    have T1 := hide fun W => lawTakes_any (xs ++ 47 :: L) (ns ++ 47 :: L) (by have := HM.out; simp; omega) (by omega) W
                    have T2 := hide fun W => lawTakes_any (xs ++ [47, 43]) (ns ++ 47 :: L) (by simp; omega) (by omega) W
                    have T3 := hide fun W => lawTakes_any (xs ++ [47, 35]) ns (by simp; omega) (by omega) W
                    have T4 := hide fun W => lawTakes_any (xs ++ [47, 35]) (ns ++ 47 :: L) (by simp; omega) (by omega) W
                    rw [K1] at T1
                    rw [K2] at T2
                    have hK3 := hide K3
                    generalize ns ++ 47 :: L = M at *
                    generalize xs ++ 47 :: L = FL at *
                    generalize xs ++ [47, 43] = FP at *
                    generalize xs ++ [47, 35] = FH at *
                    clear hmn hnn hMl K1 K2 K3
                    cases hi : tkL xs ns with
                    | false =>
                      rw [hi] at T0 T1 T2
                      clear hi hK3
                      go_wp2_with fail
                      refine (PM.out _).mono ?_
                      rintro e w6 ⟨rfl, b6⟩
                      have B6 := hide (below_on B5.out b6)
                      clear b6
                      go_wp2_with fail
                      refine (T0.out _).mono ?_
                      rintro e w7 ⟨rfl, b7⟩
                      have B7 := hide (below_on B6.out b7)
                      clear b7
                      go_wp2_with fail
                      refine (T1.out _).mono ?_
                      rintro e w8 ⟨rfl, b8⟩
                      have B8 := hide (below_on B7.out b8)
                      clear b8
                      go_wp2_with fail
                      refine (T2.out _).mono ?_
                      rintro e w9 ⟨rfl, b9⟩
                      have B9 := hide (below_on B8.out b9)
                      clear b9
                      go_wp2_with fail
                      refine (awake12_any _).mono ?_
                      rintro e w10 ⟨rfl, b10⟩
                      have B10 := hide (below_on B9.out b10)
                      clear b10
                      go_wp2_with fail
                      go_ret
                      exact ⟨rfl, B10.out⟩
                    | true =>
                      obtain ⟨K4, K5⟩ := hK3.out hi
                      rw [hi] at T0 T1 T2
                      rw [K4] at T3
                      rw [K5] at T4
                      clear hi hK3 K4 K5
                      go_wp2_with fail
                      refine (PM.out _).mono ?_
                      rintro e w6 ⟨rfl, b6⟩
                      have B6 := hide (below_on B5.out b6)
                      clear b6
                      go_wp2_with fail
                      refine (T0.out _).mono ?_
                      rintro e w7 ⟨rfl, b7⟩
                      have B7 := hide (below_on B6.out b7)
                      clear b7
                      go_wp2_with fail
                      refine (T1.out _).mono ?_
                      rintro e w8 ⟨rfl, b8⟩
                      have B8 := hide (below_on B7.out b8)
                      clear b8
                      go_wp2_with fail
                      refine (T2.out _).mono ?_
                      rintro e w9 ⟨rfl, b9⟩
                      have B9 := hide (below_on B8.out b9)
                      clear b9
                      go_wp2_with fail
                      refine (awake12_any _).mono ?_
                      rintro e w10 ⟨rfl, b10⟩
                      have B10 := hide (below_on B9.out b10)
                      clear b10
                      go_wp2_with fail
                      refine (T3.out _).mono ?_
                      rintro e w11 ⟨rfl, b11⟩
                      have B11 := hide (below_on B10.out b11)
                      clear b11
                      go_wp2_with fail
                      refine (T4.out _).mono ?_
                      rintro e w12 ⟨rfl, b12⟩
                      have B12 := hide (below_on B11.out b12)
                      clear b12
                      go_wp2_with fail
                      go_ret
                      exact ⟨rfl, B12.out⟩
      · rw [decide_eq_false h3] at S3
        clear h1 h2 h3
        go_enter Try.func6, Try.ntmps6
        go_wp2_with fail
        refine (S1.out _).mono ?_
        rintro e w1 ⟨rfl, rfl⟩
        go_wp2_with fail
        refine (S2.out _).mono ?_
        rintro e w2 ⟨rfl, rfl⟩
        go_wp2_with fail
        refine (S3.out _).mono ?_
        rintro e w3 ⟨rfl, rfl⟩
        go_wp2_with fail
        go_ret
        exact ⟨rfl, Below.refl _ _⟩
    · rw [decide_eq_false h2] at S2
      clear h1 h2
      go_enter Try.func6, Try.ntmps6
      go_wp2_with fail
      refine (S1.out _).mono ?_
      rintro e w1 ⟨rfl, rfl⟩
      go_wp2_with fail
      refine (S2.out _).mono ?_
      rintro e w2 ⟨rfl, rfl⟩
      go_wp2_with fail
      go_ret
      exact ⟨rfl, Below.refl _ _⟩
  · rw [decide_eq_false h1] at S1
    clear h1
    go_enter Try.func6, Try.ntmps6
    go_wp2_with fail
    refine (S1.out _).mono ?_
    rintro e w1 ⟨rfl, rfl⟩
    go_wp2_with fail
    go_ret
    exact ⟨rfl, Below.refl _ _⟩

end Go.Proofs.Ytkgidimaiedocaa
