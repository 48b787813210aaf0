/-
  What is proved here: the law TopicDollar returns true for every three texts, and writes nothing that was there. No condition.
-/
import Derived.Test.YtkgidimaiedocaaTp8
import Derived.Test.YtkgidimaiedocaaTr1
import Derived.Deep.LoopGhost
namespace Go.Proofs.Ytkgidimaiedocaa
set_option linter.unusedVariables false
set_option linter.unusedSimpArgs false
open Go.RowKit

/-- Does a sign / stand in a text? As the laws look for it. -/
theorem no_slashD {L : List UInt8} {i : Nat} (h : (L.take i).contains 47 = false) (hi : i < L.length) (hc : L[i] ≠ 47) : (L.take (i + 1)).contains 47 = false := by
  rw [List.take_succ_eq_append_getElem hi]
  simp only [List.contains_eq_mem, List.mem_append, List.mem_singleton, decide_eq_false_iff_not, not_or] at *
  exact ⟨h, fun e => hc e.symm⟩
theorem no_slashD_all {L : List UInt8} {i : Nat} (h : (L.take i).contains 47 = false) (hi : L.length = i) : (47 : UInt8) ∉ L := by
  rw [List.take_of_length_le (by omega)] at h
  simpa using h

set_option maxHeartbeats 8000000 in
set_option maxRecDepth 100000 in
theorem dollar12_walk (s0 s1 s2 : ByteArray) (w : World) : Calls Try.prog 8 #[.string s0, .string s1, .string s2] w fun e w' => e = .returned (.bool true) ∧ Below w.heap.size w w' := by
  obtain ⟨xs, rfl⟩ : ∃ xs, s0 = str xs := ⟨_, (str_of s0).symm⟩
  obtain ⟨ns, rfl⟩ : ∃ xs, s1 = str xs := ⟨_, (str_of s1).symm⟩
  obtain ⟨L, rfl⟩ : ∃ xs, s2 = str xs := ⟨_, (str_of s2).symm⟩
  have S1 := hide fun W => small_any xs W
  have S2 := hide fun W => small_any ns W
  have S3 := hide fun W => small_any L W
  by_cases h1 : xs.length ≤ 500
  · rw [decide_eq_true h1] at S1
    by_cases h2 : ns.length ≤ 500
    · rw [decide_eq_true h2] at S2
      by_cases h3 : L.length ≤ 500
      · rw [decide_eq_true h3] at S3
        have FF := hide fun W => filter_any xs (by omega) W
        have FN := hide fun W => name_any ns (by omega) W
        have FL := hide fun W => name_any L (by omega) W
        by_cases e0 : xs = []
        · subst e0
          clear h1 h2 h3
          go_enter Try.func8, Try.ntmps8
          go_wp2_with fail
          refine (S1.out _).mono ?_
          rintro e w1 ⟨rfl, rfl⟩
          go_wp2_with fail
          refine (S2.out _).mono ?_
          rintro e w2 ⟨rfl, rfl⟩
          go_wp2_with fail
          refine (S3.out _).mono ?_
          rintro e w3 ⟨rfl, rfl⟩
          go_wp2_with fail
          go_ret
          exact ⟨rfl, Below.refl _ _⟩
        have q0 : (xs == ([] : List UInt8)) = false := beq_eq_false_iff_ne.2 e0
        by_cases e1 : ns = []
        · subst e1
          clear h1 h2 h3 e0
          go_enter Try.func8, Try.ntmps8
          go_wp2_with fail
          refine (S1.out _).mono ?_
          rintro e w1 ⟨rfl, rfl⟩
          go_wp2_with fail
          refine (S2.out _).mono ?_
          rintro e w2 ⟨rfl, rfl⟩
          go_wp2_with fail
          refine (S3.out _).mono ?_
          rintro e w3 ⟨rfl, rfl⟩
          go_wp2_with fail
          go_ret
          exact ⟨rfl, Below.refl _ _⟩
        have q1 : (ns == ([] : List UInt8)) = false := beq_eq_false_iff_ne.2 e1
        by_cases e2 : L = []
        · subst e2
          clear h1 h2 h3 e0 e1
          go_enter Try.func8, Try.ntmps8
          go_wp2_with fail
          refine (S1.out _).mono ?_
          rintro e w1 ⟨rfl, rfl⟩
          go_wp2_with fail
          refine (S2.out _).mono ?_
          rintro e w2 ⟨rfl, rfl⟩
          go_wp2_with fail
          refine (S3.out _).mono ?_
          rintro e w3 ⟨rfl, rfl⟩
          go_wp2_with fail
          go_ret
          exact ⟨rfl, Below.refl _ _⟩
        have q2 : (L == ([] : List UInt8)) = false := beq_eq_false_iff_ne.2 e2
        cases hf : filterL xs with
        | false =>
          have FF' : Hid (∀ W, Calls Try.prog 20 #[.string (str xs)] W fun e w' => e = .returned (.int .i64 121) ∧ Below W.heap.size W w') := by rw [hf] at FF; exact FF.out
          clear hf FF h1 h2 h3 e0 e1 e2
          go_enter Try.func8, Try.ntmps8
          go_wp2_with fail
          refine (S1.out _).mono ?_
          rintro e w1 ⟨rfl, rfl⟩
          go_wp2_with fail
          refine (S2.out _).mono ?_
          rintro e w2 ⟨rfl, rfl⟩
          go_wp2_with fail
          refine (S3.out _).mono ?_
          rintro e w3 ⟨rfl, rfl⟩
          go_wp2_with fail
          refine (FF'.out _).mono ?_
          rintro e w4 ⟨rfl, b4⟩
          have B4 := hide b4
          clear b4
          go_wp2_with fail
          go_ret
          exact ⟨rfl, B4.out⟩
        | true =>
          have FF' : Hid (∀ W, Calls Try.prog 20 #[.string (str xs)] W fun e w' => e = .returned (.int .i64 0) ∧ Below W.heap.size W w') := by rw [hf] at FF; exact FF.out
          have Hf := hide hf
          clear hf FF
          cases hn : nameL ns with
          | false =>
            have FN' : Hid (∀ W, Calls Try.prog 18 #[.string (str ns)] W fun e w' => e = .returned (.int .i64 120) ∧ Below W.heap.size W w') := by rw [hn] at FN; exact FN.out
            clear hn FN h1 h2 h3 e0 e1 e2
            go_enter Try.func8, Try.ntmps8
            go_wp2_with fail
            refine (S1.out _).mono ?_
            rintro e w1 ⟨rfl, rfl⟩
            go_wp2_with fail
            refine (S2.out _).mono ?_
            rintro e w2 ⟨rfl, rfl⟩
            go_wp2_with fail
            refine (S3.out _).mono ?_
            rintro e w3 ⟨rfl, rfl⟩
            go_wp2_with fail
            refine (FF'.out _).mono ?_
            rintro e w4 ⟨rfl, b4⟩
            have B4 := hide b4
            clear b4
            go_wp2_with fail
            refine (FN'.out _).mono ?_
            rintro e w5 ⟨rfl, b5⟩
            have B5 := hide (below_on B4.out b5)
            clear b5
            go_wp2_with fail
            go_ret
            exact ⟨rfl, B5.out⟩
          | true =>
            have FN' : Hid (∀ W, Calls Try.prog 18 #[.string (str ns)] W fun e w' => e = .returned (.int .i64 0) ∧ Below W.heap.size W w') := by rw [hn] at FN; exact FN.out
            have Hn := hide hn
            clear hn FN
            cases hl : nameL L with
            | false =>
              have FL' : Hid (∀ W, Calls Try.prog 18 #[.string (str L)] W fun e w' => e = .returned (.int .i64 120) ∧ Below W.heap.size W w') := by rw [hl] at FL; exact FL.out
              clear hl FL h1 h2 h3 e0 e1 e2
              go_enter Try.func8, Try.ntmps8
              go_wp2_with fail
              refine (S1.out _).mono ?_
              rintro e w1 ⟨rfl, rfl⟩
              go_wp2_with fail
              refine (S2.out _).mono ?_
              rintro e w2 ⟨rfl, rfl⟩
              go_wp2_with fail
              refine (S3.out _).mono ?_
              rintro e w3 ⟨rfl, rfl⟩
              go_wp2_with fail
              refine (FF'.out _).mono ?_
              rintro e w4 ⟨rfl, b4⟩
              have B4 := hide b4
              clear b4
              go_wp2_with fail
              refine (FN'.out _).mono ?_
              rintro e w5 ⟨rfl, b5⟩
              have B5 := hide (below_on B4.out b5)
              clear b5
              go_wp2_with fail
              refine (FL'.out _).mono ?_
              rintro e w6 ⟨rfl, b6⟩
              have B6 := hide (below_on B5.out b6)
              clear b6
              go_wp2_with fail
              go_ret
              exact ⟨rfl, B6.out⟩
            | true =>
              have FL' : Hid (∀ W, Calls Try.prog 18 #[.string (str L)] W fun e w' => e = .returned (.int .i64 0) ∧ Below W.heap.size W w') := by rw [hl] at FL; exact FL.out
              have Hl := hide hl
              clear hl FL
              obtain ⟨y, hy⟩ : ∃ y, ns.head? = some y := by cases ns with | nil => exact absurd rfl e1 | cons c cs => exact ⟨c, rfl⟩
              obtain ⟨v, hv⟩ : ∃ v, L.head? = some v := by cases L with | nil => exact absurd rfl e2 | cons c cs => exact ⟨c, rfl⟩
              have hgn : ∀ h, (str ns)[0]'h = y := by cases ns with | nil => cases hy | cons c cs => injection hy with hy; subst hy; exact fun h => str_get (c :: cs) 0 (by simp) h
              have hgv : ∀ h, (str L)[0]'h = v := by cases L with | nil => cases hv | cons c cs => injection hv with hv; subst hv; exact fun h => str_get (c :: cs) 0 (by simp) h
              have hszN : (str ns).size = ns.length := size_str ns
              obtain ⟨m, hm⟩ : ∃ m, L.length = m := ⟨_, rfl⟩
              have hszL : (str L).size = m := by rw [size_str, hm]
              have hszX : (str xs).size = xs.length := size_str xs
              have hn0 : 0 < ns.length := List.length_pos_iff.2 e1
              have hm0 : 0 < m := by rw [← hm]; exact List.length_pos_iff.2 e2
              have qn0 : (0 : Int) < (ns.length : Int) := by omega
              have qm0 : (0 : Int) < (m : Int) := by omega
              have Hh := hide hy
              have Hv := hide hv
              have HM := hide hm
              have hgL := hide fun i (hi : i < L.length) => str_get L i hi
              have hm5 : m ≤ 500 := by omega
              have Hx1 := hide h1
              have Hx2 := hide h2
              by_cases h36 : y = 36
              · subst h36
                clear hm h1 h2 h3 e0 e1 e2 hy hv
                go_enter Try.func8, Try.ntmps8
                go_wp2_with fail
                refine (S1.out _).mono ?_
                rintro e w1 ⟨rfl, rfl⟩
                go_wp2_with fail
                refine (S2.out _).mono ?_
                rintro e w2 ⟨rfl, rfl⟩
                go_wp2_with fail
                refine (S3.out _).mono ?_
                rintro e w3 ⟨rfl, rfl⟩
                go_wp2_with fail
                refine (FF'.out _).mono ?_
                rintro e w4 ⟨rfl, b4⟩
                have B4 := hide b4
                clear b4
                go_wp2_with fail
                refine (FN'.out _).mono ?_
                rintro e w5 ⟨rfl, b5⟩
                have B5 := hide (below_on B4.out b5)
                clear b5
                go_wp2_with fail
                refine (FL'.out _).mono ?_
                rintro e w6 ⟨rfl, b6⟩
                have B6 := hide (below_on B5.out b6)
                clear b6
                go_wp2_with fail
                go_ret
                exact ⟨rfl, B6.out⟩
              have q36 : ((y.toNat : Int) == 36) = false := by
                rw [beq_eq_false_iff_ne]
                intro e
                exact h36 (UInt8.toNat_inj.1 (by show y.toNat = 36; omega))
              have HN36 : Hid (ns.head? ≠ some 36) := by
                refine hide ?_
                rw [hy]
                intro e
                injection e with e
                exact h36 e
              clear hm h1 h2 h3 e0 e1 e2 hy hv h36
              go_enter Try.func8, Try.ntmps8
              go_wp2_with fail
              refine (S1.out _).mono ?_
              rintro e w1 ⟨rfl, rfl⟩
              go_wp2_with fail
              refine (S2.out _).mono ?_
              rintro e w2 ⟨rfl, rfl⟩
              go_wp2_with fail
              refine (S3.out _).mono ?_
              rintro e w3 ⟨rfl, rfl⟩
              go_wp2_with fail
              refine (FF'.out _).mono ?_
              rintro e w4 ⟨rfl, b4⟩
              have B4 := hide b4
              clear b4
              go_wp2_with fail
              refine (FN'.out _).mono ?_
              rintro e w5 ⟨rfl, b5⟩
              have B5 := hide (below_on B4.out b5)
              clear b5
              go_wp2_with fail
              refine (FL'.out _).mono ?_
              rintro e w6 ⟨rfl, b6⟩
              have B6 := hide (below_on B5.out b6)
              clear b6
              go_wp2_with fail
              go_loopg [7] m (fun g p wr => ∃ i : Nat, i + g = m ∧ p = .int .i64 (i : Int) ∧ wr = w6 ∧ (L.take i).contains 47 = false)
              case atStart => exact ⟨0, by omega, rfl, rfl, rfl⟩
              case round =>
                obtain ⟨i, hig, rfl, rfl, hno⟩ := hrel
                have HNO := hide hno
                clear hno
                cases gk with
                | succ g =>
                  have q : (i : Int) < (m : Int) := by omega
                  have hltL : i < L.length := by rw [HM.out]; omega
                  have hgi := hgL.out i hltL
                  obtain ⟨z, hz⟩ : ∃ z, L[i]'hltL = z := ⟨_, rfl⟩
                  have hgi' : ∀ h, (str L)[i]'h = z := fun h => (hgi h).trans hz
                  clear hgi
                  by_cases h47 : z = 47
                  · subst h47
                    clear hz
                    go_wp2_with fail
                    go_ret
                    exact ⟨rfl, B6.out⟩
                  · have q2 : ((z.toNat : Int) == 47) = false := by
                      rw [beq_eq_false_iff_ne]
                      intro e
                      exact h47 (UInt8.toNat_inj.1 (by show z.toNat = 47; omega))
                    have HY := hide (no_slashD HNO.out hltL (by rw [hz]; exact h47))
                    clear hz h47
                    go_wp2_with fail
                    go_roundg g
                    case measure => omega
                    case rel => exact ⟨i + 1, by omega, by go_num, rfl, HY.out⟩
                | zero =>
                  obtain rfl : i = m := by omega
                  have q : ¬ ((i : Int) < (i : Int)) := by omega
                  have HS := no_slashD_all HNO.out HM.out
                  obtain ⟨K1, K2, K3, K4⟩ := dollar_more Hf.out Hn.out Hl.out HS HN36.out (by have := HM.out; have := Hx1.out; omega) (by have := HM.out; have := Hx2.out; omega)
                  have E1 : str L ++ ⟨#[47]⟩ = str (L ++ [47]) := str_join L [47]
                  have E2 := str_join (L ++ [47]) xs
                  have E3 := str_join (L ++ [47]) ns
                  have E4 : ⟨#[36]⟩ ++ str L = str (36 :: L) := str_join [36] L
                  have E5 : str (36 :: L) ++ ⟨#[47]⟩ = str (36 :: L ++ [47]) := str_join (36 :: L) [47]
                  have E6 := str_join (36 :: L ++ [47]) xs
                  have E7 := str_join (36 :: L ++ [47]) ns
                  have E8 : ⟨#[43, 47]⟩ ++ str xs = str ([43] ++ 47 :: xs) := str_join [43, 47] xs
                  rw [show L ++ [47] ++ xs = L ++ 47 :: xs by simp] at E2
                  rw [show L ++ [47] ++ ns = L ++ 47 :: ns by simp] at E3
                  rw [show 36 :: L ++ [47] ++ xs = 36 :: L ++ 47 :: xs by simp] at E6
                  rw [show 36 :: L ++ [47] ++ ns = 36 :: L ++ 47 :: ns by simp] at E7
                  have Z1 : (str (L ++ [47])).size = i + 1 := by rw [size_str]; have := HM.out; simp; omega
                  have Z2 : (str (36 :: L)).size = i + 1 := by rw [size_str]; have := HM.out; simp; omega
                  have Z3 : (str (36 :: L ++ [47])).size = i + 2 := by rw [size_str]; have := HM.out; simp; omega
                  have hb1 : xs.length ≤ 500 := Hx1.out
                  have hb2 : ns.length ≤ 500 := Hx2.out
                  have T0 := hide fun W => lawTakes_any xs ns (by omega) (by omega) W
                  have T1 := hide fun W => lawTakes_any (L ++ 47 :: xs) (L ++ 47 :: ns) (by have := HM.out; simp; omega) (by have := HM.out; simp; omega) W
                  have T2 := hide fun W => lawTakes_any (36 :: L ++ 47 :: xs) (36 :: L ++ 47 :: ns) (by have := HM.out; simp; omega) (by have := HM.out; simp; omega) W
                  have T3 := hide fun W => lawTakes_any ([43] ++ 47 :: xs) (36 :: L ++ 47 :: ns) (by simp; omega) (by have := HM.out; simp; omega) W
                  have T4 := hide fun W => lawTakes_any ([43] ++ 47 :: xs) (L ++ 47 :: ns) (by simp; omega) (by have := HM.out; simp; omega) W
                  rw [K1] at T1
                  rw [K2] at T2
                  rw [K3] at T3
                  have HK4 := hide K4
                  clear K1 K2 K3 K4 HS
                  generalize 36 :: L ++ 47 :: xs = DF at *
                  generalize 36 :: L ++ 47 :: ns = DN at *
                  generalize 36 :: L ++ [47] = DL at *
                  generalize 36 :: L = D0 at *
                  generalize L ++ 47 :: xs = LF at *
                  generalize L ++ 47 :: ns = LN at *
                  generalize L ++ [47] = L0 at *
                  generalize [43] ++ 47 :: xs = PF at *
                  by_cases h36v : v = 36
                  · subst h36v
                    generalize tkL xs ns = B at *
                    clear HK4
                    go_wp2_with fail
                    refine (T0.out _).mono ?_
                    rintro e w7 ⟨rfl, b7⟩
                    have B7 := hide (below_on B6.out b7)
                    clear b7
                    go_wp2_with fail
                    refine (T1.out _).mono ?_
                    rintro e w8 ⟨rfl, b8⟩
                    have B8 := hide (below_on B7.out b8)
                    clear b8
                    go_wp2_with fail
                    refine (T2.out _).mono ?_
                    rintro e w9 ⟨rfl, b9⟩
                    have B9 := hide (below_on B8.out b9)
                    clear b9
                    go_wp2_with fail
                    refine (awake12_any _).mono ?_
                    rintro e w10 ⟨rfl, b10⟩
                    have B10 := hide (below_on B9.out b10)
                    clear b10
                    go_wp2_with fail
                    refine (T3.out _).mono ?_
                    rintro e w11 ⟨rfl, b11⟩
                    have B11 := hide (below_on B10.out b11)
                    clear b11
                    go_wp2_with fail
                    go_ret
                    exact ⟨rfl, B11.out⟩
                  · have q36v : ((v.toNat : Int) == 36) = false := by
                      rw [beq_eq_false_iff_ne]
                      intro e
                      exact h36v (UInt8.toNat_inj.1 (by show v.toNat = 36; omega))
                    rw [HK4.out (by rw [Hv.out]; intro e; injection e with e; exact h36v e)] at T4
                    generalize tkL xs ns = B at *
                    clear HK4 h36v
                    go_wp2_with fail
                    refine (T0.out _).mono ?_
                    rintro e w7 ⟨rfl, b7⟩
                    have B7 := hide (below_on B6.out b7)
                    clear b7
                    go_wp2_with fail
                    refine (T1.out _).mono ?_
                    rintro e w8 ⟨rfl, b8⟩
                    have B8 := hide (below_on B7.out b8)
                    clear b8
                    go_wp2_with fail
                    refine (T2.out _).mono ?_
                    rintro e w9 ⟨rfl, b9⟩
                    have B9 := hide (below_on B8.out b9)
                    clear b9
                    go_wp2_with fail
                    refine (awake12_any _).mono ?_
                    rintro e w10 ⟨rfl, b10⟩
                    have B10 := hide (below_on B9.out b10)
                    clear b10
                    go_wp2_with fail
                    refine (T3.out _).mono ?_
                    rintro e w11 ⟨rfl, b11⟩
                    have B11 := hide (below_on B10.out b11)
                    clear b11
                    go_wp2_with fail
                    refine (T4.out _).mono ?_
                    rintro e w12 ⟨rfl, b12⟩
                    have B12 := hide (below_on B11.out b12)
                    clear b12
                    go_wp2_with fail
                    go_ret
                    exact ⟨by cases B <;> rfl, B12.out⟩
      · rw [decide_eq_false h3] at S3
        clear h1 h2 h3
        go_enter Try.func8, Try.ntmps8
        go_wp2_with fail
        refine (S1.out _).mono ?_
        rintro e w1 ⟨rfl, rfl⟩
        go_wp2_with fail
        refine (S2.out _).mono ?_
        rintro e w2 ⟨rfl, rfl⟩
        go_wp2_with fail
        refine (S3.out _).mono ?_
        rintro e w3 ⟨rfl, rfl⟩
        go_wp2_with fail
        go_ret
        exact ⟨rfl, Below.refl _ _⟩
    · rw [decide_eq_false h2] at S2
      clear h1 h2
      go_enter Try.func8, Try.ntmps8
      go_wp2_with fail
      refine (S1.out _).mono ?_
      rintro e w1 ⟨rfl, rfl⟩
      go_wp2_with fail
      refine (S2.out _).mono ?_
      rintro e w2 ⟨rfl, rfl⟩
      go_wp2_with fail
      go_ret
      exact ⟨rfl, Below.refl _ _⟩
  · rw [decide_eq_false h1] at S1
    clear h1
    go_enter Try.func8, Try.ntmps8
    go_wp2_with fail
    refine (S1.out _).mono ?_
    rintro e w1 ⟨rfl, rfl⟩
    go_wp2_with fail
    go_ret
    exact ⟨rfl, Below.refl _ _⟩

end Go.Proofs.Ytkgidimaiedocaa
