/-
  What is proved here: the law TopicWider returns true for every two texts and every level, and writes nothing that was there. No condition.
-/
import Derived.Test.YtkgidimaiedocaaTp8
import Derived.Test.YtkgidimaiedocaaTr2
import Derived.Test.YtkgidimaiedocaaRoundReg
import Derived.Deep.RegionHeld3
import Derived.StillTailTactics
import Derived.Deep.LoopGhost
namespace Go.Proofs.Ytkgidimaiedocaa
set_option linter.unusedVariables false
set_option linter.unusedSimpArgs false
open Go.RowKit

theorem join_next (ls : List (List UInt8)) (i : Nat) (h : i < ls.length) : joinL (ls.take (i + 1)) = if i = 0 then ls[i] else joinL (ls.take i) ++ 47 :: ls[i] := by
  rw [List.take_succ_eq_append_getElem h]
  split
  · rename_i h0
    subst h0
    rfl
  · rename_i h0
    rw [joinL_snoc]
    intro e
    have := congrArg List.length e
    rw [List.length_take, List.length_nil] at this
    omega

set_option maxHeartbeats 8000000 in
set_option maxRecDepth 100000 in
theorem wider12_walk (s0 s1 : ByteArray) (kk : Int) (w : World) : Calls Try.prog 7 #[.string s0, .string s1, .int .i64 kk] w fun e w' => e = .returned (.bool true) ∧ Below w.heap.size w w' := by
  obtain ⟨xs, rfl⟩ : ∃ xs, s0 = str xs := ⟨_, (str_of s0).symm⟩
  obtain ⟨ns, rfl⟩ : ∃ xs, s1 = str xs := ⟨_, (str_of s1).symm⟩
  have S1 := hide fun W => small_any xs W
  have S2 := hide fun W => small_any ns W
  by_cases h1 : xs.length ≤ 500
  · rw [decide_eq_true h1] at S1
    by_cases h2 : ns.length ≤ 500
    · rw [decide_eq_true h2] at S2
      have P1 := hide fun W => rName_any xs (by omega) W
      have P2 := hide fun W => rName_any ns (by omega) W
      cases ha : nameL xs with
      | false =>
        rw [ha] at P1
        clear ha h1 h2
        go_enter Try.func7, Try.ntmps7
        go_wp2_with fail
        refine (S1.out _).mono ?_
        rintro e w1 ⟨rfl, rfl⟩
        go_wp2_with fail
        refine (S2.out _).mono ?_
        rintro e w2 ⟨rfl, rfl⟩
        go_wp2_with fail
        refine (P1.out _).mono ?_
        rintro e w3 ⟨rfl, b3⟩
        have B3 := hide b3
        clear b3
        go_wp2_with fail
        go_ret
        exact ⟨rfl, B3.out⟩
      | true =>
        rw [ha] at P1
        cases hb : nameL ns with
        | false =>
          rw [hb] at P2
          clear ha hb h1 h2
          go_enter Try.func7, Try.ntmps7
          go_wp2_with fail
          refine (S1.out _).mono ?_
          rintro e w1 ⟨rfl, rfl⟩
          go_wp2_with fail
          refine (S2.out _).mono ?_
          rintro e w2 ⟨rfl, rfl⟩
          go_wp2_with fail
          refine (P1.out _).mono ?_
          rintro e w3 ⟨rfl, b3⟩
          have B3 := hide b3
          clear b3
          go_wp2_with fail
          refine (P2.out _).mono ?_
          rintro e w4 ⟨rfl, b4⟩
          have B4 := hide (below_on B3.out b4)
          clear b4
          go_wp2_with fail
          go_ret
          exact ⟨rfl, B4.out⟩
        | true =>
          rw [hb] at P2
          have L1 := hide fun W => rLevels_any xs (by omega) W
          have L2 := hide fun W => rLevels_any ns (by omega) W
          have hcx := lvls_count xs
          have hcn := lvls_count ns
          have hjl := joinL_lvls xs
          have Hx := hide h1
          have Hnx := hide h2
          have Ha := hide ha
          have Hb := hide hb
          have hne := (nameL_parts hb).1
          obtain ⟨y, hy⟩ : ∃ y, ns.head? = some y := by cases ns with | nil => exact absurd rfl hne | cons c cs => exact ⟨c, rfl⟩
          have hgn : ∀ h, (str ns)[0]'h = y := by cases ns with | nil => cases hy | cons c cs => injection hy with hy; subst hy; exact fun h => str_get (c :: cs) 0 (by simp) h
          have hszN : (str ns).size = ns.length := size_str ns
          have qn0 : (0 : Int) < (ns.length : Int) := by have := List.length_pos_iff.2 hne; omega
          have Hy := hide hy
          have HWM := hide fun k (h : k < (lvls xs).length) => wide_match ha hb k h (by omega)
          have HWF := hide fun k (h : k < (lvls xs).length) => (wide_filter ha k h (by omega)).1
          obtain ⟨ls, hls⟩ : ∃ ls, lvls xs = ls := ⟨_, rfl⟩
          obtain ⟨ms, hms⟩ : ∃ ms, lvls ns = ms := ⟨_, rfl⟩
          rw [hls] at L1 hcx hjl HWM HWF
          rw [hms] at L2 hcn HWM
          obtain ⟨n, hn⟩ : ∃ n, ls.length = n := ⟨_, rfl⟩
          obtain ⟨m, hm⟩ : ∃ m, ms.length = m := ⟨_, rfl⟩
          have hn5 : n ≤ 501 := by omega
          have hm5 : m ≤ 501 := by omega
          have HJ : Hid ((joinL ls).length ≤ 500) := by rw [hjl]; exact h1
          clear hls hms hcx hcn hjl ha hb h1 h2 hne hy
          go_enter Try.func7, Try.ntmps7
          go_wp2_with fail
          refine (S1.out _).mono ?_
          rintro e w1 ⟨rfl, rfl⟩
          go_wp2_with fail
          refine (S2.out _).mono ?_
          rintro e w2 ⟨rfl, rfl⟩
          go_wp2_with fail
          refine (P1.out _).mono ?_
          rintro e w3 ⟨rfl, b3⟩
          have B3 := hide b3
          clear b3
          go_wp2_with fail
          refine (P2.out _).mono ?_
          rintro e w4 ⟨rfl, b4⟩
          have B4 := hide (below_on B3.out b4)
          clear b4
          go_wp2_with fail
          refine (L1.out _).mono ?_
          rintro e w5 ⟨C, d, rfl, hd1, hr1, b5⟩
          rw [hn] at hd1 hr1 ⊢
          have B5 := hide (below_on B4.out b5)
          have HR1 := hide hr1
          have HN := hide hn
          clear b5 hr1 hn
          by_cases hk0 : kk < 0
          · have q : kk < 0 := hk0
            go_wp2_with fail
            go_ret
            exact ⟨rfl, B5.out⟩
          by_cases hkn : (n : Int) ≤ kk
          · go_wp2_with fail
            go_ret
            exact ⟨rfl, B5.out⟩
          obtain ⟨k, rfl⟩ : ∃ k : Nat, kk = (k : Int) := ⟨kk.toNat, by omega⟩
          have hkn' : k < n := by omega
          obtain ⟨es, hes⟩ : ∃ es, ls.set k [43] = es := ⟨_, rfl⟩
          have heL : es.length = n := by rw [← hes, List.length_set]; exact HN.out
          have heG : ∀ i (h : i < es.length) (h2 : i < ls.length), es[i] = if k = i then [43] else ls[i] := by
            intro i h h2
            subst hes
            rw [List.getElem_set]
          have HEG := hide heG
          have HES := hide hes
          have HEL := hide heL
          have HET : Hid (∀ i, (joinL (es.take i)).length ≤ 501) := by
            refine hide fun i => ?_
            have a1 := joinL_take es i
            have a2 := joinL_set ls k
            rw [hes] at a2
            have := HJ.out
            omega
          clear heG hes heL
          have qd1 : decide ((k : Int) < 0) = false := decide_eq_false (by omega)
          have qd2 : decide ((n : Int) ≤ (k : Int)) = false := decide_eq_false (by omega)
          have qd3 : decide (n ≤ k) = false := decide_eq_false (by omega)
          go_wp2_with fail
          clear qd1 qd2 qd3
          go_loopg [8, 9] n (fun g q p wr => ∃ i : Nat, i + g = n ∧ p = .int .i64 (i : Int) ∧ wr = w5 ∧ q = .string (str (joinL (es.take i))))
          case atStart => exact ⟨0, by omega, rfl, rfl, rfl⟩
          case round =>
            obtain ⟨i, hig, rfl, rfl, rfl⟩ := hrel
            cases gk with
            | succ g =>
              have q : (i : Int) < (n : Int) := by omega
              have hlt : i < es.length := by rw [HEL.out]; omega
              have hltl : i < ls.length := by rw [HN.out]; omega
              obtain ⟨b, o, rfl, hb2, hb3⟩ := HR1.out.at_ (k := i) (by omega)
              have hc := hb3 i _ (sv_get ls i hltl)
              have hnx := join_next es i hlt
              rw [HEG.out i hlt hltl] at hnx
              obtain ⟨F, hF⟩ : ∃ F, ls[i]'hltl = F := ⟨_, rfl⟩
              rw [hF] at hc hnx
              have hlenJ := HET.out i
              have hlenJ1 := HET.out (i + 1)
              obtain ⟨J, hJ⟩ : ∃ J, joinL (es.take i) = J := ⟨_, rfl⟩
              rw [hJ] at hnx hlenJ ⊢
              have hszJ : (str J).size = J.length := size_str J
              have hJ0 : Hid (i = 0 → J = []) := by
                refine hide fun e => ?_
                subst e
                rw [← hJ]; rfl
              have e1 : str J ++ ⟨#[47]⟩ = str (J ++ [47]) := str_join J [47]
              have hsz1 : (str (J ++ [47])).size = J.length + 1 := by rw [size_str]; simp
              clear hF hJ hb3
              by_cases h0 : i = 0
              · have q0 : ¬ ((0 : Int) < (i : Int)) := by omega
                have hJe := hJ0.out h0
                subst hJe
                rw [if_pos h0] at hnx
                by_cases hki : k = i
                · rw [if_pos hki] at hnx
                  have qk : ((i : Int) == (k : Int)) = true := beq_iff_eq.2 (by omega)
                  have e3 : str [] ++ ⟨#[43]⟩ = str [43] := str_join [] [43]
                  have HNX := hide hnx
                  clear hnx h0 hki hJ0
                  go_wp2_with fail
                  go_roundg g
                  case measure => omega
                  case rel => exact ⟨i + 1, by omega, by go_num, rfl, by rw [HNX.out]⟩
                · rw [if_neg hki] at hnx
                  have qk : ((i : Int) == (k : Int)) = false := beq_eq_false_iff_ne.2 (by omega)
                  have e3 : str [] ++ str F = str F := str_join [] F
                  have hszF : (str F).size = F.length := size_str F
                  rw [hnx] at hlenJ1
                  have HNX := hide hnx
                  clear hnx h0 hki hJ0
                  go_wp2_with fail
                  go_roundg g
                  case measure => omega
                  case rel => exact ⟨i + 1, by omega, by go_num, rfl, by rw [HNX.out]⟩
              · have q0 : (0 : Int) < (i : Int) := by omega
                rw [if_neg h0] at hnx
                by_cases hki : k = i
                · rw [if_pos hki] at hnx
                  have qk : ((i : Int) == (k : Int)) = true := beq_iff_eq.2 (by omega)
                  have e3 : str (J ++ [47]) ++ ⟨#[43]⟩ = str (J ++ 47 :: [43]) := by rw [show J ++ 47 :: [43] = (J ++ [47]) ++ [43] by simp]; exact str_join (J ++ [47]) [43]
                  have HNX := hide hnx
                  clear hnx h0 hki hJ0
                  go_wp2_with fail
                  go_roundg g
                  case measure => omega
                  case rel => exact ⟨i + 1, by omega, by go_num, rfl, by rw [HNX.out]⟩
                · rw [if_neg hki] at hnx
                  have qk : ((i : Int) == (k : Int)) = false := beq_eq_false_iff_ne.2 (by omega)
                  have e3 : str (J ++ [47]) ++ str F = str (J ++ 47 :: F) := by rw [show J ++ 47 :: F = (J ++ [47]) ++ F by simp]; exact str_join (J ++ [47]) F
                  have hszF : (str F).size = F.length := size_str F
                  rw [hnx] at hlenJ1
                  simp only [List.length_append, List.length_cons] at hlenJ1
                  have HNX := hide hnx
                  clear hnx h0 hki hJ0
                  go_wp2_with fail
                  go_roundg g
                  case measure => omega
                  case rel => exact ⟨i + 1, by omega, by go_num, rfl, by rw [HNX.out]⟩
            | zero =>
              obtain rfl : i = n := by omega
              have q : ¬ ((i : Int) < (i : Int)) := by omega
              have hall : es.take i = es := List.take_of_length_le (by rw [HEL.out]; exact Nat.le_refl _)
              rw [hall]
              have hk' : k < ls.length := by rw [HN.out]; omega
              have hWM := HWM.out k hk'
              have hWF := HWF.out k hk'
              have hlenW := HET.out i
              rw [hall] at hlenW
              rw [HES.out] at hWM hWF
              obtain ⟨W0, hW0⟩ : ∃ W0, joinL es = W0 := ⟨_, rfl⟩
              rw [hW0] at hWM hWF hlenW ⊢
              have FW := hide fun W => filter_any W0 (by omega) W
              have TW := hide fun W => lawTakes_any W0 ns (by omega) (by have := Hnx.out; omega) W
              have FW' : Hid (∀ W, Calls Try.prog 20 #[.string (str W0)] W fun e w' => e = .returned (.int .i64 0) ∧ Below W.heap.size W w') := by rw [hWF] at FW; exact FW.out
              obtain ⟨R, hR⟩ : ∃ R, tkL W0 ns = R := ⟨_, rfl⟩
              rw [hR] at TW hWM
              have HWM2 := hide hWM
              clear FW hWM hWF hR hall hW0
              go_wp2_with fail
              refine (L2.out _).mono ?_
              rintro e w6 ⟨D, dk, rfl, hd2, hr2, b6⟩
              rw [hm] at hd2 hr2 ⊢
              have B6 := hide (below_on B5.out b6)
              have HR16 := hide (HR1.out.keep b6)
              have HR2 := hide hr2
              have HM := hide hm
              clear b6 hr2 hm
              obtain ⟨S0, hS0⟩ : ∃ S0, (decide (m = i) && !(decide (k = 0) && decide (ns.head? = some 36))) = S0 := ⟨_, rfl⟩
              have HWM3 : Hid (R = (S0 && sameU ls ms k (min i m))) := by
                refine hide ?_
                rw [HWM2.out, HM.out, HN.out, hS0]
              have qmn : ((m : Int) == (i : Int)) = decide (m = i) := by rw [Bool.eq_iff_iff]; simp only [beq_iff_eq, decide_eq_true_eq]; omega
              have qk0 : ((k : Int) == 0) = decide (k = 0) := by rw [Bool.eq_iff_iff]; simp only [beq_iff_eq, decide_eq_true_eq]; omega
              have qy : ((y.toNat : Int) == 36) = decide (ns.head? = some 36) := by
                rw [Hy.out, Bool.eq_iff_iff]
                simp only [beq_iff_eq, decide_eq_true_eq, Option.some.injEq]
                exact ⟨fun h => UInt8.toNat_inj.1 (by show y.toNat = 36; omega), fun h => by rw [h]; rfl⟩
              generalize decide (ns.head? = some 36) = Y at *
              generalize hk0' : decide (k = 0) = K0 at *
              generalize hmi' : decide (m = i) = MI at *
              have HS0 := hide hS0
              have Hk0' := hide hk0'
              have Hmi' := hide hmi'
              clear hS0 hk0' hmi'
              cases MI
              · obtain rfl : S0 = false := by rw [← HS0.out]; rfl
                go_wp2_with fail
                go_loopg [11, 12] (min i m) (fun g q p wr' => ∃ j : Nat, j + g = min i m ∧ p = .int .i64 (j : Int) ∧ q = .bool (false && sameU ls ms k j) ∧ Below w2.heap.size w2 wr' ∧ Below w6.heap.size w6 wr')
                case atStart => exact ⟨0, by omega, rfl, by first | rfl | (simp [sameU]; done), B6.out, Below.refl _ _⟩
                case round =>
                  obtain ⟨j, hjg, rfl, rfl, hB, hBw⟩ := hrel
                  have HB := hide hB
                  have HBw := hide hBw
                  clear hB hBw
                  cases gk with
                  | zero =>
                    have q12 : ¬ ((j : Int) < (i : Int)) ∨ ((j : Int) < (i : Int) ∧ ¬ ((j : Int) < (m : Int))) := by omega
                    have hj : j = min i m := by omega
                    have HR : Hid (R = (false && sameU ls ms k j)) := by rw [hj]; exact HWM3
                    generalize (false && sameU ls ms k j) = Sj at *
                    clear hj
                    rcases q12 with q1 | ⟨q1, q2⟩
                    · skip
                      go_wp2_with fail
                      refine (awake12_any _).mono ?_
                      rintro e w7 ⟨rfl, b7⟩
                      have B7 := hide (below_on HB.out b7)
                      clear b7
                      go_wp2_with fail
                      refine (FW'.out _).mono ?_
                      rintro e w8 ⟨rfl, b8⟩
                      have B8 := hide (below_on B7.out b8)
                      clear b8
                      go_wp2_with fail
                      refine (TW.out _).mono ?_
                      rintro e w9 ⟨rfl, b9⟩
                      have B9 := hide (below_on B8.out b9)
                      clear b9
                      go_wp2_with fail
                      go_ret
                      exact ⟨by rw [HR.out]; cases Sj <;> rfl, B9.out⟩
                    · skip
                      go_wp2_with fail
                      refine (awake12_any _).mono ?_
                      rintro e w7 ⟨rfl, b7⟩
                      have B7 := hide (below_on HB.out b7)
                      clear b7
                      go_wp2_with fail
                      refine (FW'.out _).mono ?_
                      rintro e w8 ⟨rfl, b8⟩
                      have B8 := hide (below_on B7.out b8)
                      clear b8
                      go_wp2_with fail
                      refine (TW.out _).mono ?_
                      rintro e w9 ⟨rfl, b9⟩
                      have B9 := hide (below_on B8.out b9)
                      clear b9
                      go_wp2_with fail
                      go_ret
                      exact ⟨by rw [HR.out]; cases Sj <;> rfl, B9.out⟩
                  | succ g =>
                    have q1 : (j : Int) < (i : Int) := by omega
                    have q2 : (j : Int) < (m : Int) := by omega
                    obtain ⟨b, o, rfl, hb2, hb3⟩ := HR16.out.at_ (k := j) (by omega)
                    obtain ⟨b', o', rfl, hb2', hb3'⟩ := HR2.out.at_ (k := j) (by omega)
                    have hltl : j < ls.length := by have := HN.out; omega
                    have hltm : j < ms.length := by have := HM.out; omega
                    have hc := (HBw.out.cell (p := ⟨b, o + j, none⟩) hb2).trans (hb3 j _ (sv_get ls j hltl))
                    have hc' := (HBw.out.cell (p := ⟨b', o' + j, none⟩) hb2').trans (hb3' j _ (sv_get ms j hltm))
                    have hsu := sameU_succ ls ms k j
                    rw [List.getElem?_eq_getElem hltl, List.getElem?_eq_getElem hltm] at hsu
                    obtain ⟨F, hF⟩ : ∃ F, ls[j]'hltl = F := ⟨_, rfl⟩
                    obtain ⟨G, hG⟩ : ∃ G, ms[j]'hltm = G := ⟨_, rfl⟩
                    rw [hF, hG] at hsu
                    rw [hF] at hc
                    rw [hG] at hc'
                    have hbz : b < wr.heap.size := Nat.lt_of_lt_of_le hb2 HBw.out.size
                    have hbz' : b' < wr.heap.size := Nat.lt_of_lt_of_le hb2' HBw.out.size
                    have hcW : ∀ w', Below wr.heap.size wr w' → w'.cell? ⟨b, o + j, none⟩ = some (.string (str F)) := fun w' h => (h.cell (p := ⟨b, o + j, none⟩) hbz).trans hc
                    have hcW' : ∀ w', Below wr.heap.size wr w' → w'.cell? ⟨b', o' + j, none⟩ = some (.string (str G)) := fun w' h => (h.cell (p := ⟨b', o' + j, none⟩) hbz').trans hc'
                    have HSU := hide hsu
                    clear hsu hF hG hb3 hb3' hc hc'
                    generalize hSj : (false && sameU ls ms k j) = Sj at *
                    have HSj := hide hSj
                    clear hSj
                    have nxt : Hid (∀ v, v = (Sj && (decide (j = k) || decide (F = G))) → Value.bool v = .bool (false && sameU ls ms k (j + 1))) := by
                      refine hide fun v hv => ?_
                      rw [HSU.out, hv, ← HSj.out, Bool.and_assoc]
                      simp
                    clear HSU HSj
                    cases Sj
                    · go_wp2_with fail
                      refine wp_region_held_drew (S := (fun w' => Below wr.heap.size wr w')) (by kernel_rfl) ?_ (fun hHeld => ?_)
                      · exact (Below.refl _ _).drew
                      refine wpAnyH_take (i := 0) (oi := { dst := some 91, op := _, type := _, pos := _, after := _, guard := _ }) (v := ?v1x1) rfl (by kernel_rfl) (by kernel_rfl) (by kernel_rfl) (fun _ _ _ h => h) (Or.inl ⟨by rfl, ?hy1x1⟩) hHeld ?rest1x1
                      case hy1x1 => (intro w hSw; go_simp <;> with_reducible rfl)
                      try simp only [Act.put, List.setIfInBounds_toArray, List.set_cons_zero, List.set_cons_succ]
                      refine wpAnyH_take (i := 1) (oi := { dst := some 92, op := _, type := _, pos := _, after := _, guard := _ }) (v := ?v1x2) rfl (by kernel_rfl) (by kernel_rfl) (by kernel_rfl) (fun _ _ _ h => h) (Or.inl ⟨by rfl, ?hy1x2⟩) hHeld ?rest1x2
                      case hy1x2 => (intro w hSw; go_simp <;> with_reducible rfl)
                      try simp only [Act.put, List.setIfInBounds_toArray, List.set_cons_zero, List.set_cons_succ]
                      refine wpAnyH_take (i := 2) (oi := { dst := some 93, op := _, type := _, pos := _, after := _, guard := _ }) (v := undef) rfl (by kernel_rfl) (by kernel_rfl) (by kernel_rfl) (fun _ _ _ h => h) (Or.inr ⟨by rfl, rfl⟩) hHeld ?_
                      try simp only [Act.put, List.setIfInBounds_toArray, List.set_cons_zero, List.set_cons_succ]
                      refine wpAnyH_take (i := 3) (oi := { dst := some 94, op := _, type := _, pos := _, after := _, guard := _ }) (v := undef) rfl (by kernel_rfl) (by kernel_rfl) (by kernel_rfl) (fun _ _ _ h => h) (Or.inr ⟨by rfl, rfl⟩) hHeld ?_
                      try simp only [Act.put, List.setIfInBounds_toArray, List.set_cons_zero, List.set_cons_succ]
                      refine wpAnyH_take (i := 4) (oi := { dst := some 95, op := _, type := _, pos := _, after := _, guard := _ }) (v := undef) rfl (by kernel_rfl) (by kernel_rfl) (by kernel_rfl) (fun _ _ _ h => h) (Or.inr ⟨by rfl, rfl⟩) hHeld ?_
                      try simp only [Act.put, List.setIfInBounds_toArray, List.set_cons_zero, List.set_cons_succ]
                      refine wpAnyH_take (i := 5) (oi := { dst := some 96, op := _, type := _, pos := _, after := _, guard := _ }) (v := undef) rfl (by kernel_rfl) (by kernel_rfl) (by kernel_rfl) (fun _ _ _ h => h) (Or.inr ⟨by rfl, rfl⟩) hHeld ?_
                      try simp only [Act.put, List.setIfInBounds_toArray, List.set_cons_zero, List.set_cons_succ]
                      refine wpAnyH_take (i := 6) (oi := { dst := some 97, op := _, type := _, pos := _, after := _, guard := _ }) (v := undef) rfl (by kernel_rfl) (by kernel_rfl) (by kernel_rfl) (fun _ _ _ h => h) (Or.inr ⟨by rfl, rfl⟩) hHeld ?_
                      try simp only [Act.put, List.setIfInBounds_toArray, List.set_cons_zero, List.set_cons_succ]
                      refine wpAnyH_take (i := 7) (oi := { dst := some 98, op := _, type := _, pos := _, after := _, guard := _ }) (v := undef) rfl (by kernel_rfl) (by kernel_rfl) (by kernel_rfl) (fun _ _ _ h => h) (Or.inr ⟨by rfl, rfl⟩) hHeld ?_
                      try simp only [Act.put, List.setIfInBounds_toArray, List.set_cons_zero, List.set_cons_succ]
                      refine wpAnyH_take (i := 8) (oi := { dst := some 99, op := _, type := _, pos := _, after := _, guard := _ }) (v := undef) rfl (by kernel_rfl) (by kernel_rfl) (by kernel_rfl) (fun _ _ _ h => h) (Or.inr ⟨by rfl, rfl⟩) hHeld ?_
                      try simp only [Act.put, List.setIfInBounds_toArray, List.set_cons_zero, List.set_cons_succ]
                      refine wpAnyH_take (i := 9) (oi := { dst := some 100, op := _, type := _, pos := _, after := _, guard := _ }) (v := undef) rfl (by kernel_rfl) (by kernel_rfl) (by kernel_rfl) (fun _ _ _ h => h) (Or.inr ⟨by rfl, rfl⟩) hHeld ?_
                      try simp only [Act.put, List.setIfInBounds_toArray, List.set_cons_zero, List.set_cons_succ]
                      refine wpAnyH_take (i := 10) (oi := { dst := some 101, op := _, type := _, pos := _, after := _, guard := _ }) (v := undef) rfl (by kernel_rfl) (by kernel_rfl) (by kernel_rfl) (fun _ _ _ h => h) (Or.inr ⟨by rfl, rfl⟩) hHeld ?_
                      try simp only [Act.put, List.setIfInBounds_toArray, List.set_cons_zero, List.set_cons_succ]
                      refine wpAnyH_take (i := 11) (oi := { dst := some 102, op := _, type := _, pos := _, after := _, guard := _ }) (v := undef) rfl (by kernel_rfl) (by kernel_rfl) (by kernel_rfl) (fun _ _ _ h => h) (Or.inr ⟨by rfl, rfl⟩) hHeld ?_
                      try simp only [Act.put, List.setIfInBounds_toArray, List.set_cons_zero, List.set_cons_succ]
                      refine wpAnyH_take (i := 12) (oi := { dst := some 103, op := _, type := _, pos := _, after := _, guard := _ }) (v := undef) rfl (by kernel_rfl) (by kernel_rfl) (by kernel_rfl) (fun _ _ _ h => h) (Or.inr ⟨by rfl, rfl⟩) hHeld ?_
                      try simp only [Act.put, List.setIfInBounds_toArray, List.set_cons_zero, List.set_cons_succ]
                      refine wpAnyH_take (i := 13) (oi := { dst := some 104, op := _, type := _, pos := _, after := _, guard := _ }) (v := undef) rfl (by kernel_rfl) (by kernel_rfl) (by kernel_rfl) (fun _ _ _ h => h) (Or.inr ⟨by rfl, rfl⟩) hHeld ?_
                      try simp only [Act.put, List.setIfInBounds_toArray, List.set_cons_zero, List.set_cons_succ]
                      refine wpAnyH_take (i := 14) (oi := { dst := some 105, op := _, type := _, pos := _, after := _, guard := _ }) (v := undef) rfl (by kernel_rfl) (by kernel_rfl) (by kernel_rfl) (fun _ _ _ h => h) (Or.inr ⟨by rfl, rfl⟩) hHeld ?_
                      try simp only [Act.put, List.setIfInBounds_toArray, List.set_cons_zero, List.set_cons_succ]
                      refine wpAnyH_take (i := 15) (oi := { dst := some 106, op := _, type := _, pos := _, after := _, guard := _ }) (v := undef) rfl (by kernel_rfl) (by kernel_rfl) (by kernel_rfl) (fun _ _ _ h => h) (Or.inr ⟨by rfl, rfl⟩) hHeld ?_
                      try simp only [Act.put, List.setIfInBounds_toArray, List.set_cons_zero, List.set_cons_succ]
                      refine wpAnyH_take (i := 16) (oi := { dst := some 107, op := _, type := _, pos := _, after := _, guard := _ }) (v := ?v1x17) rfl (by kernel_rfl) (by kernel_rfl) (by kernel_rfl) (fun _ _ _ h => h) (Or.inl ⟨by rfl, ?hy1x17⟩) hHeld ?rest1x17
                      case hy1x17 => (intro w hSw; go_simp <;> with_reducible rfl)
                      try simp only [Act.put, List.setIfInBounds_toArray, List.set_cons_zero, List.set_cons_succ]
                      refine wpAnyH_take (i := 17) (oi := { dst := some 11, op := _, type := _, pos := _, after := _, guard := _ }) (v := ?v1x18) rfl (by kernel_rfl) (by kernel_rfl) (by kernel_rfl) (fun _ _ _ h => h) (Or.inl ⟨by rfl, ?hy1x18⟩) hHeld ?rest1x18
                      case hy1x18 => (intro w hSw; go_simp <;> with_reducible rfl)
                      try simp only [Act.put, List.setIfInBounds_toArray, List.set_cons_zero, List.set_cons_succ]
                      refine wpAnyH_done (by kernel_rfl) ?_ _
                      go_wp2_with fail
                      go_roundg g
                      case measure => omega
                      case rel => exact ⟨j + 1, by omega, by go_num, nxt.out _ rfl, HB.out.drew, HBw.out.drew⟩
                    · by_cases hjk : j = k
                      · have qk : ((j : Int) == (k : Int)) = true := beq_iff_eq.2 (by omega)
                        have qk2 : (j == k) = true := beq_iff_eq.2 hjk
                        have qk3 : decide (j = k) = true := decide_eq_true hjk
                        have Hjk := hide hjk
                        clear hjk
                        go_wp2_with fail
                        refine wp_region_held_drew (S := (fun w' => Below wr.heap.size wr w')) (by kernel_rfl) ?_ (fun hHeld => ?_)
                        · exact (Below.refl _ _).drew
                        refine wpAnyH_take (i := 0) (oi := { dst := some 91, op := _, type := _, pos := _, after := _, guard := _ }) (v := ?v2x1) rfl (by kernel_rfl) (by kernel_rfl) (by kernel_rfl) (fun _ _ _ h => h) (Or.inl ⟨by rfl, ?hy2x1⟩) hHeld ?rest2x1
                        case hy2x1 => (intro w hSw; go_simp <;> with_reducible rfl)
                        try simp only [Act.put, List.setIfInBounds_toArray, List.set_cons_zero, List.set_cons_succ]
                        refine wpAnyH_take (i := 1) (oi := { dst := some 92, op := _, type := _, pos := _, after := _, guard := _ }) (v := ?v2x2) rfl (by kernel_rfl) (by kernel_rfl) (by kernel_rfl) (fun _ _ _ h => h) (Or.inl ⟨by rfl, ?hy2x2⟩) hHeld ?rest2x2
                        case hy2x2 => (intro w hSw; go_simp <;> with_reducible rfl)
                        try simp only [Act.put, List.setIfInBounds_toArray, List.set_cons_zero, List.set_cons_succ]
                        refine wpAnyH_take (i := 2) (oi := { dst := some 93, op := _, type := _, pos := _, after := _, guard := _ }) (v := ?v2x3) rfl (by kernel_rfl) (by kernel_rfl) (by kernel_rfl) (fun _ _ _ h => h) (Or.inl ⟨by rfl, ?hy2x3⟩) hHeld ?rest2x3
                        case hy2x3 => (intro w hSw; go_simp <;> with_reducible rfl)
                        try simp only [Act.put, List.setIfInBounds_toArray, List.set_cons_zero, List.set_cons_succ]
                        refine wpAnyH_take (i := 3) (oi := { dst := some 94, op := _, type := _, pos := _, after := _, guard := _ }) (v := ?v2x4) rfl (by kernel_rfl) (by kernel_rfl) (by kernel_rfl) (fun _ _ _ h => h) (Or.inl ⟨by rfl, ?hy2x4⟩) hHeld ?rest2x4
                        case hy2x4 => (intro w hSw; go_simp <;> with_reducible rfl)
                        try simp only [Act.put, List.setIfInBounds_toArray, List.set_cons_zero, List.set_cons_succ]
                        refine wpAnyH_take (i := 4) (oi := { dst := some 95, op := _, type := _, pos := _, after := _, guard := _ }) (v := ?v2x5) rfl (by kernel_rfl) (by kernel_rfl) (by kernel_rfl) (fun _ _ _ h => h) (Or.inl ⟨by rfl, ?hy2x5⟩) hHeld ?rest2x5
                        case hy2x5 => (intro w hSw; go_simp <;> with_reducible rfl)
                        try simp only [Act.put, List.setIfInBounds_toArray, List.set_cons_zero, List.set_cons_succ]
                        refine wpAnyH_take (i := 5) (oi := { dst := some 96, op := _, type := _, pos := _, after := _, guard := _ }) (v := ?v2x6) rfl (by kernel_rfl) (by kernel_rfl) (by kernel_rfl) (fun _ _ _ h => h) (Or.inl ⟨by rfl, ?hy2x6⟩) hHeld ?rest2x6
                        case hy2x6 => (intro w hSw; go_simp <;> with_reducible rfl)
                        try simp only [Act.put, List.setIfInBounds_toArray, List.set_cons_zero, List.set_cons_succ]
                        refine wpAnyH_take (i := 6) (oi := { dst := some 97, op := _, type := _, pos := _, after := _, guard := _ }) (v := undef) rfl (by kernel_rfl) (by kernel_rfl) (by kernel_rfl) (fun _ _ _ h => h) (Or.inr ⟨by rfl, rfl⟩) hHeld ?_
                        try simp only [Act.put, List.setIfInBounds_toArray, List.set_cons_zero, List.set_cons_succ]
                        refine wpAnyH_take (i := 7) (oi := { dst := some 98, op := _, type := _, pos := _, after := _, guard := _ }) (v := undef) rfl (by kernel_rfl) (by kernel_rfl) (by kernel_rfl) (fun _ _ _ h => h) (Or.inr ⟨by rfl, rfl⟩) hHeld ?_
                        try simp only [Act.put, List.setIfInBounds_toArray, List.set_cons_zero, List.set_cons_succ]
                        refine wpAnyH_take (i := 8) (oi := { dst := some 99, op := _, type := _, pos := _, after := _, guard := _ }) (v := undef) rfl (by kernel_rfl) (by kernel_rfl) (by kernel_rfl) (fun _ _ _ h => h) (Or.inr ⟨by rfl, rfl⟩) hHeld ?_
                        try simp only [Act.put, List.setIfInBounds_toArray, List.set_cons_zero, List.set_cons_succ]
                        refine wpAnyH_take (i := 9) (oi := { dst := some 100, op := _, type := _, pos := _, after := _, guard := _ }) (v := undef) rfl (by kernel_rfl) (by kernel_rfl) (by kernel_rfl) (fun _ _ _ h => h) (Or.inr ⟨by rfl, rfl⟩) hHeld ?_
                        try simp only [Act.put, List.setIfInBounds_toArray, List.set_cons_zero, List.set_cons_succ]
                        refine wpAnyH_take (i := 10) (oi := { dst := some 101, op := _, type := _, pos := _, after := _, guard := _ }) (v := undef) rfl (by kernel_rfl) (by kernel_rfl) (by kernel_rfl) (fun _ _ _ h => h) (Or.inr ⟨by rfl, rfl⟩) hHeld ?_
                        try simp only [Act.put, List.setIfInBounds_toArray, List.set_cons_zero, List.set_cons_succ]
                        refine wpAnyH_take (i := 11) (oi := { dst := some 102, op := _, type := _, pos := _, after := _, guard := _ }) (v := undef) rfl (by kernel_rfl) (by kernel_rfl) (by kernel_rfl) (fun _ _ _ h => h) (Or.inr ⟨by rfl, rfl⟩) hHeld ?_
                        try simp only [Act.put, List.setIfInBounds_toArray, List.set_cons_zero, List.set_cons_succ]
                        refine wpAnyH_take (i := 12) (oi := { dst := some 103, op := _, type := _, pos := _, after := _, guard := _ }) (v := undef) rfl (by kernel_rfl) (by kernel_rfl) (by kernel_rfl) (fun _ _ _ h => h) (Or.inr ⟨by rfl, rfl⟩) hHeld ?_
                        try simp only [Act.put, List.setIfInBounds_toArray, List.set_cons_zero, List.set_cons_succ]
                        refine wpAnyH_take (i := 13) (oi := { dst := some 104, op := _, type := _, pos := _, after := _, guard := _ }) (v := undef) rfl (by kernel_rfl) (by kernel_rfl) (by kernel_rfl) (fun _ _ _ h => h) (Or.inr ⟨by rfl, rfl⟩) hHeld ?_
                        try simp only [Act.put, List.setIfInBounds_toArray, List.set_cons_zero, List.set_cons_succ]
                        refine wpAnyH_take (i := 14) (oi := { dst := some 105, op := _, type := _, pos := _, after := _, guard := _ }) (v := undef) rfl (by kernel_rfl) (by kernel_rfl) (by kernel_rfl) (fun _ _ _ h => h) (Or.inr ⟨by rfl, rfl⟩) hHeld ?_
                        try simp only [Act.put, List.setIfInBounds_toArray, List.set_cons_zero, List.set_cons_succ]
                        refine wpAnyH_take (i := 15) (oi := { dst := some 106, op := _, type := _, pos := _, after := _, guard := _ }) (v := ?v2x16) rfl (by kernel_rfl) (by kernel_rfl) (by kernel_rfl) (fun _ _ _ h => h) (Or.inl ⟨by rfl, ?hy2x16⟩) hHeld ?rest2x16
                        case hy2x16 => (intro w hSw; go_simp <;> with_reducible rfl)
                        try simp only [Act.put, List.setIfInBounds_toArray, List.set_cons_zero, List.set_cons_succ]
                        refine wpAnyH_take (i := 16) (oi := { dst := some 107, op := _, type := _, pos := _, after := _, guard := _ }) (v := ?v2x17) rfl (by kernel_rfl) (by kernel_rfl) (by kernel_rfl) (fun _ _ _ h => h) (Or.inl ⟨by rfl, ?hy2x17⟩) hHeld ?rest2x17
                        case hy2x17 => (intro w hSw; go_simp <;> with_reducible rfl)
                        try simp only [Act.put, List.setIfInBounds_toArray, List.set_cons_zero, List.set_cons_succ]
                        refine wpAnyH_take (i := 17) (oi := { dst := some 11, op := _, type := _, pos := _, after := _, guard := _ }) (v := ?v2x18) rfl (by kernel_rfl) (by kernel_rfl) (by kernel_rfl) (fun _ _ _ h => h) (Or.inl ⟨by rfl, ?hy2x18⟩) hHeld ?rest2x18
                        case hy2x18 => (intro w hSw; go_simp <;> with_reducible rfl)
                        try simp only [Act.put, List.setIfInBounds_toArray, List.set_cons_zero, List.set_cons_succ]
                        refine wpAnyH_done (by kernel_rfl) ?_ _
                        go_wp2_with fail
                        go_roundg g
                        case measure => omega
                        case rel => exact ⟨j + 1, by omega, by go_num, nxt.out true (by rw [decide_eq_true Hjk.out]; rfl), HB.out.drew, HBw.out.drew⟩
                      · have qk : ((j : Int) == (k : Int)) = false := beq_eq_false_iff_ne.2 (by omega)
                        have qk2 : (j == k) = false := beq_eq_false_iff_ne.2 hjk
                        have qk3 : decide (j = k) = false := decide_eq_false hjk
                        have Hjk := hide hjk
                        clear hjk
                        go_wp2_with fail
                        refine wp_region_held_drew (S := (fun w' => Below wr.heap.size wr w')) (by kernel_rfl) ?_ (fun hHeld => ?_)
                        · exact (Below.refl _ _).drew
                        refine wpAnyH_take (i := 0) (oi := { dst := some 91, op := _, type := _, pos := _, after := _, guard := _ }) (v := ?v3x1) rfl (by kernel_rfl) (by kernel_rfl) (by kernel_rfl) (fun _ _ _ h => h) (Or.inl ⟨by rfl, ?hy3x1⟩) hHeld ?rest3x1
                        case hy3x1 => (intro w hSw; go_simp <;> with_reducible rfl)
                        try simp only [Act.put, List.setIfInBounds_toArray, List.set_cons_zero, List.set_cons_succ]
                        refine wpAnyH_take (i := 1) (oi := { dst := some 92, op := _, type := _, pos := _, after := _, guard := _ }) (v := ?v3x2) rfl (by kernel_rfl) (by kernel_rfl) (by kernel_rfl) (fun _ _ _ h => h) (Or.inl ⟨by rfl, ?hy3x2⟩) hHeld ?rest3x2
                        case hy3x2 => (intro w hSw; go_simp <;> with_reducible rfl)
                        try simp only [Act.put, List.setIfInBounds_toArray, List.set_cons_zero, List.set_cons_succ]
                        refine wpAnyH_take (i := 2) (oi := { dst := some 93, op := _, type := _, pos := _, after := _, guard := _ }) (v := ?v3x3) rfl (by kernel_rfl) (by kernel_rfl) (by kernel_rfl) (fun _ _ _ h => h) (Or.inl ⟨by rfl, ?hy3x3⟩) hHeld ?rest3x3
                        case hy3x3 => (intro w hSw; go_simp <;> with_reducible rfl)
                        try simp only [Act.put, List.setIfInBounds_toArray, List.set_cons_zero, List.set_cons_succ]
                        refine wpAnyH_take (i := 3) (oi := { dst := some 94, op := _, type := _, pos := _, after := _, guard := _ }) (v := ?v3x4) rfl (by kernel_rfl) (by kernel_rfl) (by kernel_rfl) (fun _ _ _ h => h) (Or.inl ⟨by rfl, ?hy3x4⟩) hHeld ?rest3x4
                        case hy3x4 => (intro w hSw; go_simp <;> with_reducible rfl)
                        try simp only [Act.put, List.setIfInBounds_toArray, List.set_cons_zero, List.set_cons_succ]
                        refine wpAnyH_take (i := 4) (oi := { dst := some 95, op := _, type := _, pos := _, after := _, guard := _ }) (v := ?v3x5) rfl (by kernel_rfl) (by kernel_rfl) (by kernel_rfl) (fun _ _ _ h => h) (Or.inl ⟨by rfl, ?hy3x5⟩) hHeld ?rest3x5
                        case hy3x5 => (intro w hSw; go_simp <;> with_reducible rfl)
                        try simp only [Act.put, List.setIfInBounds_toArray, List.set_cons_zero, List.set_cons_succ]
                        refine wpAnyH_take (i := 5) (oi := { dst := some 96, op := _, type := _, pos := _, after := _, guard := _ }) (v := ?v3x6) rfl (by kernel_rfl) (by kernel_rfl) (by kernel_rfl) (fun _ _ _ h => h) (Or.inl ⟨by rfl, ?hy3x6⟩) hHeld ?rest3x6
                        case hy3x6 => (intro w hSw; go_simp <;> with_reducible rfl)
                        try simp only [Act.put, List.setIfInBounds_toArray, List.set_cons_zero, List.set_cons_succ]
                        refine wpAnyH_take (i := 6) (oi := { dst := some 97, op := _, type := _, pos := _, after := _, guard := _ }) (v := ?v3x7) rfl (by kernel_rfl) (by kernel_rfl) (by kernel_rfl) (fun _ _ _ h => h) (Or.inl ⟨by rfl, ?hy3x7⟩) hHeld ?rest3x7
                        case hy3x7 => (intro w hSw; go_simp <;> with_reducible rfl)
                        try simp only [Act.put, List.setIfInBounds_toArray, List.set_cons_zero, List.set_cons_succ]
                        refine wpAnyH_take (i := 7) (oi := { dst := some 98, op := _, type := _, pos := _, after := _, guard := _ }) (v := ?v3x8) rfl (by kernel_rfl) (by kernel_rfl) (by kernel_rfl) (fun _ _ _ h => h) (Or.inl ⟨by rfl, ?hy3x8⟩) hHeld ?rest3x8
                        case hy3x8 => (intro w hSw; go_simp <;> with_reducible rfl)
                        try simp only [Act.put, List.setIfInBounds_toArray, List.set_cons_zero, List.set_cons_succ]
                        refine wpAnyH_take (i := 8) (oi := { dst := some 99, op := _, type := _, pos := _, after := _, guard := _ }) (v := ?v3x9) rfl (by kernel_rfl) (by kernel_rfl) (by kernel_rfl) (fun _ _ _ h => h) (Or.inl ⟨by rfl, ?hy3x9⟩) hHeld ?rest3x9
                        case hy3x9 => (intro w hSw; go_simp <;> with_reducible rfl)
                        try simp only [Act.put, List.setIfInBounds_toArray, List.set_cons_zero, List.set_cons_succ]
                        refine wpAnyH_take (i := 9) (oi := { dst := some 100, op := _, type := _, pos := _, after := _, guard := _ }) (v := ?v3x10) rfl (by kernel_rfl) (by kernel_rfl) (by kernel_rfl) (fun _ _ _ h => h) (Or.inl ⟨by rfl, ?hy3x10⟩) hHeld ?rest3x10
                        case hy3x10 => (intro w hSw; go_simp <;> with_reducible rfl)
                        try simp only [Act.put, List.setIfInBounds_toArray, List.set_cons_zero, List.set_cons_succ]
                        refine wpAnyH_take (i := 10) (oi := { dst := some 101, op := _, type := _, pos := _, after := _, guard := _ }) (v := ?v3x11) rfl (by kernel_rfl) (by kernel_rfl) (by kernel_rfl) (fun _ _ _ h => h) (Or.inl ⟨by rfl, ?hy3x11⟩) hHeld ?rest3x11
                        case hy3x11 => (intro w hSw; go_simp <;> with_reducible rfl)
                        try simp only [Act.put, List.setIfInBounds_toArray, List.set_cons_zero, List.set_cons_succ]
                        refine wpAnyH_take (i := 11) (oi := { dst := some 102, op := _, type := _, pos := _, after := _, guard := _ }) (v := ?v3x12) rfl (by kernel_rfl) (by kernel_rfl) (by kernel_rfl) (fun _ _ _ h => h) (Or.inl ⟨by rfl, ?hy3x12⟩) hHeld ?rest3x12
                        case hy3x12 => (intro w hSw; go_simp <;> with_reducible rfl)
                        try simp only [Act.put, List.setIfInBounds_toArray, List.set_cons_zero, List.set_cons_succ]
                        refine wpAnyH_take (i := 12) (oi := { dst := some 103, op := _, type := _, pos := _, after := _, guard := _ }) (v := ?v3x13) rfl (by kernel_rfl) (by kernel_rfl) (by kernel_rfl) (fun _ _ _ h => h) (Or.inl ⟨by rfl, ?hy3x13⟩) hHeld ?rest3x13
                        case hy3x13 => (intro w hSw; go_simp <;> with_reducible rfl)
                        try simp only [Act.put, List.setIfInBounds_toArray, List.set_cons_zero, List.set_cons_succ]
                        refine wpAnyH_take (i := 13) (oi := { dst := some 104, op := _, type := _, pos := _, after := _, guard := _ }) (v := ?v3x14) rfl (by kernel_rfl) (by kernel_rfl) (by kernel_rfl) (fun _ _ _ h => h) (Or.inl ⟨by rfl, ?hy3x14⟩) hHeld ?rest3x14
                        case hy3x14 => (intro w hSw; go_simp <;> with_reducible rfl)
                        try simp only [Act.put, List.setIfInBounds_toArray, List.set_cons_zero, List.set_cons_succ]
                        refine wpAnyH_take (i := 14) (oi := { dst := some 105, op := _, type := _, pos := _, after := _, guard := _ }) (v := ?v3x15) rfl (by kernel_rfl) (by kernel_rfl) (by kernel_rfl) (fun _ _ _ h => h) (Or.inl ⟨by rfl, ?hy3x15⟩) hHeld ?rest3x15
                        case hy3x15 => (intro w hSw; go_simp <;> with_reducible rfl)
                        try simp only [Act.put, List.setIfInBounds_toArray, List.set_cons_zero, List.set_cons_succ]
                        refine wpAnyH_take (i := 15) (oi := { dst := some 106, op := _, type := _, pos := _, after := _, guard := _ }) (v := ?v3x16) rfl (by kernel_rfl) (by kernel_rfl) (by kernel_rfl) (fun _ _ _ h => h) (Or.inl ⟨by rfl, ?hy3x16⟩) hHeld ?rest3x16
                        case hy3x16 => (intro w hSw; go_simp <;> with_reducible rfl)
                        try simp only [Act.put, List.setIfInBounds_toArray, List.set_cons_zero, List.set_cons_succ]
                        refine wpAnyH_take (i := 16) (oi := { dst := some 107, op := _, type := _, pos := _, after := _, guard := _ }) (v := ?v3x17) rfl (by kernel_rfl) (by kernel_rfl) (by kernel_rfl) (fun _ _ _ h => h) (Or.inl ⟨by rfl, ?hy3x17⟩) hHeld ?rest3x17
                        case hy3x17 => (intro w hSw; go_simp <;> with_reducible rfl)
                        try simp only [Act.put, List.setIfInBounds_toArray, List.set_cons_zero, List.set_cons_succ]
                        refine wpAnyH_take (i := 17) (oi := { dst := some 11, op := _, type := _, pos := _, after := _, guard := _ }) (v := ?v3x18) rfl (by kernel_rfl) (by kernel_rfl) (by kernel_rfl) (fun _ _ _ h => h) (Or.inl ⟨by rfl, ?hy3x18⟩) hHeld ?rest3x18
                        case hy3x18 => (intro w hSw; go_simp <;> with_reducible rfl)
                        try simp only [Act.put, List.setIfInBounds_toArray, List.set_cons_zero, List.set_cons_succ]
                        refine wpAnyH_done (by kernel_rfl) ?_ _
                        go_wp2_with fail
                        go_roundg g
                        case measure => omega
                        case rel => exact ⟨j + 1, by omega, by go_num, nxt.out (F == G) (by rw [decide_eq_false Hjk.out, Bool.eq_iff_iff]; simp), HB.out.drew, HBw.out.drew⟩
              · cases K0
                · obtain rfl : S0 = true := by rw [← HS0.out]; rfl
                  go_wp2_with fail
                  go_loopg [11, 12] (min i m) (fun g q p wr' => ∃ j : Nat, j + g = min i m ∧ p = .int .i64 (j : Int) ∧ q = .bool (true && sameU ls ms k j) ∧ Below w2.heap.size w2 wr' ∧ Below w6.heap.size w6 wr')
                  case atStart => exact ⟨0, by omega, rfl, by first | rfl | (simp [sameU]; done), B6.out, Below.refl _ _⟩
                  case round =>
                    obtain ⟨j, hjg, rfl, rfl, hB, hBw⟩ := hrel
                    have HB := hide hB
                    have HBw := hide hBw
                    clear hB hBw
                    cases gk with
                    | zero =>
                      have q12 : ¬ ((j : Int) < (i : Int)) ∨ ((j : Int) < (i : Int) ∧ ¬ ((j : Int) < (m : Int))) := by omega
                      have hj : j = min i m := by omega
                      have HR : Hid (R = (true && sameU ls ms k j)) := by rw [hj]; exact HWM3
                      generalize (true && sameU ls ms k j) = Sj at *
                      clear hj
                      rcases q12 with q1 | ⟨q1, q2⟩
                      · skip
                        go_wp2_with fail
                        refine (awake12_any _).mono ?_
                        rintro e w7 ⟨rfl, b7⟩
                        have B7 := hide (below_on HB.out b7)
                        clear b7
                        go_wp2_with fail
                        refine (FW'.out _).mono ?_
                        rintro e w8 ⟨rfl, b8⟩
                        have B8 := hide (below_on B7.out b8)
                        clear b8
                        go_wp2_with fail
                        refine (TW.out _).mono ?_
                        rintro e w9 ⟨rfl, b9⟩
                        have B9 := hide (below_on B8.out b9)
                        clear b9
                        go_wp2_with fail
                        go_ret
                        exact ⟨by rw [HR.out]; cases Sj <;> rfl, B9.out⟩
                      · skip
                        go_wp2_with fail
                        refine (awake12_any _).mono ?_
                        rintro e w7 ⟨rfl, b7⟩
                        have B7 := hide (below_on HB.out b7)
                        clear b7
                        go_wp2_with fail
                        refine (FW'.out _).mono ?_
                        rintro e w8 ⟨rfl, b8⟩
                        have B8 := hide (below_on B7.out b8)
                        clear b8
                        go_wp2_with fail
                        refine (TW.out _).mono ?_
                        rintro e w9 ⟨rfl, b9⟩
                        have B9 := hide (below_on B8.out b9)
                        clear b9
                        go_wp2_with fail
                        go_ret
                        exact ⟨by rw [HR.out]; cases Sj <;> rfl, B9.out⟩
                    | succ g =>
                      have q1 : (j : Int) < (i : Int) := by omega
                      have q2 : (j : Int) < (m : Int) := by omega
                      obtain ⟨b, o, rfl, hb2, hb3⟩ := HR16.out.at_ (k := j) (by omega)
                      obtain ⟨b', o', rfl, hb2', hb3'⟩ := HR2.out.at_ (k := j) (by omega)
                      have hltl : j < ls.length := by have := HN.out; omega
                      have hltm : j < ms.length := by have := HM.out; omega
                      have hc := (HBw.out.cell (p := ⟨b, o + j, none⟩) hb2).trans (hb3 j _ (sv_get ls j hltl))
                      have hc' := (HBw.out.cell (p := ⟨b', o' + j, none⟩) hb2').trans (hb3' j _ (sv_get ms j hltm))
                      have hsu := sameU_succ ls ms k j
                      rw [List.getElem?_eq_getElem hltl, List.getElem?_eq_getElem hltm] at hsu
                      obtain ⟨F, hF⟩ : ∃ F, ls[j]'hltl = F := ⟨_, rfl⟩
                      obtain ⟨G, hG⟩ : ∃ G, ms[j]'hltm = G := ⟨_, rfl⟩
                      rw [hF, hG] at hsu
                      rw [hF] at hc
                      rw [hG] at hc'
                      have hbz : b < wr.heap.size := Nat.lt_of_lt_of_le hb2 HBw.out.size
                      have hbz' : b' < wr.heap.size := Nat.lt_of_lt_of_le hb2' HBw.out.size
                      have hcW : ∀ w', Below wr.heap.size wr w' → w'.cell? ⟨b, o + j, none⟩ = some (.string (str F)) := fun w' h => (h.cell (p := ⟨b, o + j, none⟩) hbz).trans hc
                      have hcW' : ∀ w', Below wr.heap.size wr w' → w'.cell? ⟨b', o' + j, none⟩ = some (.string (str G)) := fun w' h => (h.cell (p := ⟨b', o' + j, none⟩) hbz').trans hc'
                      have HSU := hide hsu
                      clear hsu hF hG hb3 hb3' hc hc'
                      generalize hSj : (true && sameU ls ms k j) = Sj at *
                      have HSj := hide hSj
                      clear hSj
                      have nxt : Hid (∀ v, v = (Sj && (decide (j = k) || decide (F = G))) → Value.bool v = .bool (true && sameU ls ms k (j + 1))) := by
                        refine hide fun v hv => ?_
                        rw [HSU.out, hv, ← HSj.out, Bool.and_assoc]
                        simp
                      clear HSU HSj
                      cases Sj
                      · go_wp2_with fail
                        refine wp_region_held_drew (S := (fun w' => Below wr.heap.size wr w')) (by kernel_rfl) ?_ (fun hHeld => ?_)
                        · exact (Below.refl _ _).drew
                        refine wpAnyH_take (i := 0) (oi := { dst := some 91, op := _, type := _, pos := _, after := _, guard := _ }) (v := ?v4x1) rfl (by kernel_rfl) (by kernel_rfl) (by kernel_rfl) (fun _ _ _ h => h) (Or.inl ⟨by rfl, ?hy4x1⟩) hHeld ?rest4x1
                        case hy4x1 => (intro w hSw; go_simp <;> with_reducible rfl)
                        try simp only [Act.put, List.setIfInBounds_toArray, List.set_cons_zero, List.set_cons_succ]
                        refine wpAnyH_take (i := 1) (oi := { dst := some 92, op := _, type := _, pos := _, after := _, guard := _ }) (v := ?v4x2) rfl (by kernel_rfl) (by kernel_rfl) (by kernel_rfl) (fun _ _ _ h => h) (Or.inl ⟨by rfl, ?hy4x2⟩) hHeld ?rest4x2
                        case hy4x2 => (intro w hSw; go_simp <;> with_reducible rfl)
                        try simp only [Act.put, List.setIfInBounds_toArray, List.set_cons_zero, List.set_cons_succ]
                        refine wpAnyH_take (i := 2) (oi := { dst := some 93, op := _, type := _, pos := _, after := _, guard := _ }) (v := undef) rfl (by kernel_rfl) (by kernel_rfl) (by kernel_rfl) (fun _ _ _ h => h) (Or.inr ⟨by rfl, rfl⟩) hHeld ?_
                        try simp only [Act.put, List.setIfInBounds_toArray, List.set_cons_zero, List.set_cons_succ]
                        refine wpAnyH_take (i := 3) (oi := { dst := some 94, op := _, type := _, pos := _, after := _, guard := _ }) (v := undef) rfl (by kernel_rfl) (by kernel_rfl) (by kernel_rfl) (fun _ _ _ h => h) (Or.inr ⟨by rfl, rfl⟩) hHeld ?_
                        try simp only [Act.put, List.setIfInBounds_toArray, List.set_cons_zero, List.set_cons_succ]
                        refine wpAnyH_take (i := 4) (oi := { dst := some 95, op := _, type := _, pos := _, after := _, guard := _ }) (v := undef) rfl (by kernel_rfl) (by kernel_rfl) (by kernel_rfl) (fun _ _ _ h => h) (Or.inr ⟨by rfl, rfl⟩) hHeld ?_
                        try simp only [Act.put, List.setIfInBounds_toArray, List.set_cons_zero, List.set_cons_succ]
                        refine wpAnyH_take (i := 5) (oi := { dst := some 96, op := _, type := _, pos := _, after := _, guard := _ }) (v := undef) rfl (by kernel_rfl) (by kernel_rfl) (by kernel_rfl) (fun _ _ _ h => h) (Or.inr ⟨by rfl, rfl⟩) hHeld ?_
                        try simp only [Act.put, List.setIfInBounds_toArray, List.set_cons_zero, List.set_cons_succ]
                        refine wpAnyH_take (i := 6) (oi := { dst := some 97, op := _, type := _, pos := _, after := _, guard := _ }) (v := undef) rfl (by kernel_rfl) (by kernel_rfl) (by kernel_rfl) (fun _ _ _ h => h) (Or.inr ⟨by rfl, rfl⟩) hHeld ?_
                        try simp only [Act.put, List.setIfInBounds_toArray, List.set_cons_zero, List.set_cons_succ]
                        refine wpAnyH_take (i := 7) (oi := { dst := some 98, op := _, type := _, pos := _, after := _, guard := _ }) (v := undef) rfl (by kernel_rfl) (by kernel_rfl) (by kernel_rfl) (fun _ _ _ h => h) (Or.inr ⟨by rfl, rfl⟩) hHeld ?_
                        try simp only [Act.put, List.setIfInBounds_toArray, List.set_cons_zero, List.set_cons_succ]
                        refine wpAnyH_take (i := 8) (oi := { dst := some 99, op := _, type := _, pos := _, after := _, guard := _ }) (v := undef) rfl (by kernel_rfl) (by kernel_rfl) (by kernel_rfl) (fun _ _ _ h => h) (Or.inr ⟨by rfl, rfl⟩) hHeld ?_
                        try simp only [Act.put, List.setIfInBounds_toArray, List.set_cons_zero, List.set_cons_succ]
                        refine wpAnyH_take (i := 9) (oi := { dst := some 100, op := _, type := _, pos := _, after := _, guard := _ }) (v := undef) rfl (by kernel_rfl) (by kernel_rfl) (by kernel_rfl) (fun _ _ _ h => h) (Or.inr ⟨by rfl, rfl⟩) hHeld ?_
                        try simp only [Act.put, List.setIfInBounds_toArray, List.set_cons_zero, List.set_cons_succ]
                        refine wpAnyH_take (i := 10) (oi := { dst := some 101, op := _, type := _, pos := _, after := _, guard := _ }) (v := undef) rfl (by kernel_rfl) (by kernel_rfl) (by kernel_rfl) (fun _ _ _ h => h) (Or.inr ⟨by rfl, rfl⟩) hHeld ?_
                        try simp only [Act.put, List.setIfInBounds_toArray, List.set_cons_zero, List.set_cons_succ]
                        refine wpAnyH_take (i := 11) (oi := { dst := some 102, op := _, type := _, pos := _, after := _, guard := _ }) (v := undef) rfl (by kernel_rfl) (by kernel_rfl) (by kernel_rfl) (fun _ _ _ h => h) (Or.inr ⟨by rfl, rfl⟩) hHeld ?_
                        try simp only [Act.put, List.setIfInBounds_toArray, List.set_cons_zero, List.set_cons_succ]
                        refine wpAnyH_take (i := 12) (oi := { dst := some 103, op := _, type := _, pos := _, after := _, guard := _ }) (v := undef) rfl (by kernel_rfl) (by kernel_rfl) (by kernel_rfl) (fun _ _ _ h => h) (Or.inr ⟨by rfl, rfl⟩) hHeld ?_
                        try simp only [Act.put, List.setIfInBounds_toArray, List.set_cons_zero, List.set_cons_succ]
                        refine wpAnyH_take (i := 13) (oi := { dst := some 104, op := _, type := _, pos := _, after := _, guard := _ }) (v := undef) rfl (by kernel_rfl) (by kernel_rfl) (by kernel_rfl) (fun _ _ _ h => h) (Or.inr ⟨by rfl, rfl⟩) hHeld ?_
                        try simp only [Act.put, List.setIfInBounds_toArray, List.set_cons_zero, List.set_cons_succ]
                        refine wpAnyH_take (i := 14) (oi := { dst := some 105, op := _, type := _, pos := _, after := _, guard := _ }) (v := undef) rfl (by kernel_rfl) (by kernel_rfl) (by kernel_rfl) (fun _ _ _ h => h) (Or.inr ⟨by rfl, rfl⟩) hHeld ?_
                        try simp only [Act.put, List.setIfInBounds_toArray, List.set_cons_zero, List.set_cons_succ]
                        refine wpAnyH_take (i := 15) (oi := { dst := some 106, op := _, type := _, pos := _, after := _, guard := _ }) (v := undef) rfl (by kernel_rfl) (by kernel_rfl) (by kernel_rfl) (fun _ _ _ h => h) (Or.inr ⟨by rfl, rfl⟩) hHeld ?_
                        try simp only [Act.put, List.setIfInBounds_toArray, List.set_cons_zero, List.set_cons_succ]
                        refine wpAnyH_take (i := 16) (oi := { dst := some 107, op := _, type := _, pos := _, after := _, guard := _ }) (v := ?v4x17) rfl (by kernel_rfl) (by kernel_rfl) (by kernel_rfl) (fun _ _ _ h => h) (Or.inl ⟨by rfl, ?hy4x17⟩) hHeld ?rest4x17
                        case hy4x17 => (intro w hSw; go_simp <;> with_reducible rfl)
                        try simp only [Act.put, List.setIfInBounds_toArray, List.set_cons_zero, List.set_cons_succ]
                        refine wpAnyH_take (i := 17) (oi := { dst := some 11, op := _, type := _, pos := _, after := _, guard := _ }) (v := ?v4x18) rfl (by kernel_rfl) (by kernel_rfl) (by kernel_rfl) (fun _ _ _ h => h) (Or.inl ⟨by rfl, ?hy4x18⟩) hHeld ?rest4x18
                        case hy4x18 => (intro w hSw; go_simp <;> with_reducible rfl)
                        try simp only [Act.put, List.setIfInBounds_toArray, List.set_cons_zero, List.set_cons_succ]
                        refine wpAnyH_done (by kernel_rfl) ?_ _
                        go_wp2_with fail
                        go_roundg g
                        case measure => omega
                        case rel => exact ⟨j + 1, by omega, by go_num, nxt.out _ rfl, HB.out.drew, HBw.out.drew⟩
                      · by_cases hjk : j = k
                        · have qk : ((j : Int) == (k : Int)) = true := beq_iff_eq.2 (by omega)
                          have qk2 : (j == k) = true := beq_iff_eq.2 hjk
                          have qk3 : decide (j = k) = true := decide_eq_true hjk
                          have Hjk := hide hjk
                          clear hjk
                          go_wp2_with fail
                          refine wp_region_held_drew (S := (fun w' => Below wr.heap.size wr w')) (by kernel_rfl) ?_ (fun hHeld => ?_)
                          · exact (Below.refl _ _).drew
                          refine wpAnyH_take (i := 0) (oi := { dst := some 91, op := _, type := _, pos := _, after := _, guard := _ }) (v := ?v5x1) rfl (by kernel_rfl) (by kernel_rfl) (by kernel_rfl) (fun _ _ _ h => h) (Or.inl ⟨by rfl, ?hy5x1⟩) hHeld ?rest5x1
                          case hy5x1 => (intro w hSw; go_simp <;> with_reducible rfl)
                          try simp only [Act.put, List.setIfInBounds_toArray, List.set_cons_zero, List.set_cons_succ]
                          refine wpAnyH_take (i := 1) (oi := { dst := some 92, op := _, type := _, pos := _, after := _, guard := _ }) (v := ?v5x2) rfl (by kernel_rfl) (by kernel_rfl) (by kernel_rfl) (fun _ _ _ h => h) (Or.inl ⟨by rfl, ?hy5x2⟩) hHeld ?rest5x2
                          case hy5x2 => (intro w hSw; go_simp <;> with_reducible rfl)
                          try simp only [Act.put, List.setIfInBounds_toArray, List.set_cons_zero, List.set_cons_succ]
                          refine wpAnyH_take (i := 2) (oi := { dst := some 93, op := _, type := _, pos := _, after := _, guard := _ }) (v := ?v5x3) rfl (by kernel_rfl) (by kernel_rfl) (by kernel_rfl) (fun _ _ _ h => h) (Or.inl ⟨by rfl, ?hy5x3⟩) hHeld ?rest5x3
                          case hy5x3 => (intro w hSw; go_simp <;> with_reducible rfl)
                          try simp only [Act.put, List.setIfInBounds_toArray, List.set_cons_zero, List.set_cons_succ]
                          refine wpAnyH_take (i := 3) (oi := { dst := some 94, op := _, type := _, pos := _, after := _, guard := _ }) (v := ?v5x4) rfl (by kernel_rfl) (by kernel_rfl) (by kernel_rfl) (fun _ _ _ h => h) (Or.inl ⟨by rfl, ?hy5x4⟩) hHeld ?rest5x4
                          case hy5x4 => (intro w hSw; go_simp <;> with_reducible rfl)
                          try simp only [Act.put, List.setIfInBounds_toArray, List.set_cons_zero, List.set_cons_succ]
                          refine wpAnyH_take (i := 4) (oi := { dst := some 95, op := _, type := _, pos := _, after := _, guard := _ }) (v := ?v5x5) rfl (by kernel_rfl) (by kernel_rfl) (by kernel_rfl) (fun _ _ _ h => h) (Or.inl ⟨by rfl, ?hy5x5⟩) hHeld ?rest5x5
                          case hy5x5 => (intro w hSw; go_simp <;> with_reducible rfl)
                          try simp only [Act.put, List.setIfInBounds_toArray, List.set_cons_zero, List.set_cons_succ]
                          refine wpAnyH_take (i := 5) (oi := { dst := some 96, op := _, type := _, pos := _, after := _, guard := _ }) (v := ?v5x6) rfl (by kernel_rfl) (by kernel_rfl) (by kernel_rfl) (fun _ _ _ h => h) (Or.inl ⟨by rfl, ?hy5x6⟩) hHeld ?rest5x6
                          case hy5x6 => (intro w hSw; go_simp <;> with_reducible rfl)
                          try simp only [Act.put, List.setIfInBounds_toArray, List.set_cons_zero, List.set_cons_succ]
                          refine wpAnyH_take (i := 6) (oi := { dst := some 97, op := _, type := _, pos := _, after := _, guard := _ }) (v := undef) rfl (by kernel_rfl) (by kernel_rfl) (by kernel_rfl) (fun _ _ _ h => h) (Or.inr ⟨by rfl, rfl⟩) hHeld ?_
                          try simp only [Act.put, List.setIfInBounds_toArray, List.set_cons_zero, List.set_cons_succ]
                          refine wpAnyH_take (i := 7) (oi := { dst := some 98, op := _, type := _, pos := _, after := _, guard := _ }) (v := undef) rfl (by kernel_rfl) (by kernel_rfl) (by kernel_rfl) (fun _ _ _ h => h) (Or.inr ⟨by rfl, rfl⟩) hHeld ?_
                          try simp only [Act.put, List.setIfInBounds_toArray, List.set_cons_zero, List.set_cons_succ]
                          refine wpAnyH_take (i := 8) (oi := { dst := some 99, op := _, type := _, pos := _, after := _, guard := _ }) (v := undef) rfl (by kernel_rfl) (by kernel_rfl) (by kernel_rfl) (fun _ _ _ h => h) (Or.inr ⟨by rfl, rfl⟩) hHeld ?_
                          try simp only [Act.put, List.setIfInBounds_toArray, List.set_cons_zero, List.set_cons_succ]
                          refine wpAnyH_take (i := 9) (oi := { dst := some 100, op := _, type := _, pos := _, after := _, guard := _ }) (v := undef) rfl (by kernel_rfl) (by kernel_rfl) (by kernel_rfl) (fun _ _ _ h => h) (Or.inr ⟨by rfl, rfl⟩) hHeld ?_
                          try simp only [Act.put, List.setIfInBounds_toArray, List.set_cons_zero, List.set_cons_succ]
                          refine wpAnyH_take (i := 10) (oi := { dst := some 101, op := _, type := _, pos := _, after := _, guard := _ }) (v := undef) rfl (by kernel_rfl) (by kernel_rfl) (by kernel_rfl) (fun _ _ _ h => h) (Or.inr ⟨by rfl, rfl⟩) hHeld ?_
                          try simp only [Act.put, List.setIfInBounds_toArray, List.set_cons_zero, List.set_cons_succ]
                          refine wpAnyH_take (i := 11) (oi := { dst := some 102, op := _, type := _, pos := _, after := _, guard := _ }) (v := undef) rfl (by kernel_rfl) (by kernel_rfl) (by kernel_rfl) (fun _ _ _ h => h) (Or.inr ⟨by rfl, rfl⟩) hHeld ?_
                          try simp only [Act.put, List.setIfInBounds_toArray, List.set_cons_zero, List.set_cons_succ]
                          refine wpAnyH_take (i := 12) (oi := { dst := some 103, op := _, type := _, pos := _, after := _, guard := _ }) (v := undef) rfl (by kernel_rfl) (by kernel_rfl) (by kernel_rfl) (fun _ _ _ h => h) (Or.inr ⟨by rfl, rfl⟩) hHeld ?_
                          try simp only [Act.put, List.setIfInBounds_toArray, List.set_cons_zero, List.set_cons_succ]
                          refine wpAnyH_take (i := 13) (oi := { dst := some 104, op := _, type := _, pos := _, after := _, guard := _ }) (v := undef) rfl (by kernel_rfl) (by kernel_rfl) (by kernel_rfl) (fun _ _ _ h => h) (Or.inr ⟨by rfl, rfl⟩) hHeld ?_
                          try simp only [Act.put, List.setIfInBounds_toArray, List.set_cons_zero, List.set_cons_succ]
                          refine wpAnyH_take (i := 14) (oi := { dst := some 105, op := _, type := _, pos := _, after := _, guard := _ }) (v := undef) rfl (by kernel_rfl) (by kernel_rfl) (by kernel_rfl) (fun _ _ _ h => h) (Or.inr ⟨by rfl, rfl⟩) hHeld ?_
                          try simp only [Act.put, List.setIfInBounds_toArray, List.set_cons_zero, List.set_cons_succ]
                          refine wpAnyH_take (i := 15) (oi := { dst := some 106, op := _, type := _, pos := _, after := _, guard := _ }) (v := ?v5x16) rfl (by kernel_rfl) (by kernel_rfl) (by kernel_rfl) (fun _ _ _ h => h) (Or.inl ⟨by rfl, ?hy5x16⟩) hHeld ?rest5x16
                          case hy5x16 => (intro w hSw; go_simp <;> with_reducible rfl)
                          try simp only [Act.put, List.setIfInBounds_toArray, List.set_cons_zero, List.set_cons_succ]
                          refine wpAnyH_take (i := 16) (oi := { dst := some 107, op := _, type := _, pos := _, after := _, guard := _ }) (v := ?v5x17) rfl (by kernel_rfl) (by kernel_rfl) (by kernel_rfl) (fun _ _ _ h => h) (Or.inl ⟨by rfl, ?hy5x17⟩) hHeld ?rest5x17
                          case hy5x17 => (intro w hSw; go_simp <;> with_reducible rfl)
                          try simp only [Act.put, List.setIfInBounds_toArray, List.set_cons_zero, List.set_cons_succ]
                          refine wpAnyH_take (i := 17) (oi := { dst := some 11, op := _, type := _, pos := _, after := _, guard := _ }) (v := ?v5x18) rfl (by kernel_rfl) (by kernel_rfl) (by kernel_rfl) (fun _ _ _ h => h) (Or.inl ⟨by rfl, ?hy5x18⟩) hHeld ?rest5x18
                          case hy5x18 => (intro w hSw; go_simp <;> with_reducible rfl)
                          try simp only [Act.put, List.setIfInBounds_toArray, List.set_cons_zero, List.set_cons_succ]
                          refine wpAnyH_done (by kernel_rfl) ?_ _
                          go_wp2_with fail
                          go_roundg g
                          case measure => omega
                          case rel => exact ⟨j + 1, by omega, by go_num, nxt.out true (by rw [decide_eq_true Hjk.out]; rfl), HB.out.drew, HBw.out.drew⟩
                        · have qk : ((j : Int) == (k : Int)) = false := beq_eq_false_iff_ne.2 (by omega)
                          have qk2 : (j == k) = false := beq_eq_false_iff_ne.2 hjk
                          have qk3 : decide (j = k) = false := decide_eq_false hjk
                          have Hjk := hide hjk
                          clear hjk
                          go_wp2_with fail
                          refine wp_region_held_drew (S := (fun w' => Below wr.heap.size wr w')) (by kernel_rfl) ?_ (fun hHeld => ?_)
                          · exact (Below.refl _ _).drew
                          refine wpAnyH_take (i := 0) (oi := { dst := some 91, op := _, type := _, pos := _, after := _, guard := _ }) (v := ?v6x1) rfl (by kernel_rfl) (by kernel_rfl) (by kernel_rfl) (fun _ _ _ h => h) (Or.inl ⟨by rfl, ?hy6x1⟩) hHeld ?rest6x1
                          case hy6x1 => (intro w hSw; go_simp <;> with_reducible rfl)
                          try simp only [Act.put, List.setIfInBounds_toArray, List.set_cons_zero, List.set_cons_succ]
                          refine wpAnyH_take (i := 1) (oi := { dst := some 92, op := _, type := _, pos := _, after := _, guard := _ }) (v := ?v6x2) rfl (by kernel_rfl) (by kernel_rfl) (by kernel_rfl) (fun _ _ _ h => h) (Or.inl ⟨by rfl, ?hy6x2⟩) hHeld ?rest6x2
                          case hy6x2 => (intro w hSw; go_simp <;> with_reducible rfl)
                          try simp only [Act.put, List.setIfInBounds_toArray, List.set_cons_zero, List.set_cons_succ]
                          refine wpAnyH_take (i := 2) (oi := { dst := some 93, op := _, type := _, pos := _, after := _, guard := _ }) (v := ?v6x3) rfl (by kernel_rfl) (by kernel_rfl) (by kernel_rfl) (fun _ _ _ h => h) (Or.inl ⟨by rfl, ?hy6x3⟩) hHeld ?rest6x3
                          case hy6x3 => (intro w hSw; go_simp <;> with_reducible rfl)
                          try simp only [Act.put, List.setIfInBounds_toArray, List.set_cons_zero, List.set_cons_succ]
                          refine wpAnyH_take (i := 3) (oi := { dst := some 94, op := _, type := _, pos := _, after := _, guard := _ }) (v := ?v6x4) rfl (by kernel_rfl) (by kernel_rfl) (by kernel_rfl) (fun _ _ _ h => h) (Or.inl ⟨by rfl, ?hy6x4⟩) hHeld ?rest6x4
                          case hy6x4 => (intro w hSw; go_simp <;> with_reducible rfl)
                          try simp only [Act.put, List.setIfInBounds_toArray, List.set_cons_zero, List.set_cons_succ]
                          refine wpAnyH_take (i := 4) (oi := { dst := some 95, op := _, type := _, pos := _, after := _, guard := _ }) (v := ?v6x5) rfl (by kernel_rfl) (by kernel_rfl) (by kernel_rfl) (fun _ _ _ h => h) (Or.inl ⟨by rfl, ?hy6x5⟩) hHeld ?rest6x5
                          case hy6x5 => (intro w hSw; go_simp <;> with_reducible rfl)
                          try simp only [Act.put, List.setIfInBounds_toArray, List.set_cons_zero, List.set_cons_succ]
                          refine wpAnyH_take (i := 5) (oi := { dst := some 96, op := _, type := _, pos := _, after := _, guard := _ }) (v := ?v6x6) rfl (by kernel_rfl) (by kernel_rfl) (by kernel_rfl) (fun _ _ _ h => h) (Or.inl ⟨by rfl, ?hy6x6⟩) hHeld ?rest6x6
                          case hy6x6 => (intro w hSw; go_simp <;> with_reducible rfl)
                          try simp only [Act.put, List.setIfInBounds_toArray, List.set_cons_zero, List.set_cons_succ]
                          refine wpAnyH_take (i := 6) (oi := { dst := some 97, op := _, type := _, pos := _, after := _, guard := _ }) (v := ?v6x7) rfl (by kernel_rfl) (by kernel_rfl) (by kernel_rfl) (fun _ _ _ h => h) (Or.inl ⟨by rfl, ?hy6x7⟩) hHeld ?rest6x7
                          case hy6x7 => (intro w hSw; go_simp <;> with_reducible rfl)
                          try simp only [Act.put, List.setIfInBounds_toArray, List.set_cons_zero, List.set_cons_succ]
                          refine wpAnyH_take (i := 7) (oi := { dst := some 98, op := _, type := _, pos := _, after := _, guard := _ }) (v := ?v6x8) rfl (by kernel_rfl) (by kernel_rfl) (by kernel_rfl) (fun _ _ _ h => h) (Or.inl ⟨by rfl, ?hy6x8⟩) hHeld ?rest6x8
                          case hy6x8 => (intro w hSw; go_simp <;> with_reducible rfl)
                          try simp only [Act.put, List.setIfInBounds_toArray, List.set_cons_zero, List.set_cons_succ]
                          refine wpAnyH_take (i := 8) (oi := { dst := some 99, op := _, type := _, pos := _, after := _, guard := _ }) (v := ?v6x9) rfl (by kernel_rfl) (by kernel_rfl) (by kernel_rfl) (fun _ _ _ h => h) (Or.inl ⟨by rfl, ?hy6x9⟩) hHeld ?rest6x9
                          case hy6x9 => (intro w hSw; go_simp <;> with_reducible rfl)
                          try simp only [Act.put, List.setIfInBounds_toArray, List.set_cons_zero, List.set_cons_succ]
                          refine wpAnyH_take (i := 9) (oi := { dst := some 100, op := _, type := _, pos := _, after := _, guard := _ }) (v := ?v6x10) rfl (by kernel_rfl) (by kernel_rfl) (by kernel_rfl) (fun _ _ _ h => h) (Or.inl ⟨by rfl, ?hy6x10⟩) hHeld ?rest6x10
                          case hy6x10 => (intro w hSw; go_simp <;> with_reducible rfl)
                          try simp only [Act.put, List.setIfInBounds_toArray, List.set_cons_zero, List.set_cons_succ]
                          refine wpAnyH_take (i := 10) (oi := { dst := some 101, op := _, type := _, pos := _, after := _, guard := _ }) (v := ?v6x11) rfl (by kernel_rfl) (by kernel_rfl) (by kernel_rfl) (fun _ _ _ h => h) (Or.inl ⟨by rfl, ?hy6x11⟩) hHeld ?rest6x11
                          case hy6x11 => (intro w hSw; go_simp <;> with_reducible rfl)
                          try simp only [Act.put, List.setIfInBounds_toArray, List.set_cons_zero, List.set_cons_succ]
                          refine wpAnyH_take (i := 11) (oi := { dst := some 102, op := _, type := _, pos := _, after := _, guard := _ }) (v := ?v6x12) rfl (by kernel_rfl) (by kernel_rfl) (by kernel_rfl) (fun _ _ _ h => h) (Or.inl ⟨by rfl, ?hy6x12⟩) hHeld ?rest6x12
                          case hy6x12 => (intro w hSw; go_simp <;> with_reducible rfl)
                          try simp only [Act.put, List.setIfInBounds_toArray, List.set_cons_zero, List.set_cons_succ]
                          refine wpAnyH_take (i := 12) (oi := { dst := some 103, op := _, type := _, pos := _, after := _, guard := _ }) (v := ?v6x13) rfl (by kernel_rfl) (by kernel_rfl) (by kernel_rfl) (fun _ _ _ h => h) (Or.inl ⟨by rfl, ?hy6x13⟩) hHeld ?rest6x13
                          case hy6x13 => (intro w hSw; go_simp <;> with_reducible rfl)
                          try simp only [Act.put, List.setIfInBounds_toArray, List.set_cons_zero, List.set_cons_succ]
                          refine wpAnyH_take (i := 13) (oi := { dst := some 104, op := _, type := _, pos := _, after := _, guard := _ }) (v := ?v6x14) rfl (by kernel_rfl) (by kernel_rfl) (by kernel_rfl) (fun _ _ _ h => h) (Or.inl ⟨by rfl, ?hy6x14⟩) hHeld ?rest6x14
                          case hy6x14 => (intro w hSw; go_simp <;> with_reducible rfl)
                          try simp only [Act.put, List.setIfInBounds_toArray, List.set_cons_zero, List.set_cons_succ]
                          refine wpAnyH_take (i := 14) (oi := { dst := some 105, op := _, type := _, pos := _, after := _, guard := _ }) (v := ?v6x15) rfl (by kernel_rfl) (by kernel_rfl) (by kernel_rfl) (fun _ _ _ h => h) (Or.inl ⟨by rfl, ?hy6x15⟩) hHeld ?rest6x15
                          case hy6x15 => (intro w hSw; go_simp <;> with_reducible rfl)
                          try simp only [Act.put, List.setIfInBounds_toArray, List.set_cons_zero, List.set_cons_succ]
                          refine wpAnyH_take (i := 15) (oi := { dst := some 106, op := _, type := _, pos := _, after := _, guard := _ }) (v := ?v6x16) rfl (by kernel_rfl) (by kernel_rfl) (by kernel_rfl) (fun _ _ _ h => h) (Or.inl ⟨by rfl, ?hy6x16⟩) hHeld ?rest6x16
                          case hy6x16 => (intro w hSw; go_simp <;> with_reducible rfl)
                          try simp only [Act.put, List.setIfInBounds_toArray, List.set_cons_zero, List.set_cons_succ]
                          refine wpAnyH_take (i := 16) (oi := { dst := some 107, op := _, type := _, pos := _, after := _, guard := _ }) (v := ?v6x17) rfl (by kernel_rfl) (by kernel_rfl) (by kernel_rfl) (fun _ _ _ h => h) (Or.inl ⟨by rfl, ?hy6x17⟩) hHeld ?rest6x17
                          case hy6x17 => (intro w hSw; go_simp <;> with_reducible rfl)
                          try simp only [Act.put, List.setIfInBounds_toArray, List.set_cons_zero, List.set_cons_succ]
                          refine wpAnyH_take (i := 17) (oi := { dst := some 11, op := _, type := _, pos := _, after := _, guard := _ }) (v := ?v6x18) rfl (by kernel_rfl) (by kernel_rfl) (by kernel_rfl) (fun _ _ _ h => h) (Or.inl ⟨by rfl, ?hy6x18⟩) hHeld ?rest6x18
                          case hy6x18 => (intro w hSw; go_simp <;> with_reducible rfl)
                          try simp only [Act.put, List.setIfInBounds_toArray, List.set_cons_zero, List.set_cons_succ]
                          refine wpAnyH_done (by kernel_rfl) ?_ _
                          go_wp2_with fail
                          go_roundg g
                          case measure => omega
                          case rel => exact ⟨j + 1, by omega, by go_num, nxt.out (F == G) (by rw [decide_eq_false Hjk.out, Bool.eq_iff_iff]; simp), HB.out.drew, HBw.out.drew⟩
                · cases Y
                  · obtain rfl : S0 = true := by rw [← HS0.out]; rfl
                    go_wp2_with fail
                    go_loopg [11, 12] (min i m) (fun g q p wr' => ∃ j : Nat, j + g = min i m ∧ p = .int .i64 (j : Int) ∧ q = .bool (true && sameU ls ms k j) ∧ Below w2.heap.size w2 wr' ∧ Below w6.heap.size w6 wr')
                    case atStart => exact ⟨0, by omega, rfl, by first | rfl | (simp [sameU]; done), B6.out, Below.refl _ _⟩
                    case round =>
                      obtain ⟨j, hjg, rfl, rfl, hB, hBw⟩ := hrel
                      have HB := hide hB
                      have HBw := hide hBw
                      clear hB hBw
                      cases gk with
                      | zero =>
                        have q12 : ¬ ((j : Int) < (i : Int)) ∨ ((j : Int) < (i : Int) ∧ ¬ ((j : Int) < (m : Int))) := by omega
                        have hj : j = min i m := by omega
                        have HR : Hid (R = (true && sameU ls ms k j)) := by rw [hj]; exact HWM3
                        generalize (true && sameU ls ms k j) = Sj at *
                        clear hj
                        rcases q12 with q1 | ⟨q1, q2⟩
                        · skip
                          go_wp2_with fail
                          refine (awake12_any _).mono ?_
                          rintro e w7 ⟨rfl, b7⟩
                          have B7 := hide (below_on HB.out b7)
                          clear b7
                          go_wp2_with fail
                          refine (FW'.out _).mono ?_
                          rintro e w8 ⟨rfl, b8⟩
                          have B8 := hide (below_on B7.out b8)
                          clear b8
                          go_wp2_with fail
                          refine (TW.out _).mono ?_
                          rintro e w9 ⟨rfl, b9⟩
                          have B9 := hide (below_on B8.out b9)
                          clear b9
                          go_wp2_with fail
                          go_ret
                          exact ⟨by rw [HR.out]; cases Sj <;> rfl, B9.out⟩
                        · skip
                          go_wp2_with fail
                          refine (awake12_any _).mono ?_
                          rintro e w7 ⟨rfl, b7⟩
                          have B7 := hide (below_on HB.out b7)
                          clear b7
                          go_wp2_with fail
                          refine (FW'.out _).mono ?_
                          rintro e w8 ⟨rfl, b8⟩
                          have B8 := hide (below_on B7.out b8)
                          clear b8
                          go_wp2_with fail
                          refine (TW.out _).mono ?_
                          rintro e w9 ⟨rfl, b9⟩
                          have B9 := hide (below_on B8.out b9)
                          clear b9
                          go_wp2_with fail
                          go_ret
                          exact ⟨by rw [HR.out]; cases Sj <;> rfl, B9.out⟩
                      | succ g =>
                        have q1 : (j : Int) < (i : Int) := by omega
                        have q2 : (j : Int) < (m : Int) := by omega
                        obtain ⟨b, o, rfl, hb2, hb3⟩ := HR16.out.at_ (k := j) (by omega)
                        obtain ⟨b', o', rfl, hb2', hb3'⟩ := HR2.out.at_ (k := j) (by omega)
                        have hltl : j < ls.length := by have := HN.out; omega
                        have hltm : j < ms.length := by have := HM.out; omega
                        have hc := (HBw.out.cell (p := ⟨b, o + j, none⟩) hb2).trans (hb3 j _ (sv_get ls j hltl))
                        have hc' := (HBw.out.cell (p := ⟨b', o' + j, none⟩) hb2').trans (hb3' j _ (sv_get ms j hltm))
                        have hsu := sameU_succ ls ms k j
                        rw [List.getElem?_eq_getElem hltl, List.getElem?_eq_getElem hltm] at hsu
                        obtain ⟨F, hF⟩ : ∃ F, ls[j]'hltl = F := ⟨_, rfl⟩
                        obtain ⟨G, hG⟩ : ∃ G, ms[j]'hltm = G := ⟨_, rfl⟩
                        rw [hF, hG] at hsu
                        rw [hF] at hc
                        rw [hG] at hc'
                        have hbz : b < wr.heap.size := Nat.lt_of_lt_of_le hb2 HBw.out.size
                        have hbz' : b' < wr.heap.size := Nat.lt_of_lt_of_le hb2' HBw.out.size
                        have hcW : ∀ w', Below wr.heap.size wr w' → w'.cell? ⟨b, o + j, none⟩ = some (.string (str F)) := fun w' h => (h.cell (p := ⟨b, o + j, none⟩) hbz).trans hc
                        have hcW' : ∀ w', Below wr.heap.size wr w' → w'.cell? ⟨b', o' + j, none⟩ = some (.string (str G)) := fun w' h => (h.cell (p := ⟨b', o' + j, none⟩) hbz').trans hc'
                        have HSU := hide hsu
                        clear hsu hF hG hb3 hb3' hc hc'
                        generalize hSj : (true && sameU ls ms k j) = Sj at *
                        have HSj := hide hSj
                        clear hSj
                        have nxt : Hid (∀ v, v = (Sj && (decide (j = k) || decide (F = G))) → Value.bool v = .bool (true && sameU ls ms k (j + 1))) := by
                          refine hide fun v hv => ?_
                          rw [HSU.out, hv, ← HSj.out, Bool.and_assoc]
                          simp
                        clear HSU HSj
                        cases Sj
                        · go_wp2_with fail
                          refine wp_region_held_drew (S := (fun w' => Below wr.heap.size wr w')) (by kernel_rfl) ?_ (fun hHeld => ?_)
                          · exact (Below.refl _ _).drew
                          refine wpAnyH_take (i := 0) (oi := { dst := some 91, op := _, type := _, pos := _, after := _, guard := _ }) (v := ?v7x1) rfl (by kernel_rfl) (by kernel_rfl) (by kernel_rfl) (fun _ _ _ h => h) (Or.inl ⟨by rfl, ?hy7x1⟩) hHeld ?rest7x1
                          case hy7x1 => (intro w hSw; go_simp <;> with_reducible rfl)
                          try simp only [Act.put, List.setIfInBounds_toArray, List.set_cons_zero, List.set_cons_succ]
                          refine wpAnyH_take (i := 1) (oi := { dst := some 92, op := _, type := _, pos := _, after := _, guard := _ }) (v := ?v7x2) rfl (by kernel_rfl) (by kernel_rfl) (by kernel_rfl) (fun _ _ _ h => h) (Or.inl ⟨by rfl, ?hy7x2⟩) hHeld ?rest7x2
                          case hy7x2 => (intro w hSw; go_simp <;> with_reducible rfl)
                          try simp only [Act.put, List.setIfInBounds_toArray, List.set_cons_zero, List.set_cons_succ]
                          refine wpAnyH_take (i := 2) (oi := { dst := some 93, op := _, type := _, pos := _, after := _, guard := _ }) (v := undef) rfl (by kernel_rfl) (by kernel_rfl) (by kernel_rfl) (fun _ _ _ h => h) (Or.inr ⟨by rfl, rfl⟩) hHeld ?_
                          try simp only [Act.put, List.setIfInBounds_toArray, List.set_cons_zero, List.set_cons_succ]
                          refine wpAnyH_take (i := 3) (oi := { dst := some 94, op := _, type := _, pos := _, after := _, guard := _ }) (v := undef) rfl (by kernel_rfl) (by kernel_rfl) (by kernel_rfl) (fun _ _ _ h => h) (Or.inr ⟨by rfl, rfl⟩) hHeld ?_
                          try simp only [Act.put, List.setIfInBounds_toArray, List.set_cons_zero, List.set_cons_succ]
                          refine wpAnyH_take (i := 4) (oi := { dst := some 95, op := _, type := _, pos := _, after := _, guard := _ }) (v := undef) rfl (by kernel_rfl) (by kernel_rfl) (by kernel_rfl) (fun _ _ _ h => h) (Or.inr ⟨by rfl, rfl⟩) hHeld ?_
                          try simp only [Act.put, List.setIfInBounds_toArray, List.set_cons_zero, List.set_cons_succ]
                          refine wpAnyH_take (i := 5) (oi := { dst := some 96, op := _, type := _, pos := _, after := _, guard := _ }) (v := undef) rfl (by kernel_rfl) (by kernel_rfl) (by kernel_rfl) (fun _ _ _ h => h) (Or.inr ⟨by rfl, rfl⟩) hHeld ?_
                          try simp only [Act.put, List.setIfInBounds_toArray, List.set_cons_zero, List.set_cons_succ]
                          refine wpAnyH_take (i := 6) (oi := { dst := some 97, op := _, type := _, pos := _, after := _, guard := _ }) (v := undef) rfl (by kernel_rfl) (by kernel_rfl) (by kernel_rfl) (fun _ _ _ h => h) (Or.inr ⟨by rfl, rfl⟩) hHeld ?_
                          try simp only [Act.put, List.setIfInBounds_toArray, List.set_cons_zero, List.set_cons_succ]
                          refine wpAnyH_take (i := 7) (oi := { dst := some 98, op := _, type := _, pos := _, after := _, guard := _ }) (v := undef) rfl (by kernel_rfl) (by kernel_rfl) (by kernel_rfl) (fun _ _ _ h => h) (Or.inr ⟨by rfl, rfl⟩) hHeld ?_
                          try simp only [Act.put, List.setIfInBounds_toArray, List.set_cons_zero, List.set_cons_succ]
                          refine wpAnyH_take (i := 8) (oi := { dst := some 99, op := _, type := _, pos := _, after := _, guard := _ }) (v := undef) rfl (by kernel_rfl) (by kernel_rfl) (by kernel_rfl) (fun _ _ _ h => h) (Or.inr ⟨by rfl, rfl⟩) hHeld ?_
                          try simp only [Act.put, List.setIfInBounds_toArray, List.set_cons_zero, List.set_cons_succ]
                          refine wpAnyH_take (i := 9) (oi := { dst := some 100, op := _, type := _, pos := _, after := _, guard := _ }) (v := undef) rfl (by kernel_rfl) (by kernel_rfl) (by kernel_rfl) (fun _ _ _ h => h) (Or.inr ⟨by rfl, rfl⟩) hHeld ?_
                          try simp only [Act.put, List.setIfInBounds_toArray, List.set_cons_zero, List.set_cons_succ]
                          refine wpAnyH_take (i := 10) (oi := { dst := some 101, op := _, type := _, pos := _, after := _, guard := _ }) (v := undef) rfl (by kernel_rfl) (by kernel_rfl) (by kernel_rfl) (fun _ _ _ h => h) (Or.inr ⟨by rfl, rfl⟩) hHeld ?_
                          try simp only [Act.put, List.setIfInBounds_toArray, List.set_cons_zero, List.set_cons_succ]
                          refine wpAnyH_take (i := 11) (oi := { dst := some 102, op := _, type := _, pos := _, after := _, guard := _ }) (v := undef) rfl (by kernel_rfl) (by kernel_rfl) (by kernel_rfl) (fun _ _ _ h => h) (Or.inr ⟨by rfl, rfl⟩) hHeld ?_
                          try simp only [Act.put, List.setIfInBounds_toArray, List.set_cons_zero, List.set_cons_succ]
                          refine wpAnyH_take (i := 12) (oi := { dst := some 103, op := _, type := _, pos := _, after := _, guard := _ }) (v := undef) rfl (by kernel_rfl) (by kernel_rfl) (by kernel_rfl) (fun _ _ _ h => h) (Or.inr ⟨by rfl, rfl⟩) hHeld ?_
                          try simp only [Act.put, List.setIfInBounds_toArray, List.set_cons_zero, List.set_cons_succ]
                          refine wpAnyH_take (i := 13) (oi := { dst := some 104, op := _, type := _, pos := _, after := _, guard := _ }) (v := undef) rfl (by kernel_rfl) (by kernel_rfl) (by kernel_rfl) (fun _ _ _ h => h) (Or.inr ⟨by rfl, rfl⟩) hHeld ?_
                          try simp only [Act.put, List.setIfInBounds_toArray, List.set_cons_zero, List.set_cons_succ]
                          refine wpAnyH_take (i := 14) (oi := { dst := some 105, op := _, type := _, pos := _, after := _, guard := _ }) (v := undef) rfl (by kernel_rfl) (by kernel_rfl) (by kernel_rfl) (fun _ _ _ h => h) (Or.inr ⟨by rfl, rfl⟩) hHeld ?_
                          try simp only [Act.put, List.setIfInBounds_toArray, List.set_cons_zero, List.set_cons_succ]
                          refine wpAnyH_take (i := 15) (oi := { dst := some 106, op := _, type := _, pos := _, after := _, guard := _ }) (v := undef) rfl (by kernel_rfl) (by kernel_rfl) (by kernel_rfl) (fun _ _ _ h => h) (Or.inr ⟨by rfl, rfl⟩) hHeld ?_
                          try simp only [Act.put, List.setIfInBounds_toArray, List.set_cons_zero, List.set_cons_succ]
                          refine wpAnyH_take (i := 16) (oi := { dst := some 107, op := _, type := _, pos := _, after := _, guard := _ }) (v := ?v7x17) rfl (by kernel_rfl) (by kernel_rfl) (by kernel_rfl) (fun _ _ _ h => h) (Or.inl ⟨by rfl, ?hy7x17⟩) hHeld ?rest7x17
                          case hy7x17 => (intro w hSw; go_simp <;> with_reducible rfl)
                          try simp only [Act.put, List.setIfInBounds_toArray, List.set_cons_zero, List.set_cons_succ]
                          refine wpAnyH_take (i := 17) (oi := { dst := some 11, op := _, type := _, pos := _, after := _, guard := _ }) (v := ?v7x18) rfl (by kernel_rfl) (by kernel_rfl) (by kernel_rfl) (fun _ _ _ h => h) (Or.inl ⟨by rfl, ?hy7x18⟩) hHeld ?rest7x18
                          case hy7x18 => (intro w hSw; go_simp <;> with_reducible rfl)
                          try simp only [Act.put, List.setIfInBounds_toArray, List.set_cons_zero, List.set_cons_succ]
                          refine wpAnyH_done (by kernel_rfl) ?_ _
                          go_wp2_with fail
                          go_roundg g
                          case measure => omega
                          case rel => exact ⟨j + 1, by omega, by go_num, nxt.out _ rfl, HB.out.drew, HBw.out.drew⟩
                        · by_cases hjk : j = k
                          · have qk : ((j : Int) == (k : Int)) = true := beq_iff_eq.2 (by omega)
                            have qk2 : (j == k) = true := beq_iff_eq.2 hjk
                            have qk3 : decide (j = k) = true := decide_eq_true hjk
                            have Hjk := hide hjk
                            clear hjk
                            go_wp2_with fail
                            refine wp_region_held_drew (S := (fun w' => Below wr.heap.size wr w')) (by kernel_rfl) ?_ (fun hHeld => ?_)
                            · exact (Below.refl _ _).drew
                            refine wpAnyH_take (i := 0) (oi := { dst := some 91, op := _, type := _, pos := _, after := _, guard := _ }) (v := ?v8x1) rfl (by kernel_rfl) (by kernel_rfl) (by kernel_rfl) (fun _ _ _ h => h) (Or.inl ⟨by rfl, ?hy8x1⟩) hHeld ?rest8x1
                            case hy8x1 => (intro w hSw; go_simp <;> with_reducible rfl)
                            try simp only [Act.put, List.setIfInBounds_toArray, List.set_cons_zero, List.set_cons_succ]
                            refine wpAnyH_take (i := 1) (oi := { dst := some 92, op := _, type := _, pos := _, after := _, guard := _ }) (v := ?v8x2) rfl (by kernel_rfl) (by kernel_rfl) (by kernel_rfl) (fun _ _ _ h => h) (Or.inl ⟨by rfl, ?hy8x2⟩) hHeld ?rest8x2
                            case hy8x2 => (intro w hSw; go_simp <;> with_reducible rfl)
                            try simp only [Act.put, List.setIfInBounds_toArray, List.set_cons_zero, List.set_cons_succ]
                            refine wpAnyH_take (i := 2) (oi := { dst := some 93, op := _, type := _, pos := _, after := _, guard := _ }) (v := ?v8x3) rfl (by kernel_rfl) (by kernel_rfl) (by kernel_rfl) (fun _ _ _ h => h) (Or.inl ⟨by rfl, ?hy8x3⟩) hHeld ?rest8x3
                            case hy8x3 => (intro w hSw; go_simp <;> with_reducible rfl)
                            try simp only [Act.put, List.setIfInBounds_toArray, List.set_cons_zero, List.set_cons_succ]
                            refine wpAnyH_take (i := 3) (oi := { dst := some 94, op := _, type := _, pos := _, after := _, guard := _ }) (v := ?v8x4) rfl (by kernel_rfl) (by kernel_rfl) (by kernel_rfl) (fun _ _ _ h => h) (Or.inl ⟨by rfl, ?hy8x4⟩) hHeld ?rest8x4
                            case hy8x4 => (intro w hSw; go_simp <;> with_reducible rfl)
                            try simp only [Act.put, List.setIfInBounds_toArray, List.set_cons_zero, List.set_cons_succ]
                            refine wpAnyH_take (i := 4) (oi := { dst := some 95, op := _, type := _, pos := _, after := _, guard := _ }) (v := ?v8x5) rfl (by kernel_rfl) (by kernel_rfl) (by kernel_rfl) (fun _ _ _ h => h) (Or.inl ⟨by rfl, ?hy8x5⟩) hHeld ?rest8x5
                            case hy8x5 => (intro w hSw; go_simp <;> with_reducible rfl)
                            try simp only [Act.put, List.setIfInBounds_toArray, List.set_cons_zero, List.set_cons_succ]
                            refine wpAnyH_take (i := 5) (oi := { dst := some 96, op := _, type := _, pos := _, after := _, guard := _ }) (v := ?v8x6) rfl (by kernel_rfl) (by kernel_rfl) (by kernel_rfl) (fun _ _ _ h => h) (Or.inl ⟨by rfl, ?hy8x6⟩) hHeld ?rest8x6
                            case hy8x6 => (intro w hSw; go_simp <;> with_reducible rfl)
                            try simp only [Act.put, List.setIfInBounds_toArray, List.set_cons_zero, List.set_cons_succ]
                            refine wpAnyH_take (i := 6) (oi := { dst := some 97, op := _, type := _, pos := _, after := _, guard := _ }) (v := undef) rfl (by kernel_rfl) (by kernel_rfl) (by kernel_rfl) (fun _ _ _ h => h) (Or.inr ⟨by rfl, rfl⟩) hHeld ?_
                            try simp only [Act.put, List.setIfInBounds_toArray, List.set_cons_zero, List.set_cons_succ]
                            refine wpAnyH_take (i := 7) (oi := { dst := some 98, op := _, type := _, pos := _, after := _, guard := _ }) (v := undef) rfl (by kernel_rfl) (by kernel_rfl) (by kernel_rfl) (fun _ _ _ h => h) (Or.inr ⟨by rfl, rfl⟩) hHeld ?_
                            try simp only [Act.put, List.setIfInBounds_toArray, List.set_cons_zero, List.set_cons_succ]
                            refine wpAnyH_take (i := 8) (oi := { dst := some 99, op := _, type := _, pos := _, after := _, guard := _ }) (v := undef) rfl (by kernel_rfl) (by kernel_rfl) (by kernel_rfl) (fun _ _ _ h => h) (Or.inr ⟨by rfl, rfl⟩) hHeld ?_
                            try simp only [Act.put, List.setIfInBounds_toArray, List.set_cons_zero, List.set_cons_succ]
                            refine wpAnyH_take (i := 9) (oi := { dst := some 100, op := _, type := _, pos := _, after := _, guard := _ }) (v := undef) rfl (by kernel_rfl) (by kernel_rfl) (by kernel_rfl) (fun _ _ _ h => h) (Or.inr ⟨by rfl, rfl⟩) hHeld ?_
                            try simp only [Act.put, List.setIfInBounds_toArray, List.set_cons_zero, List.set_cons_succ]
                            refine wpAnyH_take (i := 10) (oi := { dst := some 101, op := _, type := _, pos := _, after := _, guard := _ }) (v := undef) rfl (by kernel_rfl) (by kernel_rfl) (by kernel_rfl) (fun _ _ _ h => h) (Or.inr ⟨by rfl, rfl⟩) hHeld ?_
                            try simp only [Act.put, List.setIfInBounds_toArray, List.set_cons_zero, List.set_cons_succ]
                            refine wpAnyH_take (i := 11) (oi := { dst := some 102, op := _, type := _, pos := _, after := _, guard := _ }) (v := undef) rfl (by kernel_rfl) (by kernel_rfl) (by kernel_rfl) (fun _ _ _ h => h) (Or.inr ⟨by rfl, rfl⟩) hHeld ?_
                            try simp only [Act.put, List.setIfInBounds_toArray, List.set_cons_zero, List.set_cons_succ]
                            refine wpAnyH_take (i := 12) (oi := { dst := some 103, op := _, type := _, pos := _, after := _, guard := _ }) (v := undef) rfl (by kernel_rfl) (by kernel_rfl) (by kernel_rfl) (fun _ _ _ h => h) (Or.inr ⟨by rfl, rfl⟩) hHeld ?_
                            try simp only [Act.put, List.setIfInBounds_toArray, List.set_cons_zero, List.set_cons_succ]
                            refine wpAnyH_take (i := 13) (oi := { dst := some 104, op := _, type := _, pos := _, after := _, guard := _ }) (v := undef) rfl (by kernel_rfl) (by kernel_rfl) (by kernel_rfl) (fun _ _ _ h => h) (Or.inr ⟨by rfl, rfl⟩) hHeld ?_
                            try simp only [Act.put, List.setIfInBounds_toArray, List.set_cons_zero, List.set_cons_succ]
                            refine wpAnyH_take (i := 14) (oi := { dst := some 105, op := _, type := _, pos := _, after := _, guard := _ }) (v := undef) rfl (by kernel_rfl) (by kernel_rfl) (by kernel_rfl) (fun _ _ _ h => h) (Or.inr ⟨by rfl, rfl⟩) hHeld ?_
                            try simp only [Act.put, List.setIfInBounds_toArray, List.set_cons_zero, List.set_cons_succ]
                            refine wpAnyH_take (i := 15) (oi := { dst := some 106, op := _, type := _, pos := _, after := _, guard := _ }) (v := ?v8x16) rfl (by kernel_rfl) (by kernel_rfl) (by kernel_rfl) (fun _ _ _ h => h) (Or.inl ⟨by rfl, ?hy8x16⟩) hHeld ?rest8x16
                            case hy8x16 => (intro w hSw; go_simp <;> with_reducible rfl)
                            try simp only [Act.put, List.setIfInBounds_toArray, List.set_cons_zero, List.set_cons_succ]
                            refine wpAnyH_take (i := 16) (oi := { dst := some 107, op := _, type := _, pos := _, after := _, guard := _ }) (v := ?v8x17) rfl (by kernel_rfl) (by kernel_rfl) (by kernel_rfl) (fun _ _ _ h => h) (Or.inl ⟨by rfl, ?hy8x17⟩) hHeld ?rest8x17
                            case hy8x17 => (intro w hSw; go_simp <;> with_reducible rfl)
                            try simp only [Act.put, List.setIfInBounds_toArray, List.set_cons_zero, List.set_cons_succ]
                            refine wpAnyH_take (i := 17) (oi := { dst := some 11, op := _, type := _, pos := _, after := _, guard := _ }) (v := ?v8x18) rfl (by kernel_rfl) (by kernel_rfl) (by kernel_rfl) (fun _ _ _ h => h) (Or.inl ⟨by rfl, ?hy8x18⟩) hHeld ?rest8x18
                            case hy8x18 => (intro w hSw; go_simp <;> with_reducible rfl)
                            try simp only [Act.put, List.setIfInBounds_toArray, List.set_cons_zero, List.set_cons_succ]
                            refine wpAnyH_done (by kernel_rfl) ?_ _
                            go_wp2_with fail
                            go_roundg g
                            case measure => omega
                            case rel => exact ⟨j + 1, by omega, by go_num, nxt.out true (by rw [decide_eq_true Hjk.out]; rfl), HB.out.drew, HBw.out.drew⟩
                          · have qk : ((j : Int) == (k : Int)) = false := beq_eq_false_iff_ne.2 (by omega)
                            have qk2 : (j == k) = false := beq_eq_false_iff_ne.2 hjk
                            have qk3 : decide (j = k) = false := decide_eq_false hjk
                            have Hjk := hide hjk
                            clear hjk
                            go_wp2_with fail
                            refine wp_region_held_drew (S := (fun w' => Below wr.heap.size wr w')) (by kernel_rfl) ?_ (fun hHeld => ?_)
                            · exact (Below.refl _ _).drew
                            refine wpAnyH_take (i := 0) (oi := { dst := some 91, op := _, type := _, pos := _, after := _, guard := _ }) (v := ?v9x1) rfl (by kernel_rfl) (by kernel_rfl) (by kernel_rfl) (fun _ _ _ h => h) (Or.inl ⟨by rfl, ?hy9x1⟩) hHeld ?rest9x1
                            case hy9x1 => (intro w hSw; go_simp <;> with_reducible rfl)
                            try simp only [Act.put, List.setIfInBounds_toArray, List.set_cons_zero, List.set_cons_succ]
                            refine wpAnyH_take (i := 1) (oi := { dst := some 92, op := _, type := _, pos := _, after := _, guard := _ }) (v := ?v9x2) rfl (by kernel_rfl) (by kernel_rfl) (by kernel_rfl) (fun _ _ _ h => h) (Or.inl ⟨by rfl, ?hy9x2⟩) hHeld ?rest9x2
                            case hy9x2 => (intro w hSw; go_simp <;> with_reducible rfl)
                            try simp only [Act.put, List.setIfInBounds_toArray, List.set_cons_zero, List.set_cons_succ]
                            refine wpAnyH_take (i := 2) (oi := { dst := some 93, op := _, type := _, pos := _, after := _, guard := _ }) (v := ?v9x3) rfl (by kernel_rfl) (by kernel_rfl) (by kernel_rfl) (fun _ _ _ h => h) (Or.inl ⟨by rfl, ?hy9x3⟩) hHeld ?rest9x3
                            case hy9x3 => (intro w hSw; go_simp <;> with_reducible rfl)
                            try simp only [Act.put, List.setIfInBounds_toArray, List.set_cons_zero, List.set_cons_succ]
                            refine wpAnyH_take (i := 3) (oi := { dst := some 94, op := _, type := _, pos := _, after := _, guard := _ }) (v := ?v9x4) rfl (by kernel_rfl) (by kernel_rfl) (by kernel_rfl) (fun _ _ _ h => h) (Or.inl ⟨by rfl, ?hy9x4⟩) hHeld ?rest9x4
                            case hy9x4 => (intro w hSw; go_simp <;> with_reducible rfl)
                            try simp only [Act.put, List.setIfInBounds_toArray, List.set_cons_zero, List.set_cons_succ]
                            refine wpAnyH_take (i := 4) (oi := { dst := some 95, op := _, type := _, pos := _, after := _, guard := _ }) (v := ?v9x5) rfl (by kernel_rfl) (by kernel_rfl) (by kernel_rfl) (fun _ _ _ h => h) (Or.inl ⟨by rfl, ?hy9x5⟩) hHeld ?rest9x5
                            case hy9x5 => (intro w hSw; go_simp <;> with_reducible rfl)
                            try simp only [Act.put, List.setIfInBounds_toArray, List.set_cons_zero, List.set_cons_succ]
                            refine wpAnyH_take (i := 5) (oi := { dst := some 96, op := _, type := _, pos := _, after := _, guard := _ }) (v := ?v9x6) rfl (by kernel_rfl) (by kernel_rfl) (by kernel_rfl) (fun _ _ _ h => h) (Or.inl ⟨by rfl, ?hy9x6⟩) hHeld ?rest9x6
                            case hy9x6 => (intro w hSw; go_simp <;> with_reducible rfl)
                            try simp only [Act.put, List.setIfInBounds_toArray, List.set_cons_zero, List.set_cons_succ]
                            refine wpAnyH_take (i := 6) (oi := { dst := some 97, op := _, type := _, pos := _, after := _, guard := _ }) (v := ?v9x7) rfl (by kernel_rfl) (by kernel_rfl) (by kernel_rfl) (fun _ _ _ h => h) (Or.inl ⟨by rfl, ?hy9x7⟩) hHeld ?rest9x7
                            case hy9x7 => (intro w hSw; go_simp <;> with_reducible rfl)
                            try simp only [Act.put, List.setIfInBounds_toArray, List.set_cons_zero, List.set_cons_succ]
                            refine wpAnyH_take (i := 7) (oi := { dst := some 98, op := _, type := _, pos := _, after := _, guard := _ }) (v := ?v9x8) rfl (by kernel_rfl) (by kernel_rfl) (by kernel_rfl) (fun _ _ _ h => h) (Or.inl ⟨by rfl, ?hy9x8⟩) hHeld ?rest9x8
                            case hy9x8 => (intro w hSw; go_simp <;> with_reducible rfl)
                            try simp only [Act.put, List.setIfInBounds_toArray, List.set_cons_zero, List.set_cons_succ]
                            refine wpAnyH_take (i := 8) (oi := { dst := some 99, op := _, type := _, pos := _, after := _, guard := _ }) (v := ?v9x9) rfl (by kernel_rfl) (by kernel_rfl) (by kernel_rfl) (fun _ _ _ h => h) (Or.inl ⟨by rfl, ?hy9x9⟩) hHeld ?rest9x9
                            case hy9x9 => (intro w hSw; go_simp <;> with_reducible rfl)
                            try simp only [Act.put, List.setIfInBounds_toArray, List.set_cons_zero, List.set_cons_succ]
                            refine wpAnyH_take (i := 9) (oi := { dst := some 100, op := _, type := _, pos := _, after := _, guard := _ }) (v := ?v9x10) rfl (by kernel_rfl) (by kernel_rfl) (by kernel_rfl) (fun _ _ _ h => h) (Or.inl ⟨by rfl, ?hy9x10⟩) hHeld ?rest9x10
                            case hy9x10 => (intro w hSw; go_simp <;> with_reducible rfl)
                            try simp only [Act.put, List.setIfInBounds_toArray, List.set_cons_zero, List.set_cons_succ]
                            refine wpAnyH_take (i := 10) (oi := { dst := some 101, op := _, type := _, pos := _, after := _, guard := _ }) (v := ?v9x11) rfl (by kernel_rfl) (by kernel_rfl) (by kernel_rfl) (fun _ _ _ h => h) (Or.inl ⟨by rfl, ?hy9x11⟩) hHeld ?rest9x11
                            case hy9x11 => (intro w hSw; go_simp <;> with_reducible rfl)
                            try simp only [Act.put, List.setIfInBounds_toArray, List.set_cons_zero, List.set_cons_succ]
                            refine wpAnyH_take (i := 11) (oi := { dst := some 102, op := _, type := _, pos := _, after := _, guard := _ }) (v := ?v9x12) rfl (by kernel_rfl) (by kernel_rfl) (by kernel_rfl) (fun _ _ _ h => h) (Or.inl ⟨by rfl, ?hy9x12⟩) hHeld ?rest9x12
                            case hy9x12 => (intro w hSw; go_simp <;> with_reducible rfl)
                            try simp only [Act.put, List.setIfInBounds_toArray, List.set_cons_zero, List.set_cons_succ]
                            refine wpAnyH_take (i := 12) (oi := { dst := some 103, op := _, type := _, pos := _, after := _, guard := _ }) (v := ?v9x13) rfl (by kernel_rfl) (by kernel_rfl) (by kernel_rfl) (fun _ _ _ h => h) (Or.inl ⟨by rfl, ?hy9x13⟩) hHeld ?rest9x13
                            case hy9x13 => (intro w hSw; go_simp <;> with_reducible rfl)
                            try simp only [Act.put, List.setIfInBounds_toArray, List.set_cons_zero, List.set_cons_succ]
                            refine wpAnyH_take (i := 13) (oi := { dst := some 104, op := _, type := _, pos := _, after := _, guard := _ }) (v := ?v9x14) rfl (by kernel_rfl) (by kernel_rfl) (by kernel_rfl) (fun _ _ _ h => h) (Or.inl ⟨by rfl, ?hy9x14⟩) hHeld ?rest9x14
                            case hy9x14 => (intro w hSw; go_simp <;> with_reducible rfl)
                            try simp only [Act.put, List.setIfInBounds_toArray, List.set_cons_zero, List.set_cons_succ]
                            refine wpAnyH_take (i := 14) (oi := { dst := some 105, op := _, type := _, pos := _, after := _, guard := _ }) (v := ?v9x15) rfl (by kernel_rfl) (by kernel_rfl) (by kernel_rfl) (fun _ _ _ h => h) (Or.inl ⟨by rfl, ?hy9x15⟩) hHeld ?rest9x15
                            case hy9x15 => (intro w hSw; go_simp <;> with_reducible rfl)
                            try simp only [Act.put, List.setIfInBounds_toArray, List.set_cons_zero, List.set_cons_succ]
                            refine wpAnyH_take (i := 15) (oi := { dst := some 106, op := _, type := _, pos := _, after := _, guard := _ }) (v := ?v9x16) rfl (by kernel_rfl) (by kernel_rfl) (by kernel_rfl) (fun _ _ _ h => h) (Or.inl ⟨by rfl, ?hy9x16⟩) hHeld ?rest9x16
                            case hy9x16 => (intro w hSw; go_simp <;> with_reducible rfl)
                            try simp only [Act.put, List.setIfInBounds_toArray, List.set_cons_zero, List.set_cons_succ]
                            refine wpAnyH_take (i := 16) (oi := { dst := some 107, op := _, type := _, pos := _, after := _, guard := _ }) (v := ?v9x17) rfl (by kernel_rfl) (by kernel_rfl) (by kernel_rfl) (fun _ _ _ h => h) (Or.inl ⟨by rfl, ?hy9x17⟩) hHeld ?rest9x17
                            case hy9x17 => (intro w hSw; go_simp <;> with_reducible rfl)
                            try simp only [Act.put, List.setIfInBounds_toArray, List.set_cons_zero, List.set_cons_succ]
                            refine wpAnyH_take (i := 17) (oi := { dst := some 11, op := _, type := _, pos := _, after := _, guard := _ }) (v := ?v9x18) rfl (by kernel_rfl) (by kernel_rfl) (by kernel_rfl) (fun _ _ _ h => h) (Or.inl ⟨by rfl, ?hy9x18⟩) hHeld ?rest9x18
                            case hy9x18 => (intro w hSw; go_simp <;> with_reducible rfl)
                            try simp only [Act.put, List.setIfInBounds_toArray, List.set_cons_zero, List.set_cons_succ]
                            refine wpAnyH_done (by kernel_rfl) ?_ _
                            go_wp2_with fail
                            go_roundg g
                            case measure => omega
                            case rel => exact ⟨j + 1, by omega, by go_num, nxt.out (F == G) (by rw [decide_eq_false Hjk.out, Bool.eq_iff_iff]; simp), HB.out.drew, HBw.out.drew⟩
                  · obtain rfl : S0 = false := by rw [← HS0.out]; rfl
                    go_wp2_with fail
                    go_loopg [11, 12] (min i m) (fun g q p wr' => ∃ j : Nat, j + g = min i m ∧ p = .int .i64 (j : Int) ∧ q = .bool (false && sameU ls ms k j) ∧ Below w2.heap.size w2 wr' ∧ Below w6.heap.size w6 wr')
                    case atStart => exact ⟨0, by omega, rfl, by first | rfl | (simp [sameU]; done), B6.out, Below.refl _ _⟩
                    case round =>
                      obtain ⟨j, hjg, rfl, rfl, hB, hBw⟩ := hrel
                      have HB := hide hB
                      have HBw := hide hBw
                      clear hB hBw
                      cases gk with
                      | zero =>
                        have q12 : ¬ ((j : Int) < (i : Int)) ∨ ((j : Int) < (i : Int) ∧ ¬ ((j : Int) < (m : Int))) := by omega
                        have hj : j = min i m := by omega
                        have HR : Hid (R = (false && sameU ls ms k j)) := by rw [hj]; exact HWM3
                        generalize (false && sameU ls ms k j) = Sj at *
                        clear hj
                        rcases q12 with q1 | ⟨q1, q2⟩
                        · skip
                          go_wp2_with fail
                          refine (awake12_any _).mono ?_
                          rintro e w7 ⟨rfl, b7⟩
                          have B7 := hide (below_on HB.out b7)
                          clear b7
                          go_wp2_with fail
                          refine (FW'.out _).mono ?_
                          rintro e w8 ⟨rfl, b8⟩
                          have B8 := hide (below_on B7.out b8)
                          clear b8
                          go_wp2_with fail
                          refine (TW.out _).mono ?_
                          rintro e w9 ⟨rfl, b9⟩
                          have B9 := hide (below_on B8.out b9)
                          clear b9
                          go_wp2_with fail
                          go_ret
                          exact ⟨by rw [HR.out]; cases Sj <;> rfl, B9.out⟩
                        · skip
                          go_wp2_with fail
                          refine (awake12_any _).mono ?_
                          rintro e w7 ⟨rfl, b7⟩
                          have B7 := hide (below_on HB.out b7)
                          clear b7
                          go_wp2_with fail
                          refine (FW'.out _).mono ?_
                          rintro e w8 ⟨rfl, b8⟩
                          have B8 := hide (below_on B7.out b8)
                          clear b8
                          go_wp2_with fail
                          refine (TW.out _).mono ?_
                          rintro e w9 ⟨rfl, b9⟩
                          have B9 := hide (below_on B8.out b9)
                          clear b9
                          go_wp2_with fail
                          go_ret
                          exact ⟨by rw [HR.out]; cases Sj <;> rfl, B9.out⟩
                      | succ g =>
                        have q1 : (j : Int) < (i : Int) := by omega
                        have q2 : (j : Int) < (m : Int) := by omega
                        obtain ⟨b, o, rfl, hb2, hb3⟩ := HR16.out.at_ (k := j) (by omega)
                        obtain ⟨b', o', rfl, hb2', hb3'⟩ := HR2.out.at_ (k := j) (by omega)
                        have hltl : j < ls.length := by have := HN.out; omega
                        have hltm : j < ms.length := by have := HM.out; omega
                        have hc := (HBw.out.cell (p := ⟨b, o + j, none⟩) hb2).trans (hb3 j _ (sv_get ls j hltl))
                        have hc' := (HBw.out.cell (p := ⟨b', o' + j, none⟩) hb2').trans (hb3' j _ (sv_get ms j hltm))
                        have hsu := sameU_succ ls ms k j
                        rw [List.getElem?_eq_getElem hltl, List.getElem?_eq_getElem hltm] at hsu
                        obtain ⟨F, hF⟩ : ∃ F, ls[j]'hltl = F := ⟨_, rfl⟩
                        obtain ⟨G, hG⟩ : ∃ G, ms[j]'hltm = G := ⟨_, rfl⟩
                        rw [hF, hG] at hsu
                        rw [hF] at hc
                        rw [hG] at hc'
                        have hbz : b < wr.heap.size := Nat.lt_of_lt_of_le hb2 HBw.out.size
                        have hbz' : b' < wr.heap.size := Nat.lt_of_lt_of_le hb2' HBw.out.size
                        have hcW : ∀ w', Below wr.heap.size wr w' → w'.cell? ⟨b, o + j, none⟩ = some (.string (str F)) := fun w' h => (h.cell (p := ⟨b, o + j, none⟩) hbz).trans hc
                        have hcW' : ∀ w', Below wr.heap.size wr w' → w'.cell? ⟨b', o' + j, none⟩ = some (.string (str G)) := fun w' h => (h.cell (p := ⟨b', o' + j, none⟩) hbz').trans hc'
                        have HSU := hide hsu
                        clear hsu hF hG hb3 hb3' hc hc'
                        generalize hSj : (false && sameU ls ms k j) = Sj at *
                        have HSj := hide hSj
                        clear hSj
                        have nxt : Hid (∀ v, v = (Sj && (decide (j = k) || decide (F = G))) → Value.bool v = .bool (false && sameU ls ms k (j + 1))) := by
                          refine hide fun v hv => ?_
                          rw [HSU.out, hv, ← HSj.out, Bool.and_assoc]
                          simp
                        clear HSU HSj
                        cases Sj
                        · go_wp2_with fail
                          refine wp_region_held_drew (S := (fun w' => Below wr.heap.size wr w')) (by kernel_rfl) ?_ (fun hHeld => ?_)
                          · exact (Below.refl _ _).drew
                          refine wpAnyH_take (i := 0) (oi := { dst := some 91, op := _, type := _, pos := _, after := _, guard := _ }) (v := ?v10x1) rfl (by kernel_rfl) (by kernel_rfl) (by kernel_rfl) (fun _ _ _ h => h) (Or.inl ⟨by rfl, ?hy10x1⟩) hHeld ?rest10x1
                          case hy10x1 => (intro w hSw; go_simp <;> with_reducible rfl)
                          try simp only [Act.put, List.setIfInBounds_toArray, List.set_cons_zero, List.set_cons_succ]
                          refine wpAnyH_take (i := 1) (oi := { dst := some 92, op := _, type := _, pos := _, after := _, guard := _ }) (v := ?v10x2) rfl (by kernel_rfl) (by kernel_rfl) (by kernel_rfl) (fun _ _ _ h => h) (Or.inl ⟨by rfl, ?hy10x2⟩) hHeld ?rest10x2
                          case hy10x2 => (intro w hSw; go_simp <;> with_reducible rfl)
                          try simp only [Act.put, List.setIfInBounds_toArray, List.set_cons_zero, List.set_cons_succ]
                          refine wpAnyH_take (i := 2) (oi := { dst := some 93, op := _, type := _, pos := _, after := _, guard := _ }) (v := undef) rfl (by kernel_rfl) (by kernel_rfl) (by kernel_rfl) (fun _ _ _ h => h) (Or.inr ⟨by rfl, rfl⟩) hHeld ?_
                          try simp only [Act.put, List.setIfInBounds_toArray, List.set_cons_zero, List.set_cons_succ]
                          refine wpAnyH_take (i := 3) (oi := { dst := some 94, op := _, type := _, pos := _, after := _, guard := _ }) (v := undef) rfl (by kernel_rfl) (by kernel_rfl) (by kernel_rfl) (fun _ _ _ h => h) (Or.inr ⟨by rfl, rfl⟩) hHeld ?_
                          try simp only [Act.put, List.setIfInBounds_toArray, List.set_cons_zero, List.set_cons_succ]
                          refine wpAnyH_take (i := 4) (oi := { dst := some 95, op := _, type := _, pos := _, after := _, guard := _ }) (v := undef) rfl (by kernel_rfl) (by kernel_rfl) (by kernel_rfl) (fun _ _ _ h => h) (Or.inr ⟨by rfl, rfl⟩) hHeld ?_
                          try simp only [Act.put, List.setIfInBounds_toArray, List.set_cons_zero, List.set_cons_succ]
                          refine wpAnyH_take (i := 5) (oi := { dst := some 96, op := _, type := _, pos := _, after := _, guard := _ }) (v := undef) rfl (by kernel_rfl) (by kernel_rfl) (by kernel_rfl) (fun _ _ _ h => h) (Or.inr ⟨by rfl, rfl⟩) hHeld ?_
                          try simp only [Act.put, List.setIfInBounds_toArray, List.set_cons_zero, List.set_cons_succ]
                          refine wpAnyH_take (i := 6) (oi := { dst := some 97, op := _, type := _, pos := _, after := _, guard := _ }) (v := undef) rfl (by kernel_rfl) (by kernel_rfl) (by kernel_rfl) (fun _ _ _ h => h) (Or.inr ⟨by rfl, rfl⟩) hHeld ?_
                          try simp only [Act.put, List.setIfInBounds_toArray, List.set_cons_zero, List.set_cons_succ]
                          refine wpAnyH_take (i := 7) (oi := { dst := some 98, op := _, type := _, pos := _, after := _, guard := _ }) (v := undef) rfl (by kernel_rfl) (by kernel_rfl) (by kernel_rfl) (fun _ _ _ h => h) (Or.inr ⟨by rfl, rfl⟩) hHeld ?_
                          try simp only [Act.put, List.setIfInBounds_toArray, List.set_cons_zero, List.set_cons_succ]
                          refine wpAnyH_take (i := 8) (oi := { dst := some 99, op := _, type := _, pos := _, after := _, guard := _ }) (v := undef) rfl (by kernel_rfl) (by kernel_rfl) (by kernel_rfl) (fun _ _ _ h => h) (Or.inr ⟨by rfl, rfl⟩) hHeld ?_
                          try simp only [Act.put, List.setIfInBounds_toArray, List.set_cons_zero, List.set_cons_succ]
                          refine wpAnyH_take (i := 9) (oi := { dst := some 100, op := _, type := _, pos := _, after := _, guard := _ }) (v := undef) rfl (by kernel_rfl) (by kernel_rfl) (by kernel_rfl) (fun _ _ _ h => h) (Or.inr ⟨by rfl, rfl⟩) hHeld ?_
                          try simp only [Act.put, List.setIfInBounds_toArray, List.set_cons_zero, List.set_cons_succ]
                          refine wpAnyH_take (i := 10) (oi := { dst := some 101, op := _, type := _, pos := _, after := _, guard := _ }) (v := undef) rfl (by kernel_rfl) (by kernel_rfl) (by kernel_rfl) (fun _ _ _ h => h) (Or.inr ⟨by rfl, rfl⟩) hHeld ?_
                          try simp only [Act.put, List.setIfInBounds_toArray, List.set_cons_zero, List.set_cons_succ]
                          refine wpAnyH_take (i := 11) (oi := { dst := some 102, op := _, type := _, pos := _, after := _, guard := _ }) (v := undef) rfl (by kernel_rfl) (by kernel_rfl) (by kernel_rfl) (fun _ _ _ h => h) (Or.inr ⟨by rfl, rfl⟩) hHeld ?_
                          try simp only [Act.put, List.setIfInBounds_toArray, List.set_cons_zero, List.set_cons_succ]
                          refine wpAnyH_take (i := 12) (oi := { dst := some 103, op := _, type := _, pos := _, after := _, guard := _ }) (v := undef) rfl (by kernel_rfl) (by kernel_rfl) (by kernel_rfl) (fun _ _ _ h => h) (Or.inr ⟨by rfl, rfl⟩) hHeld ?_
                          try simp only [Act.put, List.setIfInBounds_toArray, List.set_cons_zero, List.set_cons_succ]
                          refine wpAnyH_take (i := 13) (oi := { dst := some 104, op := _, type := _, pos := _, after := _, guard := _ }) (v := undef) rfl (by kernel_rfl) (by kernel_rfl) (by kernel_rfl) (fun _ _ _ h => h) (Or.inr ⟨by rfl, rfl⟩) hHeld ?_
                          try simp only [Act.put, List.setIfInBounds_toArray, List.set_cons_zero, List.set_cons_succ]
                          refine wpAnyH_take (i := 14) (oi := { dst := some 105, op := _, type := _, pos := _, after := _, guard := _ }) (v := undef) rfl (by kernel_rfl) (by kernel_rfl) (by kernel_rfl) (fun _ _ _ h => h) (Or.inr ⟨by rfl, rfl⟩) hHeld ?_
                          try simp only [Act.put, List.setIfInBounds_toArray, List.set_cons_zero, List.set_cons_succ]
                          refine wpAnyH_take (i := 15) (oi := { dst := some 106, op := _, type := _, pos := _, after := _, guard := _ }) (v := undef) rfl (by kernel_rfl) (by kernel_rfl) (by kernel_rfl) (fun _ _ _ h => h) (Or.inr ⟨by rfl, rfl⟩) hHeld ?_
                          try simp only [Act.put, List.setIfInBounds_toArray, List.set_cons_zero, List.set_cons_succ]
                          refine wpAnyH_take (i := 16) (oi := { dst := some 107, op := _, type := _, pos := _, after := _, guard := _ }) (v := ?v10x17) rfl (by kernel_rfl) (by kernel_rfl) (by kernel_rfl) (fun _ _ _ h => h) (Or.inl ⟨by rfl, ?hy10x17⟩) hHeld ?rest10x17
                          case hy10x17 => (intro w hSw; go_simp <;> with_reducible rfl)
                          try simp only [Act.put, List.setIfInBounds_toArray, List.set_cons_zero, List.set_cons_succ]
                          refine wpAnyH_take (i := 17) (oi := { dst := some 11, op := _, type := _, pos := _, after := _, guard := _ }) (v := ?v10x18) rfl (by kernel_rfl) (by kernel_rfl) (by kernel_rfl) (fun _ _ _ h => h) (Or.inl ⟨by rfl, ?hy10x18⟩) hHeld ?rest10x18
                          case hy10x18 => (intro w hSw; go_simp <;> with_reducible rfl)
                          try simp only [Act.put, List.setIfInBounds_toArray, List.set_cons_zero, List.set_cons_succ]
                          refine wpAnyH_done (by kernel_rfl) ?_ _
                          go_wp2_with fail
                          go_roundg g
                          case measure => omega
                          case rel => exact ⟨j + 1, by omega, by go_num, nxt.out _ rfl, HB.out.drew, HBw.out.drew⟩
                        · by_cases hjk : j = k
                          · have qk : ((j : Int) == (k : Int)) = true := beq_iff_eq.2 (by omega)
                            have qk2 : (j == k) = true := beq_iff_eq.2 hjk
                            have qk3 : decide (j = k) = true := decide_eq_true hjk
                            have Hjk := hide hjk
                            clear hjk
                            go_wp2_with fail
                            refine wp_region_held_drew (S := (fun w' => Below wr.heap.size wr w')) (by kernel_rfl) ?_ (fun hHeld => ?_)
                            · exact (Below.refl _ _).drew
                            refine wpAnyH_take (i := 0) (oi := { dst := some 91, op := _, type := _, pos := _, after := _, guard := _ }) (v := ?v11x1) rfl (by kernel_rfl) (by kernel_rfl) (by kernel_rfl) (fun _ _ _ h => h) (Or.inl ⟨by rfl, ?hy11x1⟩) hHeld ?rest11x1
                            case hy11x1 => (intro w hSw; go_simp <;> with_reducible rfl)
                            try simp only [Act.put, List.setIfInBounds_toArray, List.set_cons_zero, List.set_cons_succ]
                            refine wpAnyH_take (i := 1) (oi := { dst := some 92, op := _, type := _, pos := _, after := _, guard := _ }) (v := ?v11x2) rfl (by kernel_rfl) (by kernel_rfl) (by kernel_rfl) (fun _ _ _ h => h) (Or.inl ⟨by rfl, ?hy11x2⟩) hHeld ?rest11x2
                            case hy11x2 => (intro w hSw; go_simp <;> with_reducible rfl)
                            try simp only [Act.put, List.setIfInBounds_toArray, List.set_cons_zero, List.set_cons_succ]
                            refine wpAnyH_take (i := 2) (oi := { dst := some 93, op := _, type := _, pos := _, after := _, guard := _ }) (v := ?v11x3) rfl (by kernel_rfl) (by kernel_rfl) (by kernel_rfl) (fun _ _ _ h => h) (Or.inl ⟨by rfl, ?hy11x3⟩) hHeld ?rest11x3
                            case hy11x3 => (intro w hSw; go_simp <;> with_reducible rfl)
                            try simp only [Act.put, List.setIfInBounds_toArray, List.set_cons_zero, List.set_cons_succ]
                            refine wpAnyH_take (i := 3) (oi := { dst := some 94, op := _, type := _, pos := _, after := _, guard := _ }) (v := ?v11x4) rfl (by kernel_rfl) (by kernel_rfl) (by kernel_rfl) (fun _ _ _ h => h) (Or.inl ⟨by rfl, ?hy11x4⟩) hHeld ?rest11x4
                            case hy11x4 => (intro w hSw; go_simp <;> with_reducible rfl)
                            try simp only [Act.put, List.setIfInBounds_toArray, List.set_cons_zero, List.set_cons_succ]
                            refine wpAnyH_take (i := 4) (oi := { dst := some 95, op := _, type := _, pos := _, after := _, guard := _ }) (v := ?v11x5) rfl (by kernel_rfl) (by kernel_rfl) (by kernel_rfl) (fun _ _ _ h => h) (Or.inl ⟨by rfl, ?hy11x5⟩) hHeld ?rest11x5
                            case hy11x5 => (intro w hSw; go_simp <;> with_reducible rfl)
                            try simp only [Act.put, List.setIfInBounds_toArray, List.set_cons_zero, List.set_cons_succ]
                            refine wpAnyH_take (i := 5) (oi := { dst := some 96, op := _, type := _, pos := _, after := _, guard := _ }) (v := ?v11x6) rfl (by kernel_rfl) (by kernel_rfl) (by kernel_rfl) (fun _ _ _ h => h) (Or.inl ⟨by rfl, ?hy11x6⟩) hHeld ?rest11x6
                            case hy11x6 => (intro w hSw; go_simp <;> with_reducible rfl)
                            try simp only [Act.put, List.setIfInBounds_toArray, List.set_cons_zero, List.set_cons_succ]
                            refine wpAnyH_take (i := 6) (oi := { dst := some 97, op := _, type := _, pos := _, after := _, guard := _ }) (v := undef) rfl (by kernel_rfl) (by kernel_rfl) (by kernel_rfl) (fun _ _ _ h => h) (Or.inr ⟨by rfl, rfl⟩) hHeld ?_
                            try simp only [Act.put, List.setIfInBounds_toArray, List.set_cons_zero, List.set_cons_succ]
                            refine wpAnyH_take (i := 7) (oi := { dst := some 98, op := _, type := _, pos := _, after := _, guard := _ }) (v := undef) rfl (by kernel_rfl) (by kernel_rfl) (by kernel_rfl) (fun _ _ _ h => h) (Or.inr ⟨by rfl, rfl⟩) hHeld ?_
                            try simp only [Act.put, List.setIfInBounds_toArray, List.set_cons_zero, List.set_cons_succ]
                            refine wpAnyH_take (i := 8) (oi := { dst := some 99, op := _, type := _, pos := _, after := _, guard := _ }) (v := undef) rfl (by kernel_rfl) (by kernel_rfl) (by kernel_rfl) (fun _ _ _ h => h) (Or.inr ⟨by rfl, rfl⟩) hHeld ?_
                            try simp only [Act.put, List.setIfInBounds_toArray, List.set_cons_zero, List.set_cons_succ]
                            refine wpAnyH_take (i := 9) (oi := { dst := some 100, op := _, type := _, pos := _, after := _, guard := _ }) (v := undef) rfl (by kernel_rfl) (by kernel_rfl) (by kernel_rfl) (fun _ _ _ h => h) (Or.inr ⟨by rfl, rfl⟩) hHeld ?_
                            try simp only [Act.put, List.setIfInBounds_toArray, List.set_cons_zero, List.set_cons_succ]
                            refine wpAnyH_take (i := 10) (oi := { dst := some 101, op := _, type := _, pos := _, after := _, guard := _ }) (v := undef) rfl (by kernel_rfl) (by kernel_rfl) (by kernel_rfl) (fun _ _ _ h => h) (Or.inr ⟨by rfl, rfl⟩) hHeld ?_
                            try simp only [Act.put, List.setIfInBounds_toArray, List.set_cons_zero, List.set_cons_succ]
                            refine wpAnyH_take (i := 11) (oi := { dst := some 102, op := _, type := _, pos := _, after := _, guard := _ }) (v := undef) rfl (by kernel_rfl) (by kernel_rfl) (by kernel_rfl) (fun _ _ _ h => h) (Or.inr ⟨by rfl, rfl⟩) hHeld ?_
                            try simp only [Act.put, List.setIfInBounds_toArray, List.set_cons_zero, List.set_cons_succ]
                            refine wpAnyH_take (i := 12) (oi := { dst := some 103, op := _, type := _, pos := _, after := _, guard := _ }) (v := undef) rfl (by kernel_rfl) (by kernel_rfl) (by kernel_rfl) (fun _ _ _ h => h) (Or.inr ⟨by rfl, rfl⟩) hHeld ?_
                            try simp only [Act.put, List.setIfInBounds_toArray, List.set_cons_zero, List.set_cons_succ]
                            refine wpAnyH_take (i := 13) (oi := { dst := some 104, op := _, type := _, pos := _, after := _, guard := _ }) (v := undef) rfl (by kernel_rfl) (by kernel_rfl) (by kernel_rfl) (fun _ _ _ h => h) (Or.inr ⟨by rfl, rfl⟩) hHeld ?_
                            try simp only [Act.put, List.setIfInBounds_toArray, List.set_cons_zero, List.set_cons_succ]
                            refine wpAnyH_take (i := 14) (oi := { dst := some 105, op := _, type := _, pos := _, after := _, guard := _ }) (v := undef) rfl (by kernel_rfl) (by kernel_rfl) (by kernel_rfl) (fun _ _ _ h => h) (Or.inr ⟨by rfl, rfl⟩) hHeld ?_
                            try simp only [Act.put, List.setIfInBounds_toArray, List.set_cons_zero, List.set_cons_succ]
                            refine wpAnyH_take (i := 15) (oi := { dst := some 106, op := _, type := _, pos := _, after := _, guard := _ }) (v := ?v11x16) rfl (by kernel_rfl) (by kernel_rfl) (by kernel_rfl) (fun _ _ _ h => h) (Or.inl ⟨by rfl, ?hy11x16⟩) hHeld ?rest11x16
                            case hy11x16 => (intro w hSw; go_simp <;> with_reducible rfl)
                            try simp only [Act.put, List.setIfInBounds_toArray, List.set_cons_zero, List.set_cons_succ]
                            refine wpAnyH_take (i := 16) (oi := { dst := some 107, op := _, type := _, pos := _, after := _, guard := _ }) (v := ?v11x17) rfl (by kernel_rfl) (by kernel_rfl) (by kernel_rfl) (fun _ _ _ h => h) (Or.inl ⟨by rfl, ?hy11x17⟩) hHeld ?rest11x17
                            case hy11x17 => (intro w hSw; go_simp <;> with_reducible rfl)
                            try simp only [Act.put, List.setIfInBounds_toArray, List.set_cons_zero, List.set_cons_succ]
                            refine wpAnyH_take (i := 17) (oi := { dst := some 11, op := _, type := _, pos := _, after := _, guard := _ }) (v := ?v11x18) rfl (by kernel_rfl) (by kernel_rfl) (by kernel_rfl) (fun _ _ _ h => h) (Or.inl ⟨by rfl, ?hy11x18⟩) hHeld ?rest11x18
                            case hy11x18 => (intro w hSw; go_simp <;> with_reducible rfl)
                            try simp only [Act.put, List.setIfInBounds_toArray, List.set_cons_zero, List.set_cons_succ]
                            refine wpAnyH_done (by kernel_rfl) ?_ _
                            go_wp2_with fail
                            go_roundg g
                            case measure => omega
                            case rel => exact ⟨j + 1, by omega, by go_num, nxt.out true (by rw [decide_eq_true Hjk.out]; rfl), HB.out.drew, HBw.out.drew⟩
                          · have qk : ((j : Int) == (k : Int)) = false := beq_eq_false_iff_ne.2 (by omega)
                            have qk2 : (j == k) = false := beq_eq_false_iff_ne.2 hjk
                            have qk3 : decide (j = k) = false := decide_eq_false hjk
                            have Hjk := hide hjk
                            clear hjk
                            go_wp2_with fail
                            refine wp_region_held_drew (S := (fun w' => Below wr.heap.size wr w')) (by kernel_rfl) ?_ (fun hHeld => ?_)
                            · exact (Below.refl _ _).drew
                            refine wpAnyH_take (i := 0) (oi := { dst := some 91, op := _, type := _, pos := _, after := _, guard := _ }) (v := ?v12x1) rfl (by kernel_rfl) (by kernel_rfl) (by kernel_rfl) (fun _ _ _ h => h) (Or.inl ⟨by rfl, ?hy12x1⟩) hHeld ?rest12x1
                            case hy12x1 => (intro w hSw; go_simp <;> with_reducible rfl)
                            try simp only [Act.put, List.setIfInBounds_toArray, List.set_cons_zero, List.set_cons_succ]
                            refine wpAnyH_take (i := 1) (oi := { dst := some 92, op := _, type := _, pos := _, after := _, guard := _ }) (v := ?v12x2) rfl (by kernel_rfl) (by kernel_rfl) (by kernel_rfl) (fun _ _ _ h => h) (Or.inl ⟨by rfl, ?hy12x2⟩) hHeld ?rest12x2
                            case hy12x2 => (intro w hSw; go_simp <;> with_reducible rfl)
                            try simp only [Act.put, List.setIfInBounds_toArray, List.set_cons_zero, List.set_cons_succ]
                            refine wpAnyH_take (i := 2) (oi := { dst := some 93, op := _, type := _, pos := _, after := _, guard := _ }) (v := ?v12x3) rfl (by kernel_rfl) (by kernel_rfl) (by kernel_rfl) (fun _ _ _ h => h) (Or.inl ⟨by rfl, ?hy12x3⟩) hHeld ?rest12x3
                            case hy12x3 => (intro w hSw; go_simp <;> with_reducible rfl)
                            try simp only [Act.put, List.setIfInBounds_toArray, List.set_cons_zero, List.set_cons_succ]
                            refine wpAnyH_take (i := 3) (oi := { dst := some 94, op := _, type := _, pos := _, after := _, guard := _ }) (v := ?v12x4) rfl (by kernel_rfl) (by kernel_rfl) (by kernel_rfl) (fun _ _ _ h => h) (Or.inl ⟨by rfl, ?hy12x4⟩) hHeld ?rest12x4
                            case hy12x4 => (intro w hSw; go_simp <;> with_reducible rfl)
                            try simp only [Act.put, List.setIfInBounds_toArray, List.set_cons_zero, List.set_cons_succ]
                            refine wpAnyH_take (i := 4) (oi := { dst := some 95, op := _, type := _, pos := _, after := _, guard := _ }) (v := ?v12x5) rfl (by kernel_rfl) (by kernel_rfl) (by kernel_rfl) (fun _ _ _ h => h) (Or.inl ⟨by rfl, ?hy12x5⟩) hHeld ?rest12x5
                            case hy12x5 => (intro w hSw; go_simp <;> with_reducible rfl)
                            try simp only [Act.put, List.setIfInBounds_toArray, List.set_cons_zero, List.set_cons_succ]
                            refine wpAnyH_take (i := 5) (oi := { dst := some 96, op := _, type := _, pos := _, after := _, guard := _ }) (v := ?v12x6) rfl (by kernel_rfl) (by kernel_rfl) (by kernel_rfl) (fun _ _ _ h => h) (Or.inl ⟨by rfl, ?hy12x6⟩) hHeld ?rest12x6
                            case hy12x6 => (intro w hSw; go_simp <;> with_reducible rfl)
                            try simp only [Act.put, List.setIfInBounds_toArray, List.set_cons_zero, List.set_cons_succ]
                            refine wpAnyH_take (i := 6) (oi := { dst := some 97, op := _, type := _, pos := _, after := _, guard := _ }) (v := ?v12x7) rfl (by kernel_rfl) (by kernel_rfl) (by kernel_rfl) (fun _ _ _ h => h) (Or.inl ⟨by rfl, ?hy12x7⟩) hHeld ?rest12x7
                            case hy12x7 => (intro w hSw; go_simp <;> with_reducible rfl)
                            try simp only [Act.put, List.setIfInBounds_toArray, List.set_cons_zero, List.set_cons_succ]
                            refine wpAnyH_take (i := 7) (oi := { dst := some 98, op := _, type := _, pos := _, after := _, guard := _ }) (v := ?v12x8) rfl (by kernel_rfl) (by kernel_rfl) (by kernel_rfl) (fun _ _ _ h => h) (Or.inl ⟨by rfl, ?hy12x8⟩) hHeld ?rest12x8
                            case hy12x8 => (intro w hSw; go_simp <;> with_reducible rfl)
                            try simp only [Act.put, List.setIfInBounds_toArray, List.set_cons_zero, List.set_cons_succ]
                            refine wpAnyH_take (i := 8) (oi := { dst := some 99, op := _, type := _, pos := _, after := _, guard := _ }) (v := ?v12x9) rfl (by kernel_rfl) (by kernel_rfl) (by kernel_rfl) (fun _ _ _ h => h) (Or.inl ⟨by rfl, ?hy12x9⟩) hHeld ?rest12x9
                            case hy12x9 => (intro w hSw; go_simp <;> with_reducible rfl)
                            try simp only [Act.put, List.setIfInBounds_toArray, List.set_cons_zero, List.set_cons_succ]
                            refine wpAnyH_take (i := 9) (oi := { dst := some 100, op := _, type := _, pos := _, after := _, guard := _ }) (v := ?v12x10) rfl (by kernel_rfl) (by kernel_rfl) (by kernel_rfl) (fun _ _ _ h => h) (Or.inl ⟨by rfl, ?hy12x10⟩) hHeld ?rest12x10
                            case hy12x10 => (intro w hSw; go_simp <;> with_reducible rfl)
                            try simp only [Act.put, List.setIfInBounds_toArray, List.set_cons_zero, List.set_cons_succ]
                            refine wpAnyH_take (i := 10) (oi := { dst := some 101, op := _, type := _, pos := _, after := _, guard := _ }) (v := ?v12x11) rfl (by kernel_rfl) (by kernel_rfl) (by kernel_rfl) (fun _ _ _ h => h) (Or.inl ⟨by rfl, ?hy12x11⟩) hHeld ?rest12x11
                            case hy12x11 => (intro w hSw; go_simp <;> with_reducible rfl)
                            try simp only [Act.put, List.setIfInBounds_toArray, List.set_cons_zero, List.set_cons_succ]
                            refine wpAnyH_take (i := 11) (oi := { dst := some 102, op := _, type := _, pos := _, after := _, guard := _ }) (v := ?v12x12) rfl (by kernel_rfl) (by kernel_rfl) (by kernel_rfl) (fun _ _ _ h => h) (Or.inl ⟨by rfl, ?hy12x12⟩) hHeld ?rest12x12
                            case hy12x12 => (intro w hSw; go_simp <;> with_reducible rfl)
                            try simp only [Act.put, List.setIfInBounds_toArray, List.set_cons_zero, List.set_cons_succ]
                            refine wpAnyH_take (i := 12) (oi := { dst := some 103, op := _, type := _, pos := _, after := _, guard := _ }) (v := ?v12x13) rfl (by kernel_rfl) (by kernel_rfl) (by kernel_rfl) (fun _ _ _ h => h) (Or.inl ⟨by rfl, ?hy12x13⟩) hHeld ?rest12x13
                            case hy12x13 => (intro w hSw; go_simp <;> with_reducible rfl)
                            try simp only [Act.put, List.setIfInBounds_toArray, List.set_cons_zero, List.set_cons_succ]
                            refine wpAnyH_take (i := 13) (oi := { dst := some 104, op := _, type := _, pos := _, after := _, guard := _ }) (v := ?v12x14) rfl (by kernel_rfl) (by kernel_rfl) (by kernel_rfl) (fun _ _ _ h => h) (Or.inl ⟨by rfl, ?hy12x14⟩) hHeld ?rest12x14
                            case hy12x14 => (intro w hSw; go_simp <;> with_reducible rfl)
                            try simp only [Act.put, List.setIfInBounds_toArray, List.set_cons_zero, List.set_cons_succ]
                            refine wpAnyH_take (i := 14) (oi := { dst := some 105, op := _, type := _, pos := _, after := _, guard := _ }) (v := ?v12x15) rfl (by kernel_rfl) (by kernel_rfl) (by kernel_rfl) (fun _ _ _ h => h) (Or.inl ⟨by rfl, ?hy12x15⟩) hHeld ?rest12x15
                            case hy12x15 => (intro w hSw; go_simp <;> with_reducible rfl)
                            try simp only [Act.put, List.setIfInBounds_toArray, List.set_cons_zero, List.set_cons_succ]
                            refine wpAnyH_take (i := 15) (oi := { dst := some 106, op := _, type := _, pos := _, after := _, guard := _ }) (v := ?v12x16) rfl (by kernel_rfl) (by kernel_rfl) (by kernel_rfl) (fun _ _ _ h => h) (Or.inl ⟨by rfl, ?hy12x16⟩) hHeld ?rest12x16
                            case hy12x16 => (intro w hSw; go_simp <;> with_reducible rfl)
                            try simp only [Act.put, List.setIfInBounds_toArray, List.set_cons_zero, List.set_cons_succ]
                            refine wpAnyH_take (i := 16) (oi := { dst := some 107, op := _, type := _, pos := _, after := _, guard := _ }) (v := ?v12x17) rfl (by kernel_rfl) (by kernel_rfl) (by kernel_rfl) (fun _ _ _ h => h) (Or.inl ⟨by rfl, ?hy12x17⟩) hHeld ?rest12x17
                            case hy12x17 => (intro w hSw; go_simp <;> with_reducible rfl)
                            try simp only [Act.put, List.setIfInBounds_toArray, List.set_cons_zero, List.set_cons_succ]
                            refine wpAnyH_take (i := 17) (oi := { dst := some 11, op := _, type := _, pos := _, after := _, guard := _ }) (v := ?v12x18) rfl (by kernel_rfl) (by kernel_rfl) (by kernel_rfl) (fun _ _ _ h => h) (Or.inl ⟨by rfl, ?hy12x18⟩) hHeld ?rest12x18
                            case hy12x18 => (intro w hSw; go_simp <;> with_reducible rfl)
                            try simp only [Act.put, List.setIfInBounds_toArray, List.set_cons_zero, List.set_cons_succ]
                            refine wpAnyH_done (by kernel_rfl) ?_ _
                            go_wp2_with fail
                            go_roundg g
                            case measure => omega
                            case rel => exact ⟨j + 1, by omega, by go_num, nxt.out (F == G) (by rw [decide_eq_false Hjk.out, Bool.eq_iff_iff]; simp), HB.out.drew, HBw.out.drew⟩
    · rw [decide_eq_false h2] at S2
      clear h1 h2
      go_enter Try.func7, Try.ntmps7
      go_wp2_with fail
      refine (S1.out _).mono ?_
      rintro e w1 ⟨rfl, rfl⟩
      go_wp2_with fail
      refine (S2.out _).mono ?_
      rintro e w2 ⟨rfl, rfl⟩
      go_wp2_with fail
      go_ret
      exact ⟨rfl, Below.refl _ _⟩
  · rw [decide_eq_false h1] at S1
    clear h1
    go_enter Try.func7, Try.ntmps7
    go_wp2_with fail
    refine (S1.out _).mono ?_
    rintro e w1 ⟨rfl, rfl⟩
    go_wp2_with fail
    go_ret
    exact ⟨rfl, Below.refl _ _⟩

end Go.Proofs.Ytkgidimaiedocaa
