/-
  What is proved here: the law RtuParts returns true for every gap, slice of bytes and every two slices of ints, and writes nothing that was there. No condition.
-/
import Derived.Test.YtkbombdhdgdpnaaRtu4
import Derived.Deep.DeepCutAuto
namespace Go.Proofs.Ytkbombdhdgdpnaa
set_option linter.unusedVariables false
set_option linter.unusedSimpArgs false
open Go.RowKit

theorem take_add (xs : List UInt8) (a n : Nat) : addL ((xs.take a).take 257) ((xs.drop a).take n) = (xs.take (a + n)).take 257 := by
  unfold addL
  rw [List.take_append, List.take_take, List.take_add, List.take_append]
  simp only [List.length_take, List.take_take]
  congr 1
  congr 1
  omega
theorem last_new (last now : Int) (bs : List UInt8) (h : 0 < bs.length) : lastL last now bs = now := by unfold lastL; rw [if_neg (by omega)]
theorem end_all (xs : List UInt8) (h1 : 1 ≤ xs.length) (h2 : xs.length ≤ 256) : endL (xs.take 257) = [xs] := by
  rw [List.take_of_length_le (by omega)]
  unfold endL
  rw [if_neg (by omega)]
theorem end_none (xs : List UInt8) (h2 : 256 < xs.length) : endL (xs.take 257) = [] := by
  unfold endL
  rw [if_pos (Or.inr (by rw [List.length_take]; omega))]
theorem end_nil : endL [] = [] := by decide

set_option maxHeartbeats 2000000 in
set_option maxRecDepth 100000 in
theorem parts5_walk (gap : Int) (B : Option Addr) (l c : Nat) (xs : List UInt8) (P : Option Addr) (pl pc : Nat) (ps : List Int) (Q : Option Addr) (ql qc : Nat) (qs : List Int) (w : World) (hB : Rd w B l (bv xs)) (hc : l ≤ c) (hP : Rd w P pl (iv ps)) (hQ : Rd w Q ql (iv qs))
    (wp : ∀ n ∈ ps, (Lit.int .i64 n).wf = true) (wq : ∀ n ∈ qs, (Lit.int .i64 n).wf = true) :
    Calls Try.prog 5 #[.int .i64 gap, .slice B l c, .slice P pl pc, .slice Q ql qc] w fun e w' => e = .returned (.bool true) ∧ Below w.heap.size w w' := by
  have Hx : Hid (xs.length = l) := by show _ = _; rw [← bv_length]; exact hB.1
  have Hp : Hid (ps.length = pl) := by show _ = _; rw [← iv_length]; exact hP.1
  have Hq : Hid (qs.length = ql) := by show _ = _; rw [← iv_length]; exact hQ.1
  have HB := hide hB
  have HP := hide hP
  have HQ := hide hQ
  have Wp := hide wp
  have Wq := hide wq
  clear hB hP hQ wp wq
  by_cases h1 : gap < 1
  · go_enter Try.func5, Try.ntmps5
    go_wp2
    go_ret
    exact ⟨rfl, Below.refl _ _⟩
  by_cases h2 : 1000 < gap
  · go_enter Try.func5, Try.ntmps5
    go_wp2
    go_ret
    exact ⟨rfl, Below.refl _ _⟩
  by_cases h3 : (l : Int) < 1
  · go_enter Try.func5, Try.ntmps5
    go_wp2
    go_ret
    exact ⟨rfl, Below.refl _ _⟩
  by_cases h4 : (600 : Int) < (l : Int)
  · go_enter Try.func5, Try.ntmps5
    go_wp2
    go_ret
    exact ⟨rfl, Below.refl _ _⟩
  obtain ⟨G, rfl⟩ : ∃ G : Nat, gap = (G : Int) := ⟨gap.toNat, by omega⟩
  have hG1 : 1 ≤ G := by omega
  have hG2 : G ≤ 1000 := by omega
  have hl1 : 1 ≤ l := by omega
  have hl2 : l ≤ 600 := by omega
  go_enter Try.func5, Try.ntmps5
  go_wp2_with fail
  refine (newI (gap := (G : Int)) (by omega) w).mono ?_
  rintro e w1 ⟨g, rfl, L1⟩
  have H1 := hide L1
  clear L1
  go_wp2_with fail
  go_loopw [11, 12, 13] (fun nowv atv iv_ wr => ∃ (now at_ i last k : Nat) (A : Option Addr), at_ ≤ l ∧ i ≤ at_ ∧ nowv = .int .i64 (now : Int) ∧ atv = .int .i64 (at_ : Int) ∧ iv_ = .int .i64 (i : Int) ∧
    LnI w wr g A k ((xs.take at_).take 257) (last : Int) (G : Int) (last : Int) ∧ last ≤ now ∧ now < last + G ∧ now ≤ 1000 * at_ ∧ (at_ = l → now = last)) (fun _ atv _ _ => l - (intOf atv).toNat)
  case atStart => exact ⟨0, 0, 0, 0, 0, none, Nat.zero_le _, Nat.le_refl _, rfl, rfl, rfl, H1.out, Nat.le_refl _, by omega, by omega, fun _ => rfl⟩
  case round =>
    obtain ⟨now, at_, i, last, k, A, hat, hia, rfl, rfl, rfl, hL, hln, hnG, hnA, hend⟩ := hrel
    have HL := hide hL
    have Hend := hide hend
    clear hL hend H1
    by_cases hlt : at_ < l
    · have q0 : (at_ : Int) < (l : Int) := by omega
      have HPw := hide (HP.out.keep HL.out.be)
      have HQw := hide (HQ.out.keep HL.out.be)
      have HBw := hide (HB.out.keep HL.out.be)
      go_upto_region 12 with (fail)
      go_cut [69] (fun s wc => ∃ t : Bool, s = .bool t ∧ wr = wc ∧ (t = true → ∃ p : Int, i < pl ∧ ps[i]? = some p ∧ 0 < p))
      case first =>
        by_cases hip : i < pl
        · obtain ⟨b, o, rfl, hbl, hcell⟩ := HPw.out.at_ hip
          have hip' : i < ps.length := by rw [Hp.out]; exact hip
          have c0 := hcell i _ (iv_get ps i hip')
          have g0 : ps[i]? = some ps[i] := List.getElem?_eq_getElem hip'
          have q1 : (i : Int) < (pl : Int) := by omega
          generalize ps[i] = p at *
          clear hcell
          by_cases hp : 0 < p
          · go_wp2_with fail
            go_meet
            exact ⟨true, rfl, rfl, fun _ => ⟨p, hip, g0, hp⟩⟩
          · go_wp2_with fail
            go_meet
            exact ⟨false, rfl, rfl, fun e => by cases e⟩
        · have q1 : ¬ (i : Int) < (pl : Int) := by omega
          go_wp2_with fail
          go_meet
          exact ⟨false, rfl, rfl, fun e => by cases e⟩
      case rest =>
        obtain ⟨t, rfl, rfl, ht⟩ := hcut
        go_upto_if 69 with (fail)
        go_cut [14] (fun s wc => ∃ p : Int, s = .int .i64 p ∧ wr = wc ∧ 1 ≤ p)
        case first =>
          cases t with
          | false =>
            go_wp2_with fail
            go_meet
            exact ⟨(l : Int), rfl, rfl, by omega⟩
          | true =>
            obtain ⟨p, hip, g0, hp⟩ := ht rfl
            obtain ⟨b, o, rfl, hbl, hcell⟩ := HPw.out.at_ hip
            have c0 := hcell i (.int .i64 p) (by rw [iv, List.getElem?_map, g0]; rfl)
            have q1 : (i : Int) < (pl : Int) := by omega
            clear hcell ht
            go_wp2_with fail
            go_meet
            exact ⟨p, rfl, rfl, by omega⟩
        case rest =>
          obtain ⟨p, rfl, rfl, hp⟩ := hcut
          clear ht
          go_upto_if 79 with (fail)
          go_cut [14] (fun s wc => ∃ N : Nat, s = .int .i64 (N : Int) ∧ wr = wc ∧ 1 ≤ N ∧ at_ + N ≤ l)
          case first =>
            by_cases hpl : (l : Int) - (at_ : Int) < p
            · go_wp2_with fail
              go_meet
              exact ⟨l - at_, by go_num, rfl, by omega, by omega⟩
            · go_wp2_with fail
              go_meet
              exact ⟨p.toNat, by go_num, rfl, by omega, by omega⟩
          case rest =>
            obtain ⟨N, rfl, rfl, hN1, hN2⟩ := hcut
            clear hp
            have hsl := fun W => run_sl (P := Try.prog) 22 5 Try.underlying22 u8_size B l c (at_ : Int) ((at_ : Int) + (N : Int)) at_ (at_ + N) rfl (by omega) (by omega) (by omega) W
            rw [Nat.add_sub_cancel_left] at hsl
            have hxl := Hx.out
            have hlen : ((xs.drop at_).take N).length = N := by rw [List.length_take, List.length_drop, hxl]; omega
            have hoff : Off (lnS g A) (cutA B at_ c) := HL.out.offOld (by
              intro b o e
              obtain ⟨b0, o0, rfl, hb0, _⟩ := HB.out.at_ (k := 0) (by omega)
              unfold cutA at e
              split at e
              · injection e with e
                injection e with e1 _ _
                omega
              · rw [Option.map_some, add_at] at e
                injection e with e
                injection e with e1 _ _
                omega)
            have hrd := HBw.out.cut at_ N c hN2 hc
            rw [bv_cut] at hrd
            have HF := hide (feedQ HL.out (now : Int) (cutA B at_ c) N (c - at_) ((xs.drop at_).take N) hrd hoff (by omega) (by omega) (by omega) (by omega) (by omega) (by omega) (by omega) (by omega))
            rw [take_add, last_new _ _ _ (by rw [hlen]; exact hN1)] at HF
            clear hxl hlen hoff hrd HL HPw HBw
            go_wp2_with fail
            refine HF.out.mono ?_
            rintro e w2 ⟨ok, A2, k2, rfl, L2⟩
            have HL := hide L2
            have HQ2 := hide (HQ.out.keep L2.be)
            clear L2 HF
            go_upto_region 21 with (fail)
            go_cut [117] (fun s wc => ∃ t : Bool, s = .bool t ∧ w2 = wc ∧ (t = true → ∃ p : Int, i < ql ∧ qs[i]? = some p ∧ 0 < p))
            case first =>
              by_cases hip : i < ql
              · obtain ⟨b, o, rfl, hbl, hcell⟩ := HQ2.out.at_ hip
                have hip' : i < qs.length := by rw [Hq.out]; exact hip
                have c0 := hcell i _ (iv_get qs i hip')
                have g0 : qs[i]? = some qs[i] := List.getElem?_eq_getElem hip'
                have q1 : (i : Int) < (ql : Int) := by omega
                generalize qs[i] = p at *
                clear hcell
                by_cases hp : 0 < p
                · go_wp2_with fail
                  go_meet
                  exact ⟨true, rfl, rfl, fun _ => ⟨p, hip, g0, hp⟩⟩
                · go_wp2_with fail
                  go_meet
                  exact ⟨false, rfl, rfl, fun e => by cases e⟩
              · have q1 : ¬ (i : Int) < (ql : Int) := by omega
                go_wp2_with fail
                go_meet
                exact ⟨false, rfl, rfl, fun e => by cases e⟩
            case rest =>
              obtain ⟨t, rfl, rfl, ht⟩ := hcut
              go_upto_if 117 with (fail)
              go_cut [11] (fun s wc => ∃ M : Nat, s = .int .i64 ((now + M : Nat) : Int) ∧ w2 = wc ∧ M < G)
              case first =>
                cases t with
                | false =>
                  go_wp2_with fail
                  go_meet
                  exact ⟨0, rfl, rfl, by omega⟩
                | true =>
                  obtain ⟨p, hip, g0, hp⟩ := ht rfl
                  obtain ⟨b, o, rfl, hbl, hcell⟩ := HQ2.out.at_ hip
                  have c0 := hcell i (.int .i64 p) (by rw [iv, List.getElem?_map, g0]; rfl)
                  have q1 : (i : Int) < (ql : Int) := by omega
                  have m0 := Int.emod_nonneg p (show (G : Int) ≠ 0 by omega)
                  have m1 := Int.emod_lt_of_pos p (show (0 : Int) < (G : Int) by omega)
                  obtain ⟨M, hM⟩ : ∃ M : Nat, p % (G : Int) = (M : Int) := ⟨(p % (G : Int)).toNat, by omega⟩
                  have hM2 : M < G := by omega
                  have hG0 : ¬ (G : Int) = 0 := by omega
                  clear hcell ht m0 m1
                  go_wp2_with fail
                  go_meet
                  exact ⟨M, by go_num, rfl, hM2⟩
              case rest =>
                obtain ⟨M, rfl, rfl, hM⟩ := hcut
                clear ht HQ2
                by_cases hfin : at_ + N = l
                · have q3 : ((at_ : Int) + (N : Int) == (l : Int)) = true := by rw [beq_iff_eq]; omega
                  go_wp2_with fail
                  exact ⟨⟨now, at_ + N, i + 1, now, k2, A2, by omega, by omega, rfl, by go_num, by go_num, HL.out, by omega, by omega, by omega, fun _ => rfl⟩, by simp [intOf]; omega⟩
                · have q3 : ((at_ : Int) + (N : Int) == (l : Int)) = false := by rw [beq_eq_false_iff_ne]; omega
                  go_wp2_with fail
                  exact ⟨⟨now + M, at_ + N, i + 1, now, k2, A2, by omega, by omega, rfl, by go_num, by go_num, HL.out, by omega, by omega, by omega, fun e => absurd e hfin⟩, by simp [intOf]; omega⟩
    · obtain rfl : at_ = l := by omega
      obtain rfl : now = last := Hend.out rfl
      have q0 : ¬ (at_ : Int) < (at_ : Int) := by omega
      have hx := Hx.out
      have HL2 := HL
      rw [List.take_of_length_le (l := xs) (Nat.le_of_eq hx)] at HL2
      clear hx HL Hend
      go_wp2_with fail
      refine (waitQ HL2.out ((now : Int) + (G : Int) - 1) (by omega) (by omega) (by omega) (by omega) (by omega) (by omega)).mono ?_
      rintro e w2 ⟨ok2, A2, k2, rfl, L2⟩
      have H2 := hide L2
      clear L2
      go_wp2_with fail
      refine (waitE H2.out ((now : Int) + (G : Int)) (by omega) (by omega) (by omega) (by omega) (by omega) (by omega)).mono ?_
      rintro e w3 ⟨O, n3, ok3, rs, A3, k3, rfl, hn3, r3, m3, L3, ⟨f3, f3'⟩, _⟩
      have H3 := hide L3
      have R3 := hide r3
      have M3 := hide m3
      have N3 := hide hn3
      clear L3 r3 m3 hn3
      go_wp2_with fail
      have HW := waitE H3.out ((now : Int) + (G : Int)) (by omega) (by omega) (by omega) (by omega) (by omega) (by omega)
      rw [end_nil] at HW
      refine HW.mono ?_
      rintro e w4 ⟨O4, n4, ok4, rs4, A4, k4, rfl, hn4, r4, m4, L4, _, _, _, _, b4⟩
      obtain rfl : n4 = 0 := hn4.symm
      have h0 : rs4 = [] := List.map_eq_nil_iff.1 m4
      subst h0
      have R4 := hide (R3.out.but b4 f3 f3')
      have B4 := hide L4.be
      clear HW hn4 r4 m4 L4 b4 f3 f3' R3 H2 H3 HL2
      have hx := Hx.out
      by_cases h256 : 256 < at_
      · have q1 : (256 : Int) < (at_ : Int) := by omega
        have e3 := N3.out
        rw [end_none xs (by omega)] at e3
        obtain rfl : n3 = 0 := e3.symm
        clear hx e3
        go_wp2_with fail
        refine (awake5_any _).mono ?_
        rintro e w6 ⟨rfl, b6⟩
        go_wp2_with fail
        go_ret
        exact ⟨rfl, below_on B4.out b6⟩
      · have q1 : ¬ (256 : Int) < (at_ : Int) := by omega
        have e3 := N3.out
        rw [end_all xs (by omega) (by omega)] at e3
        obtain rfl : n3 = 1 := e3.symm
        have M3' := hide (M3.out.trans (end_all xs (by omega) (by omega)))
        have Hxx := hide hx
        clear hx e3
        go_wp2_with fail
        refine (awake5_any _).mono ?_
        rintro e w6 ⟨rfl, b6⟩
        have B6 := hide (below_on B4.out b6)
        have R6 := hide (R4.out.keep b6)
        clear b6
        go_wp2_with fail
        have hone := RRd.one (w := w6) 22 ⟨B, c, xs⟩ (by show Rd w6 B xs.length (bv xs); rw [Hxx.out]; exact HB.out.keep B6.out)
        have bU : Below w6.heap.size w6 (w6.alloc (.cells #[(RowE.mk B c xs).v] 22)) := (Below.refl _ _).alloc (Nat.le_refl _) _
        simp only [RowE.v, Hxx.out] at hone bU
        refine (rows_yes O _ 1 1 ok3 1 rs _ _ (R6.out.keep bU) hone (by omega) (by omega) (M3'.out.trans rfl)).mono ?_
        rintro e w7 ⟨rfl, b7⟩
        have B7 := hide (below_on B6.out (below_on bU b7))
        clear hone bU b7
        go_wp2_with fail
        go_ret
        exact ⟨rfl, B7.out⟩

end Go.Proofs.Ytkbombdhdgdpnaa
