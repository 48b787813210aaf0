/-
  What is proved here: the law StreamOne returns true for every number and all bytes, wherever they are parted, and writes nothing that was there. No condition.
-/
import Derived.Test.YtdlhcecmodefkaaAwake11
import Derived.Test.YtdlhcecmodefkaaFlat11
import Derived.Deep.DeepCutAuto
namespace Go.Proofs.Ytdlhcecmodefkaa
set_option linter.unusedVariables false
set_option linter.unusedSimpArgs false
open Go.RowKit

set_option maxHeartbeats 4000000 in
set_option maxRecDepth 100000 in
theorem one11_walk (most_ : Int) (A : Option Addr) (n k : Nat) (xs : List UInt8) (at_ : Int) (w : World) (hA : Rd w A n (bv xs)) (hk : n ≤ k) :
    Calls Try.prog 7 #[.int .i64 most_, .slice A n k, .int .i64 at_] w fun e w' => e = .returned (.bool true) ∧ Below w.heap.size w w' := by
  have HA := hide hA
  have HX : Hid (xs.length = n) := by show _ = _; rw [← bv_length]; exact hA.1
  clear hA
  by_cases h1 : 3000 < n
  · have q : (3000 : Int) < (n : Int) := by omega
    go_enter Try.func7, Try.ntmps7
    go_wp2
    go_ret
    exact ⟨rfl, Below.refl _ _⟩
  have q1 : ¬ (3000 : Int) < (n : Int) := by omega
  by_cases h2 : at_ < 0
  · skip
    go_enter Try.func7, Try.ntmps7
    go_wp2
    go_ret
    exact ⟨rfl, Below.refl _ _⟩
  by_cases h3 : (n : Int) < at_
  · skip
    go_enter Try.func7, Try.ntmps7
    go_wp2
    go_ret
    exact ⟨rfl, Below.refl _ _⟩
  obtain ⟨p, rfl⟩ := Int.eq_ofNat_of_zero_le (show 0 ≤ at_ by omega)
  have hp : p ≤ n := by omega
  by_cases hm : most_ < 2 ∨ 268435460 < most_
  · have PN := fun W => new11_no most_ W hm
    clear hm
    go_enter Try.func7, Try.ntmps7
    go_wp2_with fail
    refine (PN w).mono ?_
    rintro e w1 ⟨rfl, rfl⟩
    go_wp2_with fail
    refine (PN w).mono ?_
    rintro e w1 ⟨rfl, rfl⟩
    clear PN
    go_wp2_with fail
    refine (awake11_any _).mono ?_
    rintro e w1 ⟨rfl, b1⟩
    go_wp2_with fail
    go_ret
    exact ⟨rfl, b1⟩
  obtain ⟨most, rfl⟩ := Int.eq_ofNat_of_zero_le (show 0 ≤ most_ by omega)
  have hmo : most ≤ 268435460 := by omega
  have PN := fun W => new11_any most W (by omega)
  clear hm
  go_enter Try.func7, Try.ntmps7
  go_wp2_with fail
  refine (PN w).mono ?_
  rintro e w1 ⟨g, rfl, hg, s1, b1⟩
  have S1 := hide s1
  have B1 := hide b1
  have hg1 := s1.str.lt
  clear s1 b1
  go_wp2_with fail
  refine (PN w1).mono ?_
  rintro e w2 ⟨h, rfl, hh, s2, b2⟩
  have G2 := hide (S1.out.keep b2)
  have H2 := hide s2
  have B2 := hide (below_on B1.out b2)
  have hh2 := s2.str.lt
  have hz2 := B2.out.size
  clear s2 b2 S1 B1 PN
  go_wp2_with fail
  refine (feed11_any g most hmo none 0 [] none A n k xs w2 G2.out (HA.out.keep B2.out) (by simp; omega)).mono ?_
  rintro e w3 ⟨O1, k1, rs1, A1, j1, rfl, t1, r1, n1, m1, s1, a1, -, -, b3⟩
  have R1 := hide r1
  have N1 := hide n1
  have M1 := hide m1
  have hz3 := b3.size
  have B3 := hide (But.below B2.out b3 (fun i e => by rcases e with e | ⟨o, e⟩; omega; cases e) B2.out.size)
  have H3 := hide (H2.out.but b3 (fun e => by rcases e with e | ⟨o, e⟩; omega; cases e) (Off.none_ _))
  have hA1l : ∀ b o, A1 = some ⟨b, o, none⟩ → b < w3.heap.size := fun b o e => own_lt s1.own b o e
  have hA1h : ∀ b o, A1 = some ⟨b, o, none⟩ → b ≠ h := fun b o e => by
    rcases a1 with rfl | a1
    · cases e
    · have := a1 b o e; omega
  have e1 : fdE11 most [] none xs = erP most xs := rfl
  have e2 : fdL11 most [] none xs = lfP most xs := rfl
  have e3 : fdT11 most [] none xs = toP most xs := rfl
  rw [e1]
  rw [e2] at s1
  rw [e3] at t1
  have G3 := hide s1
  have T1 := hide t1
  clear r1 n1 m1 b3 s1 a1 t1 e1 e2 e3 G2 H2 B2
  have hsl1 := fun W => run_slTo (P := Try.prog) 31 5 Try.underlying31 u8_size A n k (p : Int) p rfl (by omega) W
  have hsl2 := fun W => run_slTail (P := Try.prog) 31 5 Try.underlying31 u8_size A n k (p : Int) p rfl (by omega) W
  go_wp2_with fail
  refine (feed11_any h most hmo none 0 [] none A p k (xs.take p) w3 H3.out ((HA.out.keep B3.out).upto p k hp hk) (by simp; omega)).mono ?_
  rintro e w4 ⟨O2, k2, rs2, A2, j2, rfl, t2, r2, n2, m2, s2, a2, f2, o2, b4⟩
  have hz4 := b4.size
  have B4 := hide (But.below B3.out b4 (fun i e => by rcases e with e | ⟨o, e⟩; omega; cases e) B3.out.size)
  have R14 := hide (R1.out.but b4 (fun b o e hb => by have := N1.out b o e; rcases hb with hb | ⟨o, hb⟩; omega; cases hb) (fun r hr => (M1.out r hr).high fun i hb => by rcases hb with hb | ⟨o, hb⟩; omega; cases hb))
  have G4 := hide (G3.out.but b4 (fun hb => by rcases hb with hb | ⟨o, hb⟩; omega; cases hb) (fun b o e hb => by rcases hb with hb | ⟨o, hb⟩; exact hA1h b o e hb; cases hb))
  have hA2 : ∀ i, SoB A2 i → w3.heap.size ≤ i := fun i ⟨o, e⟩ => by
    rcases a2 with rfl | a2
    · cases e
    · exact a2 i o e
  have H4 := hide s2
  have R2 := hide r2
  have N2 := hide n2
  have M2 := hide m2
  have T2 := hide t2
  have F2 := hide f2
  have OO2 := hide o2
  have RL1 := hide (fun r hr => (R1.out.2 r hr).low hA2)
  have hlf : (fdL11 most [] none (xs.take p)).length + (n - p) ≤ 65535 := by
    have := lfP_len most (xs.take p)
    show (lfP most (xs.take p)).length + (n - p) ≤ 65535
    rw [List.length_take] at this
    omega
  have hO1l : rs1 ≠ [] → ∀ b o, O1 = some ⟨b, o, none⟩ → b < w3.heap.size := fun hne b o e => by
    obtain ⟨b', o', e', hl, -⟩ := R1.out.1.at_ (k := 0) (by cases rs1 with | nil => exact absurd rfl hne | cons a l => simp)
    rw [e] at e'
    injection e' with e'
    injection e' with e1
    omega
  obtain ⟨p1, p2, p3, p5⟩ := fd_parts11 most (xs.take p) (xs.drop p)
  rw [List.take_append_drop] at p1 p2 p3 p5
  have P1 := hide p1
  have P2 := hide p2
  have P3 := hide p3
  have P5 := hide p5
  clear r2 n2 m2 b4 s2 a2 t2 f2 o2 p1 p2 p3 p5 R1 G3 H3
  generalize fdE11 most [] none (xs.take p) = F at *
  generalize fdT11 most [] none (xs.take p) = T2L at *
  generalize fdL11 most [] none (xs.take p) = L2 at *
  generalize fdF11 most [] none (xs.take p) = F2L at *
  go_wp2_with fail
  refine (feed11_any h most hmo A2 j2 L2 F2L (cutA A p k) (n - p) (k - p) (xs.drop p) w4 H4.out (by rw [← bv_drop]; exact (HA.out.keep B4.out).tail p k hp hk) hlf).mono ?_
  rintro e w5 ⟨O3, k3, rs3, A3, j3, rfl, t3, r3, n3, m3, s3, a3, -, -, b5⟩
  rw [← P2.out]
  rw [← P3.out] at s3
  have hsame : rs1.map PkRow.p = (rs2 ++ rs3).map PkRow.p := by rw [List.map_append, T1.out, T2.out, t3, P1.out]
  have hfew : rs1.length ≤ 3000 := by
    have := lfP_len most xs
    have h2 := congrArg List.length T1.out
    have h3 := HX.out
    simp at h2
    omega
  have hfew2 : rs2.length + rs3.length ≤ 3000 := by
    have := congrArg List.length hsame
    simp at this
    omega
  have hz5 := b5.size
  have hgh : ¬ (g = h ∨ SoB A2 g) := fun hb => by
    rcases hb with hb | hb
    · omega
    · have := hA2 g hb; omega
  have B5 := hide (But.below B4.out b5 (fun i e => by rcases e with e | e; omega; have := hA2 i e; omega) B4.out.size)
  have R15 : Hid (PRd w5 O1 rs1) := by
    refine hide ?_
    by_cases hne : rs1 = []
    · rw [hne]
      exact ⟨⟨rfl, fun h => by simp at h⟩, fun _ h => by cases h⟩
    · exact R14.out.but b5 (fun b o e hb => by
        have h1 := N1.out b o e
        have h2 := hO1l hne b o e
        rcases hb with hb | hb
        · omega
        · have := hA2 b hb; omega) (fun r hr => ⟨fun hc b o e hb => by
            rcases hb with hb | hb
            · have := (M1.out r hr).1 b o e; omega
            · exact (RL1.out r hr).1 hc b o e hb, fun hc b o e hb => by
            rcases hb with hb | hb
            · have := (M1.out r hr).2 b o e; omega
            · exact (RL1.out r hr).2 hc b o e hb⟩)
  have R25 := hide (R2.out.but b5 (fun b o e hb => by
      rcases hb with hb | hb
      · have := N2.out b o e; omega
      · exact F2.out b o e hb) (fun r hr => ⟨fun hc b o e hb => by
          rcases hb with hb | hb
          · have := (M2.out r hr).1 b o e; omega
          · exact (OO2.out r hr).1 hc b o e hb, fun hc b o e hb => by
          rcases hb with hb | hb
          · have := (M2.out r hr).2 b o e; omega
          · exact (OO2.out r hr).2 hc b o e hb⟩))
  have G5 := hide (G4.out.but b5 hgh (fun b o e hb => by
    rcases hb with hb | hb
    · exact hA1h b o e hb
    · have h1 := hA2 b hb
      have h2 := hA1l b o e
      omega))
  have H5 := hide s3
  have R3 := hide r3
  have HS := hide hsame
  have TS1 := hide (show ∀ r ∈ rs1, PkT r.p from fun r hr => by
    have hs := toP_short most xs (by have := HX.out; omega) r.p (by rw [← T1.out]; exact List.mem_map_of_mem hr)
    exact ⟨hs.2.2.2.2.2.1, hs.2.2.2.2.2.2.1⟩)
  have TS2 := hide (show ∀ r ∈ rs2 ++ rs3, PkT r.p from fun r hr => by
    have hs := toP_short most xs (by have := HX.out; omega) r.p (by rw [← T1.out, hsame]; exact List.mem_map_of_mem hr)
    exact ⟨hs.2.2.2.2.2.1, hs.2.2.2.2.2.2.1⟩)
  have hor : erP most xs = 0 ∨ erP most xs = 100 ∨ erP most xs = 101 := by
    unfold erP
    split
    · exact Or.inr (stC_or _ _)
    · exact Or.inl rfl
  have hF := P5.out
  clear t3 r3 n3 m3 s3 a3 b5 hsame R14 R2 G4 H4 hlf P1 P2 P3 P5 hgh hA2 hA1l hA1h hO1l F2 OO2 RL1 T1 T2 N1 N2 M1 M2
  generalize erP most xs = E at *
  generalize lfP most xs = LX at *
  generalize fdF11 most [] none xs = bX at *
  generalize fdF11 most L2 F2L (xs.drop p) = bY at *
  go_upto_region 11 with (first
    | (at_builtin; refine wpList_appS rfl (.tmp 82) (.tmp 83) 46 rfl 27 _ 18 200 Try.underlying46 pkt_info rfl (by omega) w5.heap.size _ 0 0 [] rfl (own_emptyP w5) O2 rs2.length k2 (prVs rs2) rfl (R25.out.1.keep ((Below.refl _ _).alloc (Nat.le_refl _) _)) (prVs_one _) (by unfold maxLen; omega) (by omega) (by simp) ?_; intro A6 c6 w6 o6 b6 _; rw [Nat.zero_add, List.nil_append] at o6; (have x6 : Below w5.heap.size w5 w6 := But.below ((Below.refl _ _).alloc (Nat.le_refl _) _) b6 (fun i ⟨o, e⟩ => by injection e with e; injection e with e _ _; omega) (by simp)); have O6 := hide o6; have B6 := hide x6; clear o6 b6 x6)
    | (at_builtin; refine wpList_appS rfl (.tmp 84) (.tmp 85) 46 rfl 27 _ 18 200 Try.underlying46 pkt_info rfl (by omega) w5.heap.size A6 rs2.length c6 (prVs rs2) rfl O6.out O3 rs3.length k3 (prVs rs3) rfl (R3.out.1.keep B6.out) (prVs_one _) (by unfold maxLen; omega) (by omega) B6.out.size ?_; intro A7 c7 w7 o7 b7 _; (have x7 : Below w5.heap.size w5 w7 := But.below B6.out b7 (fun i ⟨o, e⟩ => ownS_new O6.out i o e) B6.out.size); have O7 := hide o7; have B7 := hide x7; clear o7 b7 x7))
  have r7 : PRd w7 A7 (rs2 ++ rs3) := by
    refine ⟨?_, fun r hr => ?_⟩
    · rw [prVs_append, List.length_append]
      exact ownS_rd O7.out
    · rcases List.mem_append.1 hr with hr | hr
      · exact (R25.out.2 r hr).keep B7.out
      · exact (R3.out.2 r hr).keep B7.out
  have hln : (rs2 ++ rs3).length = rs2.length + rs3.length := List.length_append
  have PR := fun W (b : Below w7.heap.size w7 W) => rows11_any O1 A7 k1 c7 rs1 (rs2 ++ rs3) W ((R15.out.keep B7.out).keep b) (r7.keep b) TS1.out TS2.out (by omega) (by omega)
  rw [decide_eq_true HS.out, hln] at PR
  have G7 := hide (G5.out.keep B7.out)
  have H7 := hide (H5.out.keep B7.out)
  clear r7 O7 O6 R25 R3 hln TS1 TS2 HS R15
  have BB := hide (below_on B5.out B7.out)
  clear B7 B6 G5 H5 B5
  rcases hF with rfl | rfl
  · rcases hor with rfl | rfl | rfl
    · skip
      go_wp2_with (first
        | (go_at_call 20; refine (awake11_any _).mono ?_; rintro e w8 ⟨rfl, b8⟩; have B8 := hide b8; clear b8)
        | (go_at_call 25; refine (PR w8 B8.out).mono ?_; rintro e w9 ⟨rfl, b9⟩; have B9 := hide (below_on B8.out b9); clear b9))
      refine (left11_any g most A1 j1 LX bX w9 (G7.out.keep B9.out)).mono ?_
      rintro e w10 ⟨rfl, rfl⟩
      go_wp2_with fail
      refine (left11_any h most A3 j3 LX bY w9 (H7.out.keep B9.out)).mono ?_
      rintro e w11 ⟨rfl, rfl⟩
      go_wp2_with fail
      go_ret
      exact ⟨rfl, below_on BB.out B9.out⟩
    · skip
      go_wp2_with (first
        | (go_at_call 20; refine (awake11_any _).mono ?_; rintro e w8 ⟨rfl, b8⟩; have B8 := hide b8; clear b8)
        | (go_at_call 25; refine (PR w8 B8.out).mono ?_; rintro e w9 ⟨rfl, b9⟩; have B9 := hide (below_on B8.out b9); clear b9))
      refine (left11_any g most A1 j1 LX bX w9 (G7.out.keep B9.out)).mono ?_
      rintro e w10 ⟨rfl, rfl⟩
      go_wp2_with fail
      refine (left11_any h most A3 j3 LX bY w9 (H7.out.keep B9.out)).mono ?_
      rintro e w11 ⟨rfl, rfl⟩
      go_wp2_with fail
      go_ret
      exact ⟨rfl, below_on BB.out B9.out⟩
    · skip
      go_wp2_with (first
        | (go_at_call 20; refine (awake11_any _).mono ?_; rintro e w8 ⟨rfl, b8⟩; have B8 := hide b8; clear b8)
        | (go_at_call 25; refine (PR w8 B8.out).mono ?_; rintro e w9 ⟨rfl, b9⟩; have B9 := hide (below_on B8.out b9); clear b9))
      refine (left11_any g most A1 j1 LX bX w9 (G7.out.keep B9.out)).mono ?_
      rintro e w10 ⟨rfl, rfl⟩
      go_wp2_with fail
      refine (left11_any h most A3 j3 LX bY w9 (H7.out.keep B9.out)).mono ?_
      rintro e w11 ⟨rfl, rfl⟩
      go_wp2_with fail
      go_ret
      exact ⟨rfl, below_on BB.out B9.out⟩
  · rcases hor with rfl | rfl | rfl
    · skip
      go_wp2_with (first
        | (go_at_call 20; refine (awake11_any _).mono ?_; rintro e w8 ⟨rfl, b8⟩; have B8 := hide b8; clear b8)
        | (go_at_call 25; refine (PR w8 B8.out).mono ?_; rintro e w9 ⟨rfl, b9⟩; have B9 := hide (below_on B8.out b9); clear b9))
      refine (left11_any g most A1 j1 LX bX w9 (G7.out.keep B9.out)).mono ?_
      rintro e w10 ⟨rfl, rfl⟩
      go_wp2_with fail
      refine (left11_any h most A3 j3 LX bY w9 (H7.out.keep B9.out)).mono ?_
      rintro e w11 ⟨rfl, rfl⟩
      go_wp2_with fail
      go_ret
      exact ⟨rfl, below_on BB.out B9.out⟩
    · skip
      go_wp2_with (first
        | (go_at_call 20; refine (awake11_any _).mono ?_; rintro e w8 ⟨rfl, b8⟩; have B8 := hide b8; clear b8)
        | (go_at_call 25; refine (PR w8 B8.out).mono ?_; rintro e w9 ⟨rfl, b9⟩; have B9 := hide (below_on B8.out b9); clear b9))
      refine (left11_any g most A1 j1 LX bX w9 (G7.out.keep B9.out)).mono ?_
      rintro e w10 ⟨rfl, rfl⟩
      go_wp2_with fail
      refine (left11_any h most A3 j3 LX bY w9 (H7.out.keep B9.out)).mono ?_
      rintro e w11 ⟨rfl, rfl⟩
      go_wp2_with fail
      go_ret
      exact ⟨rfl, below_on BB.out B9.out⟩
    · skip
      go_wp2_with (first
        | (go_at_call 20; refine (awake11_any _).mono ?_; rintro e w8 ⟨rfl, b8⟩; have B8 := hide b8; clear b8)
        | (go_at_call 25; refine (PR w8 B8.out).mono ?_; rintro e w9 ⟨rfl, b9⟩; have B9 := hide (below_on B8.out b9); clear b9))
      refine (left11_any g most A1 j1 LX bX w9 (G7.out.keep B9.out)).mono ?_
      rintro e w10 ⟨rfl, rfl⟩
      go_wp2_with fail
      refine (left11_any h most A3 j3 LX bY w9 (H7.out.keep B9.out)).mono ?_
      rintro e w11 ⟨rfl, rfl⟩
      go_wp2_with fail
      go_ret
      exact ⟨rfl, below_on BB.out B9.out⟩

end Go.Proofs.Ytdlhcecmodefkaa
