/-
  What is proved here: the law MbapOne returns true for all bytes, wherever they are parted, and writes nothing that was there. No condition.
-/
import Derived.Test.YtjldfefebnpdgaaMb6
import Derived.Test.YtjldfefebnpdgaaSame6
import Derived.Deep.DeepCutAuto
namespace Go.Proofs.Ytjldfefebnpdgaa
set_option linter.unusedVariables false
set_option linter.unusedSimpArgs false
open Go.RowKit

/-- Fed in two parts. -/
theorem fd_parts (a b : List UInt8) : toL (a ++ b) = toL a ++ fdT (lfL a) (brB a) b ∧ brE (a ++ b) = fdE (lfL a) (brB a) b ∧ lfL (a ++ b) = fdL (lfL a) (brB a) b ∧ brB (a ++ b) = fdB (lfL a) (brB a) b := by
  have h := cutAll_parts mbCuts a b
  cases hb : brB a with
  | true =>
    have hb' : (cutAll mbNx a).2.2 = true := hb
    rw [hb'] at h
    have e1 : brB (a ++ b) = true := by show (cutAll mbNx (a ++ b)).2.2 = true; rw [h]; rfl
    refine ⟨?_, ?_, ?_, e1⟩
    · show (cutAll mbNx (a ++ b)).1 = (cutAll mbNx a).1 ++ []
      rw [h, List.append_nil]
      rfl
    · unfold brE; rw [e1]; rfl
    · unfold lfL fdL; rw [e1, hb]; rfl
  | false =>
    have hb' : (cutAll mbNx a).2.2 = false := hb
    have e0 : lfL a = (cutAll mbNx a).2.1 := by unfold lfL; rw [hb]; rfl
    rw [hb', ← e0] at h
    have e1 : brB (a ++ b) = brB (lfL a ++ b) := by show (cutAll mbNx (a ++ b)).2.2 = _; rw [h]; rfl
    have e2 : lfL (a ++ b) = lfL (lfL a ++ b) := by
      unfold lfL at *
      rw [e1, h]
      rfl
    refine ⟨?_, ?_, e2, e1⟩
    · show (cutAll mbNx (a ++ b)).1 = (cutAll mbNx a).1 ++ (cutAll mbNx (lfL a ++ b)).1
      rw [h]
      rfl
    · show brE (a ++ b) = brE (lfL a ++ b)
      unfold brE; rw [e1]
theorem own_emptyA (w : World) : (w.alloc (.cells #[] 24)).ownsRow w.heap.size 24 3 (.slice (some ⟨w.heap.size, 0, none⟩) 0 0) 0 [] :=
  ⟨rfl, .inr ⟨w.heap.size, 0, #[], rfl, Nat.le_refl _, Blk.new w 24 [], Nat.le_refl _, by decide, rfl, rfl⟩⟩
theorem toL_few (xs : List UInt8) : (toL xs).length ≤ xs.length := by
  have key : ∀ (k : Nat) (xs : List UInt8), xs.length ≤ k → (cutAll mbNx xs).1.length ≤ xs.length := by
    intro k
    induction k using Nat.strongRecOn with
    | ind k ih =>
      intro x hk
      match hn : mbNx x with
      | .wait => rw [cutAll_wait x mbCuts hn]; exact Nat.zero_le _
      | .bad => rw [cutAll_bad x mbCuts hn]; exact Nat.zero_le _
      | .cut a n =>
        have hp := mbCuts.pos _ _ _ hn
        rw [cutAll_cut x mbCuts a n hn]
        have hl : (x.drop n).length < k := by rw [List.length_drop]; omega
        have := ih (x.drop n).length hl (x.drop n) (Nat.le_refl _)
        rw [List.length_drop] at this
        show (cutAll mbNx (x.drop n)).1.length + 1 ≤ _
        omega
  exact key _ xs (Nat.le_refl _)

set_option maxHeartbeats 2000000 in
set_option maxRecDepth 100000 in
theorem one6_walk (A : Option Addr) (n k : Nat) (xs : List UInt8) (at_ : Int) (w : World) (hA : Rd w A n (bv xs)) (hk : n ≤ k) :
    Calls Try.prog 6 #[.slice A n k, .int .i64 at_] w fun e w' => e = .returned (.bool true) ∧ Below w.heap.size w w' := by
  have HA := hide hA
  have HX : Hid (xs.length = n) := by show _ = _; rw [← bv_length]; exact hA.1
  clear hA
  by_cases h1 : 3000 < n
  · have q : (3000 : Int) < (n : Int) := by omega
    go_enter Try.func6, Try.ntmps6
    go_wp2
    go_ret
    exact ⟨rfl, Below.refl _ _⟩
  have q1 : ¬ (3000 : Int) < (n : Int) := by omega
  by_cases h2 : at_ < 0
  · skip
    go_enter Try.func6, Try.ntmps6
    go_wp2
    go_ret
    exact ⟨rfl, Below.refl _ _⟩
  by_cases h3 : (n : Int) < at_
  · skip
    go_enter Try.func6, Try.ntmps6
    go_wp2
    go_ret
    exact ⟨rfl, Below.refl _ _⟩
  obtain ⟨p, rfl⟩ := Int.eq_ofNat_of_zero_le (show 0 ≤ at_ by omega)
  have hp : p ≤ n := by omega
  go_enter Try.func6, Try.ntmps6
  go_wp2_with fail
  refine (mnew_any w).mono ?_
  rintro e w1 ⟨g, rfl, hg, s1, b1⟩
  have S1 := hide s1
  have B1 := hide b1
  have hg1 := s1.str.lt
  clear s1 b1
  go_wp2_with fail
  refine (mnew_any w1).mono ?_
  rintro e w2 ⟨h, rfl, hh, s2, b2⟩
  have G2 := hide (S1.out.keep b2)
  have H2 := hide s2
  have B2 := hide (below_on B1.out b2)
  have hh2 := s2.str.lt
  have hz2 := B2.out.size
  clear s2 b2 S1 B1
  go_wp2_with fail
  refine (mfeed_any g none 0 [] false A n k xs w2 G2.out (HA.out.keep B2.out) (by simp; omega)).mono ?_
  rintro e w3 ⟨O1, k1, rs1, A1, j1, rfl, t1, r1, ⟨n1, m1⟩, s1, a1, b3⟩
  have R1 := hide r1
  have N1 := hide n1
  have M1 := hide m1
  have hz3 := b3.size
  have B3 := hide (But.below B2.out b3 (fun i e => by omega) B2.out.size)
  have H3 := hide (H2.out.but b3 (by omega) (Off.none_ _))
  have oA1 : Off (fun i => i = h) A1 := by
    rcases a1 with rfl | a1
    · exact Off.none_ _
    · exact fun b o e hb => by have := a1 b o e; omega
  have e1 : fdE [] false xs = brE xs := rfl
  have e2 : fdL [] false xs = lfL xs := rfl
  have e3 : fdT [] false xs = toL xs := rfl
  rw [e1]
  rw [e2] at s1
  rw [e3] at t1
  have G3 := hide s1
  have T1 := hide t1
  clear r1 n1 m1 b3 s1 a1 t1 e1 e2 e3 G2 H2 B2
  have hsl1 := fun W => run_slTo (P := Try.prog) 22 5 Try.underlying22 u8_size A n k (p : Int) p rfl (by omega) W
  have hsl2 := fun W => run_slTail (P := Try.prog) 22 5 Try.underlying22 u8_size A n k (p : Int) p rfl (by omega) W
  go_wp2_with fail
  refine (mfeed_any h none 0 [] false A p k (xs.take p) w3 H3.out ((HA.out.keep B3.out).upto p k hp hk) (by simp; omega)).mono ?_
  rintro e w4 ⟨O2, k2, rs2, A2, j2, rfl, t2, r2, ⟨n2, m2⟩, s2, a2, b4⟩
  have e1 : fdE [] false (xs.take p) = brE (xs.take p) := rfl
  have e2 : fdL [] false (xs.take p) = lfL (xs.take p) := rfl
  have e3 : fdT [] false (xs.take p) = toL (xs.take p) := rfl
  have e4 : fdB [] false (xs.take p) = brB (xs.take p) := rfl
  rw [e1]
  rw [e2, e4] at s2
  rw [e3] at t2
  have hz4 := b4.size
  have B4 := hide (But.below B3.out b4 (fun i e => by omega) B3.out.size)
  have R14 := hide (R1.out.but b4 (fun b o e hb => by have := N1.out b o e; omega) (fun r hr b o e hb => by have := M1.out r hr b o e; omega))
  have G4 := hide (G3.out.but b4 (by omega) oA1)
  have H4 := hide s2
  have R2 := hide r2
  have N2 := hide n2
  have M2 := hide m2
  have T2 := hide t2
  have hlf : (lfL (xs.take p)).length + (n - p) ≤ 1000000 := by
    have := lfL_len (xs.take p)
    rw [List.length_take] at this
    omega
  clear r2 n2 m2 b4 s2 a2 t2 e1 e2 e3 e4 R1 G3 H3
  go_wp2_with fail
  refine (mfeed_any h A2 j2 (lfL (xs.take p)) (brB (xs.take p)) (cutA A p k) (n - p) (k - p) (xs.drop p) w4 H4.out (by rw [← bv_drop]; exact (HA.out.keep B4.out).tail p k hp hk) hlf).mono ?_
  rintro e w5 ⟨O3, k3, rs3, A3, j3, rfl, t3, r3, ⟨n3, m3⟩, s3, a3, b5⟩
  obtain ⟨p1, p2, p3, p4⟩ := fd_parts (xs.take p) (xs.drop p)
  rw [List.take_append_drop] at p1 p2 p3 p4
  rw [← p2]
  rw [← p3, ← p4] at s3
  have hsame : rs1.map AduM.e = (rs2 ++ rs3).map AduM.e := by rw [List.map_append, T1.out, T2.out, t3, p1]
  have hbr : brB (xs.take p) = true → brE xs = 50 := by
    intro hb
    rw [p2]
    unfold fdE
    rw [hb]
    rfl
  have hfew : rs1.length ≤ 3000 := by
    have := toL_few xs
    have h2 := congrArg List.length T1.out
    have h3 := HX.out
    simp at h2
    omega
  have hfew2 : rs2.length + rs3.length ≤ 3000 := by
    have := congrArg List.length hsame
    simp at this
    omega
  have hz5 := b5.size
  have B5 := hide (But.below B4.out b5 (fun i e => by omega) B4.out.size)
  have R15 := hide (R14.out.but b5 (fun b o e hb => by have := N1.out b o e; omega) (fun r hr b o e hb => by have := M1.out r hr b o e; omega))
  have R25 := hide (R2.out.but b5 (fun b o e hb => by have := N2.out b o e; omega) (fun r hr b o e hb => by have := M2.out r hr b o e; omega))
  have G5 := hide (G4.out.but b5 (by omega) oA1)
  have H5 := hide s3
  have R3 := hide r3
  have HS := hide hsame
  clear t3 r3 n3 m3 s3 a3 b5 p1 p2 p3 p4 hsame R14 R2 G4 H4 hlf
  have qE : (brE (xs.take p) != 0) = brB (xs.take p) := brE_bne _
  have hE : brE (xs.take p) = if brB (xs.take p) then 50 else 0 := rfl
  generalize brE (xs.take p) = F at *
  generalize brB (xs.take p) = bb at *
  generalize brE xs = E at *
  generalize lfL xs = LX at *
  generalize fdB [] false xs = bX at *
  generalize brB xs = bY at *
  go_upto_region 11 with (first
    | (at_builtin; refine wpList_appS rfl (.tmp 56) (.tmp 57) 35 rfl 24 _ 3 _ Try.underlying35 adu_info rfl (by omega) w5.heap.size _ 0 0 [] rfl (own_emptyA w5) O2 rs2.length k2 (avs rs2) rfl (R25.out.1.keep ((Below.refl _ _).alloc (Nat.le_refl _) _)) (avs_one _) (by unfold maxLen; omega) (by omega) (by simp) ?_; intro A6 c6 w6 o6 b6 _; rw [Nat.zero_add, List.nil_append] at o6; (have x6 : Below w5.heap.size w5 w6 := But.below ((Below.refl _ _).alloc (Nat.le_refl _) _) b6 (fun i ⟨o, e⟩ => by injection e with e; injection e with e _ _; omega) (by simp)); have O6 := hide o6; have B6 := hide x6; clear o6 b6 x6)
    | (at_builtin; refine wpList_appS rfl (.tmp 58) (.tmp 59) 35 rfl 24 _ 3 _ Try.underlying35 adu_info rfl (by omega) w5.heap.size A6 rs2.length c6 (avs rs2) rfl O6.out O3 rs3.length k3 (avs rs3) rfl (R3.out.1.keep B6.out) (avs_one _) (by unfold maxLen; omega) (by omega) B6.out.size ?_; intro A7 c7 w7 o7 b7 _; (have x7 : Below w5.heap.size w5 w7 := But.below B6.out b7 (fun i ⟨o, e⟩ => ownS_new O6.out i o e) B6.out.size); have O7 := hide o7; have B7 := hide x7; clear o7 b7 x7))
  have r7 : ARd w7 A7 (rs2.length + rs3.length) (rs2 ++ rs3) := by
    refine ⟨?_, fun r hr => ?_⟩
    · rw [avs_append]
      exact ownS_rd O7.out
    · rcases List.mem_append.1 hr with hr | hr
      · exact Rd.keep (R25.out.2 r hr) B7.out
      · exact Rd.keep (R3.out.2 r hr) B7.out
  have R7 := hide r7
  have R17 := hide (R15.out.keep B7.out)
  have G7 := hide (G5.out.keep B7.out)
  have H7 := hide (H5.out.keep B7.out)
  clear r7 O7 O6 R25 R3
  have BB := hide (below_on B5.out B7.out)
  clear B7 B6
  cases bb with
  | true =>
    have hE2 := hbr rfl
    simp only [if_true] at hE
    subst hE2 hE
    clear hbr qE
    go_wp2_with (first
      | (go_at_call 11; refine (awake6_any _).mono ?_; rintro e w8 ⟨rfl, b8⟩; have B8 := hide b8; clear b8)
      | (go_at_call 19; refine (same6_yes O1 A7 _ _ _ _ rs1 (rs2 ++ rs3) w8 (R17.out.keep B8.out) (R7.out.keep B8.out) (by omega) HS.out).mono ?_; rintro e w9 ⟨rfl, b9⟩; have B9 := hide (below_on B8.out b9); clear b9))
    refine (mleft_any g A1 j1 LX bX w9 (G7.out.keep B9.out)).mono ?_
    rintro e w10 ⟨rfl, rfl⟩
    go_wp2_with fail
    refine (mleft_any h A3 j3 LX bY w9 (H7.out.keep B9.out)).mono ?_
    rintro e w11 ⟨rfl, rfl⟩
    go_wp2_with fail
    go_ret
    exact ⟨rfl, below_on BB.out B9.out⟩
  | false =>
    simp only [Bool.false_eq_true, if_false] at hE
    subst hE
    clear hbr qE
    go_wp2_with (first
      | (go_at_call 11; refine (awake6_any _).mono ?_; rintro e w8 ⟨rfl, b8⟩; have B8 := hide b8; clear b8)
      | (go_at_call 19; refine (same6_yes O1 A7 _ _ _ _ rs1 (rs2 ++ rs3) w8 (R17.out.keep B8.out) (R7.out.keep B8.out) (by omega) HS.out).mono ?_; rintro e w9 ⟨rfl, b9⟩; have B9 := hide (below_on B8.out b9); clear b9))
    refine (mleft_any g A1 j1 LX bX w9 (G7.out.keep B9.out)).mono ?_
    rintro e w10 ⟨rfl, rfl⟩
    go_wp2_with fail
    refine (mleft_any h A3 j3 LX bY w9 (H7.out.keep B9.out)).mono ?_
    rintro e w11 ⟨rfl, rfl⟩
    go_wp2_with fail
    go_ret
    exact ⟨rfl, below_on BB.out B9.out⟩

end Go.Proofs.Ytjldfefebnpdgaa
