/-
  What is proved here: the law SlaveAgain returns true for every input. No condition of its own.
-/
import Derived.Test.YtohiblldhdglgaaAwake4
namespace Go.Proofs.Ytohiblldhdglgaa
set_option linter.unusedVariables false
set_option linter.unusedSimpArgs false
open Go.RowKit

/-- Do, of any request: a slave is left a slave. -/
theorem sDo_some (lo hi g : Nat) (b : Nat → Nat) (R : Nat → List Int) (f a c t an o : Int) (A : Option Addr) (n k : Nat) (vs : List Int) (w : World) (h : SlA 58 lo hi w g b R) (hw : wellR R) (hv : Rd w A n (iv vs)) (hn : n ≤ 1000000) :
    Calls Try.prog 11 #[.pointer (some ⟨g, 0, none⟩), .agg #[.int .i64 f, .int .i64 a, .int .i64 c, .slice A n k, .int .i64 t, .int .i64 an, .int .i64 o]] w fun e w' =>
      ∃ v R', e = .returned v ∧ SlA 58 lo hi w' g b R' ∧ wellR R' ∧ Oth lo hi w w' := by
  cases hM : mayB f a c vs t an o
  · refine (sDo_no g f a c t an o A n k vs w hv hn hM).mono fun e w' ⟨h1, h2⟩ => ⟨_, R, h1, h.keep h2, hw, Oth.ofBelow h2 _ _⟩
  · exact (sDo_ok lo hi g b R f a c t an o A n k vs w h hw hv hn hM).mono fun e w' ⟨C, m, h1, _, _, _, h2, h3⟩ => ⟨_, _, h1, h2, well_do hw hM, h3⟩

theorem hasB_len {R R' : Nat → List Int} (h : ∀ kind, (rowL R' kind).length = (rowL R kind).length) (kind addr count : Int) : hasB R' kind addr count = hasB R kind addr count := by
  unfold hasB
  rw [h]
theorem goesB_len {R R' : Nat → List Int} (h : ∀ kind, (rowL R' kind).length = (rowL R kind).length) (f a c n t : Int) : goesB R' f a c n t = goesB R f a c n t := by
  unfold goesB
  rw [hasB_len h, hasB_len h]
theorem goesB_wr {R : Nat → List Int} {f a c n t : Int} (h : goesB R f a c n t = true) : hasB R (wrS f a n t).1 (wrS f a n t).2.1 (wrS f a n t).2.2 = true := by
  unfold goesB at h
  rw [Bool.and_eq_true] at h
  exact h.2
theorem do_len {R : Nat → List Int} {f a c t an o : Int} {vs : List Int} (hM : mayB f a c vs t an o = true) (kind : Int) : (rowL (doR R f a c vs t an o) kind).length = (rowL R kind).length := by
  unfold doR
  by_cases h : goesB R f a c vs.length t = true
  · rw [if_pos h]
    exact next_rowL hM (goesB_wr h) kind
  · rw [if_neg h]
theorem over_over (l : List Int) (at_ : Nat) (vs : List Int) (h : at_ + vs.length ≤ l.length) : over (over l at_ vs) at_ vs = over l at_ vs := by
  unfold over
  have h1 : (l.take at_ ++ vs ++ l.drop (at_ + vs.length)).take at_ = l.take at_ := by
    rw [List.append_assoc, List.take_append_of_le_length (by simp; omega), List.take_of_length_le (by simp; omega)]
  have h2 : (l.take at_ ++ vs ++ l.drop (at_ + vs.length)).drop (at_ + vs.length) = l.drop (at_ + vs.length) := by
    rw [List.drop_append_of_le_length (by simp; omega), List.drop_of_length_le (by simp; omega), List.nil_append]
  rw [h1, h2]
theorem upd_upd (R : Nat → List Int) (k : Nat) (l m : List Int) : upd (upd R k l) k m = upd R k m := by
  funext j
  unfold upd
  split <;> rfl
theorem next_next {R : Nat → List Int} {f a c t an o : Int} {vs : List Int} (hM : mayB f a c vs t an o = true) (hf : f ≠ 22) (hB : hasB R (wrS f a vs.length t).1 (wrS f a vs.length t).2.1 (wrS f a vs.length t).2.2 = true) :
    nextR (nextR R f a vs t an o) f a vs t an o = nextR R f a vs t an o := by
  have hb := hasB_yes hB
  have r0 : rowL R 1 = R 0 := rowL_kind R 0 (by omega)
  have r2 : rowL R 3 = R 2 := rowL_kind R 2 (by omega)
  rcases may_f hM with rfl | rfl | rfl | rfl | rfl | rfl | rfl | rfl | rfl | rfl
  all_goals simp [wrS, r0, r2] at hb
  all_goals first | exact absurd rfl hf | simp only [nextR, newV]
  all_goals simp
  all_goals rw [upd_upd, upd_same, over_over _ _ _ (by omega)]
theorem do_again {R : Nat → List Int} {f a c t an o : Int} {vs : List Int} (hM : mayB f a c vs t an o = true) (hf : f ≠ 22) : doV (doR R f a c vs t an o) f a c vs t an o = doV R f a c vs t an o := by
  have hg := goesB_len (do_len (R := R) hM) f a c vs.length t
  unfold doV
  rw [hg]
  by_cases h : goesB R f a c vs.length t = true
  · rw [if_pos h, if_pos h]
    unfold doR
    rw [if_pos h, next_next hM hf (goesB_wr h)]
  · rw [if_neg h, if_neg h]
theorem doC_again {R : Nat → List Int} {f a c t an o : Int} {vs : List Int} (hM : mayB f a c vs t an o = true) : doC (doR R f a c vs t an o) f a c vs.length t = doC R f a c vs.length t := by
  unfold doC
  rw [goesB_len (do_len (R := R) hM)]

theorem rdS_len {f a c t an o : Int} {vs : List Int} (hM : mayB f a c vs t an o = true) (R : Nat → List Int) : (valsL R f a c).length ≤ 1000000 := by
  have := rdS_count hM
  unfold valsL
  simp only [List.length_take]
  omega
theorem doV_len {R : Nat → List Int} {f a c t an o : Int} {vs : List Int} (hM : mayB f a c vs t an o = true) : (doV R f a c vs t an o).length ≤ 1000000 := by
  unfold doV
  split
  · exact rdS_len hM _
  · simp

set_option maxRecDepth 100000 in
set_option maxHeartbeats 2000000 in
theorem again4_walk (x0 x1 f a c t an o f3 a3 c3 t3 an3 o3 : Int) (A A3 : Option Addr) (n k n3 k3 : Nat) (vs vs3 : List Int) (w : World) (hr : Rd w A n (iv vs)) (hr3 : Rd w A3 n3 (iv vs3)) :
    Calls Try.prog 6 #[.int .i64 x0, .int .i64 x1, .agg #[.int .i64 f, .int .i64 a, .int .i64 c, .slice A n k, .int .i64 t, .int .i64 an, .int .i64 o], .agg #[.int .i64 f3, .int .i64 a3, .int .i64 c3, .slice A3 n3 k3, .int .i64 t3, .int .i64 an3, .int .i64 o3]] w fun e w' => e = .returned (.bool true) ∧ Below w.heap.size w w' := by
  have HB := hide (two_boxes w [.int .i64 f, .int .i64 a, .int .i64 c, .slice A n k, .int .i64 t, .int .i64 an, .int .i64 o] [.int .i64 f3, .int .i64 a3, .int .i64 c3, .slice A3 n3 k3, .int .i64 t3, .int .i64 an3, .int .i64 o3] 34 34 _ rfl)
  have HR := hide hr
  have HR3 := hide hr3
  clear hr hr3
  cases t1 : decide (x0 < 0)
  case true =>
    go_enter Try.func6, Try.ntmps6
    go_wp2
    go_ret
    exact ⟨rfl, HB.out.2.2.1⟩
  cases t2 : decide (200 < x0)
  case true =>
    go_enter Try.func6, Try.ntmps6
    go_wp2
    go_ret
    exact ⟨rfl, HB.out.2.2.1⟩
  cases t3' : decide (x1 < 0)
  case true =>
    go_enter Try.func6, Try.ntmps6
    go_wp2
    go_ret
    exact ⟨rfl, HB.out.2.2.1⟩
  cases t4 : decide (200 < x1)
  case true =>
    go_enter Try.func6, Try.ntmps6
    go_wp2
    go_ret
    exact ⟨rfl, HB.out.2.2.1⟩
  cases t5 : decide (300 < (n : Int))
  case true =>
    go_enter Try.func6, Try.ntmps6
    go_wp2
    go_ret
    exact ⟨rfl, HB.out.2.2.1⟩
  cases t6 : decide (300 < (n3 : Int))
  case true =>
    go_enter Try.func6, Try.ntmps6
    go_wp2
    go_ret
    exact ⟨rfl, HB.out.2.2.1⟩
  obtain ⟨nb, rfl⟩ : ∃ m : Nat, x0 = (m : Int) := ⟨x0.toNat, by simp at t1; omega⟩
  obtain ⟨nw, rfl⟩ : ∃ m : Nat, x1 = (m : Int) := ⟨x1.toNat, by simp at t3'; omega⟩
  have hnb : nb ≤ 200 := by simp at t2; omega
  have hnw : nw ≤ 200 := by simp at t4; omega
  have hn : n ≤ 300 := by simp at t5; omega
  have hn3 : n3 ≤ 300 := by simp at t6; omega
  go_enter Try.func6, Try.ntmps6
  go_wp2_with fail
  generalize hV : (w.alloc _).alloc _ = V
  obtain ⟨zf, zq, bV, sV⟩ := two_boxes w [.int .i64 f, .int .i64 a, .int .i64 c, .slice A n k, .int .i64 t, .int .i64 an, .int .i64 o] [.int .i64 f3, .int .i64 a3, .int .i64 c3, .slice A3 n3 k3, .int .i64 t3, .int .i64 an3, .int .i64 o3] 34 34 V hV.symm
  clear hV t1 t2 t3' t4 t5 t6 HB
  refine (sNew_ok _ _ nb nw rfl rfl (by omega) (by omega) V).mono ?_
  rintro e w1 ⟨g, b, rfl, s1, b1⟩
  have S1 := hide s1
  have L1 := hide (below_on bV b1)
  have Zf1 := hide (zf.keep b1)
  have Zq1 := hide (zq.keep b1)
  have SV := hide sV
  clear s1 bV b1 zf zq sV
  obtain ⟨i0, i1, i2, i3, i4, i5, i6⟩ := Zf1.out.seven
  go_wp2_with fail
  refine (sDo_some _ _ g b (newR nb nw) f a c t an o A n k vs w1 S1.out (newR_well nb nw (by omega) (by omega)) (HR.out.keep L1.out) (by omega)).mono ?_
  rintro e w2 ⟨v, R, rfl, s2, hw2, o2⟩
  have S2 := hide s2
  have HW := hide hw2
  have L2 := hide (below_out L1.out o2 (by have := SV.out; omega) L1.out.size)
  have Zq2 := hide (Zq1.out.out o2 (Or.inl (by have := SV.out; omega)))
  have G2 := hide (Nat.le_trans (Nat.le_refl w1.heap.size) o2.size)
  clear i0 i1 i2 i3 i4 i5 i6 s2 hw2 o2
  obtain ⟨i0, i1, i2, i3, i4, i5, i6⟩ := Zq2.out.seven
  go_wp2_with fail
  cases hM : mayB f3 a3 c3 vs3 t3 an3 o3
  · refine (sDo_no g f3 a3 c3 t3 an3 o3 A3 n3 k3 vs3 w2 (HR3.out.keep L2.out) (by omega) hM).mono ?_
    rintro e w3 ⟨rfl, b3⟩
    have L3 := hide (below_on L2.out b3)
    clear i0 i1 i2 i3 i4 i5 i6 b3 hM
    go_wp2_with fail
    generalize hV : w3.alloc _ = V3
    obtain ⟨zV, bV⟩ := box2 w3 _ _ _ V3 hV.symm
    have Z3 := hide zV
    have L4 := hide (below_on L3.out bV)
    clear hV zV bV
    refine (awake4_any _).mono ?_
    rintro e w4 ⟨rfl, b4⟩
    have L5 := hide (below_on L4.out b4)
    have Z4 := hide (Z3.out.keep b4)
    clear b4
    obtain ⟨j0, j1⟩ := Z4.out.two
    go_wp2_with fail
    refine (ansSame_yes 0 none none 0 0 0 0 [] _ (Rd.nil _ _) (Rd.nil _ _) (by omega)).mono ?_
    rintro e w5 ⟨rfl, b5⟩
    have L6 := hide (below_on L5.out b5)
    clear b5 j0 j1
    go_wp2
    go_ret
    exact ⟨rfl, L6.out⟩
  · have hl : vs3.length = n3 := by rw [← iv_length]; exact HR3.out.1
    have HC2 := hide (doC_again (R := R) hM)
    have HV2 := hide (fun h : f3 ≠ 22 => do_again (R := R) hM h)
    have HLv : Hid ((doV R f3 a3 c3 vs3 t3 an3 o3).length ≤ 1000000) := hide (doV_len hM)
    have HLv2 : Hid ((doV (doR R f3 a3 c3 vs3 t3 an3 o3) f3 a3 c3 vs3 t3 an3 o3).length ≤ 1000000) := hide (doV_len hM)
    rw [hl] at HC2
    have hcc : doC R f3 a3 c3 n3 t3 = 0 ∨ doC R f3 a3 c3 n3 t3 = 2 := by
      unfold doC
      split
      · exact Or.inl rfl
      · exact Or.inr rfl
    have H1 := hide (fun W h hv => sDo_ok V.heap.size w1.heap.size g b R f3 a3 c3 t3 an3 o3 A3 n3 k3 vs3 W h HW.out hv (by omega) hM)
    have H2 := hide (fun W h hv => sDo_ok V.heap.size w1.heap.size g b (doR R f3 a3 c3 vs3 t3 an3 o3) f3 a3 c3 t3 an3 o3 A3 n3 k3 vs3 W h (well_do HW.out hM) hv (by omega) hM)
    rw [HC2.out] at H2
    clear HC2 hl hM
    generalize doC R f3 a3 c3 n3 t3 = cd at *
    generalize doV R f3 a3 c3 vs3 t3 an3 o3 = V1 at *
    generalize doR R f3 a3 c3 vs3 t3 an3 o3 = R2 at *
    generalize doV R2 f3 a3 c3 vs3 t3 an3 o3 = V2 at *
    generalize doR R2 f3 a3 c3 vs3 t3 an3 o3 = R3 at *
    refine (H1.out w2 S2.out (HR3.out.keep L2.out)).mono ?_
    rintro e w3 ⟨C3, m3, rfl, lm, rC, nC, s3, o3'⟩
    have S3a := hide s3
    have L3a := hide (below_out L2.out o3' (by have := SV.out; omega) L2.out.size)
    have Zq3a := hide (Zq2.out.out o3' (Or.inl (by have := SV.out; omega)))
    have RC := hide rC
    have NC := hide nC
    have G3 := hide (Nat.le_trans G2.out o3'.size)
    clear i0 i1 i2 i3 i4 i5 i6 lm rC nC s3 o3'
    obtain ⟨i0, i1, i2, i3, i4, i5, i6⟩ := Zq3a.out.seven
    have zlt := Zq3a.out.lt
    go_wp2_with fail
    clear i0 i1 i2 i3 i4 i5 i6 zlt
    generalize hV : w3.alloc _ = V3
    obtain ⟨zV, bV⟩ := box2 w3 _ _ _ V3 hV.symm
    have Z3 := hide zV
    have L3 := hide (below_on L3a.out bV)
    have S3 := hide (S3a.out.keep bV)
    have RC3 := hide (RC.out.keep bV)
    have Zq3 := hide (Zq3a.out.keep bV)
    clear hV zV bV
    refine (H2.out V3 S3.out (HR3.out.keep L3.out)).mono ?_
    rintro e w4 ⟨C4, m4, rfl, lm, rC, nC, s4, o4⟩
    have L4a := hide (below_out L3.out o4 (by have := SV.out; omega) L3.out.size)
    have Zq4a := hide (Zq3.out.out o4 (Or.inl (by have := SV.out; omega)))
    have Z34a := hide (Z3.out.out o4 (Or.inr (by have := G3.out; omega)))
    have RC34a := hide (RC3.out.out o4 (fun b' o' e' => Or.inr (Nat.le_trans G2.out (NC.out b' o' e'))))
    have RC4 := hide rC
    have G4 := hide (Nat.lt_of_lt_of_le Z3.out.lt o4.size)
    clear lm rC nC s4 o4
    obtain ⟨i0, i1, i2, i3, i4, i5, i6⟩ := Zq4a.out.seven
    obtain ⟨j0, j1⟩ := Z34a.out.two
    have zlt := Zq4a.out.lt
    have zlt2 := Z34a.out.lt
    have qc : (cd != cd) = false := by simp
    rcases hcc with rfl | rfl
    all_goals
      go_wp2_with fail
      clear i0 i1 i2 i3 i4 i5 i6 j0 j1 zlt zlt2
      generalize hV : w4.alloc _ = V4
      obtain ⟨zV, bV⟩ := box2 w4 _ _ _ V4 hV.symm
      have Z44 := hide zV
      have L4 := hide (below_on L4a.out bV)
      have RC44 := hide (RC4.out.keep bV)
      have RC34 := hide (RC34a.out.keep bV)
      have Zq4 := hide (Zq4a.out.keep bV)
      have Z34 := hide (Z34a.out.keep bV)
      clear hV zV bV
      refine (awake4_any _).mono ?_
      rintro e w5 ⟨rfl, b5⟩
      have L5 := hide (below_on L4.out b5)
      have Z35 := hide (Z34.out.keep b5)
      have Z45 := hide (Z44.out.keep b5)
      have Zq5 := hide (Zq4.out.keep b5)
      have R35 := hide (RC34.out.keep b5)
      have R45 := hide (RC44.out.keep b5)
      clear b5
      obtain ⟨j0, j1⟩ := Z35.out.two
      obtain ⟨k0, k1⟩ := Z45.out.two
      obtain ⟨i0, i1, i2, i3, i4, i5, i6⟩ := Zq5.out.seven
      by_cases h22 : f3 = 22
      · subst h22
        go_wp2
        go_ret
        exact ⟨rfl, L5.out⟩
      · have E22 := hide (HV2.out h22)
        replace h22 := ne_beq h22
        go_wp2_with fail
        have r4 := R45.out
        rw [E22.out] at r4
        refine (ansSame_yes _ C3 C4 V1.length V2.length m3 m4 V1 _ R35.out (by rw [E22.out]; exact r4) HLv.out).mono ?_
        rintro e w6 ⟨rfl, b6⟩
        have L6 := hide (below_on L5.out b6)
        clear b6 j0 j1 k0 k1 r4
        go_wp2
        go_ret
        exact ⟨rfl, L6.out⟩

end Go.Proofs.Ytohiblldhdglgaa
