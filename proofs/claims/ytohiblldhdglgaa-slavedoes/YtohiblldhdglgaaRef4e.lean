/-
  What is proved here: what the document's own Do of layer 4 does for requests that write and read nothing. Conditions: a slave that lies in memory, its rows words; a request that may be, its values elsewhere.
-/
import Derived.Test.YtohiblldhdglgaaRef4d
import Derived.Test.YtohiblldhdglgaaBox2
namespace Go.Proofs.Ytohiblldhdglgaa
set_option linter.unusedVariables false
set_option linter.unusedSimpArgs false
open Go.RowKit

theorem has_end (R : Nat → List Int) (kind addr count : Int) (h0 : 0 ≤ addr) (h1 : 1 ≤ count) : hasB R kind (addr + count - 1) 1 = hasB R kind addr count := by
  unfold hasB
  generalize ((rowL R kind).length : Int) = L
  rw [decide_eq_true (show 0 ≤ addr + count - 1 by omega), decide_eq_true h0, Bool.true_and, Bool.true_and, decide_eq_decide]
  omega
theorem hasB_zero (R : Nat → List Int) : hasB R 0 0 0 = true := by
  unfold hasB
  rw [rowL_no R 0 (by omega)]
  rfl
theorem may_addr {f a c t an o : Int} {vs : List Int} (h : mayB f a c vs t an o = true) : 0 ≤ a ∧ a ≤ 65535 ∧ (f = 23 → 0 ≤ t ∧ t ≤ 65535) := by
  rcases may_f h with rfl | rfl | rfl | rfl | rfl | rfl | rfl | rfl | rfl | rfl <;> simp [mayB, readsB, liesB, swapsB, oneB, manyB, masksB, upToB, isW] at h <;> omega
theorem may_count {f a c t an o : Int} {vs : List Int} (h : mayB f a c vs t an o = true) : (f ≤ 4 ∨ f = 23 → 1 ≤ c ∧ c ≤ 2000) ∧ (f = 5 ∨ f = 6 ∨ f = 22 → c = 0) ∧ (f = 15 ∨ f = 16 → c = vs.length) := by
  rcases may_f h with rfl | rfl | rfl | rfl | rfl | rfl | rfl | rfl | rfl | rfl <;> simp [mayB, readsB, liesB, swapsB, oneB, manyB, masksB, upToB, isW] at h ⊢ <;> omega
/-- A request that only writes. -/
theorem goes_wr {R : Nat → List Int} {f a c t an o : Int} {vs : List Int} {n : Nat} (hn : vs.length = n) (hM : mayB f a c vs t an o = true) (hf : f = 5 ∨ f = 15 ∨ f = 6 ∨ f = 16 ∨ f = 22) : goesB R f a c n t = hasB R (if f = 5 ∨ f = 15 then 1 else 3) (a + (max n 1 : Nat) - 1) 1 := by
  have ha := may_addr hM
  rw [has_end R _ a _ ha.1 (by omega)]
  unfold goesB
  rcases hf with rfl | rfl | rfl | rfl | rfl
  · have := may_one hM (by omega) (by omega)
    simp [rdS, wrS, hasB_zero, show max n 1 = n by omega]
  · have := may_one hM (by omega) (by omega)
    simp [rdS, wrS, hasB_zero, show max n 1 = n by omega]
  · have := may_one hM (by omega) (by omega)
    simp [rdS, wrS, hasB_zero, show max n 1 = n by omega]
  · have := may_one hM (by omega) (by omega)
    simp [rdS, wrS, hasB_zero, show max n 1 = n by omega]
  · have := may_read hM (by omega)
    simp [rdS, wrS, hasB_zero, show max n 1 = 1 by omega]

/-- What the document's Do answers and leaves. -/
def RetRDo (lo hi g : Nat) (b : Nat → Nat) (R : Nat → List Int) (f a c : Int) (vs : List Int) (t an o : Int) (w : World) (x : Ending) (w' : World) : Prop :=
  ∃ C m, x = .returned (.agg #[.slice C (doV R f a c vs t an o).length m, .int .i64 (doC R f a c vs.length t)]) ∧ (doV R f a c vs t an o).length ≤ m ∧ Rd w' C (doV R f a c vs t an o).length (iv (doV R f a c vs t an o)) ∧ NewA w C ∧
    SlA 50 lo hi w' g b (doR R f a c vs t an o) ∧ Oth lo hi w w'

theorem RetRDo.no {lo hi g : Nat} {b : Nat → Nat} {R : Nat → List Int} {f a c : Int} {vs : List Int} {t an o : Int} {w w' : World} (hG : goesB R f a c vs.length t = false) (h : SlA 50 lo hi w' g b R) (ho : Oth lo hi w w') :
    RetRDo lo hi g b R f a c vs t an o w (.returned (.agg #[.slice none 0 0, .int .i64 2])) w' := by
  unfold RetRDo
  rw [show doC R f a c vs.length t = 2 by simp [doC, hG], show doR R f a c vs t an o = R by simp [doR, hG], show doV R f a c vs t an o = [] by simp [doV, hG]]
  exact ⟨none, 0, rfl, Nat.le_refl _, Rd.nil _ _, NewA.nil _, h, ho⟩
theorem RetRDo.wr {lo hi g : Nat} {b : Nat → Nat} {R : Nat → List Int} {f a c : Int} {vs : List Int} {t an o : Int} {w w' : World} (hG : goesB R f a c vs.length t = true) (hf : f = 5 ∨ f = 15 ∨ f = 6 ∨ f = 16 ∨ f = 22) (h : SlA 50 lo hi w' g b (nextR R f a vs t an o)) (ho : Oth lo hi w w') :
    RetRDo lo hi g b R f a c vs t an o w (.returned (.agg #[.slice none 0 0, .int .i64 0])) w' := by
  unfold RetRDo
  have hv : valsL (nextR R f a vs t an o) f a c = [] := by
    unfold valsL
    rcases hf with rfl | rfl | rfl | rfl | rfl <;> simp [rdS]
  rw [show doC R f a c vs.length t = 0 by simp [doC, hG], show doR R f a c vs t an o = nextR R f a vs t an o by simp [doR, hG], show doV R f a c vs t an o = [] by simp [doV, hG, hv]]
  exact ⟨none, 0, rfl, Nat.le_refl _, Rd.nil _ _, NewA.nil _, h, ho⟩

set_option maxRecDepth 100000 in
set_option maxHeartbeats 2000000 in
theorem rDo_5 (lo hi g : Nat) (b : Nat → Nat) (R : Nat → List Int) (a t an o : Int) (A : Option Addr) (n k : Nat) (vs : List Int) (w : World) (h : SlA 50 lo hi w g b R) (hw : wellR R) (hv : Rd w A n (iv vs)) (hA : OutA lo hi A) (hn : n ≤ 1000000) (hM : mayB 5 a 0 vs t an o = true) :
    Calls Try.prog 14 #[.pointer (some ⟨g, 0, none⟩), .agg #[.int .i64 5, .int .i64 a, .int .i64 0, .slice A n k, .int .i64 t, .int .i64 an, .int .i64 o]] w (RetRDo lo hi g b R 5 a 0 vs t an o w) := by
  have hl : vs.length = n := by rw [← iv_length]; exact hv.1
  have HL := hide hl
  have hG := goes_wr (R := R) hl hM (by omega)
  have ha := may_addr hM
  have h1 := may_one hM (by omega) (by omega)
  have qm : ¬ ((n : Int) < 1) := by omega
  have q0 : (0 : Int) < (n : Int) := by omega
  obtain ⟨at_, rfl⟩ : ∃ m : Nat, a = (m : Int) := ⟨a.toNat, by omega⟩
  have hat : at_ ≤ 65535 := by omega
  have H1 := hide h
  have HV := hide hv
  have HA := hide hA
  have HM := hide hM
  rw [show max n 1 = n by omega] at hG
  simp at hG
  have HHn := hide (fun W (h : SlA 50 lo hi W g b R) => rHas_any lo hi g b R 1 ((at_ : Int) + (n : Int) - 1) W h)
  cases hB : hasB R 1 ((at_ : Int) + (n : Int) - 1) 1
  · rw [hB] at hG HHn
    have HG := hide hG
    clear hG hB h hv hA hM hl h1
    go_enter Try.func14, Try.ntmps14
    go_wp2_with fail
    generalize hV : (w.alloc (.cells #[.int .i64 5, .int .i64 (at_ : Int), .int .i64 0, .slice A n k, .int .i64 t, .int .i64 an, .int .i64 o] 34)).alloc (.cells #[.slice none 0 0, .int .i64 0] 38) = V
    obtain ⟨hB1, hB2, hBel, hsz⟩ := two_boxes w [.int .i64 5, .int .i64 (at_ : Int), .int .i64 0, .slice A n k, .int .i64 t, .int .i64 an, .int .i64 o] [.slice none 0 0, .int .i64 0] 34 38 V hV.symm
    clear hV
    have K1 := hide hB1
    have J1 := hide hB2
    have L1 := hide hBel
    have S1 := hide (H1.out.keep hBel)
    clear hB1 hB2 hBel hsz
    refine (HHn.out _ S1.out).mono ?_
    rintro e w1 ⟨rfl, rfl⟩
    obtain ⟨j0, j1⟩ := J1.out.two
    have jf := J1.out.frozen
    have hz := J1.out.lt
    go_wp2_with fail
    (try simp only [Exit.inBlock, Exit.then])
    refine bodyPost_ret (results_cell (a := 4) rfl rfl (J1.out.set2 (.slice none 0 0) (.int .i64 2)) Try.underlying38 rfl (by kernel_rfl)) rfl ?_
    refine RetRDo.no (by rw [HL.out]; exact HG.out) (S1.out.out ((Oth.setCell (g := w.heap.size + 1) _ _).trans (Oth.setCell _ _)) (Or.inl (by have := H1.out.hi; omega))) ?_
    exact ((Oth.ofBelow L1.out lo hi).setNew (by omega)).setNew (by omega)
  · rw [hB] at hG HHn
    have hy := hasB_yes hB
    rw [show rowL R 1 = R 0 from rowL_kind R 0 (by omega)] at hy
    have HG := hide hG
    have HW : Hid (∀ W, SlA 50 lo hi W g b R → Rd W A n (iv vs) → Calls Try.prog 33 #[.pointer (some ⟨g, 0, none⟩), .int .i64 1, .int .i64 (at_ : Int), .slice A n k] W fun e w' =>
      e = .returned (.tuple #[]) ∧ SlA 50 lo hi w' g b (upd R 0 (over (R 0) at_ vs)) ∧ Oth lo hi W w') := hide (fun W h hr => rWrite_any lo hi g b R 0 at_ (by omega) A n k vs W h hr HA.out (by omega) (hw 0 (by omega)).1)
    have hhi := H1.out.hi
    clear hG hB h hv hA hM hl hy
    go_enter Try.func14, Try.ntmps14
    go_wp2_with fail
    generalize hV : (w.alloc (.cells #[.int .i64 5, .int .i64 (at_ : Int), .int .i64 0, .slice A n k, .int .i64 t, .int .i64 an, .int .i64 o] 34)).alloc (.cells #[.slice none 0 0, .int .i64 0] 38) = V
    obtain ⟨hB1, hB2, hBel, hsz⟩ := two_boxes w [.int .i64 5, .int .i64 (at_ : Int), .int .i64 0, .slice A n k, .int .i64 t, .int .i64 an, .int .i64 o] [.slice none 0 0, .int .i64 0] 34 38 V hV.symm
    clear hV
    have K1 := hide hB1
    have J1 := hide hB2
    have L1 := hide hBel
    have S1 := hide (H1.out.keep hBel)
    clear hB1 hB2 hBel hsz
    refine (HHn.out _ S1.out).mono ?_
    rintro e w1 ⟨rfl, rfl⟩
    obtain ⟨k0, k1, k2, k3, k4, k5, k6⟩ := K1.out.seven
    go_wp2_with fail
    refine (HW.out _ S1.out (HV.out.keep L1.out)).mono ?_
    rintro e w2 ⟨rfl, s2, o2⟩
    have S2 := hide s2
    have K2 := hide (K1.out.out o2 (Or.inr hhi))
    have J2 := hide (J1.out.out o2 (Or.inr (by omega)))
    have O2 := hide (Oth.after L1.out o2)
    clear s2 o2 k0 k1 k2 k3 k4 k5 k6 K1 J1 L1 S1
    go_wp2_with fail
    generalize hV : w2.alloc _ = V2
    obtain ⟨zV, bV⟩ := box2 w2 _ _ _ V2 hV.symm
    have Z3 := hide zV
    have S3 := hide (S2.out.keep bV)
    have K3 := hide (K2.out.keep bV)
    have J3 := hide (J2.out.keep bV)
    have O3 := hide (O2.out.on bV)
    have G3 := hide (show w.heap.size + 1 < w2.heap.size from J2.out.lt)
    clear hV zV bV
    go_loopw [10] (fun x wr => x = .int .i64 0 ∧ wr = V2) (fun _ _ => 0)
    case atStart => exact ⟨rfl, rfl⟩
    case round =>
      obtain ⟨rfl, rfl⟩ := hrel
      obtain ⟨k0, k1, k2, k3, k4, k5, k6⟩ := K3.out.seven
      obtain ⟨j0, j1⟩ := J3.out.two
      obtain ⟨z0, z1⟩ := Z3.out.two
      have jf := J3.out.frozen
      have hz := J3.out.lt
      have hne := G3.out
      go_wp2_with fail
      (try simp only [Exit.inBlock, Exit.then])
      refine bodyPost_ret (results_cell (a := 4) rfl rfl (J3.out.set2 (.slice none 0 0) (.int .i64 0)) Try.underlying38 rfl (by kernel_rfl)) rfl ?_
      refine RetRDo.wr (by rw [HL.out]; exact HG.out) (by omega) ?_ ?_
      · have := S3.out.out ((Oth.setCell (g := w.heap.size + 1) (i := 0) wr (.slice none 0 0)).trans (Oth.setCell (i := 1) _ (.int .i64 0))) (Or.inl (by omega))
        exact this.congr (fun k hk => by simp [nextR, newV])
      · exact (O3.out.setNew (by omega)).setNew (by omega)
set_option maxRecDepth 100000 in
set_option maxHeartbeats 2000000 in
theorem rDo_6 (lo hi g : Nat) (b : Nat → Nat) (R : Nat → List Int) (a t an o : Int) (A : Option Addr) (n k : Nat) (vs : List Int) (w : World) (h : SlA 50 lo hi w g b R) (hw : wellR R) (hv : Rd w A n (iv vs)) (hA : OutA lo hi A) (hn : n ≤ 1000000) (hM : mayB 6 a 0 vs t an o = true) :
    Calls Try.prog 14 #[.pointer (some ⟨g, 0, none⟩), .agg #[.int .i64 6, .int .i64 a, .int .i64 0, .slice A n k, .int .i64 t, .int .i64 an, .int .i64 o]] w (RetRDo lo hi g b R 6 a 0 vs t an o w) := by
  have hl : vs.length = n := by rw [← iv_length]; exact hv.1
  have HL := hide hl
  have hG := goes_wr (R := R) hl hM (by omega)
  have ha := may_addr hM
  have h1 := may_one hM (by omega) (by omega)
  have qm : ¬ ((n : Int) < 1) := by omega
  have q0 : (0 : Int) < (n : Int) := by omega
  obtain ⟨at_, rfl⟩ : ∃ m : Nat, a = (m : Int) := ⟨a.toNat, by omega⟩
  have hat : at_ ≤ 65535 := by omega
  have H1 := hide h
  have HV := hide hv
  have HA := hide hA
  have HM := hide hM
  rw [show max n 1 = n by omega] at hG
  simp at hG
  have HHn := hide (fun W (h : SlA 50 lo hi W g b R) => rHas_any lo hi g b R 3 ((at_ : Int) + (n : Int) - 1) W h)
  cases hB : hasB R 3 ((at_ : Int) + (n : Int) - 1) 1
  · rw [hB] at hG HHn
    have HG := hide hG
    clear hG hB h hv hA hM hl h1
    go_enter Try.func14, Try.ntmps14
    go_wp2_with fail
    generalize hV : (w.alloc (.cells #[.int .i64 6, .int .i64 (at_ : Int), .int .i64 0, .slice A n k, .int .i64 t, .int .i64 an, .int .i64 o] 34)).alloc (.cells #[.slice none 0 0, .int .i64 0] 38) = V
    obtain ⟨hB1, hB2, hBel, hsz⟩ := two_boxes w [.int .i64 6, .int .i64 (at_ : Int), .int .i64 0, .slice A n k, .int .i64 t, .int .i64 an, .int .i64 o] [.slice none 0 0, .int .i64 0] 34 38 V hV.symm
    clear hV
    have K1 := hide hB1
    have J1 := hide hB2
    have L1 := hide hBel
    have S1 := hide (H1.out.keep hBel)
    clear hB1 hB2 hBel hsz
    refine (HHn.out _ S1.out).mono ?_
    rintro e w1 ⟨rfl, rfl⟩
    obtain ⟨j0, j1⟩ := J1.out.two
    have jf := J1.out.frozen
    have hz := J1.out.lt
    go_wp2_with fail
    (try simp only [Exit.inBlock, Exit.then])
    refine bodyPost_ret (results_cell (a := 4) rfl rfl (J1.out.set2 (.slice none 0 0) (.int .i64 2)) Try.underlying38 rfl (by kernel_rfl)) rfl ?_
    refine RetRDo.no (by rw [HL.out]; exact HG.out) (S1.out.out ((Oth.setCell (g := w.heap.size + 1) _ _).trans (Oth.setCell _ _)) (Or.inl (by have := H1.out.hi; omega))) ?_
    exact ((Oth.ofBelow L1.out lo hi).setNew (by omega)).setNew (by omega)
  · rw [hB] at hG HHn
    have hy := hasB_yes hB
    rw [show rowL R 3 = R 2 from rowL_kind R 2 (by omega)] at hy
    have HG := hide hG
    have HW : Hid (∀ W, SlA 50 lo hi W g b R → Rd W A n (iv vs) → Calls Try.prog 33 #[.pointer (some ⟨g, 0, none⟩), .int .i64 3, .int .i64 (at_ : Int), .slice A n k] W fun e w' =>
      e = .returned (.tuple #[]) ∧ SlA 50 lo hi w' g b (upd R 2 (over (R 2) at_ vs)) ∧ Oth lo hi W w') := hide (fun W h hr => rWrite_any lo hi g b R 2 at_ (by omega) A n k vs W h hr HA.out (by omega) (hw 2 (by omega)).1)
    have hhi := H1.out.hi
    clear hG hB h hv hA hM hl hy
    go_enter Try.func14, Try.ntmps14
    go_wp2_with fail
    generalize hV : (w.alloc (.cells #[.int .i64 6, .int .i64 (at_ : Int), .int .i64 0, .slice A n k, .int .i64 t, .int .i64 an, .int .i64 o] 34)).alloc (.cells #[.slice none 0 0, .int .i64 0] 38) = V
    obtain ⟨hB1, hB2, hBel, hsz⟩ := two_boxes w [.int .i64 6, .int .i64 (at_ : Int), .int .i64 0, .slice A n k, .int .i64 t, .int .i64 an, .int .i64 o] [.slice none 0 0, .int .i64 0] 34 38 V hV.symm
    clear hV
    have K1 := hide hB1
    have J1 := hide hB2
    have L1 := hide hBel
    have S1 := hide (H1.out.keep hBel)
    clear hB1 hB2 hBel hsz
    refine (HHn.out _ S1.out).mono ?_
    rintro e w1 ⟨rfl, rfl⟩
    obtain ⟨k0, k1, k2, k3, k4, k5, k6⟩ := K1.out.seven
    go_wp2_with fail
    refine (HW.out _ S1.out (HV.out.keep L1.out)).mono ?_
    rintro e w2 ⟨rfl, s2, o2⟩
    have S2 := hide s2
    have K2 := hide (K1.out.out o2 (Or.inr hhi))
    have J2 := hide (J1.out.out o2 (Or.inr (by omega)))
    have O2 := hide (Oth.after L1.out o2)
    clear s2 o2 k0 k1 k2 k3 k4 k5 k6 K1 J1 L1 S1
    go_wp2_with fail
    generalize hV : w2.alloc _ = V2
    obtain ⟨zV, bV⟩ := box2 w2 _ _ _ V2 hV.symm
    have Z3 := hide zV
    have S3 := hide (S2.out.keep bV)
    have K3 := hide (K2.out.keep bV)
    have J3 := hide (J2.out.keep bV)
    have O3 := hide (O2.out.on bV)
    have G3 := hide (show w.heap.size + 1 < w2.heap.size from J2.out.lt)
    clear hV zV bV
    go_loopw [10] (fun x wr => x = .int .i64 0 ∧ wr = V2) (fun _ _ => 0)
    case atStart => exact ⟨rfl, rfl⟩
    case round =>
      obtain ⟨rfl, rfl⟩ := hrel
      obtain ⟨k0, k1, k2, k3, k4, k5, k6⟩ := K3.out.seven
      obtain ⟨j0, j1⟩ := J3.out.two
      obtain ⟨z0, z1⟩ := Z3.out.two
      have jf := J3.out.frozen
      have hz := J3.out.lt
      have hne := G3.out
      go_wp2_with fail
      (try simp only [Exit.inBlock, Exit.then])
      refine bodyPost_ret (results_cell (a := 4) rfl rfl (J3.out.set2 (.slice none 0 0) (.int .i64 0)) Try.underlying38 rfl (by kernel_rfl)) rfl ?_
      refine RetRDo.wr (by rw [HL.out]; exact HG.out) (by omega) ?_ ?_
      · have := S3.out.out ((Oth.setCell (g := w.heap.size + 1) (i := 0) wr (.slice none 0 0)).trans (Oth.setCell (i := 1) _ (.int .i64 0))) (Or.inl (by omega))
        exact this.congr (fun k hk => by simp [nextR, newV])
      · exact (O3.out.setNew (by omega)).setNew (by omega)
set_option maxRecDepth 100000 in
set_option maxHeartbeats 2000000 in
theorem rDo_15 (lo hi g : Nat) (b : Nat → Nat) (R : Nat → List Int) (a t an o : Int) (A : Option Addr) (n k : Nat) (vs : List Int) (w : World) (h : SlA 50 lo hi w g b R) (hw : wellR R) (hv : Rd w A n (iv vs)) (hA : OutA lo hi A) (hn : n ≤ 1000000) (hM : mayB 15 a (n : Int) vs t an o = true) :
    Calls Try.prog 14 #[.pointer (some ⟨g, 0, none⟩), .agg #[.int .i64 15, .int .i64 a, .int .i64 (n : Int), .slice A n k, .int .i64 t, .int .i64 an, .int .i64 o]] w (RetRDo lo hi g b R 15 a (n : Int) vs t an o w) := by
  have hl : vs.length = n := by rw [← iv_length]; exact hv.1
  have HL := hide hl
  have hG := goes_wr (R := R) hl hM (by omega)
  have ha := may_addr hM
  have h1 := may_one hM (by omega) (by omega)
  have qm : ¬ ((n : Int) < 1) := by omega
  have q0 : (0 : Int) < (n : Int) := by omega
  obtain ⟨at_, rfl⟩ : ∃ m : Nat, a = (m : Int) := ⟨a.toNat, by omega⟩
  have hat : at_ ≤ 65535 := by omega
  have H1 := hide h
  have HV := hide hv
  have HA := hide hA
  have HM := hide hM
  rw [show max n 1 = n by omega] at hG
  simp at hG
  have HHn := hide (fun W (h : SlA 50 lo hi W g b R) => rHas_any lo hi g b R 1 ((at_ : Int) + (n : Int) - 1) W h)
  cases hB : hasB R 1 ((at_ : Int) + (n : Int) - 1) 1
  · rw [hB] at hG HHn
    have HG := hide hG
    clear hG hB h hv hA hM hl h1
    go_enter Try.func14, Try.ntmps14
    go_wp2_with fail
    generalize hV : (w.alloc (.cells #[.int .i64 15, .int .i64 (at_ : Int), .int .i64 (n : Int), .slice A n k, .int .i64 t, .int .i64 an, .int .i64 o] 34)).alloc (.cells #[.slice none 0 0, .int .i64 0] 38) = V
    obtain ⟨hB1, hB2, hBel, hsz⟩ := two_boxes w [.int .i64 15, .int .i64 (at_ : Int), .int .i64 (n : Int), .slice A n k, .int .i64 t, .int .i64 an, .int .i64 o] [.slice none 0 0, .int .i64 0] 34 38 V hV.symm
    clear hV
    have K1 := hide hB1
    have J1 := hide hB2
    have L1 := hide hBel
    have S1 := hide (H1.out.keep hBel)
    clear hB1 hB2 hBel hsz
    refine (HHn.out _ S1.out).mono ?_
    rintro e w1 ⟨rfl, rfl⟩
    obtain ⟨j0, j1⟩ := J1.out.two
    have jf := J1.out.frozen
    have hz := J1.out.lt
    go_wp2_with fail
    (try simp only [Exit.inBlock, Exit.then])
    refine bodyPost_ret (results_cell (a := 4) rfl rfl (J1.out.set2 (.slice none 0 0) (.int .i64 2)) Try.underlying38 rfl (by kernel_rfl)) rfl ?_
    refine RetRDo.no (by rw [HL.out]; exact HG.out) (S1.out.out ((Oth.setCell (g := w.heap.size + 1) _ _).trans (Oth.setCell _ _)) (Or.inl (by have := H1.out.hi; omega))) ?_
    exact ((Oth.ofBelow L1.out lo hi).setNew (by omega)).setNew (by omega)
  · rw [hB] at hG HHn
    have hy := hasB_yes hB
    rw [show rowL R 1 = R 0 from rowL_kind R 0 (by omega)] at hy
    have HG := hide hG
    have HW : Hid (∀ W, SlA 50 lo hi W g b R → Rd W A n (iv vs) → Calls Try.prog 33 #[.pointer (some ⟨g, 0, none⟩), .int .i64 1, .int .i64 (at_ : Int), .slice A n k] W fun e w' =>
      e = .returned (.tuple #[]) ∧ SlA 50 lo hi w' g b (upd R 0 (over (R 0) at_ vs)) ∧ Oth lo hi W w') := hide (fun W h hr => rWrite_any lo hi g b R 0 at_ (by omega) A n k vs W h hr HA.out (by omega) (hw 0 (by omega)).1)
    have hhi := H1.out.hi
    clear hG hB h hv hA hM hl hy
    go_enter Try.func14, Try.ntmps14
    go_wp2_with fail
    generalize hV : (w.alloc (.cells #[.int .i64 15, .int .i64 (at_ : Int), .int .i64 (n : Int), .slice A n k, .int .i64 t, .int .i64 an, .int .i64 o] 34)).alloc (.cells #[.slice none 0 0, .int .i64 0] 38) = V
    obtain ⟨hB1, hB2, hBel, hsz⟩ := two_boxes w [.int .i64 15, .int .i64 (at_ : Int), .int .i64 (n : Int), .slice A n k, .int .i64 t, .int .i64 an, .int .i64 o] [.slice none 0 0, .int .i64 0] 34 38 V hV.symm
    clear hV
    have K1 := hide hB1
    have J1 := hide hB2
    have L1 := hide hBel
    have S1 := hide (H1.out.keep hBel)
    clear hB1 hB2 hBel hsz
    refine (HHn.out _ S1.out).mono ?_
    rintro e w1 ⟨rfl, rfl⟩
    obtain ⟨k0, k1, k2, k3, k4, k5, k6⟩ := K1.out.seven
    go_wp2_with fail
    refine (HW.out _ S1.out (HV.out.keep L1.out)).mono ?_
    rintro e w2 ⟨rfl, s2, o2⟩
    have S2 := hide s2
    have K2 := hide (K1.out.out o2 (Or.inr hhi))
    have J2 := hide (J1.out.out o2 (Or.inr (by omega)))
    have O2 := hide (Oth.after L1.out o2)
    clear s2 o2 k0 k1 k2 k3 k4 k5 k6 K1 J1 L1 S1
    go_wp2_with fail
    generalize hV : w2.alloc _ = V2
    obtain ⟨zV, bV⟩ := box2 w2 _ _ _ V2 hV.symm
    have Z3 := hide zV
    have S3 := hide (S2.out.keep bV)
    have K3 := hide (K2.out.keep bV)
    have J3 := hide (J2.out.keep bV)
    have O3 := hide (O2.out.on bV)
    have G3 := hide (show w.heap.size + 1 < w2.heap.size from J2.out.lt)
    clear hV zV bV
    go_loopw [10] (fun x wr => x = .int .i64 0 ∧ wr = V2) (fun _ _ => 0)
    case atStart => exact ⟨rfl, rfl⟩
    case round =>
      obtain ⟨rfl, rfl⟩ := hrel
      obtain ⟨k0, k1, k2, k3, k4, k5, k6⟩ := K3.out.seven
      obtain ⟨j0, j1⟩ := J3.out.two
      obtain ⟨z0, z1⟩ := Z3.out.two
      have jf := J3.out.frozen
      have hz := J3.out.lt
      have hne := G3.out
      go_wp2_with fail
      (try simp only [Exit.inBlock, Exit.then])
      refine bodyPost_ret (results_cell (a := 4) rfl rfl (J3.out.set2 (.slice none 0 0) (.int .i64 0)) Try.underlying38 rfl (by kernel_rfl)) rfl ?_
      refine RetRDo.wr (by rw [HL.out]; exact HG.out) (by omega) ?_ ?_
      · have := S3.out.out ((Oth.setCell (g := w.heap.size + 1) (i := 0) wr (.slice none 0 0)).trans (Oth.setCell (i := 1) _ (.int .i64 0))) (Or.inl (by omega))
        exact this.congr (fun k hk => by simp [nextR, newV])
      · exact (O3.out.setNew (by omega)).setNew (by omega)
set_option maxRecDepth 100000 in
set_option maxHeartbeats 2000000 in
theorem rDo_16 (lo hi g : Nat) (b : Nat → Nat) (R : Nat → List Int) (a t an o : Int) (A : Option Addr) (n k : Nat) (vs : List Int) (w : World) (h : SlA 50 lo hi w g b R) (hw : wellR R) (hv : Rd w A n (iv vs)) (hA : OutA lo hi A) (hn : n ≤ 1000000) (hM : mayB 16 a (n : Int) vs t an o = true) :
    Calls Try.prog 14 #[.pointer (some ⟨g, 0, none⟩), .agg #[.int .i64 16, .int .i64 a, .int .i64 (n : Int), .slice A n k, .int .i64 t, .int .i64 an, .int .i64 o]] w (RetRDo lo hi g b R 16 a (n : Int) vs t an o w) := by
  have hl : vs.length = n := by rw [← iv_length]; exact hv.1
  have HL := hide hl
  have hG := goes_wr (R := R) hl hM (by omega)
  have ha := may_addr hM
  have h1 := may_one hM (by omega) (by omega)
  have qm : ¬ ((n : Int) < 1) := by omega
  have q0 : (0 : Int) < (n : Int) := by omega
  obtain ⟨at_, rfl⟩ : ∃ m : Nat, a = (m : Int) := ⟨a.toNat, by omega⟩
  have hat : at_ ≤ 65535 := by omega
  have H1 := hide h
  have HV := hide hv
  have HA := hide hA
  have HM := hide hM
  rw [show max n 1 = n by omega] at hG
  simp at hG
  have HHn := hide (fun W (h : SlA 50 lo hi W g b R) => rHas_any lo hi g b R 3 ((at_ : Int) + (n : Int) - 1) W h)
  cases hB : hasB R 3 ((at_ : Int) + (n : Int) - 1) 1
  · rw [hB] at hG HHn
    have HG := hide hG
    clear hG hB h hv hA hM hl h1
    go_enter Try.func14, Try.ntmps14
    go_wp2_with fail
    generalize hV : (w.alloc (.cells #[.int .i64 16, .int .i64 (at_ : Int), .int .i64 (n : Int), .slice A n k, .int .i64 t, .int .i64 an, .int .i64 o] 34)).alloc (.cells #[.slice none 0 0, .int .i64 0] 38) = V
    obtain ⟨hB1, hB2, hBel, hsz⟩ := two_boxes w [.int .i64 16, .int .i64 (at_ : Int), .int .i64 (n : Int), .slice A n k, .int .i64 t, .int .i64 an, .int .i64 o] [.slice none 0 0, .int .i64 0] 34 38 V hV.symm
    clear hV
    have K1 := hide hB1
    have J1 := hide hB2
    have L1 := hide hBel
    have S1 := hide (H1.out.keep hBel)
    clear hB1 hB2 hBel hsz
    refine (HHn.out _ S1.out).mono ?_
    rintro e w1 ⟨rfl, rfl⟩
    obtain ⟨j0, j1⟩ := J1.out.two
    have jf := J1.out.frozen
    have hz := J1.out.lt
    go_wp2_with fail
    (try simp only [Exit.inBlock, Exit.then])
    refine bodyPost_ret (results_cell (a := 4) rfl rfl (J1.out.set2 (.slice none 0 0) (.int .i64 2)) Try.underlying38 rfl (by kernel_rfl)) rfl ?_
    refine RetRDo.no (by rw [HL.out]; exact HG.out) (S1.out.out ((Oth.setCell (g := w.heap.size + 1) _ _).trans (Oth.setCell _ _)) (Or.inl (by have := H1.out.hi; omega))) ?_
    exact ((Oth.ofBelow L1.out lo hi).setNew (by omega)).setNew (by omega)
  · rw [hB] at hG HHn
    have hy := hasB_yes hB
    rw [show rowL R 3 = R 2 from rowL_kind R 2 (by omega)] at hy
    have HG := hide hG
    have HW : Hid (∀ W, SlA 50 lo hi W g b R → Rd W A n (iv vs) → Calls Try.prog 33 #[.pointer (some ⟨g, 0, none⟩), .int .i64 3, .int .i64 (at_ : Int), .slice A n k] W fun e w' =>
      e = .returned (.tuple #[]) ∧ SlA 50 lo hi w' g b (upd R 2 (over (R 2) at_ vs)) ∧ Oth lo hi W w') := hide (fun W h hr => rWrite_any lo hi g b R 2 at_ (by omega) A n k vs W h hr HA.out (by omega) (hw 2 (by omega)).1)
    have hhi := H1.out.hi
    clear hG hB h hv hA hM hl hy
    go_enter Try.func14, Try.ntmps14
    go_wp2_with fail
    generalize hV : (w.alloc (.cells #[.int .i64 16, .int .i64 (at_ : Int), .int .i64 (n : Int), .slice A n k, .int .i64 t, .int .i64 an, .int .i64 o] 34)).alloc (.cells #[.slice none 0 0, .int .i64 0] 38) = V
    obtain ⟨hB1, hB2, hBel, hsz⟩ := two_boxes w [.int .i64 16, .int .i64 (at_ : Int), .int .i64 (n : Int), .slice A n k, .int .i64 t, .int .i64 an, .int .i64 o] [.slice none 0 0, .int .i64 0] 34 38 V hV.symm
    clear hV
    have K1 := hide hB1
    have J1 := hide hB2
    have L1 := hide hBel
    have S1 := hide (H1.out.keep hBel)
    clear hB1 hB2 hBel hsz
    refine (HHn.out _ S1.out).mono ?_
    rintro e w1 ⟨rfl, rfl⟩
    obtain ⟨k0, k1, k2, k3, k4, k5, k6⟩ := K1.out.seven
    go_wp2_with fail
    refine (HW.out _ S1.out (HV.out.keep L1.out)).mono ?_
    rintro e w2 ⟨rfl, s2, o2⟩
    have S2 := hide s2
    have K2 := hide (K1.out.out o2 (Or.inr hhi))
    have J2 := hide (J1.out.out o2 (Or.inr (by omega)))
    have O2 := hide (Oth.after L1.out o2)
    clear s2 o2 k0 k1 k2 k3 k4 k5 k6 K1 J1 L1 S1
    go_wp2_with fail
    generalize hV : w2.alloc _ = V2
    obtain ⟨zV, bV⟩ := box2 w2 _ _ _ V2 hV.symm
    have Z3 := hide zV
    have S3 := hide (S2.out.keep bV)
    have K3 := hide (K2.out.keep bV)
    have J3 := hide (J2.out.keep bV)
    have O3 := hide (O2.out.on bV)
    have G3 := hide (show w.heap.size + 1 < w2.heap.size from J2.out.lt)
    clear hV zV bV
    go_loopw [10] (fun x wr => x = .int .i64 0 ∧ wr = V2) (fun _ _ => 0)
    case atStart => exact ⟨rfl, rfl⟩
    case round =>
      obtain ⟨rfl, rfl⟩ := hrel
      obtain ⟨k0, k1, k2, k3, k4, k5, k6⟩ := K3.out.seven
      obtain ⟨j0, j1⟩ := J3.out.two
      obtain ⟨z0, z1⟩ := Z3.out.two
      have jf := J3.out.frozen
      have hz := J3.out.lt
      have hne := G3.out
      go_wp2_with fail
      (try simp only [Exit.inBlock, Exit.then])
      refine bodyPost_ret (results_cell (a := 4) rfl rfl (J3.out.set2 (.slice none 0 0) (.int .i64 0)) Try.underlying38 rfl (by kernel_rfl)) rfl ?_
      refine RetRDo.wr (by rw [HL.out]; exact HG.out) (by omega) ?_ ?_
      · have := S3.out.out ((Oth.setCell (g := w.heap.size + 1) (i := 0) wr (.slice none 0 0)).trans (Oth.setCell (i := 1) _ (.int .i64 0))) (Or.inl (by omega))
        exact this.congr (fun k hk => by simp [nextR, newV])
      · exact (O3.out.setNew (by omega)).setNew (by omega)

end Go.Proofs.Ytohiblldhdglgaa
