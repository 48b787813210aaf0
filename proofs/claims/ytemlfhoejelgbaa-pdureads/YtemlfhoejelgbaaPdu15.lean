/-
  What is proved here: what pdu's AnswerBytes and guessAnswer return.
-/
import Derived.Test.YtemlfhoejelgbaaPdu14
namespace Go.Proofs.Ytemlfhoejelgbaa
set_option linter.unusedVariables false
set_option linter.unusedSimpArgs false
open Go.RowKit

theorem two_boxes (w : World) (l1 l2 : List Value) (t1 t2 : TypeId) (W : World) (hW : W = (w.alloc (.cells (arr l1) t1)).alloc (.cells (arr l2) t2)) :
    Blk W w.heap.size t1 l1 ∧ Blk W (w.heap.size + 1) t2 l2 ∧ Below w.heap.size w W ∧ W.heap.size = w.heap.size + 2 := by
  subst hW
  have h1 := Blk.new w t1 l1
  have h2 := Blk.new (w.alloc (.cells (arr l1) t1)) t2 l2
  simp only [World.size_alloc] at h2
  exact ⟨h1.al _, h2, (((Below.refl _ _).alloc (Nat.le_refl _) _).alloc (by simp) _), by simp⟩


theorem pansB_no (f a c t an o code : Int) (A B : Option Addr) (n k m d : Nat) (vs us : List Int) (w : World) (h : Rd w A n (iv vs)) (h2 : Rd w B m (iv us)) (hn : n ≤ 1000000) (hm1 : m ≤ 1000000) (hno : mayB f a c vs t an o = false ∨ ansMayB f c code us = false) :
    Calls Try.prog 19 #[.agg #[.int .i64 f, .int .i64 a, .int .i64 c, .slice A n k, .int .i64 t, .int .i64 an, .int .i64 o], .agg #[.slice B m d, .int .i64 code]] w (RetSlE 0 [] 1 w) := by
  have HM := hide (fun W (b : Below w.heap.size w W) => mayBe_any f a c t an o A n k vs W (h.keep b) hn)
  have HA := hide (fun W (b : Below w.heap.size w W) => mayAnswer_any f a c t an o code A B n k m d us W (h2.keep b) hm1)
  clear h h2
  generalize mayB f a c vs t an o = bM at *
  generalize ansMayB f c code us = bA at *
  cases bM
  · skip
    go_enter Try.func19, Try.ntmps19
    go_wp2_with fail
    generalize hW : (w.alloc (.cells #[.int .i64 f, .int .i64 a, .int .i64 c, .slice A n k, .int .i64 t, .int .i64 an, .int .i64 o] 24)).alloc (.cells #[.slice B m d, .int .i64 code] 40) = W
    obtain ⟨hB1, hB2, hBel, _⟩ := two_boxes w [.int .i64 f, .int .i64 a, .int .i64 c, .slice A n k, .int .i64 t, .int .i64 an, .int .i64 o] [.slice B m d, .int .i64 code] 24 40 W hW.symm
    clear hW
    refine (HM.out _ hBel).mono ?_
    rintro e w1 ⟨rfl, b1⟩
    have B1 := hide (hB1.keep b1)
    have B2 := hide (hB2.keep b1)
    have BL := hide (below_on hBel b1)
    clear hB1 hB2 hBel b1
    obtain ⟨k0, k1, k2, k3, k4, k5, k6⟩ := B1.out.seven
    obtain ⟨j0, j1⟩ := B2.out.two
    go_wp2
    go_ret2
    exact ⟨none, 0, rfl, Nat.le_refl _, Rd.nil _ _, BL.out⟩
  · have hA : bA = false := by rcases hno with h | h; cases h; exact h
    subst hA
    clear hno
    go_enter Try.func19, Try.ntmps19
    go_wp2_with fail
    generalize hW : (w.alloc (.cells #[.int .i64 f, .int .i64 a, .int .i64 c, .slice A n k, .int .i64 t, .int .i64 an, .int .i64 o] 24)).alloc (.cells #[.slice B m d, .int .i64 code] 40) = W
    obtain ⟨hB1, hB2, hBel, _⟩ := two_boxes w [.int .i64 f, .int .i64 a, .int .i64 c, .slice A n k, .int .i64 t, .int .i64 an, .int .i64 o] [.slice B m d, .int .i64 code] 24 40 W hW.symm
    clear hW
    refine (HM.out _ hBel).mono ?_
    rintro e w1 ⟨rfl, b1⟩
    have B1 := hide (hB1.keep b1)
    have B2 := hide (hB2.keep b1)
    have BL := hide (below_on hBel b1)
    clear hB1 hB2 hBel b1
    obtain ⟨k0, k1, k2, k3, k4, k5, k6⟩ := B1.out.seven
    obtain ⟨j0, j1⟩ := B2.out.two
    go_wp2_with fail
    refine (HA.out _ BL.out).mono ?_
    rintro e w2 ⟨rfl, b2⟩
    have B1' := hide (B1.out.keep b2)
    have B2' := hide (B2.out.keep b2)
    have BL' := hide (below_on BL.out b2)
    clear k0 k1 k2 k3 k4 k5 k6 j0 j1 B1 B2 b2 BL
    obtain ⟨k0, k1, k2, k3, k4, k5, k6⟩ := B1'.out.seven
    obtain ⟨j0, j1⟩ := B2'.out.two
    go_wp2
    go_ret2
    exact ⟨none, 0, rfl, Nat.le_refl _, Rd.nil _ _, BL'.out⟩

theorem pansB_ok (f a c t an o code : Int) (A B : Option Addr) (n k m d : Nat) (vs us : List Int) (w : World) (h : Rd w A n (iv vs)) (h2 : Rd w B m (iv us)) (hn : n ≤ 1000000) (hm1 : m ≤ 1000000) (hm : mayB f a c vs t an o = true) (hx : ansMayB f c code us = true) :
    Calls Try.prog 19 #[.agg #[.int .i64 f, .int .i64 a, .int .i64 c, .slice A n k, .int .i64 t, .int .i64 an, .int .i64 o], .agg #[.slice B m d, .int .i64 code]] w (RetSlE (ansL f a c vs t an o code us).length (bv (ansL f a c vs t an o code us)) 0 w) := by
  have HM := hide (fun W (b : Below w.heap.size w W) => mayBe_any f a c t an o A n k vs W (h.keep b) hn)
  have HA := hide (fun W (b : Below w.heap.size w W) => mayAnswer_any f a c t an o code A B n k m d us W (h2.keep b) hm1)
  have HL := hide (fun W (b : Below w.heap.size w W) => layAns_any f a c t an o code A B n k m d vs us W (h.keep b) (h2.keep b) hm hx)
  rw [hm] at HM
  rw [hx] at HA
  clear h h2 hm hx
  generalize ansL f a c vs t an o code us = L at *
  generalize L.length = nL at *
  go_enter Try.func19, Try.ntmps19
  go_wp2_with fail
  generalize hW : (w.alloc (.cells #[.int .i64 f, .int .i64 a, .int .i64 c, .slice A n k, .int .i64 t, .int .i64 an, .int .i64 o] 24)).alloc (.cells #[.slice B m d, .int .i64 code] 40) = W
  obtain ⟨hB1, hB2, hBel, _⟩ := two_boxes w [.int .i64 f, .int .i64 a, .int .i64 c, .slice A n k, .int .i64 t, .int .i64 an, .int .i64 o] [.slice B m d, .int .i64 code] 24 40 W hW.symm
  clear hW
  refine (HM.out _ hBel).mono ?_
  rintro e w1 ⟨rfl, b1⟩
  have B1 := hide (hB1.keep b1)
  have B2 := hide (hB2.keep b1)
  have BL := hide (below_on hBel b1)
  clear hB1 hB2 hBel b1
  obtain ⟨k0, k1, k2, k3, k4, k5, k6⟩ := B1.out.seven
  obtain ⟨j0, j1⟩ := B2.out.two
  go_wp2_with fail
  refine (HA.out _ BL.out).mono ?_
  rintro e w2 ⟨rfl, b2⟩
  have B1' := hide (B1.out.keep b2)
  have B2' := hide (B2.out.keep b2)
  have BL' := hide (below_on BL.out b2)
  clear k0 k1 k2 k3 k4 k5 k6 j0 j1 B1 B2 b2 BL
  obtain ⟨k0, k1, k2, k3, k4, k5, k6⟩ := B1'.out.seven
  obtain ⟨j0, j1⟩ := B2'.out.two
  go_wp2_with fail
  refine (HL.out _ BL'.out).mono ?_
  rintro e w3 ⟨C, kC, rfl, o2, b3⟩
  have B3 := hide (below_on BL'.out b3)
  have O2 := hide o2
  clear o2 b3
  go_wp2
  go_ret2
  exact ⟨C, kC, rfl, own_cap O2.out, own_rd O2.out, B3.out⟩

/-- An answer is handed back. -/
def RetAn (x : An) (w : World) (e : Ending) (w' : World) : Prop := ∃ C m k, e = .returned (.agg #[.slice C m k, .int .i64 x.code]) ∧ m ≤ k ∧ Rd w' C m (iv x.us) ∧ Below w.heap.size w w' ∧ ∀ b o, C = some ⟨b, o, none⟩ → w.heap.size ≤ b


theorem guessAns_code (f a c t an o : Int) (A : Option Addr) (b o' n k d : Nat) (p : Nat) (w : World) (hf : 1 ≤ f) (hf' : f ≤ 23) (hbl : b < w.heap.size) (x0 : w.cell? ⟨b, o', none⟩ = some (.int .u8 (f + 128))) (x1 : w.cell? ⟨b, o' + 1, none⟩ = some (.int .u8 (p : Int))) (hp : p < 256) :
    Calls Try.prog 43 #[.agg #[.int .i64 f, .int .i64 a, .int .i64 c, .slice A n k, .int .i64 t, .int .i64 an, .int .i64 o], .slice (some ⟨b, o', none⟩) 2 d] w (RetAn ⟨[], (p : Int)⟩ w) := by
  have X0 := hide x0
  have X1 := hide x1
  clear x0 x1
  have q : (f + 128 == f + 128) = true := by simp
  go_enter Try.func43, Try.ntmps43
  go_wp2_with fail
  generalize hW : (w.alloc (.cells #[.int .i64 f, .int .i64 a, .int .i64 c, .slice A n k, .int .i64 t, .int .i64 an, .int .i64 o] 24)).alloc (.cells #[.slice none 0 0, .int .i64 0] 40) = W
  obtain ⟨hB1, hB2, hBel, hsz⟩ := two_boxes w [.int .i64 f, .int .i64 a, .int .i64 c, .slice A n k, .int .i64 t, .int .i64 an, .int .i64 o] [.slice none 0 0, .int .i64 0] 24 40 W hW.symm
  clear hW
  have hwW : w.heap.size < W.heap.size := by omega
  have hwW1 : w.heap.size + 1 < W.heap.size := by omega
  have x0 := (hBel.cell (p := ⟨b, o', none⟩) hbl).trans X0.out
  obtain ⟨k0, k1, k2, k3, k4, k5, k6⟩ := hB1.seven
  obtain ⟨j0, j1⟩ := hB2.two
  have jf := hB2.frozen
  have B1 := hide hB1
  have B2 := hide hB2
  have BL := hide hBel
  clear hB1 hB2 hBel hsz
  have x1 := (BL.out.cell (p := ⟨b, o' + 1, none⟩) hbl).trans X1.out
  go_quiet (fail)
  go_wp2_with fail
  (try simp only [Exit.inBlock, Exit.then])
  have kZ : Blk (W.drewN nq) (w.heap.size + 1) 40 _ := B2.out
  refine bodyPost_ret (results_cell rfl rfl (kZ.set2 _ _) Try.underlying40 rfl (by kernel_rfl)) rfl ?_
  exact ⟨none, 0, 0, rfl, Nat.le_refl _, Rd.nil _ _, below_set2 (below_drewN BL.out nq) (Nat.le_succ _) _ _, fun b o e => by cases e⟩

end Go.Proofs.Ytemlfhoejelgbaa
