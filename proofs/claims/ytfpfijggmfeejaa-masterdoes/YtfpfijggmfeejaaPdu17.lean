/-
  What is proved here: what pdu's AnswerParse returns, of any request and any bytes.
-/
import Derived.Test.YtfpfijggmfeejaaPdu16
namespace Go.Proofs.Ytfpfijggmfeejaa
set_option linter.unusedVariables false
set_option linter.unusedSimpArgs false
open Go.RowKit

/-- An answer and an error's number are handed back. -/
def RetAnE (x : An) (code : Int) (w : World) (e : Ending) (w' : World) : Prop := ∃ C m k, e = .returned (.tuple #[.agg #[.slice C m k, .int .i64 x.code], .int .i64 code]) ∧ m ≤ k ∧ Rd w' C m (iv x.us) ∧ Below w.heap.size w w'
/-- .. and its Values are new. -/
def RetAnN (x : An) (code : Int) (w : World) (e : Ending) (w' : World) : Prop := ∃ C m k, e = .returned (.tuple #[.agg #[.slice C m k, .int .i64 x.code], .int .i64 code]) ∧ m ≤ k ∧ Rd w' C m (iv x.us) ∧ Below w.heap.size w w' ∧ ∀ b o, C = some ⟨b, o, none⟩ → w.heap.size ≤ b
theorem RetAnN.e {x : An} {code : Int} {w : World} {e : Ending} {w' : World} (h : RetAnN x code w e w') : RetAnE x code w e w' := by
  obtain ⟨C, m, k, h1, h2, h3, h4, _⟩ := h
  exact ⟨C, m, k, h1, h2, h3, h4⟩

theorem ag_length (r : Rq) (xs : List UInt8) : (ag r xs).us.length ≤ 8 * xs.length := by
  have hw : ∀ n ys, ys.length ≤ n → (wordsL ys).length ≤ n := by
    intro n ys hn
    rw [wordsL_range _ _ (Nat.le_refl _), wordsTo, List.length_map, List.length_range]
    omega
  have hb : ∀ ys n, (bitsL ys n).length ≤ 8 * ys.length := by
    intro ys n
    unfold bitsL
    split
    · rw [unpackL_length]; omega
    · simp
  unfold ag
  split
  · simp
  split
  · have := hb (xs.drop 2) r.c.toNat
    simp only [List.length_drop] at this
    simp only
    omega
  split
  · have := hw xs.length (xs.drop 2) (by simp)
    simp only
    omega
  · simp [An.none]
theorem ansParse_short (r : Rq) (hr : r.may = true) (xs : List UInt8) (h : xs.length < 2 ∨ 253 < xs.length) : ansParseL r xs = none := by
  unfold ansParseL
  rw [if_neg]
  rintro ⟨h1, h2⟩
  have := ans_bounds (us := (ag r xs).us) (code := (ag r xs).code) hr h1
  rw [show ansL r.f r.a r.c r.vs r.t r.an r.o (ag r xs).code (ag r xs).us = xs from h2] at this
  omega


theorem pansN_no (f a c t an o : Int) (A B : Option Addr) (n k l d : Nat) (vs : List Int) (w : World) (h : Rd w A n (iv vs)) (hn : n ≤ 1000000) (hm : mayB f a c vs t an o = false) :
    Calls Try.prog 35 #[.agg #[.int .i64 f, .int .i64 a, .int .i64 c, .slice A n k, .int .i64 t, .int .i64 an, .int .i64 o], .slice B l d] w (RetAnN An.none 1 w) := by
  have HM := hide (fun W (b : Below w.heap.size w W) => mayBe_any f a c t an o A n k vs W (h.keep b) hn)
  rw [hm] at HM
  clear h hm
  go_enter Try.func35, Try.ntmps35
  go_wp2_with fail
  generalize hW : (w.alloc (.cells #[.int .i64 f, .int .i64 a, .int .i64 c, .slice A n k, .int .i64 t, .int .i64 an, .int .i64 o] 37)).alloc (.cells #[.slice none 0 0, .int .i64 0] 61) = W
  obtain ⟨hB1, hB2, hBel, _⟩ := two_boxes w [.int .i64 f, .int .i64 a, .int .i64 c, .slice A n k, .int .i64 t, .int .i64 an, .int .i64 o] [.slice none 0 0, .int .i64 0] 37 61 W hW.symm
  clear hW
  refine (HM.out _ hBel).mono ?_
  rintro e w1 ⟨rfl, b1⟩
  have B1 := hide (hB1.keep b1)
  have B2 := hide (hB2.keep b1)
  have BL := hide (below_on hBel b1)
  clear hB1 hB2 hBel b1
  obtain ⟨k0, k1, k2, k3, k4, k5, k6⟩ := B1.out.seven
  obtain ⟨j0, j1⟩ := B2.out.two
  have jf := B2.out.frozen
  go_wp2_with fail
  (try simp only [Exit.inBlock, Exit.then])
  refine bodyPost_ret (results_cell_tmp rfl rfl (B2.out.set2 _ _) Try.underlying61 rfl (by kernel_rfl)) rfl ?_
  exact ⟨none, 0, 0, rfl, Nat.le_refl _, Rd.nil _ _, below_set2 BL.out (Nat.le_succ _) _ _, (fun _ _ e => by cases e)⟩

theorem pansN_short (f a c t an o : Int) (A B : Option Addr) (n k l d : Nat) (vs : List Int) (w : World) (h : Rd w A n (iv vs)) (hn : n ≤ 1000000) (hm : mayB f a c vs t an o = true) (hl : l = 0 ∨ 253 < l) :
    Calls Try.prog 35 #[.agg #[.int .i64 f, .int .i64 a, .int .i64 c, .slice A n k, .int .i64 t, .int .i64 an, .int .i64 o], .slice B l d] w (RetAnN An.none 4 w) := by
  have HM := hide (fun W (b : Below w.heap.size w W) => mayBe_any f a c t an o A n k vs W (h.keep b) hn)
  rw [hm] at HM
  clear h hm
  rcases hl with rfl | hl
  · skip
    go_enter Try.func35, Try.ntmps35
    go_wp2_with fail
    generalize hW : (w.alloc (.cells #[.int .i64 f, .int .i64 a, .int .i64 c, .slice A n k, .int .i64 t, .int .i64 an, .int .i64 o] 37)).alloc (.cells #[.slice none 0 0, .int .i64 0] 61) = W
    obtain ⟨hB1, hB2, hBel, _⟩ := two_boxes w [.int .i64 f, .int .i64 a, .int .i64 c, .slice A n k, .int .i64 t, .int .i64 an, .int .i64 o] [.slice none 0 0, .int .i64 0] 37 61 W hW.symm
    clear hW
    refine (HM.out _ hBel).mono ?_
    rintro e w1 ⟨rfl, b1⟩
    have B1 := hide (hB1.keep b1)
    have B2 := hide (hB2.keep b1)
    have BL := hide (below_on hBel b1)
    clear hB1 hB2 hBel b1
    obtain ⟨k0, k1, k2, k3, k4, k5, k6⟩ := B1.out.seven
    obtain ⟨j0, j1⟩ := B2.out.two
    have jf := B2.out.frozen
    go_wp2_with fail
    (try simp only [Exit.inBlock, Exit.then])
    refine bodyPost_ret (results_cell_tmp rfl rfl (B2.out.set2 _ _) Try.underlying61 rfl (by kernel_rfl)) rfl ?_
    exact ⟨none, 0, 0, rfl, Nat.le_refl _, Rd.nil _ _, below_set2 BL.out (Nat.le_succ _) _ _, (fun _ _ e => by cases e)⟩
  · have q0 : ((l : Int) == 0) = false := ne_beq (by omega)
    have q1 : decide (253 < (l : Int)) = true := by simp; omega
    go_enter Try.func35, Try.ntmps35
    go_wp2_with fail
    generalize hW : (w.alloc (.cells #[.int .i64 f, .int .i64 a, .int .i64 c, .slice A n k, .int .i64 t, .int .i64 an, .int .i64 o] 37)).alloc (.cells #[.slice none 0 0, .int .i64 0] 61) = W
    obtain ⟨hB1, hB2, hBel, _⟩ := two_boxes w [.int .i64 f, .int .i64 a, .int .i64 c, .slice A n k, .int .i64 t, .int .i64 an, .int .i64 o] [.slice none 0 0, .int .i64 0] 37 61 W hW.symm
    clear hW
    refine (HM.out _ hBel).mono ?_
    rintro e w1 ⟨rfl, b1⟩
    have B1 := hide (hB1.keep b1)
    have B2 := hide (hB2.keep b1)
    have BL := hide (below_on hBel b1)
    clear hB1 hB2 hBel b1
    obtain ⟨k0, k1, k2, k3, k4, k5, k6⟩ := B1.out.seven
    obtain ⟨j0, j1⟩ := B2.out.two
    have jf := B2.out.frozen
    go_wp2_with fail
    (try simp only [Exit.inBlock, Exit.then])
    refine bodyPost_ret (results_cell_tmp rfl rfl (B2.out.set2 _ _) Try.underlying61 rfl (by kernel_rfl)) rfl ?_
    exact ⟨none, 0, 0, rfl, Nat.le_refl _, Rd.nil _ _, below_set2 BL.out (Nat.le_succ _) _ _, (fun _ _ e => by cases e)⟩


theorem ansParse_eq (r : Rq) (xs : List UInt8) (us : List Int) (code : Int) (h : ag r xs = ⟨us, code⟩) :
    ansParseL r xs = if ansMayB r.f r.c code us = true ∧ ansL r.f r.a r.c r.vs r.t r.an r.o code us = xs then some ⟨us, code⟩ else none := by
  unfold ansParseL
  rw [h]
  rfl

set_option maxHeartbeats 1000000 in
theorem pansN_in (f a c t an o : Int) (A B : Option Addr) (n k l d : Nat) (vs : List Int) (xs : List UInt8) (w : World) (h : Rd w A n (iv vs)) (hn : n ≤ 1000000) (h2 : Rd w B l (bv xs)) (hd : l ≤ d) (hl0 : 0 < l) (hl : l ≤ 253) (hm : mayB f a c vs t an o = true) :
    Calls Try.prog 35 #[.agg #[.int .i64 f, .int .i64 a, .int .i64 c, .slice A n k, .int .i64 t, .int .i64 an, .int .i64 o], .slice B l d] w (RetAnN ((ansParseL ⟨f, a, c, vs, t, an, o⟩ xs).getD An.none) (if (ansParseL ⟨f, a, c, vs, t, an, o⟩ xs).isSome then 0 else 4) w) := by
  have hxl : xs.length = l := by rw [← bv_length]; exact h2.1
  have q0 : ((l : Int) == 0) = false := ne_beq (by omega)
  have q1 : decide (253 < (l : Int)) = false := by simp; omega
  have HM := hide (fun W (b : Below w.heap.size w W) => mayBe_any f a c t an o A n k vs W (h.keep b) hn)
  have HG := hide (fun W (hr : Rd W B l (bv xs)) => guessAns_any f a c t an o A B n k l d vs xs W hr hd hl0 hl hm)
  have hV := ag_length ⟨f, a, c, vs, t, an, o⟩ xs
  rw [hxl] at hV
  obtain ⟨us, code, hag⟩ : ∃ us code, ag ⟨f, a, c, vs, t, an, o⟩ xs = ⟨us, code⟩ := ⟨_, _, rfl⟩
  rw [ansParse_eq _ xs us code hag]
  rw [hag] at HG hV
  have HV : Hid (us.length ≤ 8 * l) := hV
  have H0 := hide h2
  have HA := hide (fun C m kC W (hr : Rd W C m (iv us)) hmm => mayAnswer_any f a c t an o code A C n k m kC us W hr hmm)
  have HL := hide (fun C m kC W (b : Below w.heap.size w W) (hr : Rd W C m (iv us)) hx => layAns_any f a c t an o code A C n k m kC vs us W (h.keep b) hr hm hx)
  have HE := hide (fun D nD c2 d2 W hr1 hr2 => equal_any D B nD l c2 d2 (ansL f a c vs t an o code us) xs W hr1 hr2)
  rw [hm] at HM
  clear h h2 hag hV hxl hm
  show Calls _ _ _ _ (RetAnN ((if ansMayB f c code us = true ∧ ansL f a c vs t an o code us = xs then some (An.mk us code) else none).getD An.none) (if (if ansMayB f c code us = true ∧ ansL f a c vs t an o code us = xs then some (An.mk us code) else none).isSome then 0 else 4) w)
  generalize ansL f a c vs t an o code us = L at *
  generalize ansMayB f c code us = bA at *
  cases bA
  · rw [if_neg (by simp)]
    go_enter Try.func35, Try.ntmps35
    go_wp2_with fail
    generalize hW : (w.alloc (.cells #[.int .i64 f, .int .i64 a, .int .i64 c, .slice A n k, .int .i64 t, .int .i64 an, .int .i64 o] 37)).alloc (.cells #[.slice none 0 0, .int .i64 0] 61) = W
    obtain ⟨hB1, hB2, hBel, _⟩ := two_boxes w [.int .i64 f, .int .i64 a, .int .i64 c, .slice A n k, .int .i64 t, .int .i64 an, .int .i64 o] [.slice none 0 0, .int .i64 0] 37 61 W hW.symm
    clear hW
    refine (HM.out _ hBel).mono ?_
    rintro e w1 ⟨rfl, b1⟩
    have B1 := hide (hB1.keep b1)
    have B2 := hide (hB2.keep b1)
    have BL := hide (below_on hBel b1)
    clear hB1 hB2 hBel b1
    obtain ⟨k0, k1, k2, k3, k4, k5, k6⟩ := B1.out.seven
    obtain ⟨j0, j1⟩ := B2.out.two
    have jf := B2.out.frozen
    go_wp2_with fail
    refine (HG.out _ (H0.out.keep BL.out)).mono ?_
    rintro e U ⟨C, m, kC, rfl, lC, rC, bU, nC⟩
    have rC' : Rd U C m (iv us) := rC
    have B1' := hide (B1.out.keep bU)
    have B2' := hide (B2.out.keep bU)
    have hlt2 := B2.out.lt
    have BU := hide (below_on BL.out bU)
    have RC := hide rC'
    have NC : Hid (∀ b o, C = some ⟨b, o, none⟩ → b ≠ w.heap.size + 1) := fun b o e => by have := nC b o e; omega
    have hm : m ≤ 1000000 := by
      have := HV.out
      have h1 : (iv us).length = m := rC'.1
      rw [iv_length] at h1
      omega
    have NCC : Hid (∀ b o, C = some ⟨b, o, none⟩ → w.heap.size ≤ b) := fun b o e => by have := nC b o e; have := BL.out.size; omega
    clear rC rC' bU nC hlt2 k0 k1 k2 k3 k4 k5 k6 j0 j1 jf B1 B2 BL
    obtain ⟨k0, k1, k2, k3, k4, k5, k6⟩ := B1'.out.seven
    have hU1 : w.heap.size < U.heap.size := B1'.out.lt
    have hU2 : w.heap.size + 1 < U.heap.size := B2'.out.lt
    go_wp2_with fail
    have bX := (Below.refl U.heap.size U).alloc (Nat.le_refl _) (.cells #[.slice C m kC, .int .i64 code] 61)
    refine (HA.out C m kC _ (RC.out.keep bX) hm).mono ?_
    rintro e w2 ⟨rfl, b2⟩
    have B3 := hide ((Blk.new U 61 [.slice C m kC, .int .i64 code]).keep b2)
    have bY := below_on bX b2
    have B1 := hide (B1'.out.keep bY)
    have B2 := hide (B2'.out.keep bY)
    have BY := hide bY
    clear k0 k1 k2 k3 k4 k5 k6 bX b2 bY B1' B2' hU1 hU2
    obtain ⟨k0, k1, k2, k3, k4, k5, k6⟩ := B1.out.seven
    obtain ⟨j0, j1⟩ := B2.out.two
    obtain ⟨i0, i1⟩ := B3.out.two
    have jf := B2.out.frozen
    have BXY := hide (below_on BU.out BY.out)
    go_wp2_with fail
    (try simp only [Exit.inBlock, Exit.then])
    refine bodyPost_ret (results_cell_tmp rfl rfl (B2.out.set2 _ _) Try.underlying61 rfl (by kernel_rfl)) rfl ?_
    exact ⟨none, 0, 0, rfl, Nat.le_refl _, Rd.nil _ _, below_set2 BXY.out (Nat.le_succ _) _ _, (fun _ _ e => by cases e)⟩
  · by_cases hLx : L = xs
    · rw [if_pos ⟨rfl, hLx⟩]
      rw [show decide (L = xs) = true from by simpa using hLx] at HE
      clear hLx
      go_enter Try.func35, Try.ntmps35
      go_wp2_with fail
      generalize hW : (w.alloc (.cells #[.int .i64 f, .int .i64 a, .int .i64 c, .slice A n k, .int .i64 t, .int .i64 an, .int .i64 o] 37)).alloc (.cells #[.slice none 0 0, .int .i64 0] 61) = W
      obtain ⟨hB1, hB2, hBel, _⟩ := two_boxes w [.int .i64 f, .int .i64 a, .int .i64 c, .slice A n k, .int .i64 t, .int .i64 an, .int .i64 o] [.slice none 0 0, .int .i64 0] 37 61 W hW.symm
      clear hW
      refine (HM.out _ hBel).mono ?_
      rintro e w1 ⟨rfl, b1⟩
      have B1 := hide (hB1.keep b1)
      have B2 := hide (hB2.keep b1)
      have BL := hide (below_on hBel b1)
      clear hB1 hB2 hBel b1
      obtain ⟨k0, k1, k2, k3, k4, k5, k6⟩ := B1.out.seven
      obtain ⟨j0, j1⟩ := B2.out.two
      have jf := B2.out.frozen
      go_wp2_with fail
      refine (HG.out _ (H0.out.keep BL.out)).mono ?_
      rintro e U ⟨C, m, kC, rfl, lC, rC, bU, nC⟩
      have rC' : Rd U C m (iv us) := rC
      have B1' := hide (B1.out.keep bU)
      have B2' := hide (B2.out.keep bU)
      have hlt2 := B2.out.lt
      have BU := hide (below_on BL.out bU)
      have RC := hide rC'
      have NC : Hid (∀ b o, C = some ⟨b, o, none⟩ → b ≠ w.heap.size + 1) := fun b o e => by have := nC b o e; omega
      have hm : m ≤ 1000000 := by
        have := HV.out
        have h1 : (iv us).length = m := rC'.1
        rw [iv_length] at h1
        omega
      have NCC : Hid (∀ b o, C = some ⟨b, o, none⟩ → w.heap.size ≤ b) := fun b o e => by have := nC b o e; have := BL.out.size; omega
      clear rC rC' bU nC hlt2 k0 k1 k2 k3 k4 k5 k6 j0 j1 jf B1 B2 BL
      obtain ⟨k0, k1, k2, k3, k4, k5, k6⟩ := B1'.out.seven
      have hU1 : w.heap.size < U.heap.size := B1'.out.lt
      have hU2 : w.heap.size + 1 < U.heap.size := B2'.out.lt
      go_wp2_with fail
      have bX := (Below.refl U.heap.size U).alloc (Nat.le_refl _) (.cells #[.slice C m kC, .int .i64 code] 61)
      refine (HA.out C m kC _ (RC.out.keep bX) hm).mono ?_
      rintro e w2 ⟨rfl, b2⟩
      have B3 := hide ((Blk.new U 61 [.slice C m kC, .int .i64 code]).keep b2)
      have bY := below_on bX b2
      have B1 := hide (B1'.out.keep bY)
      have B2 := hide (B2'.out.keep bY)
      have BY := hide bY
      clear k0 k1 k2 k3 k4 k5 k6 bX b2 bY B1' B2' hU1 hU2
      obtain ⟨k0, k1, k2, k3, k4, k5, k6⟩ := B1.out.seven
      obtain ⟨j0, j1⟩ := B2.out.two
      obtain ⟨i0, i1⟩ := B3.out.two
      have jf := B2.out.frozen
      go_wp2_with fail
      refine (HL.out C m kC _ (below_on BU.out BY.out) (RC.out.keep BY.out) (by first | trivial | rfl)).mono ?_
      rintro e w3 ⟨D, kD, rfl, oD, bD⟩
      have B2' := hide (B2.out.keep bD)
      have B3' := hide (B3.out.keep bD)
      have BZ := hide (below_on BY.out bD)
      have OD := hide oD
      clear k0 k1 k2 k3 k4 k5 k6 j0 j1 jf i0 i1 oD bD B2 B3 B1
      obtain ⟨j0, j1⟩ := B2'.out.two
      obtain ⟨i0, i1⟩ := B3'.out.two
      have jf := B2'.out.frozen
      go_wp2_with fail
      refine (HE.out D _ kD d _ (own_rd OD.out) (H0.out.keep (below_on BU.out BZ.out))).mono ?_
      rintro e w4 ⟨rfl, rfl⟩
      go_wp2_with fail
      (try simp only [Exit.inBlock, Exit.then])
      refine bodyPost_ret (results_cell_tmp rfl rfl (B2'.out.set2 _ _) Try.underlying61 rfl (by kernel_rfl)) rfl ?_
      exact ⟨C, m, kC, rfl, lC, (RC.out.keep BZ.out).set2 NC.out _ _, below_set2 (below_on BU.out BZ.out) (Nat.le_succ _) _ _, NCC.out⟩
    · rw [if_neg (fun h => hLx h.2)]
      rw [show decide (L = xs) = false from by simpa using hLx] at HE
      clear hLx
      go_enter Try.func35, Try.ntmps35
      go_wp2_with fail
      generalize hW : (w.alloc (.cells #[.int .i64 f, .int .i64 a, .int .i64 c, .slice A n k, .int .i64 t, .int .i64 an, .int .i64 o] 37)).alloc (.cells #[.slice none 0 0, .int .i64 0] 61) = W
      obtain ⟨hB1, hB2, hBel, _⟩ := two_boxes w [.int .i64 f, .int .i64 a, .int .i64 c, .slice A n k, .int .i64 t, .int .i64 an, .int .i64 o] [.slice none 0 0, .int .i64 0] 37 61 W hW.symm
      clear hW
      refine (HM.out _ hBel).mono ?_
      rintro e w1 ⟨rfl, b1⟩
      have B1 := hide (hB1.keep b1)
      have B2 := hide (hB2.keep b1)
      have BL := hide (below_on hBel b1)
      clear hB1 hB2 hBel b1
      obtain ⟨k0, k1, k2, k3, k4, k5, k6⟩ := B1.out.seven
      obtain ⟨j0, j1⟩ := B2.out.two
      have jf := B2.out.frozen
      go_wp2_with fail
      refine (HG.out _ (H0.out.keep BL.out)).mono ?_
      rintro e U ⟨C, m, kC, rfl, lC, rC, bU, nC⟩
      have rC' : Rd U C m (iv us) := rC
      have B1' := hide (B1.out.keep bU)
      have B2' := hide (B2.out.keep bU)
      have hlt2 := B2.out.lt
      have BU := hide (below_on BL.out bU)
      have RC := hide rC'
      have NC : Hid (∀ b o, C = some ⟨b, o, none⟩ → b ≠ w.heap.size + 1) := fun b o e => by have := nC b o e; omega
      have hm : m ≤ 1000000 := by
        have := HV.out
        have h1 : (iv us).length = m := rC'.1
        rw [iv_length] at h1
        omega
      have NCC : Hid (∀ b o, C = some ⟨b, o, none⟩ → w.heap.size ≤ b) := fun b o e => by have := nC b o e; have := BL.out.size; omega
      clear rC rC' bU nC hlt2 k0 k1 k2 k3 k4 k5 k6 j0 j1 jf B1 B2 BL
      obtain ⟨k0, k1, k2, k3, k4, k5, k6⟩ := B1'.out.seven
      have hU1 : w.heap.size < U.heap.size := B1'.out.lt
      have hU2 : w.heap.size + 1 < U.heap.size := B2'.out.lt
      go_wp2_with fail
      have bX := (Below.refl U.heap.size U).alloc (Nat.le_refl _) (.cells #[.slice C m kC, .int .i64 code] 61)
      refine (HA.out C m kC _ (RC.out.keep bX) hm).mono ?_
      rintro e w2 ⟨rfl, b2⟩
      have B3 := hide ((Blk.new U 61 [.slice C m kC, .int .i64 code]).keep b2)
      have bY := below_on bX b2
      have B1 := hide (B1'.out.keep bY)
      have B2 := hide (B2'.out.keep bY)
      have BY := hide bY
      clear k0 k1 k2 k3 k4 k5 k6 bX b2 bY B1' B2' hU1 hU2
      obtain ⟨k0, k1, k2, k3, k4, k5, k6⟩ := B1.out.seven
      obtain ⟨j0, j1⟩ := B2.out.two
      obtain ⟨i0, i1⟩ := B3.out.two
      have jf := B2.out.frozen
      go_wp2_with fail
      refine (HL.out C m kC _ (below_on BU.out BY.out) (RC.out.keep BY.out) (by first | trivial | rfl)).mono ?_
      rintro e w3 ⟨D, kD, rfl, oD, bD⟩
      have B2' := hide (B2.out.keep bD)
      have B3' := hide (B3.out.keep bD)
      have BZ := hide (below_on BY.out bD)
      have OD := hide oD
      clear k0 k1 k2 k3 k4 k5 k6 j0 j1 jf i0 i1 oD bD B2 B3 B1
      obtain ⟨j0, j1⟩ := B2'.out.two
      obtain ⟨i0, i1⟩ := B3'.out.two
      have jf := B2'.out.frozen
      go_wp2_with fail
      refine (HE.out D _ kD d _ (own_rd OD.out) (H0.out.keep (below_on BU.out BZ.out))).mono ?_
      rintro e w4 ⟨rfl, rfl⟩
      have BXY := hide (below_on BU.out BZ.out)
      go_wp2_with fail
      (try simp only [Exit.inBlock, Exit.then])
      refine bodyPost_ret (results_cell_tmp rfl rfl (B2'.out.set2 _ _) Try.underlying61 rfl (by kernel_rfl)) rfl ?_
      exact ⟨none, 0, 0, rfl, Nat.le_refl _, Rd.nil _ _, below_set2 BXY.out (Nat.le_succ _) _ _, (fun _ _ e => by cases e)⟩

theorem pansN_any (f a c t an o : Int) (A B : Option Addr) (n k l d : Nat) (vs : List Int) (xs : List UInt8) (w : World) (h : Rd w A n (iv vs)) (hn : n ≤ 1000000) (h2 : Rd w B l (bv xs)) (hd : l ≤ d) (hm : mayB f a c vs t an o = true) :
    Calls Try.prog 35 #[.agg #[.int .i64 f, .int .i64 a, .int .i64 c, .slice A n k, .int .i64 t, .int .i64 an, .int .i64 o], .slice B l d] w (RetAnN ((ansParseL ⟨f, a, c, vs, t, an, o⟩ xs).getD An.none) (if (ansParseL ⟨f, a, c, vs, t, an, o⟩ xs).isSome then 0 else 4) w) := by
  have hxl : xs.length = l := by rw [← bv_length]; exact h2.1
  by_cases h0 : 0 < l ∧ l ≤ 253
  · exact pansN_in f a c t an o A B n k l d vs xs w h hn h2 hd h0.1 h0.2 hm
  · rw [ansParse_short ⟨f, a, c, vs, t, an, o⟩ hm xs (by omega)]
    exact pansN_short f a c t an o A B n k l d vs w h hn hm (by omega)

theorem pansP_no (f a c t an o : Int) (A B : Option Addr) (n k l d : Nat) (vs : List Int) (w : World) (h : Rd w A n (iv vs)) (hn : n ≤ 1000000) (hm : mayB f a c vs t an o = false) :
    Calls Try.prog 35 #[.agg #[.int .i64 f, .int .i64 a, .int .i64 c, .slice A n k, .int .i64 t, .int .i64 an, .int .i64 o], .slice B l d] w (RetAnE An.none 1 w) :=
  (pansN_no f a c t an o A B n k l d vs w h hn hm).mono fun _ _ h => h.e
theorem pansP_any (f a c t an o : Int) (A B : Option Addr) (n k l d : Nat) (vs : List Int) (xs : List UInt8) (w : World) (h : Rd w A n (iv vs)) (hn : n ≤ 1000000) (h2 : Rd w B l (bv xs)) (hd : l ≤ d) (hm : mayB f a c vs t an o = true) :
    Calls Try.prog 35 #[.agg #[.int .i64 f, .int .i64 a, .int .i64 c, .slice A n k, .int .i64 t, .int .i64 an, .int .i64 o], .slice B l d] w (RetAnE ((ansParseL ⟨f, a, c, vs, t, an, o⟩ xs).getD An.none) (if (ansParseL ⟨f, a, c, vs, t, an, o⟩ xs).isSome then 0 else 4) w) :=
  (pansN_any f a c t an o A B n k l d vs xs w h hn h2 hd hm).mono fun _ _ h => h.e

end Go.Proofs.Ytfpfijggmfeejaa
